import PyProof.Rows.All
import Wide.All
import OpenK.AllK
import Wide.FinOn
import Lean
import PyProof.EqAt
import PyProof.EqKinds
import PyProof.TupleCall
import KE.KRevIter
import KE.KDictList
import KE.KDictLaws
import PyProof.MinMaxWalk
import PyProof.WalkInts
import PySem.Challenge.RW_busyweb_k18_whole_two_ways
set_option Elab.async false
set_option linter.all false
set_option maxRecDepth 100000
namespace L2
open PySem PySem.Spec PyProof.Rows
abbrev Key := Sum Int Str
def keyIs : Key → Value → Bool
  | .inl k, v => Value.isInt k v
  | .inr x, v => Value.isStrOf x v
def keyH (w : World) : Key → Int
  | .inl k => hashInt k
  | .inr x => hashStr w x
theorem keyIs_shape : ∀ {k : Key} {v : Value}, keyIs k v = true → (∃ i t, k = Sum.inl i ∧ v = Value.int i t) ∨ (∃ x t, k = Sum.inr x ∧ v = Value.str x t)
  | .inl i, v, h => by
    obtain ⟨t, e⟩ := Value.isInt_shape (k := i) (v := v) h
    exact .inl ⟨i, t, rfl, e⟩
  | .inr x, v, h => by
    obtain ⟨t, e⟩ := Value.isStrOf_shape (x := x) (v := v) h
    exact .inr ⟨x, t, rfl, e⟩
theorem keyIs_int (i : Int) (t : Tok) : keyIs (.inl i) (.int i t) = true := by simp [keyIs, Value.isInt]
theorem keyIs_str (x : Str) (t : Tok) : keyIs (.inr x) (.str x t) = true := by simp [keyIs, Value.isStrOf]
theorem key_ll (a b : Int) : decide ((Sum.inl a : Key) = Sum.inl b) = (a == b) := by
  by_cases e : a = b
  · subst e; simp
  · have h : ¬ (Sum.inl a : Key) = Sum.inl b := fun q => e (Sum.inl.inj q)
    rw [decide_eq_false h]
    exact (beq_eq_false_iff_ne.mpr e).symm
theorem key_rr (a b : Str) : decide ((Sum.inr a : Key) = Sum.inr b) = decide (a = b) := by
  by_cases e : a = b
  · subst e; simp
  · have h : ¬ (Sum.inr a : Key) = Sum.inr b := fun q => e (Sum.inr.inj q)
    rw [decide_eq_false h, decide_eq_false e]
theorem key_lr (a : Int) (b : Str) : decide ((Sum.inl a : Key) = Sum.inr b) = false := decide_eq_false (fun q => nomatch q)
theorem key_rl (a : Str) (b : Int) : decide ((Sum.inr a : Key) = Sum.inl b) = false := decide_eq_false (fun q => nomatch q)
def mixKind (prog : Program) (w : World) : PySem.KeyKind prog w Key where
  is := keyIs
  hash := keyH w
  inj := fun v a b ha hb => by
    rcases keyIs_shape ha with ⟨i, t, rfl, rfl⟩ | ⟨x, t, rfl, rfl⟩
    · rcases keyIs_shape hb with ⟨j, u, rfl, e⟩ | ⟨y, u, rfl, e⟩
      · injection e with e1 _; rw [e1]
      · exact nomatch e
    · rcases keyIs_shape hb with ⟨j, u, rfl, e⟩ | ⟨y, u, rfl, e⟩
      · exact nomatch e
      · injection e with e1 _; rw [e1]
  byValue := fun k v h => by
    rcases keyIs_shape h with ⟨i, t, rfl, rfl⟩ | ⟨x, t, rfl, rfl⟩ <;> rfl
  pyHash := fun hv h => by
    rcases keyIs_shape hv with ⟨i, t, rfl, rfl⟩ | ⟨x, t, rfl, rfl⟩
    · exact wpAny_pyHash_int h
    · exact wpAny_pyHash_str h
  eqBool := fun hu hv h => by
    rcases keyIs_shape hu with ⟨i, t, rfl, rfl⟩ | ⟨x, t, rfl, rfl⟩
    · rcases keyIs_shape hv with ⟨j, u, rfl, rfl⟩ | ⟨y, u, rfl, rfl⟩
      · rw [key_ll] at h; exact wpAny_eqBool_int h
      · rw [key_lr] at h; exact SeqAt.EqAt.int_str i t y u _ _ _ _ h
    · rcases keyIs_shape hv with ⟨j, u, rfl, rfl⟩ | ⟨y, u, rfl, rfl⟩
      · rw [key_rl] at h; exact SeqAt.EqAt.str_int x t j u _ _ _ _ h
      · rw [key_rr] at h; exact wpAny_eqBool_str h
  «strs» := fun k x t v h => by
    rcases keyIs_shape h with ⟨i, u, rfl, e⟩ | ⟨y, u, rfl, e⟩
    · exact nomatch e
    · injection e with e1 _
      subst e1
      cases v <;> rfl
theorem mixKind_int (prog : Program) (w : World) (i : Int) (t : Tok) : (mixKind prog w).is (.inl i) (.int i t) = true := keyIs_int i t
theorem mixKind_str (prog : Program) (w : World) (x : Str) (t : Tok) : (mixKind prog w).is (.inr x) (.str x t) = true := keyIs_str x t
end L2
namespace L2
open PySem PySem.Spec PyProof.Rows
inductive V where
  | non | bl (b : Bool) | int (i : Int) | str (x : Str) | byt (b : Array UInt8) | flt (b : UInt64) | ref (a : Addr) | ty (n : String)
  deriving DecidableEq
def RelV : V → Value → Prop
  | .non, u => u = Value.none
  | .bl b, u => u = Value.bool b
  | .int i, u => ∃ t, u = Value.int i t
  | .str x, u => ∃ t, u = Value.str x t
  | .byt b, u => ∃ t, u = Value.bytes b t
  | .flt b, u => ∃ t, u = Value.float b t
  | .ref a, u => u = Value.ref a
  | .ty n, u => u = Value.type n
abbrev Vals : List V → List Value → Prop := Paired RelV
theorem Vals.length {xs : List V} {us : List Value} (r : Vals xs us) : xs.length = us.length := Paired.length r
theorem Vals.get : ∀ {xs : List V} {us : List Value} {i : Nat} {x : V}, Vals xs us → xs[i]? = some x → ∃ u, us[i]? = some u ∧ RelV x u
  | _, _, _, _, .nil, e => by simp at e
  | _, _, 0, _, .cons r _, e => by simp at e; subst e; exact ⟨_, rfl, r⟩
  | _, _, i + 1, x, .cons _ t, e => by
    obtain ⟨u, h1, h2⟩ := Vals.get (i := i) (x := x) t (by simpa using e)
    exact ⟨u, by simpa using h1, h2⟩
theorem Vals.set {x : V} {u : Value} (r : RelV x u) : ∀ {xs : List V} {us : List Value} (i : Nat), Vals xs us → Vals (xs.set i x) (us.set i u)
  | _, _, _, .nil => .nil
  | _, _, 0, .cons _ t => .cons r t
  | _, _, i + 1, .cons q t => .cons q (Vals.set r i t)
theorem Vals.append : ∀ {xs ys : List V} {us ws : List Value}, Vals xs us → Vals ys ws → Vals (xs ++ ys) (us ++ ws)
  | _, _, _, _, .nil, s => s
  | _, _, _, _, .cons r t, s => .cons r (Vals.append t s)
theorem Vals.take : ∀ {xs : List V} {us : List Value} (n : Nat), Vals xs us → Vals (xs.take n) (us.take n)
  | _, _, 0, _ => .nil
  | _, _, _ + 1, .nil => .nil
  | _, _, n + 1, .cons r t => .cons r (Vals.take n t)
theorem Vals.drop : ∀ {xs : List V} {us : List Value} (n : Nat), Vals xs us → Vals (xs.drop n) (us.drop n)
  | _, _, 0, r => r
  | _, _, _ + 1, .nil => .nil
  | _, _, n + 1, .cons _ t => Vals.drop n t
def RelO : Option V → Option Value → Prop
  | some v, some u => RelV v u
  | none, none => True
  | _, _ => False
def KV {κ : Type} : List (κ × V) → List (κ × Value) → Prop := Paired fun (p : κ × V) (q : κ × Value) => p.1 = q.1 ∧ RelV p.2 q.2
def kV : Key → V
  | .inl i => .int i
  | .inr x => .str x
inductive HO where
  | lst (xs : List V)
  | tup (xs : List V)
  | dK (kvs : List (Key × V)) | dT (kvs : List (List Key × V))
  | set (S : Int → Bool) (n : Nat)
  | ins (C dx : Addr) (fs : List (Str × V))
  | own (x : Addr)
  | xd (fs : List (Str × V))
  | met (f x : Addr)
  | rng (lo hi : Int)
  | frz (o : Obj) (u : HO)
  | tbl (ps : Array Value)
  | ext (φ : Heap → Prop)
abbrev Hp := Addr → Option HO
def upd (H : Hp) (a : Addr) (o : HO) : Hp := fun b => if b = a then some o else H b
theorem upd_same {H : Hp} {a : Addr} {o : HO} : upd H a o a = some o := by unfold upd; rw [if_pos rfl]
theorem upd_ne {H : Hp} {a b : Addr} {o : HO} (h : b ≠ a) : upd H a o b = H b := by unfold upd; rw [if_neg h]
theorem ne_of {H : Hp} {a b : Addr} {o u : HO} (h : H a = some o) (h' : H b = some u) (d : o ≠ u) : a ≠ b := by
  intro e; subst e; rw [h] at h'; exact d (Option.some.inj h')
theorem ne_of_none {H : Hp} {a b : Addr} {o : HO} (h : H a = some o) (h' : H b = none) : a ≠ b := by
  intro e; subst e; rw [h] at h'; cases h'
section
variable (P : Program) (w : World)
def ObjOk (H : Hp) (h : Heap) (a : Addr) : HO → Prop
  | .lst xs => xs.length ≤ sizeLine ∧ ∃ (its : List Value) (n : Nat), Vals xs its ∧ h.get? a = some { cls := .type "list", data := .seq its.toArray n }
  | .tup xs => xs.length ≤ sizeLine ∧ ∃ its : List Value, Vals xs its ∧ IsTup h a its.toArray
  | .dK kvs => kvs.length ≤ sizeLine ∧ (a == sysModules) = false ∧ ∃ vs, KV kvs vs ∧ h.DictOf (mixKind P w) a vs
  | .dT kvs => kvs.length ≤ sizeLine ∧ (a == sysModules) = false ∧ ∃ xs : List (List Key × Addr × Value),
      Paired (fun (p : List Key × V) (q : List Key × Addr × Value) => p.1 = q.1 ∧ H q.2.1 = some (.tup (p.1.map kV)) ∧ RelV p.2 q.2.2) kvs xs ∧
      ∃ o es ep, h.get? a = some o ∧ o.ExactDict ∧ o.data = .dict es ep ∧ es.toList = xs.map (entryOfKey (tupleKind (mixKind P w))) ∧ (xs.map (·.1)).Nodup
  | .set S n => h.SetOf (intKind P w) a S n
  | .ins C dx fs => H dx = some (.own a) ∧ fs.length ≤ 1000 ∧ dx ≠ a ∧ h.get? a = some (PySem.W.instObj C dx) ∧
      ∃ mA, h.Ns1 dx mA ∧ (∀ f, RelO (fs.lookup f) (mA f)) ∧ PySem.Within mA (fs.map (·.1))
  | .own _ => ∃ o, h.get? a = some o
  | .xd fs => ∃ mA, h.Ns1 a mA ∧ ∀ f, RelO (fs.lookup f) (mA f)
  | .rng lo hi => ∃ t u v, h.get? a = some { cls := .type "range", data := .fields #[.int lo t, .int hi u, .int 1 v] }
  | .frz o u => h.get? a = some o ∧ ObjOk H h a u
  | .tbl ps => h.get? a = some { cls := .none, data := .fields ps }
  | .met f x => h.get? a = some (PySem.W.methodObj (.ref f) (.ref x))
  | .ext φ => φ h ∧ (∃ o, h.get? a = some o) ∧ ∀ h1 h2 : Heap, φ h1 → (∀ o, h1.get? a = some o → h2.get? a = some o) → φ h2
def HOk (H : Hp) (h : Heap) : Prop := ∀ a o, H a = some o → ObjOk P w H h a o
end
section
variable {P : Program} {w : World} {H H' : Hp} {h h' : Heap} {a : Addr} {o : HO}
theorem ObjOk.lt (x : ObjOk P w H h a o) : a < h.objs.size := by
  cases o with
  | lst xs => obtain ⟨_, _, _, _, e⟩ := x; exact Heap.lt_size e
  | tup xs => obtain ⟨_, _, _, p⟩ := x; exact p.lt
  | dK kvs => obtain ⟨_, _, _, _, o, _, _, e, _⟩ := x; exact Heap.lt_size e
  | dT kvs => obtain ⟨_, _, _, _, o, _, _, e, _⟩ := x; exact Heap.lt_size e
  | set S n => obtain ⟨o, _, _, _, e, _⟩ := x; exact Heap.lt_size e
  | ins C dx fs => obtain ⟨_, _, _, e, _⟩ := x; exact Heap.lt_size e
  | own y => obtain ⟨_, e⟩ := x; exact Heap.lt_size e
  | xd fs => obtain ⟨_, ⟨_, _, _, e, _⟩, _⟩ := x; exact Heap.lt_size e
  | rng lo hi => obtain ⟨_, _, _, e⟩ := x; exact Heap.lt_size e
  | frz ob u => obtain ⟨e, _⟩ := x; exact Heap.lt_size e
  | tbl ps => exact Heap.lt_size (show h.get? a = some _ from x)
  | met f y => exact Heap.lt_size (show h.get? a = some _ from x)
  | ext φ => obtain ⟨_, ⟨_, e⟩, _⟩ := x; exact Heap.lt_size e
theorem Paired.mapP {α β : Type} {F G : α → β → Prop} : ∀ {l₁ : List α} {l₂ : List β}, Paired F l₁ l₂ → (∀ a b, F a b → G a b) → Paired G l₁ l₂
  | _, _, .nil, _ => .nil
  | _, _, .cons r t, f => .cons (f _ _ r) (Paired.mapP t f)
theorem Paired.imp' {α β : Type} {F G : α → β → Prop} (f : ∀ a b, F a b → G a b) {l₁ : List α} {l₂ : List β} (r : Paired F l₁ l₂) : Paired G l₁ l₂ := Paired.mapP r f
theorem ObjOk.stay (x : ObjOk P w H h a o) (k : ∀ b u, (b = a ∨ H b = some (.own a)) → h.get? b = some u → h'.get? b = some u)
    (ho : ∀ b, H b = some (.own a) → H' b = some (.own a)) (ht : ∀ b xs, H b = some (.tup xs) → H' b = some (.tup xs)) : ObjOk P w H' h' a o := by
  induction o with
  | lst xs => obtain ⟨z, its, n, r, e⟩ := x; exact ⟨z, its, n, r, k _ _ (.inl rfl) e⟩
  | tup xs => obtain ⟨z, its, r, ob, e, c⟩ := x; exact ⟨z, its, r, ob, k _ _ (.inl rfl) e, c⟩
  | dK kvs => obtain ⟨z, y, vs, r, ob, es, ep, e, c⟩ := x; exact ⟨z, y, vs, r, ob, es, ep, k _ _ (.inl rfl) e, c⟩
  | dT kvs =>
    obtain ⟨z, y, xs, r, ob, es, ep, e, c⟩ := x
    exact ⟨z, y, xs, Paired.mapP r fun p q z => ⟨z.1, ht _ _ z.2.1, z.2.2⟩, ob, es, ep, k _ _ (.inl rfl) e, c⟩
  | set S n => obtain ⟨ob, es, ep, t, e, c⟩ := x; exact ⟨ob, es, ep, t, k _ _ (.inl rfl) e, c⟩
  | ins C dx fs =>
    obtain ⟨d, z, ne, e, mA, ⟨od, es, ep, e2, c⟩, r⟩ := x
    exact ⟨ho _ d, z, ne, k _ _ (.inl rfl) e, mA, ⟨od, es, ep, k _ _ (.inr d) e2, c⟩, r⟩
  | own y => obtain ⟨ob, e⟩ := x; exact ⟨ob, k _ _ (.inl rfl) e⟩
  | xd fs => obtain ⟨mA, ⟨od, es, ep, e, c⟩, r⟩ := x; exact ⟨mA, ⟨od, es, ep, k _ _ (.inl rfl) e, c⟩, r⟩
  | rng lo hi => obtain ⟨t, u, v, e⟩ := x; exact ⟨t, u, v, k _ _ (.inl rfl) e⟩
  | frz ob u ih => obtain ⟨e, q⟩ := x; exact ⟨k _ _ (.inl rfl) e, ih q⟩
  | tbl ps =>
    have e : h.get? a = some { cls := .none, data := .fields ps } := x
    show h'.get? a = some { cls := .none, data := .fields ps }
    exact k a _ (.inl rfl) e
  | met f y =>
    have e : h.get? a = some (PySem.W.methodObj (.ref f) (.ref y)) := x
    show h'.get? a = some (PySem.W.methodObj (.ref f) (.ref y))
    exact k a _ (.inl rfl) e
  | ext φ => obtain ⟨p, ⟨o, e⟩, st⟩ := x; exact ⟨st _ _ p fun o q => k _ _ (.inl rfl) q, ⟨o, k _ _ (.inl rfl) e⟩, st⟩
theorem HOk.lt (x : HOk P w H h) (e : H a = some o) : a < h.objs.size := (x a o e).lt
theorem HOk.fresh (x : HOk P w H h) (e : h.objs.size ≤ a) : H a = none := by
  cases q : H a with
  | none => rfl
  | some u => exact absurd (Nat.lt_of_lt_of_le (x.lt q) e) (Nat.lt_irrefl _)
theorem HOk.kept (x : HOk P w H h) (k : ∀ b u, h.get? b = some u → h'.get? b = some u) : HOk P w H h' := fun a o e =>
  (x a o e).stay (fun b u _ q => k b u q) (fun _ q => q) fun _ _ q => q
theorem HOk.laid (x : HOk P w H h) (k : ∀ b u, h.get? b = some u → h'.get? b = some u) (hp : h.objs.size ≤ a) (new : ObjOk P w (upd H a o) h' a o) : HOk P w (upd H a o) h' := fun b u e => by
  have hn := x.fresh hp
  by_cases hb : b = a
  · subst hb; rw [upd_same] at e; cases e; exact new
  · rw [upd_ne hb] at e
    exact (x b u e).stay (fun c v _ q => k c v q) (fun c q => by rw [upd_ne (ne_of_none q hn)]; exact q) fun c xs q => by rw [upd_ne (ne_of_none q hn)]; exact q
end
def Rd (H : Hp) (a : Addr) (u : HO) : Prop := H a = some u ∨ ∃ o, H a = some (.frz o u)
theorem Rd.of {H : Hp} {a : Addr} {u : HO} (h : H a = some u) : Rd H a u := .inl h
theorem Rd.ok {P : Program} {w : World} {H : Hp} {h : Heap} {a : Addr} {u : HO} (r : Rd H a u) (x : HOk P w H h) : ObjOk P w H h a u := by
  rcases r with r | ⟨o, r⟩
  · exact x a u r
  · obtain ⟨_, q⟩ := x a _ r
    exact q
def Mut : Option HO → Prop
  | some (.lst _) => True
  | some (.dK _) => True
  | some (.dT _) => True
  | some (.set _ _) => True
  | some (.ins _ _ _) => True
  | some (.ext _) => True
  | _ => False
section
variable {P : Program} {w : World} {H : Hp} {h h' : Heap} {x e : Addr} {o' : HO}
theorem HOk.write (ok : HOk P w H h) (mu : Mut (H x)) (he : e = x ∨ H e = some (.own x)) (k : ∀ b u, b ≠ e → h.get? b = some u → h'.get? b = some u) (heo : ∃ u, h'.get? e = some u)
    (new : ObjOk P w (upd H x o') h' x o') : HOk P w (upd H x o') h' := fun b u q => by
  have nown : ∀ c y, H c = some (.own y) → c ≠ x := fun c y r z => by subst z; rw [r] at mu; exact mu
  have ntup : ∀ c xs, H c = some (.tup xs) → c ≠ x := fun c xs r z => by subst z; rw [r] at mu; exact mu
  by_cases hb : b = x
  · subst hb; rw [upd_same] at q; cases q; exact new
  · rw [upd_ne hb] at q
    by_cases hbe : b = e
    · have q' : H b = some (.own x) := by
        rcases he with z | z
        · exact absurd (hbe.trans z) hb
        · rw [hbe]; exact z
      rw [q] at q'; cases q'
      obtain ⟨v, hv⟩ := heo
      exact ⟨v, by rw [hbe]; exact hv⟩
    · refine (ok b u q).stay (fun c v hc r => k c v ?_ r) (fun c r => by rw [upd_ne (nown c b r)]; exact r) fun c xs r => by rw [upd_ne (ntup c xs r)]; exact r
      rcases hc with rfl | hc
      · exact hbe
      · rintro rfl
        rcases he with z | z
        · exact nown c b hc z
        · rw [hc] at z; cases z; exact hb rfl
end
structure Un (fs ex : List Addr) (H H' : Hp) (h h' : Heap) : Prop where
  keep : ∀ b o, h.get? b = some o → H b = none → b ∉ fs → b ∉ ex → h'.get? b = some o
  slot : ∀ b o, h.get? b = some o → H b = none → b ∈ fs → b ∉ ex → ∃ sl, h'.get? b = some { o with slots := sl }
  free : ∀ b o, h.get? b = some o → H b = none → b ∉ ex → H' b = none
  there : ∀ b o, h.get? b = some o → b ∉ ex → ∃ o', h'.get? b = some o'
  tups : ∀ b xs, H b = some (.tup xs) → H' b = some (.tup xs)
  frzs : ∀ b o u, H b = some (.frz o u) → H' b = some (.frz o u)
  tbls : ∀ b ps, H b = some (.tbl ps) → ∃ more, H' b = some (.tbl (ps ++ more))
section
variable {fs fs' ex ex' : List Addr} {H H1 H2 : Hp} {h h1 h2 h' : Heap} {a x e : Addr} {o : HO}
theorem Un.any (u : Un fs ex H H1 h h1) {b : Addr} {ob : Obj} (q : h.get? b = some ob) (n : H b = none) (hx : b ∉ ex) : ∃ sl, h1.get? b = some { ob with slots := sl } := by
  by_cases hb : b ∈ fs
  · exact u.slot b ob q n hb hx
  · exact ⟨ob.slots, u.keep b ob q n hb hx⟩
theorem Un.trans (a : Un fs ex H H1 h h1) (b : Un fs ex H1 H2 h1 h2) : Un fs ex H H2 h h2 where
  keep := fun c ob q n hc hx => b.keep c ob (a.keep c ob q n hc hx) (a.free c ob q n hx) hc hx
  slot := fun c ob q n hc hx => by
    obtain ⟨sl, e1⟩ := a.slot c ob q n hc hx
    obtain ⟨sl', e2⟩ := b.slot c _ e1 (a.free c ob q n hx) hc hx
    exact ⟨sl', e2⟩
  free := fun c ob q n hx => by
    obtain ⟨o', e1⟩ := a.there c ob q hx
    exact b.free c o' e1 (a.free c ob q n hx) hx
  there := fun c ob q hx => by
    obtain ⟨o', e1⟩ := a.there c ob q hx
    exact b.there c o' e1 hx
  tups := fun c xs q => b.tups c xs (a.tups c xs q)
  frzs := fun c ob xs q => b.frzs c ob xs (a.frzs c ob xs q)
  tbls := fun c ps q => by
    obtain ⟨m1, e1⟩ := a.tbls c ps q
    obtain ⟨m2, e2⟩ := b.tbls c _ e1
    exact ⟨m1 ++ m2, by rw [e2, Array.append_assoc]⟩
theorem Un.kept (k : ∀ b u, h.get? b = some u → h'.get? b = some u) : Un fs ex H H h h' :=
  ⟨fun b ob q _ _ _ => k b ob q, fun b ob q _ _ _ => ⟨ob.slots, k b ob q⟩, fun _ _ _ n _ => n, fun b ob q _ => ⟨ob, k b ob q⟩, fun _ _ q => q, fun _ _ _ q => q, fun _ ps q => ⟨#[], by rw [q]; simp⟩⟩
theorem Un.refl : Un fs ex H H h h := Un.kept fun _ _ q => q
theorem Un.laid (k : ∀ b u, h.get? b = some u → h'.get? b = some u) (hp : h.objs.size ≤ a) (hn : H a = none) : Un fs ex H (upd H a o) h h' where
  keep := fun b u q _ _ _ => k b u q
  slot := fun b u q _ _ _ => ⟨u.slots, k b u q⟩
  free := fun b u q n _ => by rw [upd_ne (Nat.ne_of_lt (Nat.lt_of_lt_of_le (Heap.lt_size q) hp))]; exact n
  there := fun b u q _ => ⟨u, k b u q⟩
  tups := fun b xs q => by rw [upd_ne (ne_of_none q hn)]; exact q
  frzs := fun b u xs q => by rw [upd_ne (ne_of_none q hn)]; exact q
  tbls := fun b ps q => ⟨#[], by rw [upd_ne (ne_of_none q hn), q]; simp⟩
theorem Un.write (mu : Mut (H x)) (he : e = x ∨ H e = some (.own x)) (k : ∀ b u, b ≠ e → h.get? b = some u → h'.get? b = some u) (heo : ∃ u, h'.get? e = some u) : Un fs ex H (upd H x o) h h' := by
  have hx : ∀ b, H b = none → b ≠ x := fun b n z => by subst z; rw [n] at mu; exact mu
  have hb : ∀ b, H b = none → b ≠ e := fun b n z => by
    subst z
    rcases he with r | r
    · exact hx b n r
    · rw [n] at r; cases r
  have hm : ∀ b u, H b = some u → ¬ Mut (some u) → b ≠ x := fun b u q nm z => by subst z; rw [q] at mu; exact nm mu
  refine ⟨fun b u q n _ _ => k b u (hb b n) q, fun b u q n _ _ => ⟨u.slots, k b u (hb b n) q⟩, fun b u q n _ => by rw [upd_ne (hx b n)]; exact n, fun b u q _ => ?_,
    fun b xs q => by rw [upd_ne (hm b _ q fun z => z)]; exact q, fun b u xs q => by rw [upd_ne (hm b _ q fun z => z)]; exact q, fun b ps q => ⟨#[], by rw [upd_ne (hm b _ q fun z => z), q]; simp⟩⟩
  by_cases hbe : b = e
  · subst hbe; exact heo
  · exact ⟨u, k b u hbe q⟩
theorem Un.mono (u : Un fs ex H H1 h h1) (hs : ∀ b ∈ fs, b ∈ fs') (hx : ∀ b ∈ ex, b ∈ ex') : Un fs' ex' H H1 h h1 :=
  ⟨fun b ob q n hb he => u.keep b ob q n (fun z => hb (hs b z)) fun z => he (hx b z), fun _ _ q n _ he => u.any q n fun z => he (hx _ z), fun b ob q n he => u.free b ob q n fun z => he (hx b z), fun b ob q he => u.there b ob q fun z => he (hx b z), u.tups, u.frzs, u.tbls⟩
end
def trk (h : Heap) (H : Hp) : List Addr := (List.range h.objs.size).filter fun a => (H a).isSome
def hidT (h : Heap) (H : Hp) : Heap := PySem.W.hideAll h (trk h H)
theorem hidT_size (h : Heap) (H : Hp) : (hidT h H).objs.size = h.objs.size := PySem.W.hideAll_size _ _
theorem hidT_get {h : Heap} {H : Hp} {b : Addr} {o : Obj} (e : h.get? b = some o) (n : H b = none) : (hidT h H).get? b = some o :=
  PySem.W.hideAll_get _ e fun hm => by
    have q : (H b).isSome = true := (List.mem_filter.mp hm).2
    rw [n] at q; simp at q
theorem of_hidT {h : Heap} {H : Hp} {b : Addr} {o : Obj} (e : (hidT h H).get? b = some o) : h.get? b = some o ∧ H b = none := by
  have e' : h.get? b = some o := PySem.W.of_hideAll (trk h H) e
  refine ⟨e', ?_⟩
  cases q : H b with
  | none => rfl
  | some x =>
    have hm : b ∈ trk h H := List.mem_filter.mpr ⟨List.mem_range.mpr (Heap.lt_size e'), by simp [q]⟩
    have z : (hidT h H).get? b = none := PySem.W.hideAll_none (trk h H) hm
    rw [z] at e; cases e
def allNews (g h : Heap) (L : Addr) : List (Addr × Obj) := (List.range h.objs.size).filterMap fun a => if a = L ∨ (g.get? a).isSome = true then none else (h.get? a).map fun o => (a, o)
def rest (g h : Heap) (L d : Addr) : List (Addr × Obj) := (allNews g h L).filter fun p => decide (p.1 ≠ d)
end L2
namespace L2
open PySem PySem.Spec PyProof.Rows
structure Mod (K : PySem.W.Frag) (mg : Str → Option Value) (base : Heap) : Prop where
  kin : K.In base
  glob : base.Ns mainGlobals mg
  blt : ∃ mb, base.Ns builtinsNs mb ∧ ∀ x : Str, x ≠ "__name__" → mb x = bootBuiltins x
  nolimit : base.NoLimit
structure Cx where
  prog : Program
  w : World
  K : PySem.W.Frag
  mg : Str → Option Value
  base : Heap
  A : Around
  N : List Str
  s₀ : Shared
  H₀ : Hp
  env : Env
  outer : List Env
  stack : List Env
  ex : List Addr
  fn : Str → Bool
  calm : Bool
  pn : List (Addr × Obj)
  xe : Value → Shared → Prop
def frs (l : List Env) : List Addr := l.filterMap (·.frame)
abbrev Cx.fs (X : Cx) : List Addr := frs X.outer
def Vis (sc : Scope) (x : Str) : Prop := sc.names.lookup x = some .local ∨ sc.names.lookup x = some .cell ∨ sc.names.lookup x = some .free
def Loc (sc : Scope) (x : Str) : Prop := sc.names.lookup x = some .local ∨ sc.names.lookup x = some .cell
def Look (env : Env) (h : Heap) (m : Str → Option Value) (x : Str) (u : Value) : Prop :=
  (env.kindOf x = some .local ∧ m x = some u) ∨ ((env.kindOf x = some .cell ∨ env.kindOf x = some .free) ∧ ∃ c, env.cells.lookup x = some c ∧ h.IsCell c (some u))
structure Cx.Ok (X : Cx) : Prop where
  mod : Mod X.K X.mg X.base
  kind : X.env.scope.kind = .function
  glob : X.env.globals = mainGlobals
  blt : X.env.builtins = builtinsNs
  above : X.s₀.heap.objs.size ≤ X.env.locals
  inj : ∀ x y c, X.env.cells.lookup x = some c → X.env.cells.lookup y = some c → x = y
  has : ∀ x, (X.env.kindOf x = some .cell ∨ X.env.kindOf x = some .free) → ∃ c, X.env.cells.lookup x = some c
  cab : ∀ x c, X.fn x = true → X.env.cells.lookup x = some c → X.s₀.heap.objs.size ≤ c
  hd : X.calm = true → X.A.handled = none
  frames : X.A.frames = some X.stack
  stk : X.stack = X.outer ∨ (X.stack = X.env :: X.outer ∧ X.env.frame = some X.env.locals)
  exf : ∀ b ∈ X.ex, b ≠ X.env.locals ∧ ∀ x c, X.env.cells.lookup x = some c → c ≠ b
  bs : ∀ b o, X.base.get? b = some o → X.s₀.heap.get? b = some o ∧ X.H₀ b = none
  bsz : X.base.objs.size ≤ X.s₀.heap.objs.size
  noex : ∀ b o, X.base.get? b = some o → b ∉ X.ex
  exfs : ∀ b ∈ X.ex, b ∉ X.fs
  funs : X.s₀.heap.FunFrames X.base X.outer
  frf : ∀ b ∈ X.fs, X.H₀ b = none
structure Inv (X : Cx) (pins : List (Addr × Obj)) (σ : List (Option V)) (H : Hp) (s : Shared) : Prop where
  ok : X.Ok
  os : s.os = X.s₀.os
  bare : AllBare s.gens
  base : Un X.fs X.ex X.H₀ H X.s₀.heap s.heap
  loc : ∃ m, s.heap.Ns X.env.locals m ∧ ∀ (i : Nat) (x : Str) (v : V), X.N[i]? = some x → σ[i]? = some (some v) → Vis X.env.scope x → ∃ u, RelV v u ∧ Look X.env s.heap m x u
  cell : ∀ x c, X.env.cells.lookup x = some c → ∃ v, s.heap.IsCell c v
  free : H X.env.locals = none
  freeC : ∀ x c, X.env.cells.lookup x = some c → H c = none
  pin : ∀ p ∈ X.pn ++ pins, s.heap.get? p.1 = some p.2 ∧ H p.1 = none ∧ p.1 ≠ X.env.locals ∧ p.1 ∉ X.fs ∧ ∀ v, p.2.data ≠ .cell v
  hok : HOk X.prog X.w H s.heap
  len : σ.length = X.N.length
section
variable {X : Cx} {pins : List (Addr × Obj)} {σ : List (Option V)} {H H' : Hp} {s : Shared} {h' : Heap}
theorem Cx.Ok.nofr (ok : X.Ok) {b : Addr} {o : Obj} (e : X.base.get? b = some o) : b ∉ X.fs := fun hb => by
  have := (ok.funs.mem hb).1
  rw [e] at this; cases this
theorem Inv.bs (I : Inv X pins σ H s) : ∀ b o, X.base.get? b = some o → s.heap.get? b = some o ∧ H b = none := fun b o e =>
  ⟨I.base.keep b o (I.ok.bs b o e).1 (I.ok.bs b o e).2 (I.ok.nofr e) (I.ok.noex b o e), I.base.free b o (I.ok.bs b o e).1 (I.ok.bs b o e).2 (I.ok.noex b o e)⟩
theorem Inv.bk (I : Inv X pins σ H s) : ∀ b o, X.base.get? b = some o → s.heap.get? b = some o := fun b o e => (I.bs b o e).1
theorem Inv.mod (I : Inv X pins σ H s) : Mod X.K X.mg X.base := I.ok.mod
theorem Inv.kIn (I : Inv X pins σ H s) : X.K.In s.heap := I.ok.mod.kin.keeps I.bk
theorem Inv.nolimit (I : Inv X pins σ H s) : s.heap.NoLimit := I.ok.mod.nolimit.keeps I.bk
theorem Inv.fr (I : Inv X pins σ H s) : ∃ m, Fr X.base X.env.locals s.heap m :=
  let ⟨m, hn, _⟩ := I.loc
  ⟨m, hn, I.bk, Nat.le_trans I.ok.bsz I.ok.above⟩
theorem Inv.lt (I : Inv X pins σ H s) : X.env.locals < s.heap.objs.size := let ⟨_, hn, _⟩ := I.loc; hn.lt
theorem Inv.sz (I : Inv X pins σ H s) : X.s₀.heap.objs.size ≤ s.heap.objs.size := Nat.le_trans I.ok.above (Nat.le_of_lt I.lt)
theorem Inv.nofs (I : Inv X pins σ H s) {a : Addr} (h : s.heap.objs.size ≤ a) : a ∉ X.fs := fun hb => by
  obtain ⟨_, o, ho, _⟩ := I.ok.funs.mem hb
  exact absurd (Nat.lt_of_lt_of_le (Heap.lt_size ho) (Nat.le_trans I.sz h)) (Nat.lt_irrefl _)
theorem Inv.cne (I : Inv X pins σ H s) : ∀ x c, X.env.cells.lookup x = some c → c ≠ X.env.locals := fun x c e z => by
  obtain ⟨v, o, ho, hd⟩ := I.cell x c e
  obtain ⟨m, ⟨o', es, ep, ho', hd', _⟩, _⟩ := I.loc
  rw [z, ho'] at ho; cases ho; rw [hd'] at hd; cases hd
theorem Inv.funs (I : Inv X pins σ H s) : s.heap.FunFrames X.base X.outer := by
  have all : ∀ (l : List Env), (∀ b ∈ frs l, b ∈ X.fs) → X.s₀.heap.FunFrames X.base l → s.heap.FunFrames X.base l := by
    intro l
    induction l with
    | nil => intro _ _; trivial
    | cons env r ih =>
      intro hs hl
      obtain ⟨hk, ⟨L, o, hf, hn, ho, hd⟩, hr⟩ := hl
      have hL : L ∈ X.fs := hs L (by unfold frs; rw [List.filterMap_cons, hf]; exact List.mem_cons_self)
      obtain ⟨sl, e⟩ := I.base.slot L o ho (I.ok.frf L hL) hL fun z => I.ok.exfs L z hL
      exact ⟨hk, ⟨L, _, hf, hn, e, hd⟩, ih (fun b hb => hs b (by unfold frs; rw [List.filterMap_cons, hf]; exact List.mem_cons_of_mem _ hb)) hr⟩
  exact all X.outer (fun _ hb => hb) I.ok.funs
theorem Inv.stack (I : Inv X pins σ H s) : s.heap.FunFrames X.base X.stack := by
  rcases I.ok.stk with e | ⟨e, hf⟩
  · rw [e]; exact I.funs
  · rw [e]
    obtain ⟨m, hn, _⟩ := I.loc
    refine .cons (by rw [I.ok.kind]; decide) hf hn ?_ I.funs
    exact Heap.get?_none_of_le (Nat.le_trans I.ok.bsz I.ok.above)
theorem Inv.stkSub (I : Inv X pins σ H s) : ∀ b ∈ frs X.stack, b ∈ X.env.locals :: X.fs := fun b hb => by
  rcases I.ok.stk with e | ⟨e, hf⟩
  · rw [e] at hb; exact List.mem_cons_of_mem _ hb
  · rw [e] at hb
    unfold frs at hb
    rw [List.filterMap_cons, hf] at hb
    exact hb
theorem Inv.stkFree (I : Inv X pins σ H s) : ∀ b ∈ frs X.stack, H b = none := fun b hb => by
  rcases List.mem_cons.mp (I.stkSub b hb) with e | hb
  · rw [e]; exact I.free
  · obtain ⟨_, o, ho, _⟩ := I.ok.funs.mem hb
    exact I.base.free b o ho (I.ok.frf b hb) fun z => I.ok.exfs b z hb
theorem Inv.step {g' : Array GenState} {t' : Nat} {d' : Drawn} {ch : List Addr} (I : Inv X pins σ H s)
    (hch : ∀ b ∈ ch, (b ∈ X.ex ∨ X.s₀.heap.objs.size ≤ b) ∧ b ≠ X.env.locals ∧ (∀ x c, X.env.cells.lookup x = some c → c ≠ b) ∧ ∀ p ∈ X.pn ++ pins, p.1 ≠ b)
    (keep : ∀ b o, b ≠ X.env.locals → b ∉ X.fs → b ∉ ch → s.heap.get? b = some o → H b = none → h'.get? b = some o)
    (slot : ∀ b o, b ≠ X.env.locals → b ∈ X.fs → b ∉ ch → s.heap.get? b = some o → H b = none → ∃ sl, h'.get? b = some { o with slots := sl }) (free : ∀ b o, b ∉ ch → s.heap.get? b = some o → H b = none → H' b = none)
    (there : ∀ b o, b ∉ ch → s.heap.get? b = some o → ∃ o', h'.get? b = some o')
    (tups : ∀ b xs, H b = some (.tup xs) → H' b = some (.tup xs)) (frzs : ∀ b o u, H b = some (.frz o u) → H' b = some (.frz o u)) (tbls : ∀ b ps, H b = some (.tbl ps) → ∃ more, H' b = some (.tbl (ps ++ more)))
    (ns : ∀ m, s.heap.Ns X.env.locals m → h'.Ns X.env.locals m) (hok : HOk X.prog X.w H' h') (hg : AllBare g') :
    Inv X pins σ H' { s with heap := h', gens := g', drawn := d', toks := t' } := by
  have neL : ∀ b o, X.s₀.heap.get? b = some o → b ≠ X.env.locals := fun b o e => Nat.ne_of_lt (Nat.lt_of_lt_of_le (Heap.lt_size e) I.ok.above)
  have neC : ∀ b o, X.s₀.heap.get? b = some o → b ∉ X.ex → b ∉ ch := fun b o e hx hb => by
    rcases (hch b hb).1 with z | z
    · exact hx z
    · exact absurd (Nat.lt_of_lt_of_le (Heap.lt_size e) z) (Nat.lt_irrefl _)
  have cellK : ∀ x c, X.env.cells.lookup x = some c → ∀ v, s.heap.IsCell c v → h'.IsCell c v := fun x c e v ⟨o, ho, hd⟩ => by
    have nch : c ∉ ch := fun z => (hch c z).2.2.1 x c e rfl
    by_cases hc : c ∈ X.fs
    · obtain ⟨sl, q⟩ := slot c o (I.cne x c e) hc nch ho (I.freeC x c e)
      exact ⟨_, q, hd⟩
    · exact ⟨o, keep c o (I.cne x c e) hc nch ho (I.freeC x c e), hd⟩
  refine ⟨I.ok, I.os, hg, ⟨fun b o e n hb hx => ?_, fun b o e n hb hx => ?_, fun b o e n hx => ?_, fun b o e hx => ?_, fun b xs e => tups b xs (I.base.tups b xs e), fun b o xs e => frzs b o xs (I.base.frzs b o xs e), fun b ps e => ?_⟩, ?_, fun x c e => ?_, ?_, fun x c e => ?_, fun p hp => ?_, hok, I.len⟩
  · exact keep b o (neL b o e) hb (neC b o e hx) (I.base.keep b o e n hb hx) (I.base.free b o e n hx)
  · obtain ⟨sl, e1⟩ := I.base.slot b o e n hb hx
    obtain ⟨sl', e2⟩ := slot b _ (neL b o e) hb (neC b o e hx) e1 (I.base.free b o e n hx)
    exact ⟨sl', e2⟩
  · obtain ⟨o', e1⟩ := I.base.there b o e hx
    exact free b o' (neC b o e hx) e1 (I.base.free b o e n hx)
  · obtain ⟨o', e1⟩ := I.base.there b o e hx
    exact there b o' (neC b o e hx) e1
  · obtain ⟨m1, e1⟩ := I.base.tbls b ps e
    obtain ⟨m2, e2⟩ := tbls b _ e1
    exact ⟨m1 ++ m2, by rw [e2, Array.append_assoc]⟩
  · obtain ⟨m, hn, hl⟩ := I.loc
    refine ⟨m, ns m hn, fun i x v e1 e2 e3 => ?_⟩
    obtain ⟨u, r, l⟩ := hl i x v e1 e2 e3
    refine ⟨u, r, ?_⟩
    rcases l with l | ⟨k, c, e, z⟩
    · exact .inl l
    · exact .inr ⟨k, c, e, cellK x c e _ z⟩
  · obtain ⟨v, z⟩ := I.cell x c e
    exact ⟨v, cellK x c e v z⟩
  · obtain ⟨m, ⟨o, _, _, ho, _⟩, _⟩ := I.loc
    exact free _ o (fun z => (hch _ z).2.1 rfl) ho I.free
  · obtain ⟨v, o, ho, hd⟩ := I.cell x c e
    exact free c o (fun z => (hch c z).2.2.1 x c e rfl) ho (I.freeC x c e)
  · obtain ⟨e, n, ne, nf, d⟩ := I.pin p hp
    have nch : p.1 ∉ ch := fun z => (hch p.1 z).2.2.2 p hp rfl
    exact ⟨keep p.1 p.2 ne nf nch e n, free p.1 p.2 nch e n, ne, nf, d⟩
theorem Inv.un {t' : Nat} (I : Inv X pins σ H s) (u : Un X.fs [] H H' s.heap h') (hok : HOk X.prog X.w H' h') : Inv X pins σ H' { s with heap := h', toks := t' } := by
  obtain ⟨m, ⟨o, es, ep, ho, r⟩, _⟩ := id I.loc
  obtain ⟨sl, hL⟩ := u.any ho I.free (by simp)
  exact I.step (g' := s.gens) (d' := s.drawn) (ch := []) (fun _ z => nomatch z) (fun b o _ hb _ e n => u.keep b o e n hb (by simp)) (fun b o _ hb _ e n => u.slot b o e n hb (by simp)) (fun b o _ e n => u.free b o e n (by simp)) (fun b o _ e => u.there b o e (by simp)) u.tups u.frzs u.tbls (fun m' hm => by
    obtain ⟨o', es', ep', ho', r'⟩ := hm
    rw [ho] at ho'; cases ho'
    exact ⟨_, es', ep', hL, r'⟩) hok I.bare
theorem Inv.call {g' : Array GenState} {t' : Nat} {d' : Drawn} {ch : List Addr} (I : Inv X pins σ H s) (u : Un (frs X.stack) ch H H' s.heap h') (hok : HOk X.prog X.w H' h') (hg : AllBare g')
    (hch : ∀ b ∈ ch, (b ∈ X.ex ∨ X.s₀.heap.objs.size ≤ b) ∧ b ≠ X.env.locals ∧ (∀ x c, X.env.cells.lookup x = some c → c ≠ b) ∧ ∀ p ∈ X.pn ++ pins, p.1 ≠ b) :
    Inv X pins σ H' { s with heap := h', gens := g', drawn := d', toks := t' } := by
  obtain ⟨m, ⟨o, es, ep, ho, r⟩, _⟩ := id I.loc
  obtain ⟨sl, hL⟩ := u.any ho I.free fun z => (hch _ z).2.1 rfl
  exact I.step (ch := ch) hch (fun b o hL hb hc e n => u.keep b o e n (fun z => (List.mem_cons.mp (I.stkSub b z)).elim hL hb) hc) (fun b o _ _ hc e n => u.any e n hc) (fun b o hc e n => u.free b o e n hc) (fun b o hc e => u.there b o e hc) u.tups u.frzs u.tbls (fun m' hm => by
    obtain ⟨o', es', ep', ho', r'⟩ := hm
    rw [ho] at ho'; cases ho'
    exact ⟨_, es', ep', hL, r'⟩) hok hg
theorem Inv.turned {t' : Nat} {it : Addr} (I : Inv X pins σ H s) (k : ∀ b o, b ≠ it → s.heap.get? b = some o → h'.get? b = some o) (hn : H it = none) (hL : it ≠ X.env.locals)
    (h1 : it ∈ X.ex ∨ X.s₀.heap.objs.size ≤ it) (h2 : ∀ x c, X.env.cells.lookup x = some c → c ≠ it) (h3 : ∀ p ∈ X.pn ++ pins, p.1 ≠ it) : Inv X pins σ H { s with heap := h', toks := t' } := by
  have nit : ∀ b u, H b = some u → b ≠ it := fun b u e z => by rw [z, hn] at e; cases e
  refine I.step (g' := s.gens) (d' := s.drawn) (ch := [it]) (fun b hb => ?_) (fun b o _ _ hc e _ => k b o (fun z => hc (by simp [z])) e) (fun b o _ _ hc e _ => ⟨o.slots, k b o (fun z => hc (by simp [z])) e⟩) (fun _ _ _ _ n => n)
    (fun b o hc e => ⟨o, k b o (fun z => hc (by simp [z])) e⟩) (fun _ _ e => e) (fun _ _ _ e => e) (fun b ps e => ⟨#[], by rw [e]; simp⟩) (fun m hm => ?_) (fun b u e => ?_) I.bare
  · have e : b = it := by simpa using hb
    subst e
    exact ⟨h1, hL, h2, h3⟩
  · obtain ⟨o, es, ep, ho, r⟩ := hm
    exact ⟨o, es, ep, k _ o (Ne.symm hL) ho, r⟩
  · refine (I.hok b u e).stay (fun c v hc q => k c v ?_ q) (fun _ q => q) fun _ _ q => q
    rcases hc with z | z
    · rw [z]; exact nit b u e
    · exact nit c _ z
theorem Inv.tok (I : Inv X pins σ H s) (t : Nat) : Inv X pins σ H { s with toks := t } := I.un (h' := s.heap) (t' := t) Un.refl I.hok
theorem Inv.kept {t' : Nat} (I : Inv X pins σ H s) (k : ∀ b u, s.heap.get? b = some u → h'.get? b = some u) : Inv X pins σ H { s with heap := h', toks := t' } := I.un (Un.kept k) (I.hok.kept k)
theorem Inv.laid {a : Addr} {o : HO} {t' : Nat} (I : Inv X pins σ H s) (k : ∀ b u, s.heap.get? b = some u → h'.get? b = some u) (hp : s.heap.objs.size ≤ a) (new : ObjOk X.prog X.w (upd H a o) h' a o) :
    Inv X pins σ (upd H a o) { s with heap := h', toks := t' } := I.un (Un.laid k hp (I.hok.fresh hp)) (I.hok.laid k hp new)
theorem Inv.write {x e : Addr} {o : HO} {t' : Nat} (I : Inv X pins σ H s) (mu : Mut (H x)) (he : e = x ∨ H e = some (.own x)) (k : ∀ b u, b ≠ e → s.heap.get? b = some u → h'.get? b = some u) (heo : ∃ u, h'.get? e = some u)
    (new : ObjOk X.prog X.w (upd H x o) h' x o) : Inv X pins σ (upd H x o) { s with heap := h', toks := t' } := I.un (Un.write mu he k heo) (I.hok.write mu he k heo new)
theorem Inv.weak {σ' : List (Option V)} (I : Inv X pins σ H s) (hl : σ'.length = σ.length) (w : ∀ (i : Nat) v, σ'[i]? = some (some v) → σ[i]? = some (some v)) : Inv X pins σ' H s :=
  ⟨I.ok, I.os, I.bare, I.base, let ⟨m, hn, hl'⟩ := I.loc; ⟨m, hn, fun i x v e1 e2 e3 => hl' i x v e1 (w i v e2) e3⟩, I.cell, I.free, I.freeC, I.pin, I.hok, hl.trans I.len⟩
theorem Inv.pins_of {pins' : List (Addr × Obj)} (I : Inv X pins σ H s) (h : ∀ p ∈ pins', s.heap.get? p.1 = some p.2 ∧ H p.1 = none ∧ p.1 ≠ X.env.locals ∧ p.1 ∉ X.fs ∧ ∀ v, p.2.data ≠ .cell v) : Inv X pins' σ H s :=
  ⟨I.ok, I.os, I.bare, I.base, I.loc, I.cell, I.free, I.freeC, fun p hp => (List.mem_append.mp hp).elim (fun z => I.pin p (List.mem_append_left _ z)) (h p), I.hok, I.len⟩
theorem nodup_ix {N : List Str} (hN : N.Nodup) {i j : Nat} {x : Str} (a : N[i]? = some x) (b : N[j]? = some x) : i = j := by
  obtain ⟨h1, e1⟩ := List.getElem?_eq_some_iff.mp a
  obtain ⟨h2, e2⟩ := List.getElem?_eq_some_iff.mp b
  exact (List.getElem_inj hN).mp (e1.trans e2.symm)
theorem store_ok2 {M : Model} {A : Around} {E : Value → Shared → Prop} {i : Nat} {x : Str} {v : V} {u : Value} {Q : Unit → Shared → Prop} (I : Inv X pins σ H s) (hN : X.N.Nodup) (hi : X.N[i]? = some x) (hx : Loc X.env.scope x) (r : RelV v u)
    (h : ∀ s', Inv X pins (σ.set i (some v)) H s' → (∃ a, Heap.SameBut a s.heap s'.heap ∧ (a = X.env.locals ∨ X.env.cells.lookup x = some a)) → Q () s') (hf : X.fn x = true ∨ X.env.scope.names.lookup x = some .local := by first | exact .inl rfl | exact .inr rfl | assumption) : wpAny M A (storeName X.env x u) Q E s := by
  obtain ⟨m, hn, hl⟩ := id I.loc
  have hcls : (X.env.scope.kind == .class || (X.env.scope.kind == .module && X.env.locals != X.env.globals)) = false := by rw [I.ok.kind]; rfl
  have hiσ : i < σ.length := by rw [I.len]; exact (List.getElem?_eq_some_iff.mp hi).1
  have cne := I.cne
  have tracked : ∀ {a : Addr} {h' : Heap}, (∃ o, s.heap.get? a = some o ∧ H a = none) → Heap.SameBut a s.heap h' → HOk X.prog X.w H h' := fun {a h'} ha hs b ob e => by
    obtain ⟨_, _, hfree⟩ := ha
    refine (I.hok b ob e).stay (fun c w' hc q => (hs.2 c ?_).trans q) (fun _ q => q) fun _ _ q => q
    rintro rfl
    rcases hc with rfl | hc
    · rw [hfree] at e; cases e
    · rw [hfree] at hc; cases hc
  rcases hx with hk | hk
  · refine wpAny_storeName_local hk hn (fun h' hn' hs => ?_) hcls
    obtain ⟨oL, _, _, hoL, _⟩ := id hn
    refine h _ ⟨I.ok, I.os, I.bare, ⟨fun b o e n hb hx => ?_, fun b o e n hb hx => ?_, I.base.free, fun b o e hx => ?_, I.base.tups, I.base.frzs, I.base.tbls⟩, ⟨_, hn', fun j y v' e1 e2 e3 => ?_⟩, fun y c e => ?_, I.free, I.freeC, fun p hp => ?_, tracked ⟨oL, hoL, I.free⟩ hs, by simpa using I.len⟩ ⟨_, hs, .inl rfl⟩
    · exact (hs.2 b (Nat.ne_of_lt (Nat.lt_of_lt_of_le (Heap.lt_size e) I.ok.above))).trans (I.base.keep b o e n hb hx)
    · obtain ⟨sl, e1⟩ := I.base.slot b o e n hb hx
      exact ⟨sl, (hs.2 b (Nat.ne_of_lt (Nat.lt_of_lt_of_le (Heap.lt_size e) I.ok.above))).trans e1⟩
    · obtain ⟨o', e1⟩ := I.base.there b o e hx
      exact ⟨o', (hs.2 b (Nat.ne_of_lt (Nat.lt_of_lt_of_le (Heap.lt_size e) I.ok.above))).trans e1⟩
    · by_cases hj : j = i
      · subst hj
        rw [hi] at e1; cases e1
        rw [List.getElem?_set_self hiσ] at e2
        cases e2
        exact ⟨u, r, .inl ⟨hk, by simp⟩⟩
      · rw [List.getElem?_set_ne (Ne.symm hj)] at e2
        obtain ⟨u', r', q⟩ := hl j y v' e1 e2 e3
        refine ⟨u', r', ?_⟩
        rcases q with ⟨k, e⟩ | ⟨k, c, e, z⟩
        · refine .inl ⟨k, ?_⟩
          have : y ≠ x := fun e => hj (nodup_ix hN e1 (e ▸ hi))
          simp [this, e]
        · exact .inr ⟨k, c, e, z.sameBut hs (cne y c e)⟩
    · obtain ⟨w', z⟩ := I.cell y c e
      exact ⟨w', z.sameBut hs (cne y c e)⟩
    · obtain ⟨e, n, ne, nf, d⟩ := I.pin p hp
      exact ⟨(hs.2 p.1 ne).trans e, n, ne, nf, d⟩
  · have hfn : X.fn x = true := by
      rcases hf with z | z
      · exact z
      · rw [z] at hk; cases hk
    obtain ⟨c, hc⟩ := I.ok.has x (.inl hk)
    obtain ⟨w', z⟩ := I.cell x c hc
    refine wpAny_storeName_cell I.ok.kind hk hc z (fun h' hc' hs => ?_)
    obtain ⟨oc, hoc, hocd⟩ := id z
    refine h { s with heap := h' } ⟨I.ok, I.os, I.bare, ⟨fun b o e n hb hx => ?_, fun b o e n hb hx => ?_, I.base.free, fun b o e hx => ?_, I.base.tups, I.base.frzs, I.base.tbls⟩, ⟨m, hn.sameBut hs (Ne.symm (cne x c hc)), fun j y v' e1 e2 e3 => ?_⟩, fun y c' e => ?_, I.free, I.freeC, fun p hp => ?_, tracked ⟨oc, hoc, I.freeC x c hc⟩ hs, by simpa using I.len⟩ ⟨c, hs, .inr hc⟩
    · exact (hs.2 b (Nat.ne_of_lt (Nat.lt_of_lt_of_le (Heap.lt_size e) (I.ok.cab x c hfn hc)))).trans (I.base.keep b o e n hb hx)
    · obtain ⟨sl, e1⟩ := I.base.slot b o e n hb hx
      exact ⟨sl, (hs.2 b (Nat.ne_of_lt (Nat.lt_of_lt_of_le (Heap.lt_size e) (I.ok.cab x c hfn hc)))).trans e1⟩
    · obtain ⟨o', e1⟩ := I.base.there b o e hx
      exact ⟨o', (hs.2 b (Nat.ne_of_lt (Nat.lt_of_lt_of_le (Heap.lt_size e) (I.ok.cab x c hfn hc)))).trans e1⟩
    · by_cases hj : j = i
      · subst hj
        rw [hi] at e1; cases e1
        rw [List.getElem?_set_self hiσ] at e2
        cases e2
        exact ⟨u, r, .inr ⟨.inl hk, c, hc, hc'⟩⟩
      · rw [List.getElem?_set_ne (Ne.symm hj)] at e2
        obtain ⟨u', r', q⟩ := hl j y v' e1 e2 e3
        refine ⟨u', r', ?_⟩
        rcases q with q | ⟨k, c', e, z'⟩
        · exact .inl q
        · refine .inr ⟨k, c', e, z'.sameBut hs ?_⟩
          rintro rfl
          exact hj (nodup_ix hN e1 (I.ok.inj _ _ _ e hc ▸ hi))
    · by_cases hcc : c' = c
      · subst hcc; exact ⟨_, hc'⟩
      · obtain ⟨w2, z2⟩ := I.cell y c' e
        exact ⟨w2, z2.sameBut hs hcc⟩
    · obtain ⟨e, n, ne, nf, d⟩ := I.pin p hp
      refine ⟨(hs.2 p.1 ?_).trans e, n, ne, nf, d⟩
      intro q
      rw [q, hoc] at e
      have q' : oc = p.2 := Option.some.inj e
      exact d w' (by rw [← q']; exact hocd)
theorem store_ok {M : Model} {A : Around} {E : Value → Shared → Prop} {i : Nat} {x : Str} {v : V} {u : Value} {Q : Unit → Shared → Prop} (I : Inv X pins σ H s) (hN : X.N.Nodup) (hi : X.N[i]? = some x) (hx : Loc X.env.scope x) (r : RelV v u)
    (h : ∀ s', Inv X pins (σ.set i (some v)) H s' → Q () s') (hf : X.fn x = true ∨ X.env.scope.names.lookup x = some .local := by first | exact .inl rfl | exact .inr rfl | assumption) : wpAny M A (storeName X.env x u) Q E s :=
  store_ok2 I hN hi hx r (fun s' I' _ => h s' I') hf
theorem Inv.call' {s' : Shared} {ch : List Addr} (I : Inv X pins σ H s) (ho : s'.os = s.os) (u : Un (frs X.stack) ch H H' s.heap s'.heap) (hok : HOk X.prog X.w H' s'.heap) (hg : AllBare s'.gens)
    (hch : ∀ b ∈ ch, (b ∈ X.ex ∨ X.s₀.heap.objs.size ≤ b) ∧ b ≠ X.env.locals ∧ (∀ x c, X.env.cells.lookup x = some c → c ≠ b) ∧ ∀ p ∈ X.pn ++ pins, p.1 ≠ b) : Inv X pins σ H' s' := by
  obtain ⟨h', g', d', t', o'⟩ := s'
  have e : o' = s.os := ho
  subst e
  exact I.call (g' := g') (t' := t') (d' := d') u hok hg hch
end
abbrev XK := Value → Option Addr → Hp → Prop
abbrev St := List (Option V)
abbrev VK := V → Hp → Prop
abbrev TE := St → Hp → VK → Prop
abbrev TT := St → Hp → (Bool → Hp → Prop) → Prop
abbrev TA := St → Hp → (List V → Hp → Prop) → Prop
structure Ends where
  nx : St → Hp → Prop
  rt : VK
  bk : St → Hp → Prop := fun _ _ => False
  ct : St → Hp → Prop := fun _ _ => False
abbrev TS := Ends → St → Hp → Prop
def EP (X : Cx) (pins : List (Addr × Obj)) (σ : St) (Q : VK) (u : Value) (s' : Shared) : Prop := ∃ v H', Inv X pins σ H' s' ∧ RelV v u ∧ Q v H'
def TP (X : Cx) (pins : List (Addr × Obj)) (σ : St) (Q : Bool → Hp → Prop) (b : Bool) (s' : Shared) : Prop := ∃ H', Inv X pins σ H' s' ∧ Q b H'
def AP (X : Cx) (pins : List (Addr × Obj)) (σ : St) (Q : List V → Hp → Prop) (us : List Value) (s' : Shared) : Prop := ∃ vs H', Inv X pins σ H' s' ∧ Vals vs us ∧ Q vs H'
def SP (X : Cx) (pins : List (Addr × Obj)) (D : Ends) (f : Flow) (s' : Shared) : Prop :=
  match f with
  | .next => ∃ σ' H', Inv X pins σ' H' s' ∧ D.nx σ' H'
  | .brk => ∃ σ' H', Inv X pins σ' H' s' ∧ D.bk σ' H'
  | .cont => ∃ σ' H', Inv X pins σ' H' s' ∧ D.ct σ' H'
  | .ret u => ∃ v σ' H', Inv X pins σ' H' s' ∧ RelV v u ∧ D.rt v H'
def PE (X : Cx) (e : Expr) (t : TE) : Prop :=
  ∀ (pins : List (Addr × Obj)) (s : Shared) (σ : St) (H : Hp) (Q : VK), Inv X pins σ H s → t σ H Q → wpAny (model X.prog X.w) X.A (eval e X.env) (EP X pins σ Q) X.xe s
def PT (X : Cx) (e : Expr) (t : TT) : Prop :=
  ∀ (pins : List (Addr × Obj)) (s : Shared) (σ : St) (H : Hp) (Q : Bool → Hp → Prop), Inv X pins σ H s → t σ H Q → wpAny (model X.prog X.w) X.A (isTrue e X.env (eval e X.env)) (TP X pins σ Q) X.xe s
def PW (X : Cx) (e : Expr) (t : TT) : Prop :=
  ∀ (whole : Sem Value) (pins : List (Addr × Obj)) (s : Shared) (σ : St) (H : Hp) (Q : Bool → Hp → Prop), Inv X pins σ H s → t σ H Q → wpAny (model X.prog X.w) X.A (isTrue e X.env whole) (TP X pins σ Q) X.xe s
theorem PW.pt {X : Cx} {e : Expr} {t : TT} (h : PW X e t) : PT X e t := h _
def PA (X : Cx) (es : List Expr) (t : TA) : Prop :=
  ∀ (pos : Pos) (pins : List (Addr × Obj)) (s : Shared) (σ : St) (H : Hp) (Q : List V → Hp → Prop), Inv X pins σ H s → t σ H Q → wpAny (model X.prog X.w) X.A (spliced (backTo pos (starEach es X.env))) (AP X pins σ Q) X.xe s
def PS (X : Cx) (st : Stmt) (t : TS) : Prop :=
  ∀ (pins : List (Addr × Obj)) (s : Shared) (σ : St) (H : Hp) (D : Ends), Inv X pins σ H s → t D σ H → wpAny (model X.prog X.w) X.A (exec st X.env) (SP X pins D) X.xe s
def PSs (X : Cx) (st : List Stmt) (t : TS) : Prop :=
  ∀ (pins : List (Addr × Obj)) (s : Shared) (σ : St) (H : Hp) (D : Ends), Inv X pins σ H s → t D σ H → wpAny (model X.prog X.w) X.A (execs st X.env) (SP X pins D) X.xe s
theorem thn {α : Type} {t : Sem α} {Q Q' : α → Shared → Prop} {M : Model} {A : Around} {E : Value → Shared → Prop} {s : Shared} (h : wpAny M A t Q E s) (hQ : ∀ a s, Q a s → Q' a s) : wpAny M A t Q' E s := wpAny_mono h hQ fun _ _ x => x
end L2
namespace L2
open PySem PySem.Spec PyProof.Rows
section
variable {X : Cx}
def tVar (i : Nat) : TE := fun σ H Q => ∃ v, σ[i]? = some (some v) ∧ Q v H
def tC (v : V) : TE := fun _ H Q => Q v H
theorem pe_var {i : Nat} {x : Str} {pos : Pos} (hN : X.N[i]? = some x) (hv : Vis X.env.scope x) (hd : (x == ("__debug__" : Str)) = false := by decide) (hcd : (x == ("__classdict__" : Str)) = false := by decide) : PE X (.Name x pos) (tVar i) := by
  intro pins s σ H Q I h
  obtain ⟨v, e, h⟩ := h
  obtain ⟨m, hn, hl⟩ := I.loc
  obtain ⟨u, r, l⟩ := hl i x v hN e hv
  have fin : EP X pins σ Q u s := ⟨v, H, I, r, h⟩
  rcases l with ⟨hk, hm⟩ | ⟨hk, c, hc, hcell⟩
  · exact wpAny_Name (wpAny_loadName_local I.ok.kind hk hn hm fin) hd
  · rcases hk with hk | hk
    · exact wpAny_Name (wpAny_loadName_cell I.ok.kind hk hc hcell fin) hd
    · exact wpAny_Name (wpAny_loadName_free I.ok.kind hk hc hcell fin hcd) hd
theorem pe_int {i j pos} : PE X (.Constant (.int i) j pos) (tC (.int i)) := fun _ _ _ H _ I h => wpAny_Constant_int ⟨.int i, H, I.tok _, ⟨_, rfl⟩, h⟩
theorem pe_bl {b j pos} : PE X (.Constant (.bool b) j pos) (tC (.bl b)) := fun _ _ _ H _ I h => Constant_bool ⟨.bl b, H, I, rfl, h⟩
theorem pe_non {j pos} : PE X (.Constant .none j pos) (tC .non) := fun _ _ _ H _ I h => Constant_none ⟨.non, H, I, rfl, h⟩
theorem pe_str {x j pos} : PE X (.Constant (.str x) j pos) (tC (.str x)) := fun _ _ _ H _ I h => Calls.Constant_str ⟨.str x, H, I.tok _, ⟨_, rfl⟩, h⟩
def Gl (X : Cx) (x : Str) : Prop := X.env.kindOf x = some .globalImplicit
theorem ld_glob {E : Value → Shared → Prop} {pins : List (Addr × Obj)} {s : Shared} {σ : St} {H : Hp} {x : Str} {u : Value} {pos : Pos} {Q : Value → Shared → Prop} (I : Inv X pins σ H s) (hg : Gl X x) (hm : X.mg x = some u) (h : Q u s)
    (hd : (x == ("__debug__" : Str)) = false := by decide) : wpAny (model X.prog X.w) X.A (eval (.Name x pos) X.env) Q E s :=
  Calls.Name_function_global I.ok.kind hg (Calls.loadGlobal_global (by rw [I.ok.glob]; exact I.mod.glob.keeps I.bk) hm h) hd
theorem ld_blt {E : Value → Shared → Prop} {pins : List (Addr × Obj)} {s : Shared} {σ : St} {H : Hp} {x : Str} {u : Value} {pos : Pos} {Q : Value → Shared → Prop} (I : Inv X pins σ H s) (hg : Gl X x) (hm : X.mg x = none) (hv : bootBuiltins x = some u) (h : Q u s)
    (hn : x ≠ "__name__" := by decide) (hd : (x == ("__debug__" : Str)) = false := by decide) : wpAny (model X.prog X.w) X.A (eval (.Name x pos) X.env) Q E s := by
  obtain ⟨mb, h1, h2⟩ := I.mod.blt
  exact Calls.Name_function_global I.ok.kind hg (Calls.loadGlobal_builtin (by rw [I.ok.glob]; exact I.mod.glob.keeps I.bk) hm (by rw [I.ok.blt]; exact h1.keeps I.bk) ((h2 x hn).trans hv) h) hd
theorem pe_glob {x : Str} {v : V} {u : Value} {pos : Pos} (hg : Gl X x) (hm : X.mg x = some u) (r : RelV v u) (hd : (x == ("__debug__" : Str)) = false := by decide) : PE X (.Name x pos) (tC v) :=
  fun _ _ _ H _ I h => ld_glob I hg hm ⟨v, H, I, r, h⟩ hd
theorem pe_bltn {x : Str} {v : V} {u : Value} {pos : Pos} (hg : Gl X x) (hm : X.mg x = none) (hv : bootBuiltins x = some u) (r : RelV v u) (hn : x ≠ "__name__" := by decide) (hd : (x == ("__debug__" : Str)) = false := by decide) : PE X (.Name x pos) (tC v) :=
  fun _ _ _ H _ I h => ld_blt I hg hm hv ⟨v, H, I, r, h⟩ hn hd
variable {a b : Expr} {ta tb : TE} {pos : Pos}
def PC (X : Cx) (op : CmpOp) (a b : Expr) (t : TE) : Prop :=
  ∀ (pins : List (Addr × Obj)) (s : Shared) (σ : St) (H : Hp) (Q : VK), Inv X pins σ H s → t σ H Q →
    wpAny (model X.prog X.w) X.A (eval a X.env) (fun v s₁ => wpAny (model X.prog X.w) X.A (eval b X.env) (fun u s₂ => wpAny (model X.prog X.w) X.A (compareOp op v u) (EP X pins σ Q) X.xe s₂) X.xe s₁) X.xe s
theorem nobehind (b : Expr) {op : CmpOp} (h : op ≠ .In) (h2 : op ≠ .NotIn) : behindInMarks op b = false := by
  have e1 : (op == CmpOp.In) = false := by cases op <;> first | rfl | exact absurd rfl h
  have e2 : (op == CmpOp.NotIn) = false := by cases op <;> first | rfl | exact absurd rfl h2
  cases b <;> simp [behindInMarks, e1, e2]
def tB (t : TE) : TT := fun σ H Q => t σ H fun x H1 => ∃ c, x = .bl c ∧ Q c H1
theorem pt_cmp {op : CmpOp} {t : TE} (h : PC X op a b t) (h1 : behindInMarks op b = false := by first | exact nobehind _ (by decide) (by decide) | rfl) : PT X (.Compare a [op] [b] pos) (tB t) := by
  intro pins s σ H Q I hw
  refine wpAny_isTrue_Compare1 (thn (h pins s σ H _ I hw) fun v s1 h1 => thn h1 fun u s2 h2 => thn h2 fun c s3 ⟨x, H1, I1, r1, q1⟩ => ?_) h1
  obtain ⟨d, rfl, q⟩ := q1
  cases r1
  exact wpAny_truthy_bool ⟨H1, I1, q⟩
theorem pt_val {e : Expr} {t : TE} (h : PE X e t) (he : ∀ whole, isTrue e X.env whole = (do let v ← whole; standAt e.pos; holding [v] (truthy v)) := by intro _; rfl) : PT X e (tB t) := by
  intro pins s σ H Q I hw
  refine isTrue_plain (thn (h pins s σ H _ I hw) fun v s1 ⟨x, H1, I1, r1, q1⟩ => ?_) (he _)
  obtain ⟨d, rfl, q⟩ := q1
  cases r1
  exact wpAny_truthy_bool ⟨H1, I1, q⟩
variable {tA tB' : TT} {rest : List Expr}
def tAnd (t u : TT) : TT := fun σ H Q => t σ H fun c H1 => if c = true then u σ H1 Q else Q false H1
def tOr (t u : TT) : TT := fun σ H Q => t σ H fun c H1 => if c = true then Q true H1 else u σ H1 Q
def tNot (t : TT) : TT := fun σ H Q => t σ H fun c H1 => Q (!c) H1
theorem pw_and1 (ha : PT X a tA) : PW X (.BoolOp .And [a] pos) tA := by
  intro wh pins s σ H Q I h
  refine isTrue_and (thn (ha pins s σ H Q I h) fun c s1 e => ?_)
  cases c with
  | true => exact isTrue_and_nil e
  | false => exact e
theorem pw_or1 (ha : PT X a tA) : PW X (.BoolOp .Or [a] pos) tA := by
  intro wh pins s σ H Q I h
  refine isTrue_or (thn (ha pins s σ H Q I h) fun c s1 e => ?_)
  cases c with
  | false => exact isTrue_or_nil e
  | true => exact e
theorem pw_and (ha : PT X a tA) (hb : PW X (.BoolOp .And (b :: rest) pos) tB') : PW X (.BoolOp .And (a :: b :: rest) pos) (tAnd tA tB') := by
  intro wh pins s σ H Q I h
  refine isTrue_and (thn (ha pins s σ H _ I h) fun c s1 ⟨H1, I1, q1⟩ => ?_)
  cases c with
  | true => exact hb wh pins s1 σ H1 Q I1 q1
  | false => exact ⟨H1, I1, q1⟩
theorem pw_or (ha : PT X a tA) (hb : PW X (.BoolOp .Or (b :: rest) pos) tB') : PW X (.BoolOp .Or (a :: b :: rest) pos) (tOr tA tB') := by
  intro wh pins s σ H Q I h
  refine isTrue_or (thn (ha pins s σ H _ I h) fun c s1 ⟨H1, I1, q1⟩ => ?_)
  cases c with
  | true => exact ⟨H1, I1, q1⟩
  | false => exact hb wh pins s1 σ H1 Q I1 q1
theorem pt_not (ha : PT X a tA) : PT X (.UnaryOp .Not a pos) (tNot tA) := by
  intro pins s σ H Q I h
  exact isTrue_not (ha pins s σ H (fun c H1 => Q (!c) H1) I h)
def tAndV (ta tb : TE) : TE := fun σ H Q => ta σ H fun x H1 => ∃ c, x = .bl c ∧ if c = true then tb σ H1 Q else Q (.bl false) H1
def tNotV (ta : TE) : TE := fun σ H Q => ta σ H fun x H1 => ∃ c, x = .bl c ∧ Q (.bl (!c)) H1
theorem pe_one {op} {t : TE} (h : PE X a t) : PE X (.BoolOp op [a] pos) t := fun pins s σ H Q I hw => BoolOp_one (h pins s σ H Q I hw)
theorem pe_and (ha : PE X a ta) (hb : PE X (.BoolOp .And (b :: rest) pos) tb) : PE X (.BoolOp .And (a :: b :: rest) pos) (tAndV ta tb) := by
  intro pins s σ H Q I h
  refine BoolOp_and (thn (ha pins s σ H _ I h) fun v s1 ⟨x, H1, I1, r1, q1⟩ => ?_)
  obtain ⟨c, rfl, q1⟩ := q1
  cases r1
  refine wpAny_truthy_bool ?_
  cases c with
  | true => exact hb pins s1 σ H1 Q I1 q1
  | false => exact ⟨.bl false, H1, I1, rfl, q1⟩
theorem pe_not (ha : PE X a ta) : PE X (.UnaryOp .Not a pos) (tNotV ta) := by
  intro pins s σ H Q I h
  refine UnaryOp_ (thn (ha pins s σ H _ I h) fun v s1 ⟨x, H1, I1, r1, q1⟩ => ?_)
  obtain ⟨c, rfl, q1⟩ := q1
  cases r1
  exact not_of (wpAny_truthy_bool ⟨.bl (!c), H1, I1, rfl, q1⟩)
def tIf (t : TT) (ta tb : TE) : TE := fun σ H Q => t σ H fun c H1 => if c = true then ta σ H1 Q else tb σ H1 Q
theorem pe_ifExp {c : Expr} (hc : PT X c tA) (ha : PE X a ta) (hb : PE X b tb) : PE X (.IfExp c a b pos) (tIf tA ta tb) := by
  intro pins s σ H Q I h
  refine wpAny_IfExp (thn (hc pins s σ H _ I h) fun d s1 ⟨H1, I1, q1⟩ => ?_)
  cases d with
  | true => exact ha pins s1 σ H1 Q I1 q1
  | false => exact hb pins s1 σ H1 Q I1 q1
end
end L2
namespace L2
open PySem PySem.Spec PyProof.Rows
def SqL (K : PySem.W.Frag) (H : Hp) (a : Addr) (xs : List V) : Prop :=
  Rd H a (.lst xs) ∨
    ∃ (o : Obj) (its : Array Value) (n : Nat), K.lookup a = some o ∧ o.cls = .type "list" ∧ o.dict = none ∧ o.data = .seq its n ∧ its.size ≤ sizeLine ∧ Vals xs its.toList
def SqT (K : PySem.W.Frag) (H : Hp) (a : Addr) (xs : List V) : Prop :=
  Rd H a (.tup xs) ∨
    ∃ (o : Obj) (its : Array Value) (n : Nat), K.lookup a = some o ∧ o.cls = .type "tuple" ∧ o.data = .seq its n ∧ its.size ≤ sizeLine ∧ Vals xs its.toList
def absV : Value → Option V
  | .none => some .non
  | .bool b => some (.bl b)
  | .int i _ => some (.int i)
  | .str x _ => some (.str x)
  | .bytes b _ => some (.byt b)
  | .float b _ => some (.flt b)
  | .ref a => some (.ref a)
  | .type n => some (.ty n)
  | _ => none
theorem RelV.abs {x : V} {u : Value} (r : RelV x u) : absV u = some x := by
  cases x with
  | non => cases r; rfl
  | bl _ => cases r; rfl
  | int _ => obtain ⟨t, rfl⟩ := r; rfl
  | str _ => obtain ⟨t, rfl⟩ := r; rfl
  | byt _ => obtain ⟨t, rfl⟩ := r; rfl
  | flt _ => obtain ⟨t, rfl⟩ := r; rfl
  | ref _ => cases r; rfl
  | ty _ => cases r; rfl
theorem RelV.inj {x y : V} {u : Value} (r : RelV x u) (q : RelV y u) : x = y := Option.some.inj (r.abs.symm.trans q.abs)
theorem Vals.inj : ∀ {xs ys : List V} {us : List Value}, Vals xs us → Vals ys us → xs = ys
  | _, _, _, .nil, .nil => rfl
  | _, _, _, .cons r t, .cons r' t' => by rw [r.inj r', Vals.inj t t']
section
variable {X : Cx} {pins : List (Addr × Obj)} {σ : St} {H : Hp} {s : Shared} {a : Addr} {xs ys : List V}
theorem SqL.of {K : PySem.W.Frag} (h : H a = some (.lst xs)) : SqL K H a xs := .inl (.inl h)
theorem SqT.of {K : PySem.W.Frag} (h : H a = some (.tup xs)) : SqT K H a xs := .inl (.inl h)
theorem Inv.list (I : Inv X pins σ H s) (h : SqL X.K H a xs) : ∃ its : List Value, Vals xs its ∧ PlainL s.heap a its.toArray ∧ xs.length ≤ sizeLine := by
  rcases h with h | ⟨o, its, n, hk, hc, hd, hs, hz, r⟩
  · obtain ⟨z, its, n, r, e⟩ := h.ok I.hok
    exact ⟨its, r, ⟨_, n, e, rfl, rfl, rfl⟩, z⟩
  · refine ⟨its.toList, r, ⟨o, n, I.kIn a o hk, hc, hd, by simpa using hs⟩, ?_⟩
    have e := r.length
    simp only [Array.length_toList] at e
    omega
theorem Inv.tuple (I : Inv X pins σ H s) (h : SqT X.K H a xs) : ∃ its : List Value, Vals xs its ∧ IsTup s.heap a its.toArray ∧ xs.length ≤ sizeLine := by
  rcases h with h | ⟨o, its, n, hk, hc, hs, hz, r⟩
  · obtain ⟨z, its, r, p⟩ := h.ok I.hok
    exact ⟨its, r, p, z⟩
  · refine ⟨its.toList, r, ⟨o, I.kIn a o hk, hc, n, by simpa using hs⟩, ?_⟩
    have e := r.length
    simp only [Array.length_toList] at e
    omega
theorem Inv.list_inj (I : Inv X pins σ H s) (h : SqL X.K H a xs) (h' : SqL X.K H a ys) : xs = ys := by
  obtain ⟨its, r, ⟨o, n, e, _, _, d⟩, _⟩ := I.list h
  obtain ⟨its', r', ⟨o', n', e', _, _, d'⟩, _⟩ := I.list h'
  rw [e] at e'; cases e'
  rw [d] at d'
  injection d' with d1 _
  have : its = its' := by simpa using congrArg Array.toList d1
  subst this
  exact r.inj r'
theorem Inv.tuple_inj (I : Inv X pins σ H s) (h : SqT X.K H a xs) (h' : SqT X.K H a ys) : xs = ys := by
  obtain ⟨its, r, ⟨o, e, _, n, d⟩, _⟩ := I.tuple h
  obtain ⟨its', r', ⟨o', e', _, n', d'⟩, _⟩ := I.tuple h'
  rw [e] at e'; cases e'
  rw [d] at d'
  injection d' with d1 _
  have : its = its' := by simpa using congrArg Array.toList d1
  subst this
  exact r.inj r'
end
abbrev Cx.wish (X : Cx) (E : Value → Shared → Prop) : Cx := { X with xe := E }
abbrev Cx.nox (X : Cx) : Cx := X.wish fun _ _ => False
theorem Cx.Ok.wish {X : Cx} (ok : X.Ok) (E : Value → Shared → Prop) : (X.wish E).Ok :=
  ⟨ok.mod, ok.kind, ok.glob, ok.blt, ok.above, ok.inj, ok.has, ok.cab, ok.hd, ok.frames, ok.stk, ok.exf, ok.bs, ok.bsz, ok.noex, ok.exfs, ok.funs, ok.frf⟩
theorem Cx.Ok.unwish {X : Cx} {E : Value → Shared → Prop} (ok : (X.wish E).Ok) : X.Ok :=
  ⟨ok.mod, ok.kind, ok.glob, ok.blt, ok.above, ok.inj, ok.has, ok.cab, ok.hd, ok.frames, ok.stk, ok.exf, ok.bs, ok.bsz, ok.noex, ok.exfs, ok.funs, ok.frf⟩
section
variable {X : Cx} {pins : List (Addr × Obj)} {σ : St} {H : Hp} {s : Shared} {E : Value → Shared → Prop}
theorem Inv.wish (I : Inv X pins σ H s) (E : Value → Shared → Prop) : Inv (X.wish E) pins σ H s := ⟨I.ok.wish E, I.os, I.bare, I.base, I.loc, I.cell, I.free, I.freeC, I.pin, I.hok, I.len⟩
theorem Inv.unwish (I : Inv (X.wish E) pins σ H s) : Inv X pins σ H s := ⟨I.ok.unwish, I.os, I.bare, I.base, I.loc, I.cell, I.free, I.freeC, I.pin, I.hok, I.len⟩
theorem SP.unwish {D : Ends} {f : Flow} {s' : Shared} (h : SP (X.wish E) pins D f s') : SP X pins D f s' := by
  cases f with
  | next => obtain ⟨σ', H', I, q⟩ := h; exact ⟨σ', H', I.unwish, q⟩
  | brk => obtain ⟨σ', H', I, q⟩ := h; exact ⟨σ', H', I.unwish, q⟩
  | cont => obtain ⟨σ', H', I, q⟩ := h; exact ⟨σ', H', I.unwish, q⟩
  | ret u => obtain ⟨v, σ', H', I, r, q⟩ := h; exact ⟨v, σ', H', I.unwish, r, q⟩
theorem PE.nox {e : Expr} {t : TE} (h : PE X.nox e t) : PE X e t := fun pins s σ H Q I hw =>
  wpAny_mono (h pins s σ H Q (I.wish _) hw) (fun _ _ ⟨v, H', I', r, q⟩ => ⟨v, H', I'.unwish, r, q⟩) fun _ _ z => False.elim z
theorem PT.nox {e : Expr} {t : TT} (h : PT X.nox e t) : PT X e t := fun pins s σ H Q I hw =>
  wpAny_mono (h pins s σ H Q (I.wish _) hw) (fun _ _ ⟨H', I', q⟩ => ⟨H', I'.unwish, q⟩) fun _ _ z => False.elim z
theorem PSs.nox {st : List Stmt} {t : TS} (h : PSs X.nox st t) : PSs X st t := fun pins s σ H D I hw =>
  wpAny_mono (h pins s σ H D (I.wish _) hw) (fun _ _ q => q.unwish) fun _ _ z => False.elim z
end
section
variable {X : Cx} {st : Stmt} {rest : List Stmt} {t u : TS} {e : Expr} {te : TE} {pos : Pos}
def tNext : TS := fun D σ H => D.nx σ H
def tSeq (t u : TS) : TS := fun D σ H => t { D with nx := u D } σ H
theorem pss_nil : PSs X [] tNext := fun _ _ σ H _ I h => wpAny_execs_nil ⟨σ, H, I, h⟩
theorem pss_cons (h1 : PS X st t) (h2 : PSs X rest u) : PSs X (st :: rest) (tSeq t u) := by
  intro pins s σ H D I h
  refine wpAny_execs_cons (thn (h1 pins s σ H { D with nx := u D } I h) fun f s1 q => ?_)
  cases f with
  | next =>
    obtain ⟨σ', H', I', q⟩ := q
    exact h2 pins s1 σ' H' D I' q
  | ret v => exact q
  | brk => exact q
  | cont => exact q
theorem pss_one (h1 : PS X st t) : PSs X [st] t := by
  intro pins s σ H D I h
  refine wpAny_execs_cons (thn (h1 pins s σ H D I h) fun f s1 q => ?_)
  cases f with
  | next => exact wpAny_execs_nil q
  | ret v => exact q
  | brk => exact q
  | cont => exact q
theorem Inv.quiet {pins : List (Addr × Obj)} {σ : St} {H : Hp} {s : Shared} (I : Inv X pins σ H s) : interactive X.env = false := by simp [interactive, I.ok.kind]
def tDrop (te : TE) : TS := fun D σ H => te σ H fun _ H1 => D.nx σ H1
theorem ps_expr (he : PE X e te) (hs : swapsWith e none pos.line X.env = pure false := by rfl) : PS X (.Expr e pos) (tDrop te) := by
  intro pins s σ H D I h
  exact wpAny_Expr_any (thn (he pins s σ H _ I h) fun v s1 ⟨x, H1, I1, r1, q1⟩ => ⟨σ, H1, I1, q1⟩) I.quiet hs
def tRet (te : TE) : TS := fun D σ H => te σ H D.rt
theorem ps_ret (he : PE X e te) : PS X (.Return (some e) pos) (tRet te) := by
  intro pins s σ H D I h
  exact wpAny_Return_some (thn (he pins s σ H _ I h) fun v s1 ⟨x, H1, I1, r1, q1⟩ => ⟨x, σ, H1, I1, r1, q1⟩)
def tIfS (c : TT) (t u : TS) : TS := fun D σ H => c σ H fun b H1 => if b = true then t D σ H1 else u D σ H1
theorem ps_if {c : Expr} {a b : List Stmt} {tc : TT} (hc : PT X c tc) (ha : PSs X a t) (hb : PSs X b u) : PS X (.If c a b pos) (tIfS tc t u) := by
  intro pins s σ H D I h
  refine wpAny_If (thn (hc pins s σ H _ I h) fun d s1 ⟨H1, I1, q1⟩ => ?_)
  cases d with
  | true => exact ha pins s1 σ H1 D I1 q1
  | false => exact hb pins s1 σ H1 D I1 q1
def tNever : TS := fun _ _ _ => False
theorem ps_never : PS X st tNever := fun _ _ _ _ _ _ h => h.elim
end
abbrev TG := V → St → Hp → (St → Hp → Prop) → Prop
abbrev TGs := List V → St → Hp → (St → Hp → Prop) → Prop
def PG (X : Cx) (target : Expr) (t : TG) : Prop :=
  ∀ (pins : List (Addr × Obj)) (s : Shared) (σ : St) (H : Hp) (v : V) (u : Value) (Q : St → Hp → Prop), Inv X pins σ H s → RelV v u → t v σ H Q →
    wpAny (model X.prog X.w) X.A (assign target X.env u) (fun _ s' => ∃ σ' H', Inv X pins σ' H' s' ∧ Q σ' H') X.xe s
def PGs (X : Cx) (ts : List Expr) (t : TGs) : Prop :=
  ∀ (pins : List (Addr × Obj)) (s : Shared) (σ : St) (H : Hp) (vs : List V) (us : List Value) (Q : St → Hp → Prop), Inv X pins σ H s → Vals vs us → t vs σ H Q →
    wpAny (model X.prog X.w) X.A (assignInOrder ((assignEach ts X.env).map (·.2)) us) (fun _ s' => ∃ σ' H', Inv X pins σ' H' s' ∧ Q σ' H') X.xe s
abbrev TSet := V → V → V → Hp → (Hp → Prop) → Prop
def PSet (X : Cx) (t : TSet) : Prop :=
  ∀ (pins : List (Addr × Obj)) (s : Shared) (σ : St) (H : Hp) (o i v : V) (ov iv u : Value) (Q : Hp → Prop), Inv X pins σ H s → RelV o ov → RelV i iv → RelV v u → t o i v H Q →
    wpAny (model X.prog X.w) X.A (setItem ov iv u) (fun _ s' => ∃ H', Inv X pins σ H' s' ∧ Q H') X.xe s
abbrev TIp := V → V → Hp → VK → Prop
def PIp (X : Cx) (op : Operator) (t : TIp) : Prop :=
  ∀ (pins : List (Addr × Obj)) (s : Shared) (σ : St) (H : Hp) (x y : V) (v u : Value) (Q : VK), Inv X pins σ H s → RelV x v → RelV y u → t x y H Q →
    wpAny (model X.prog X.w) X.A (inplaceOp op v u) (EP X pins σ Q) X.xe s
section
variable {X : Cx} {pos : Pos}
def gName (i : Nat) : TG := fun v σ H Q => Q (σ.set i (some v)) H
theorem pg_name {i : Nat} {x : Str} (hN : X.N.Nodup) (hi : X.N[i]? = some x) (hx : Loc X.env.scope x) (hf : X.fn x = true ∨ X.env.scope.names.lookup x = some .local := by first | exact .inl rfl | exact .inr rfl | assumption) : PG X (.Name x pos) (gName i) := by
  intro pins s σ H v u Q I r h
  exact wpAny_assign_Name (store_ok I hN hi hx r (fun s' I' => ⟨_, H, I', h⟩) hf)
def gNil : TGs := fun vs σ H Q => vs = [] ∧ Q σ H
def gCons (t : TG) (u : TGs) : TGs := fun vs σ H Q => ∃ v r, vs = v :: r ∧ t v σ H fun σ' H' => u r σ' H' Q
theorem pgs_nil : PGs X [] gNil := by
  intro pins s σ H vs us Q I r h
  obtain ⟨e, h⟩ := h
  subst e
  cases r
  exact assignInOrder_nil ⟨σ, H, I, h⟩
theorem pgs_cons {e : Expr} {es : List Expr} {t : TG} {u : TGs} (h1 : PG X e t) (h2 : PGs X es u)
    (hs : (assignEach (e :: es) X.env).map (·.2) = assign e X.env :: (assignEach es X.env).map (·.2) := by rfl) : PGs X (e :: es) (gCons t u) := by
  intro pins s σ H vs us Q I r h
  obtain ⟨v, vr, e1, h⟩ := h
  subst e1
  cases r with
  | cons r rr =>
    rw [hs]
    refine assignInOrder_cons (thn (h1 pins s σ H _ _ _ I r h) fun _ s1 ⟨σ1, H1, I1, q1⟩ => ?_)
    exact h2 pins s1 σ1 H1 _ _ Q I1 rr q1
def gTup (K : PySem.W.Frag) (n : Nat) (t : TGs) : TG := fun v σ H Q => ∃ a xs, v = .ref a ∧ SqT K H a xs ∧ xs.length = n ∧ t xs σ H Q
theorem pg_tup {es : List Expr} {k : Nat} {t : TGs} {n : Nat} (hc : X.calm = true) (h : PGs X es t)
    (hn : (assignEach es X.env).length = n := by rfl) (hst : (assignEach es X.env).findIdx? (·.1) = none := by rfl) : PG X (.Tuple es k pos) (gTup X.K n t) := by
  intro pins s σ H v u Q I r hw
  obtain ⟨a, xs, e1, hq, hl, hw⟩ := hw
  subst e1
  cases r
  obtain ⟨its, rv, ht, hz⟩ := I.tuple hq
  refine assign_Tuple_tuple (I.ok.hd hc) ht (by simp [hn, ← hl, rv.length]) hst fun h' hx => ?_
  have I1 : Inv X pins σ H { s with heap := h' } := I.kept (t' := s.toks) fun b o e => hx b o (Nat.ne_of_lt (Heap.lt_size e)) e
  exact h pins _ σ H xs _ Q I1 (by simpa using rv) hw
def tAsg (te : TE) (g : TG) : TS := fun D σ H => te σ H fun x H1 => g x σ H1 D.nx
theorem ps_asg {tg e : Expr} {te : TE} {g : TG} (he : PE X e te) (hg : PG X tg g) (hs : swapsWithSole [tg] e pos.line X.env = pure false := by rfl) (hw : swappedStores [tg] e X.env = pure none := by rfl)
    (h1 : (assignEach [tg] X.env).map (·.2) = [assign tg X.env] := by rfl) : PS X (.Assign [tg] e pos) (tAsg te g) := by
  intro pins s σ H D I h
  refine wpAny_Assign_stores (thn (he pins s σ H _ I h) fun v s1 ⟨x, H1, I1, r1, q1⟩ => ?_) hs hw
  rw [h1]
  exact thn (hg pins s1 σ H1 x v _ I1 r1 q1) fun _ s2 q => q
theorem ps_set {i : Nat} {x : Str} {e : Expr} {te : TE} {pos' : Pos} (hN : X.N.Nodup) (hi : X.N[i]? = some x) (hx : Loc X.env.scope x) (he : PE X e te) (hs : swapsWith e (some (.Name x pos')) pos.line X.env = pure false := by rfl) (hf : X.fn x = true ∨ X.env.scope.names.lookup x = some .local := by first | exact .inl rfl | exact .inr rfl | assumption) :
    PS X (.Assign [.Name x pos'] e pos) (tAsg te (gName i)) := by
  intro pins s σ H D I h
  refine wpAny_Assign_Name (thn (he pins s σ H _ I h) fun v s1 ⟨y, H1, I1, r1, q1⟩ => ?_) hs
  exact store_ok I1 hN hi hx r1 (fun s2 I2 => ⟨_, H1, I2, q1⟩) hf
def tAug (i : Nat) (te : TE) (ti : TIp) : TS := fun D σ H => ∃ x, σ[i]? = some (some x) ∧ te σ H fun y H1 => ti x y H1 fun z H2 => D.nx (σ.set i (some z)) H2
theorem ps_aug {i : Nat} {x : Str} {e : Expr} {te : TE} {op : Operator} {ti : TIp} {pos' : Pos} (hN : X.N.Nodup) (hi : X.N[i]? = some x) (hx : Loc X.env.scope x) (he : PE X e te) (ho : PIp X op ti) (hf : X.fn x = true ∨ X.env.scope.names.lookup x = some .local := by first | exact .inl rfl | exact .inr rfl | assumption) :
    PS X (.AugAssign (.Name x pos') op e pos) (tAug i te ti) := by
  intro pins s σ H D I h
  obtain ⟨v, e1, h⟩ := h
  obtain ⟨m, hn, hl⟩ := I.loc
  have vis : Vis X.env.scope x := by rcases hx with k | k; exact .inl k; exact .inr (.inl k)
  obtain ⟨u, r, l⟩ := hl i x v hi e1 vis
  refine wpAny_AugAssign_Name ?_
  have go : wpAny (model X.prog X.w) X.A (eval e X.env) (fun w s₂ => wpAny (model X.prog X.w) X.A (inplaceOp op u w) (fun r s₃ => wpAny (model X.prog X.w) X.A (storeName X.env x r) (fun _ => SP X pins D .next) X.xe s₃) X.xe s₂) X.xe s := by
    refine thn (he pins s σ H _ I h) fun w s1 ⟨y, H1, I1, r1, q1⟩ => ?_
    refine thn (ho pins s1 σ H1 v y u w _ I1 r r1 q1) fun z s2 ⟨zv, H2, I2, r2, q2⟩ => ?_
    exact store_ok I2 hN hi hx r2 (fun s3 I3 => ⟨_, H2, I3, q2⟩) hf
  rcases l with ⟨hk, hm⟩ | ⟨hk, c, hc, hcell⟩
  · exact wpAny_loadName_local I.ok.kind hk hn hm go
  · rcases hk with hk | hk
    · exact wpAny_loadName_cell I.ok.kind hk hc hcell go
    · rcases hx with k | k
      · have : X.env.scope.names.lookup x = some .free := hk
        rw [k] at this; cases this
      · have : X.env.scope.names.lookup x = some .free := hk
        rw [k] at this; cases this
def tAugS (to ti te : TE) (tget : V → V → Hp → VK → Prop) (tip : TIp) (tset : TSet) : TS := fun D σ H => to σ H fun o H1 => ti σ H1 fun i H2 => tget o i H2 fun x H3 => te σ H3 fun y H4 => tip x y H4 fun z H5 => tset o i z H5 fun H6 => D.nx σ H6
def PGet (X : Cx) (t : V → V → Hp → VK → Prop) : Prop :=
  ∀ (pins : List (Addr × Obj)) (s : Shared) (σ : St) (H : Hp) (o i : V) (ov iv : Value) (Q : VK), Inv X pins σ H s → RelV o ov → RelV i iv → t o i H Q →
    wpAny (model X.prog X.w) X.A (getItem ov iv) (EP X pins σ Q) X.xe s
theorem ps_augS {o i e : Expr} {to ti te : TE} {tget : V → V → Hp → VK → Prop} {tip : TIp} {tset : TSet} {op : Operator} {tpos : Pos} (ho : PE X o to) (hi : PE X i ti) (hg : PGet X tget) (he : PE X e te) (hp : PIp X op tip) (hs : PSet X tset)
    (ha : ∀ ov iv new, augStore i ov iv new = (do holding [new, ov, iv] (setItem ov iv new); release [new, ov, iv] []; pure .next) := by intros; rfl) : PS X (.AugAssign (.Subscript o i tpos) op e pos) (tAugS to ti te tget tip tset) := by
  intro pins s σ H D I h
  refine wpAny_AugAssign_SubscriptAny (thn (ho pins s σ H _ I h) fun ov s1 ⟨x1, H1, I1, r1, q1⟩ => ?_) ha
  refine thn (hi pins s1 σ H1 _ I1 q1) fun iv s2 ⟨x2, H2, I2, r2, q2⟩ => ?_
  refine thn (hg pins s2 σ H2 x1 x2 ov iv _ I2 r1 r2 q2) fun old s3 ⟨x3, H3, I3, r3, q3⟩ => ?_
  refine thn (he pins s3 σ H3 _ I3 q3) fun v s4 ⟨x4, H4, I4, r4, q4⟩ => ?_
  refine thn (hp pins s4 σ H4 x3 x4 old v _ I4 r3 r4 q4) fun new s5 ⟨x5, H5, I5, r5, q5⟩ => ?_
  exact thn (hs pins s5 σ H5 x1 x2 x5 ov iv new _ I5 r1 r2 r5 q5) fun _ s6 ⟨H6, I6, q6⟩ => ⟨σ, H6, I6, q6⟩
def ipI (f : Int → Int → Int) : TIp := fun x y H Q => ∃ i j, x = .int i ∧ y = .int j ∧ Q (.int (f i j)) H
theorem ip_add : PIp X .Add (ipI fun i j => i + j) := by
  intro pins s σ H x y v u Q I r1 r2 h
  obtain ⟨i, j, e1, e2, q⟩ := h
  subst e1; subst e2
  obtain ⟨t, rfl⟩ := r1
  obtain ⟨t', rfl⟩ := r2
  exact iadd_int ⟨.int _, H, I.tok _, ⟨_, rfl⟩, q⟩
end
section
variable {X : Cx} {pos : Pos}
def tWhile (c : TT) (tb : TS) : TS := fun D σ H => ∃ W : Nat → St → Hp → Prop, (∃ m, W m σ H) ∧ ∀ m σ H, W m σ H →
  c σ H fun b H1 => if b = true then ∃ N : St → Hp → Prop, (∀ σ' H', N σ' H' → ∃ m', m' < m ∧ W m' σ' H') ∧ tb { D with nx := N, ct := N, bk := D.nx } σ H1 else D.nx σ H1
theorem ps_while {c : Expr} {body : List Stmt} {tc : TT} {tb : TS} (hp : PassesOwn (model X.prog X.w) X.A X.env X.xe) (hc : PT X c tc) (hb : PSs X body tb) : PS X (.While c body [] pos) (tWhile tc tb) := by
  intro pins s σ H D I h
  obtain ⟨W, ⟨m0, w0⟩, turn⟩ := h
  refine wpAny_While (codeAny_whileLoop (fun n s' => ∃ σ' H', Inv X pins σ' H' s' ∧ W n σ' H') ?_ m0 ⟨σ, H, I, w0⟩)
  rintro n s1 ⟨σ1, H1, I1, w1⟩
  refine wpAny_passesOwn hp (thn (hc pins s1 σ1 H1 _ I1 (turn n σ1 H1 w1)) fun b s2 ⟨H2, I2, q2⟩ => ?_)
  cases b with
  | true =>
    obtain ⟨N, hN, q2⟩ := q2
    rw [if_pos rfl]
    refine wpAny_passesOwn hp (thn (hb pins s2 σ1 H2 _ I2 q2) fun f s3 q3 => ?_)
    cases f with
    | next =>
      obtain ⟨σ3, H3, I3, n3⟩ := q3
      obtain ⟨m', hm, w3⟩ := hN σ3 H3 n3
      exact ⟨m', hm, σ3, H3, I3, w3⟩
    | cont =>
      obtain ⟨σ3, H3, I3, n3⟩ := q3
      obtain ⟨m', hm, w3⟩ := hN σ3 H3 n3
      exact ⟨m', hm, σ3, H3, I3, w3⟩
    | brk => exact q3
    | ret v => exact q3
  | false =>
    rw [if_neg Bool.false_ne_true]
    exact wpAny_execs_nil ⟨σ1, H2, I2, q2⟩
end
structure It where
  go : Nat → Hp → Prop
  yld : Nat → Hp → V → Hp → Prop
  stop : Nat → Hp → Prop
def FpOk (X : Cx) (pins : List (Addr × Obj)) (H : Hp) (b : Addr) : Prop :=
  H b = none ∧ b ≠ X.env.locals ∧ b ∉ X.fs ∧ (b ∈ X.ex ∨ X.s₀.heap.objs.size ≤ b) ∧ (∀ x c, X.env.cells.lookup x = some c → c ≠ b) ∧ ∀ p ∈ X.pn ++ pins, p.1 ≠ b
theorem Inv.fpOk {X : Cx} {pins : List (Addr × Obj)} {σ : St} {H H' : Hp} {s : Shared} {b : Addr} (I : Inv X pins σ H s) (hb : s.heap.objs.size ≤ b) (hn : H' b = none) : FpOk X pins H' b := by
  refine ⟨hn, Nat.ne_of_gt (Nat.lt_of_lt_of_le I.lt hb), I.nofs hb, .inr (Nat.le_trans I.sz hb), fun x c e z => ?_, fun p hp z => ?_⟩
  · obtain ⟨v, q⟩ := I.cell x c e
    exact absurd (Nat.lt_of_lt_of_le q.lt (by rw [z]; exact hb)) (Nat.lt_irrefl _)
  · exact absurd (Nat.lt_of_lt_of_le (Heap.lt_size (I.pin p hp).1) (by rw [z]; exact hb)) (Nat.lt_irrefl _)
structure Turn (P : Program) (w : World) (K : PySem.W.Frag) (tg : Expr) (J : It) (fp : List Addr) (it : Addr) (tn : Nat → Heap → Prop) : Prop where
  mem : it ∈ fp
  obj : ∀ i h, tn i h → ∀ b ∈ fp, ∃ o, h.get? b = some o ∧ ∀ v, o.data ≠ .cell v
  keep : ∀ i h h', tn i h → (∀ b ∈ fp, ∀ o, h.get? b = some o → h'.get? b = some o) → tn i h'
  item : ∀ (X : Cx), X.prog = P → X.w = w → X.K = K → X.calm = true → ∀ (i : Nat) (pins : List (Addr × Obj)) (s : Shared) (σ : St) (H : Hp) (E : Value → Shared → Prop), Inv X pins σ H s → (∀ b ∈ fp, FpOk X pins H b) → tn i s.heap → J.go i H →
    wpAny (model P w) X.A (pyNext (.ref it)) (fun r s1 => ∃ u, r = some u ∧
      wpAny (model P w) X.A (letOwnedTupleGo tg (.ref it) u) (fun _ s2 => ∃ x H', Inv X pins σ H' s2 ∧ RelV x u ∧ J.yld i H x H' ∧ tn (i + 1) s2.heap ∧ ∀ b ∈ fp, H' b = none) E s1) E s
  done : ∀ (X : Cx), X.prog = P → X.w = w → X.K = K → X.calm = true → ∀ (i : Nat) (pins : List (Addr × Obj)) (s : Shared) (σ : St) (H : Hp) (E : Value → Shared → Prop), Inv X pins σ H s → (∀ b ∈ fp, FpOk X pins H b) → tn i s.heap → J.stop i H →
    wpAny (model P w) X.A (pyNext (.ref it)) (fun r s1 => r = none ∧ Inv X pins σ H s1) E s
  self : ∀ (A : Around) (i : Nat) (s : Shared) (Q : Value → Shared → Prop) (E : Value → Shared → Prop), tn i s.heap → Q (.ref it) s → wpAny (model P w) A (pyIter (.ref it)) Q E s
abbrev TI := St → Hp → (It → Hp → Prop) → Prop
def PIE (X : Cx) (pins : List (Addr × Obj)) (σ : St) (tg : Expr) (R : It → Hp → Prop) (itv : Value) (s2 : Shared) : Prop :=
  ∃ (it : Addr) (fp : List Addr) (tn : Nat → Heap → Prop) (J : It) (H' : Hp), itv = .ref it ∧ Inv X pins σ H' s2 ∧ Turn X.prog X.w X.K tg J fp it tn ∧ tn 0 s2.heap ∧ (∀ b ∈ fp, FpOk X pins H' b) ∧ R J H'
def PI (X : Cx) (tg iter : Expr) (wi : TI) : Prop :=
  ∀ (pins : List (Addr × Obj)) (s : Shared) (σ : St) (H : Hp) (R : It → Hp → Prop), Inv X pins σ H s → wi σ H R →
    wpAny (model X.prog X.w) X.A (eval iter X.env) (fun v s1 => wpAny (model X.prog X.w) X.A (pyIter v) (PIE X pins σ tg R) X.xe s1) X.xe s
theorem go_of {M : Model} {A : Around} {E : Value → Shared → Prop} {s : Shared} {tg : Expr} {it : Addr} {u : Value} {o : Obj} {n : String} {vs : Array Value} {Q : Unit → Shared → Prop} (ho : s.heap.get? it = some o) (hc : o.cls = .type n) (hd : o.data = .fields vs)
    (hn : ["enumerate", "zip", "dict_itemiterator", "dict_reverseitemiterator", "odict_iterator", "itertools.zip_longest", "itertools.pairwise"].contains n = false) (hQ : Q () s) : wpAny M A (letOwnedTupleGo tg (.ref it) u) Q E s := by
  unfold letOwnedTupleGo
  cases tg <;> first
    | exact wpAny_pure hQ
    | (cases u <;> first
        | exact wpAny_pure hQ
        | (refine wpAny_bind (wpAny_load ho ?_)
           rw [hc, hd]
           show wpAny M A (if (["enumerate", "zip", "dict_itemiterator", "dict_reverseitemiterator", "odict_iterator", "itertools.zip_longest", "itertools.pairwise"].contains n && vs[0]? == some (rawInt _)) = true then _ else _) Q E s
           rw [if_neg (by intro h; rw [hn, Bool.false_and] at h; cases h)]
           exact wpAny_pure hQ))
def Itl (K : PySem.W.Frag) (a : Addr) : It :=
  ⟨fun i H => ∃ xs x, SqL K H a xs ∧ xs[i]? = some x, fun i H x H' => H' = H ∧ ∀ xs, SqL K H a xs → xs[i]? = some x, fun i H => ∃ xs, SqL K H a xs ∧ xs.length ≤ i⟩
def Itt (K : PySem.W.Frag) (a : Addr) : It :=
  ⟨fun i H => ∃ xs x, SqT K H a xs ∧ xs[i]? = some x, fun i H x H' => H' = H ∧ ∀ xs, SqT K H a xs → xs[i]? = some x, fun i H => ∃ xs, SqT K H a xs ∧ xs.length ≤ i⟩
def Itr (lo : Int) (n : Nat) : It := ⟨fun i _ => i < n, fun i H x H' => H' = H ∧ x = .int (lo + i), fun i _ => n ≤ i⟩
theorem turn_list {P : Program} {w : World} {K : PySem.W.Frag} {tg : Expr} (a it : Addr) : Turn P w K tg (Itl K a) [it] it (fun i h => h.IsListIter it a i) where
  mem := by simp
  obj := fun i h st b hb => by
    have e : b = it := by simpa using hb
    subst e
    obtain ⟨o, e, c, d⟩ := st
    exact ⟨o, e, fun v z => by rw [d] at z; cases z⟩
  keep := fun i h h' st k => st.at fun o e => k it (by simp) o e
  item := by
    intro X hP hw hK hc i pins s σ H E I hf st hg
    subst hP hw hK
    obtain ⟨xs, x, hq, hx⟩ := hg
    obtain ⟨its, rv, p, hz⟩ := I.list hq
    obtain ⟨u, hu, ru⟩ := rv.get hx
    obtain ⟨f0, f1, f2, f3, f4, f5⟩ := hf it (by simp)
    refine wpAny_pyNext_list_item st p.isList (x := u) (by simpa using hu) fun h' st' sb => ?_
    have I1 : Inv X pins σ H { s with heap := h' } := I.turned (t' := s.toks) (fun b o hb e => (sb.2 b hb).trans e) f0 f1 f3 f4 f5
    obtain ⟨o, e, c, d⟩ := id st'
    exact ⟨u, rfl, go_of (s := { s with heap := h' }) e c d (by decide) ⟨x, H, I1, ru, ⟨rfl, fun ys hy => by rw [I.list_inj hy hq]; exact hx⟩, st', fun b hb => (hf b hb).1⟩⟩
  done := by
    intro X hP hw hK hc i pins s σ H E I hf st hg
    subst hP hw hK
    obtain ⟨xs, hq, hx⟩ := hg
    obtain ⟨its, rv, p, hz⟩ := I.list hq
    obtain ⟨f0, f1, f2, f3, f4, f5⟩ := hf it (by simp)
    have hl := rv.length
    exact wpAny_pyNext_list_end (I.ok.hd hc) st p.isList (by simp; omega) fun h' eb => ⟨rfl, I.turned (t' := s.toks) (fun b o hb e => eb b o hb e) f0 f1 f3 f4 f5⟩
  self := fun _ _ _ _ _ st h => wpAny_pyIter_listiter st h
theorem turn_tuple {P : Program} {w : World} {K : PySem.W.Frag} {tg : Expr} (a it : Addr) : Turn P w K tg (Itt K a) [it] it (fun i h => h.IsTupleIter it a i) where
  mem := by simp
  obj := fun i h st b hb => by
    have e : b = it := by simpa using hb
    subst e
    obtain ⟨o, e, c, d⟩ := st
    exact ⟨o, e, fun v z => by rw [d] at z; cases z⟩
  keep := fun i h h' st k => st.at fun o e => k it (by simp) o e
  item := by
    intro X hP hw hK hc i pins s σ H E I hf st hg
    subst hP hw hK
    obtain ⟨xs, x, hq, hx⟩ := hg
    obtain ⟨its, rv, p, hz⟩ := I.tuple hq
    obtain ⟨u, hu, ru⟩ := rv.get hx
    obtain ⟨f0, f1, f2, f3, f4, f5⟩ := hf it (by simp)
    refine wpAny_pyNext_tuple_item st (show s.heap.IsTuple a its.toArray from p) (x := u) (by simpa using hu) fun h' st' sb => ?_
    have I1 : Inv X pins σ H { s with heap := h' } := I.turned (t' := s.toks) (fun b o hb e => (sb.2 b hb).trans e) f0 f1 f3 f4 f5
    obtain ⟨o, e, c, d⟩ := id st'
    exact ⟨u, rfl, go_of (s := { s with heap := h' }) e c d (by decide) ⟨x, H, I1, ru, ⟨rfl, fun ys hy => by rw [I.tuple_inj hy hq]; exact hx⟩, st', fun b hb => (hf b hb).1⟩⟩
  done := by
    intro X hP hw hK hc i pins s σ H E I hf st hg
    subst hP hw hK
    obtain ⟨xs, hq, hx⟩ := hg
    obtain ⟨its, rv, p, hz⟩ := I.tuple hq
    obtain ⟨f0, f1, f2, f3, f4, f5⟩ := hf it (by simp)
    have hl := rv.length
    exact wpAny_pyNext_tuple_end (I.ok.hd hc) st (show s.heap.IsTuple a its.toArray from p) (by simp; omega) fun h' eb => ⟨rfl, I.turned (t' := s.toks) (fun b o hb e => eb b o hb e) f0 f1 f3 f4 f5⟩
  self := fun _ _ _ _ _ st h => wpAny_pyIter_tupleiter st h
theorem turn_range {P : Program} {w : World} {K : PySem.W.Frag} {tg : Expr} (it : Addr) (lo : Int) (n : Nat) : Turn P w K tg (Itr lo n) [it] it (fun i h => IsRangeIter h it (lo + (i : Nat) * 1) ((n : Int) - (i : Nat)) 1) where
  mem := by simp
  obj := fun i h st b hb => by
    have e : b = it := by simpa using hb
    subst e
    exact ⟨_, st, fun v z => by
      have z' : Data.fields _ = Data.cell v := z
      cases z'⟩
  keep := fun i h h' st k => k it (by simp) _ st
  item := by
    intro X hP hw hK hc i pins s σ H E I hf st hg
    subst hP hw hK
    obtain ⟨f0, f1, f2, f3, f4, f5⟩ := hf it (by simp)
    have W := Walks.range (prog := X.prog) (w := X.w) (I.ok.hd hc) it lo 1 n
    refine W.item i s _ _ hg st fun v h' tk hv st' kk => ?_
    obtain ⟨t, rfl⟩ := hv
    have I1 : Inv X pins σ H { s with heap := h', toks := tk } := I.turned (fun b o hb e => kk b o (by simpa using hb) e) f0 f1 f3 f4 f5
    refine ⟨_, rfl, go_of (s := { s with heap := h', toks := tk }) (n := "range_iterator") st' rfl rfl (by decide) ⟨.int (lo + i), H, I1, ⟨t, ?_⟩, ⟨rfl, rfl⟩, st', fun b hb => (hf b hb).1⟩⟩
    rw [Int.mul_one]
  done := by
    intro X hP hw hK hc i pins s σ H E I hf st hg
    subst hP hw hK
    obtain ⟨f0, f1, f2, f3, f4, f5⟩ := hf it (by simp)
    exact wpAny_pyNext_range_end (I.ok.hd hc) st (by have : n ≤ i := hg; omega) fun h' eb => ⟨rfl, I.turned (t' := s.toks) (fun b o hb e => eb b o hb e) f0 f1 f3 f4 f5⟩
  self := fun _ _ _ _ _ st h => wpAny_pyIter_rangeiter st h
end L2
namespace L2
open PySem PySem.Spec PyProof.Rows
section
variable {X : Cx} {tg : Expr}
theorem range_it {pins : List (Addr × Obj)} {σ : St} {H : Hp} {s : Shared} {R : It → Hp → Prop} {E : Value → Shared → Prop} {lo hi : Int} {t u v : Tok} {tk : Nat} (I : Inv X pins σ H s) (h1 : -(2 ^ 62) ≤ lo) (h2 : lo < 2 ^ 62) (h3 : -(2 ^ 62) ≤ hi) (h4 : hi < 2 ^ 62)
    (q : R (Itr lo (hi - lo).toNat) H) : wpAny (model X.prog X.w) X.A (pyIter (.ref s.heap.objs.size)) (PIE X pins σ tg R) E { s with heap := s.heap.push { cls := .type "range", data := .fields #[.int lo t, .int hi u, .int 1 v] }, toks := tk } := by
  refine wpAny_pyIter_range (IsRange.new ..) (small_one h1 h2 h3 h4) ?_
  have I1 : Inv X pins σ H { s with heap := s.heap.push { cls := .type "range", data := .fields #[.int lo t, .int hi u, .int 1 v] }, toks := tk } := I.kept fun b o e => Heap.get?_push_of_some _ e
  refine ⟨(s.heap.push { cls := .type "range", data := .fields #[.int lo t, .int hi u, .int 1 v] }).objs.size, [(s.heap.push { cls := .type "range", data := .fields #[.int lo t, .int hi u, .int 1 v] }).objs.size], _, _, H, rfl,
    I1.kept (t' := tk) fun b o e => Heap.get?_push_of_some _ e, turn_range _ lo (hi - lo).toNat, ?_, fun b hb => ?_, q⟩
  · have e1 : lo + ((0 : Nat) : Int) * 1 = lo := by simp
    have e2 : (((hi - lo).toNat : Nat) : Int) - ((0 : Nat) : Int) = Builtin.Range.rangeSize lo hi 1 := by rw [rangeSize_one]; split <;> omega
    show IsRangeIter _ _ (lo + ((0 : Nat) : Int) * 1) ((((hi - lo).toNat : Nat) : Int) - ((0 : Nat) : Int)) 1
    rw [e1, e2]
    exact Heap.get?_push_size _ rfl
  · have e : b = (s.heap.push { cls := .type "range", data := .fields #[.int lo t, .int hi u, .int 1 v] }).objs.size := by simpa using hb
    subst e
    exact I1.fpOk (Nat.le_refl _) (I1.hok.fresh (Nat.le_refl _))
def iRng1 (ta : TA) : TI := fun σ H R => ta σ H fun vs H1 => ∃ j : Int, vs = [.int j] ∧ -(2 ^ 62) ≤ j ∧ j < 2 ^ 62 ∧ R (Itr 0 j.toNat) H1
def iRng2 (ta : TA) : TI := fun σ H R => ta σ H fun vs H1 => ∃ i j : Int, vs = [.int i, .int j] ∧ (-(2 ^ 62) ≤ i ∧ i < 2 ^ 62 ∧ -(2 ^ 62) ≤ j ∧ j < 2 ^ 62) ∧ R (Itr i (j - i).toNat) H1
theorem pi_range1 {a : Expr} {ta : TA} {p pos : Pos} (hg : Gl X "range") (hm : X.mg "range" = none) (ha : PA X [a] ta) (hs : starEach [a] X.env = [(false, eval a X.env)] := by rfl) : PI X tg (.Call (.Name "range" p) [a] [] pos) (iRng1 ta) := by
  intro pins s σ H R I h
  refine Call_ (ld_blt I hg hm boot_range (PyProof.Rows.callWith_type1 (thn (ha pos pins s σ H _ I h) fun us s1 ⟨vs, H1, I1, r1, q1⟩ => ?_) hs rfl))
  obtain ⟨j, e, q1, q2, q⟩ := q1
  subst e
  cases r1 with
  | cons r rr =>
    cases rr
    obtain ⟨t, rfl⟩ := r
    exact call_range_1 (range_it I1 (by omega) (by omega) q1 q2 (by simpa using q))
theorem pi_range2 {a b : Expr} {ta : TA} {p pos : Pos} (hg : Gl X "range") (hm : X.mg "range" = none) (ha : PA X [a, b] ta) (hs : starEach [a, b] X.env = [(false, eval a X.env), (false, eval b X.env)] := by rfl) (hs2 : starEach [b] X.env = [(false, eval b X.env)] := by rfl) :
    PI X tg (.Call (.Name "range" p) [a, b] [] pos) (iRng2 ta) := by
  intro pins s σ H R I h
  refine Call_ (ld_blt I hg hm boot_range (PyProof.Rows.callWith_type1 (thn (ha pos pins s σ H _ I h) fun us s1 ⟨vs, H1, I1, r1, q1⟩ => ?_) (by rw [hs, hs2]) (by rw [hs2]; rfl)))
  obtain ⟨i, j, e, ⟨q1, q2, q3, q4⟩, q⟩ := q1
  subst e
  cases r1 with
  | cons r rr =>
    cases rr with
    | cons r' rr =>
      cases rr
      obtain ⟨t, rfl⟩ := r
      obtain ⟨t', rfl⟩ := r'
      exact call_range_2 (range_it I1 q1 q2 q3 q4 q)
def tFor (wi : TI) (g : TG) (tb : TS) : TS := fun D σ H => wi σ H fun J H1 => ∃ W : Nat → Nat → St → Hp → Prop, (∃ m, W 0 m σ H1) ∧ ∀ i m σ H, W i m σ H →
  (J.stop i H ∧ D.nx σ H) ∨ (J.go i H ∧ ∃ N : St → Hp → Prop, (∀ σ' H', N σ' H' → ∃ m', m' < m ∧ W (i + 1) m' σ' H') ∧ ∀ x H', J.yld i H x H' → g x σ H' fun σ2 H2 => tb { D with nx := N, ct := N, bk := D.nx } σ2 H2)
def pinsAt (fp : List Addr) (h : Heap) : List (Addr × Obj) := fp.filterMap fun b => (h.get? b).map fun o => (b, o)
theorem mem_pinsAt {fp : List Addr} {h : Heap} {b : Addr} {o : Obj} (hb : b ∈ fp) (e : h.get? b = some o) : (b, o) ∈ pinsAt fp h := List.mem_filterMap.mpr ⟨b, hb, by rw [e]; rfl⟩
theorem of_pinsAt {fp : List Addr} {h : Heap} {p : Addr × Obj} (hp : p ∈ pinsAt fp h) : p.1 ∈ fp ∧ h.get? p.1 = some p.2 := by
  obtain ⟨b, hb, e⟩ := List.mem_filterMap.mp hp
  cases q : h.get? b with
  | none => rw [q] at e; cases e
  | some o =>
    rw [q] at e
    have e' : (b, o) = p := Option.some.inj e
    subst e'
    exact ⟨hb, q⟩
theorem Inv.pinned {pins : List (Addr × Obj)} {σ : St} {H : Hp} {s : Shared} {fp : List Addr} (I : Inv X pins σ H s) (hf : ∀ b ∈ fp, FpOk X pins H b) (ho : ∀ b ∈ fp, ∃ o, s.heap.get? b = some o ∧ ∀ v, o.data ≠ .cell v) : Inv X (pins ++ pinsAt fp s.heap) σ H s :=
  I.pins_of fun p hp => (List.mem_append.mp hp).elim (fun z => I.pin p (List.mem_append_right _ z)) fun z => by
    obtain ⟨hb, e⟩ := of_pinsAt z
    obtain ⟨f0, f1, f2, _⟩ := hf p.1 hb
    obtain ⟨o, e', d⟩ := ho p.1 hb
    rw [e] at e'; cases e'
    exact ⟨e, f0, f1, f2, d⟩
theorem Inv.unpinned {pins pl : List (Addr × Obj)} {σ : St} {H : Hp} {s : Shared} (I : Inv X (pins ++ pl) σ H s) : Inv X pins σ H s := I.pins_of fun p hp => I.pin p (List.mem_append_right _ (List.mem_append_left _ hp))
theorem ps_for {iter : Expr} {body : List Stmt} {wi : TI} {g : TG} {tb : TS} {pos : Pos} (hp : PassesOwn (model X.prog X.w) X.A X.env X.xe) (hc : X.calm = true) (hi : PI X tg iter wi) (hg : PG X tg g) (hb : PSs X body tb)
    (hs : ∀ x, foldedSetIterable iter X.env x = pure x := by intro _; rfl) : PS X (.For tg iter body [] pos) (tFor wi g tb) := by
  intro pins s σ H D I h
  refine wpAny_For (thn (hi pins s σ H _ I h) fun v s1 h1 => thn h1 fun itv s2 h2 => ?_) hs
  obtain ⟨it, fp, tn, J, H2, e, I2, T, st2, f2, W, ⟨m0, w0⟩, turn⟩ := h2
  subst e
  have stat : ∀ {H' : Hp}, (∀ b ∈ fp, H' b = none) → ∀ b ∈ fp, FpOk X pins H' b := fun hn b hb => ⟨hn b hb, (f2 b hb).2⟩
  refine codeAny_forLoop_any (fun n s' => ∃ i σ' H', Inv X pins σ' H' s' ∧ tn i s'.heap ∧ (∀ b ∈ fp, H' b = none) ∧ W i n σ' H') ?_ m0 ⟨0, σ, H2, I2, st2, fun b hb => (f2 b hb).1, w0⟩
  rintro n s3 ⟨i, σ3, H3, I3, st3, fr3, w3⟩
  rcases turn i n σ3 H3 w3 with ⟨stop, qn⟩ | ⟨go, N, hN, step⟩
  · refine wpAny_passesOwn hp (thn (T.done X rfl rfl rfl hc i pins s3 σ3 H3 X.xe I3 (stat fr3) st3 stop) fun r s4 ⟨hr, I4⟩ => ?_)
    subst hr
    exact wpAny_execs_nil ⟨σ3, H3, I4, qn⟩
  · refine wpAny_passesOwn hp (thn (T.item X rfl rfl rfl hc i pins s3 σ3 H3 X.xe I3 (stat fr3) st3 go) fun r s4 ⟨u, hr, h4⟩ => ?_)
    subst hr
    refine wpAny_passesOwn hp (thn h4 fun _ s5 ⟨x, H5, I5, r5, y5, st5, fr5⟩ => ?_)
    have I5' := I5.pinned (stat fr5) (T.obj _ _ st5)
    refine wpAny_passesOwn hp (thn (hg _ s5 σ3 H5 x u _ I5' r5 (step x H5 y5)) fun _ s6 ⟨σ6, H6, I6, q6⟩ => ?_)
    refine wpAny_passesOwn hp (thn (hb _ s6 σ6 H6 _ I6 q6) fun f s7 q7 => ?_)
    have again : ∀ {σ7 : St} {H7 : Hp}, Inv X (pins ++ pinsAt fp s5.heap) σ7 H7 s7 → N σ7 H7 → ∃ m, m < n ∧ ∃ i σ' H', Inv X pins σ' H' s7 ∧ tn i s7.heap ∧ (∀ b ∈ fp, H' b = none) ∧ W i m σ' H' := fun {σ7 H7} I7 n7 => by
      obtain ⟨m', hm, w7⟩ := hN σ7 H7 n7
      refine ⟨m', hm, i + 1, σ7, H7, I7.unpinned, T.keep _ _ _ st5 fun b hb o e => (I7.pin (b, o) (List.mem_append_right _ (List.mem_append_right _ (mem_pinsAt hb e)))).1, fun b hb => ?_, w7⟩
      obtain ⟨o, e, d⟩ := T.obj _ _ st5 b hb
      exact (I7.pin (b, o) (List.mem_append_right _ (List.mem_append_right _ (mem_pinsAt hb e)))).2.1
    cases f with
    | next => obtain ⟨σ7, H7, I7, n7⟩ := q7; exact again I7 n7
    | cont => obtain ⟨σ7, H7, I7, n7⟩ := q7; exact again I7 n7
    | brk => obtain ⟨σ7, H7, I7, q7⟩ := q7; exact ⟨σ7, H7, I7.unpinned, q7⟩
    | ret v => obtain ⟨x7, σ7, H7, I7, r7, q7⟩ := q7; exact ⟨x7, σ7, H7, I7.unpinned, r7, q7⟩
end
end L2
namespace L2
open PySem PySem.Spec PyProof.Rows
abbrev R2 := V → V → Hp → VK → Prop
def OpR (X : Cx) (f : Value → Value → Sem Value) (r : R2) : Prop :=
  ∀ (pins : List (Addr × Obj)) (s : Shared) (σ : St) (H : Hp) (x y : V) (v u : Value) (Q : VK), Inv X pins σ H s → RelV x v → RelV y u → r x y H Q →
    wpAny (model X.prog X.w) X.A (f v u) (EP X pins σ Q) X.xe s
def UnR (X : Cx) (f : Value → Sem Value) (r : V → Hp → VK → Prop) : Prop :=
  ∀ (pins : List (Addr × Obj)) (s : Shared) (σ : St) (H : Hp) (x : V) (v : Value) (Q : VK), Inv X pins σ H s → RelV x v → r x H Q →
    wpAny (model X.prog X.w) X.A (f v) (EP X pins σ Q) X.xe s
def CallR (X : Cx) (f : Value) (r : List V → Hp → VK → Prop) : Prop :=
  ∀ (pins : List (Addr × Obj)) (s : Shared) (σ : St) (H : Hp) (xs : List V) (us : List Value) (Q : VK), Inv X pins σ H s → Vals xs us → r xs H Q →
    wpAny (model X.prog X.w) X.A (call f us) (EP X pins σ Q) X.xe s
def tOp (r : R2) (ta tb : TE) : TE := fun σ H Q => ta σ H fun x H1 => tb σ H1 fun y H2 => r x y H2 Q
def tUn (r : V → Hp → VK → Prop) (ta : TE) : TE := fun σ H Q => ta σ H fun x H1 => r x H1 Q
def rI (C : Int → Int → Prop) (g : Int → Int → V) : R2 := fun x y H Q => ∃ i j, x = .int i ∧ y = .int j ∧ C i j ∧ Q (g i j) H
def rI0 (g : Int → Int → V) : R2 := fun x y H Q => ∃ i j, x = .int i ∧ y = .int j ∧ Q (g i j) H
def rU (g : Int → V) : V → Hp → VK → Prop := fun x H Q => ∃ i, x = .int i ∧ Q (g i) H
section
variable {X : Cx} {a b c : Expr} {ta tb tc : TE} {pos : Pos}
theorem binT (ha : PE X a ta) (hb : PE X b tb) {pins : List (Addr × Obj)} {s : Shared} {σ : St} {H : Hp} {R : V → V → Hp → Prop} (I : Inv X pins σ H s)
    (h : ta σ H fun x H1 => tb σ H1 fun y H2 => R x y H2) {Q : Value → Shared → Prop} {f : Value → Value → Sem Value}
    (hf : ∀ v u s2 x y H2, Inv X pins σ H2 s2 → RelV x v → RelV y u → R x y H2 → wpAny (model X.prog X.w) X.A (f v u) Q X.xe s2) :
    wpAny (model X.prog X.w) X.A (eval a X.env) (fun v s₁ => wpAny (model X.prog X.w) X.A (eval b X.env) (fun u s₂ => wpAny (model X.prog X.w) X.A (f v u) Q X.xe s₂) X.xe s₁) X.xe s := by
  refine thn (ha pins s σ H _ I h) fun v s1 ⟨x, H1, I1, r1, q1⟩ => ?_
  refine thn (hb pins s1 σ H1 _ I1 q1) fun u s2 ⟨y, H2, I2, r2, q2⟩ => ?_
  exact hf v u s2 x y H2 I2 r1 r2 q2
theorem pe_op {op : Operator} {r : R2} (ho : OpR X (binaryOp op) r) (ha : PE X a ta) (hb : PE X b tb) : PE X (.BinOp a op b pos) (tOp r ta tb) := by
  intro pins s σ H Q I h
  exact wpAny_BinOp (binT ha hb I h fun v u s2 x y H2 I2 rx ry q => ho pins s2 σ H2 x y v u Q I2 rx ry q)
theorem pe_un {op : UnaryOp} {r : V → Hp → VK → Prop} (ho : UnR X (unaryOp op) r) (ha : PE X a ta) : PE X (.UnaryOp op a pos) (tUn r ta) := by
  intro pins s σ H Q I h
  exact UnaryOp_ (thn (ha pins s σ H _ I h) fun v s1 ⟨x, H1, I1, r1, q1⟩ => ho pins s1 σ H1 x v Q I1 r1 q1)
theorem opI {f : Value → Value → Sem Value} {C : Int → Int → Prop} {g : Int → Int → Int}
    (rule : ∀ (i j : Int) (t u : Tok) (s : Shared) (Q : Value → Shared → Prop) (E : Value → Shared → Prop), C i j → Q (.int (g i j) s.toks) { s with toks := s.toks + 1 } → wpAny (model X.prog X.w) X.A (f (.int i t) (.int j u)) Q E s) :
    OpR X f (rI C fun i j => .int (g i j)) := by
  intro pins s σ H x y v u Q I rx ry h
  obtain ⟨i, j, rfl, rfl, hc, q⟩ := h
  obtain ⟨t, rfl⟩ := rx
  obtain ⟨t', rfl⟩ := ry
  exact rule i j t t' s _ _ hc ⟨.int (g i j), H, I.tok _, ⟨_, rfl⟩, q⟩
theorem opI0 {f : Value → Value → Sem Value} {g : Int → Int → Int}
    (rule : ∀ (i j : Int) (t u : Tok) (s : Shared) (Q : Value → Shared → Prop) (E : Value → Shared → Prop), Q (.int (g i j) s.toks) { s with toks := s.toks + 1 } → wpAny (model X.prog X.w) X.A (f (.int i t) (.int j u)) Q E s) :
    OpR X f (rI0 fun i j => .int (g i j)) := by
  intro pins s σ H x y v u Q I rx ry h
  obtain ⟨i, j, rfl, rfl, q⟩ := h
  obtain ⟨t, rfl⟩ := rx
  obtain ⟨t', rfl⟩ := ry
  exact rule i j t t' s _ _ ⟨.int (g i j), H, I.tok _, ⟨_, rfl⟩, q⟩
theorem opB0 {f : Value → Value → Sem Value} {g : Int → Int → Bool}
    (rule : ∀ (i j : Int) (t u : Tok) (s : Shared) (Q : Value → Shared → Prop) (E : Value → Shared → Prop), Q (.bool (g i j)) s → wpAny (model X.prog X.w) X.A (f (.int i t) (.int j u)) Q E s) :
    OpR X f (rI0 fun i j => .bl (g i j)) := by
  intro pins s σ H x y v u Q I rx ry h
  obtain ⟨i, j, rfl, rfl, q⟩ := h
  obtain ⟨t, rfl⟩ := rx
  obtain ⟨t', rfl⟩ := ry
  exact rule i j t t' s _ _ ⟨.bl (g i j), H, I, rfl, q⟩
def CDiv (i j : Int) : Prop := 0 < j ∧ j < 1073741824
def CPow (i j : Int) : Prop := 0 ≤ j ∧ j ≤ 1000000 ∧ i.natAbs < 2 ^ 64
def CMul (i j : Int) : Prop := (-(2 ^ 64) < i ∧ i < 2 ^ 64) ∨ (-(2 ^ 64) < j ∧ j < 2 ^ 64)
theorem CMul.ok {i j : Int} (h : CMul i j) : IntMulOk i j := by
  rcases h with ⟨h1, h2⟩ | ⟨h1, h2⟩
  · exact .of_left (intBits_le_64 h1 h2)
  · exact .of_right (intBits_le_64 h1 h2)
theorem op_add : OpR X (binaryOp .Add) (rI0 fun i j => .int (i + j)) := opI0 fun _ _ _ _ _ _ _ q => add_int q
theorem op_sub : OpR X (binaryOp .Sub) (rI0 fun i j => .int (i - j)) := opI0 fun _ _ _ _ _ _ _ q => sub_int q
theorem op_mul : OpR X (binaryOp .Mult) (rI CMul fun i j => .int (i * j)) := opI fun _ _ _ _ _ _ _ hc q => mul_int q hc.ok
theorem op_fdiv : OpR X (binaryOp .FloorDiv) (rI CDiv fun i j => .int (i / j)) := opI fun i j _ _ _ _ _ hc q => by
  have h1 : (0 : Int) < j := hc.1
  have h2 : j < 1073741824 := hc.2
  exact floordiv_int (by omega) (by rw [Int.fdiv_eq_ediv_of_nonneg i (by omega)]; exact q) (.inl (PyProof.noPylong_small (by omega)))
theorem op_mod : OpR X (binaryOp .Mod) (rI (fun _ j => 0 < j) fun i j => .int (i % j)) := opI fun i j _ _ _ _ _ hc q => by
  have h1 : (0 : Int) < j := hc
  exact mod_int' (by omega) (by rw [Int.fmod_eq_emod_of_nonneg i (by omega)]; exact q)
theorem op_pow : OpR X (binaryOp .Pow) (rI CPow fun i j => .int (i ^ j.toNat)) := opI fun _ _ _ _ _ _ _ hc q => pow_int_small hc.1 hc.2.1 hc.2.2 q
theorem unI {f : Value → Sem Value} {g : Int → Int}
    (rule : ∀ (i : Int) (t : Tok) (s : Shared) (Q : Value → Shared → Prop) (E : Value → Shared → Prop), Q (.int (g i) s.toks) { s with toks := s.toks + 1 } → wpAny (model X.prog X.w) X.A (f (.int i t)) Q E s) :
    UnR X f (rU fun i => .int (g i)) := by
  intro pins s σ H x v Q I rx h
  obtain ⟨i, rfl, q⟩ := h
  obtain ⟨t, rfl⟩ := rx
  exact rule i t s _ _ ⟨.int (g i), H, I.tok _, ⟨_, rfl⟩, q⟩
theorem un_neg : UnR X (unaryOp .USub) (rU fun i => .int (-i)) := unI fun _ _ _ _ _ q => neg_int q
end
def scal : V → V → Bool
  | .non, .non => true | .non, .int _ => true | .int _, .non => true | .non, .bl _ => true | .bl _, .non => true | .non, .str _ => true | .str _, .non => true
  | .int _, .int _ => true | .bl _, .bl _ => true | .str _, .str _ => true | .byt _, .byt _ => true
  | .int _, .str _ => true | .str _, .int _ => true | .bl _, .str _ => true | .str _, .bl _ => true
  | _, _ => false
def rEq : R2 := fun x y H Q => scal x y = true ∧ Q (.bl (decide (x = y))) H
def rNe : R2 := fun x y H Q => scal x y = true ∧ Q (.bl (!decide (x = y))) H
theorem dec_int {i j : Int} : decide (V.int i = V.int j) = (i == j) := by
  rw [Bool.eq_iff_iff]
  simp
theorem dec_bl {i j : Bool} : decide (V.bl i = V.bl j) = (i == j) := by
  rw [Bool.eq_iff_iff]
  simp
theorem dec_str {i j : Str} : decide (V.str i = V.str j) = (i == j) := by
  rw [Bool.eq_iff_iff]
  simp
theorem dec_byt {i j : Array UInt8} : decide (V.byt i = V.byt j) = (i.toList == j.toList) := by
  rw [Bool.eq_iff_iff]
  cases i
  cases j
  simp
section
variable {X : Cx} {a b c : Expr} {ta tb tc : TE} {pos : Pos}
theorem fin_bl {pins : List (Addr × Obj)} {σ : St} {H : Hp} {s : Shared} {Q : VK} {k k' : Bool} (I : Inv X pins σ H s) (q : Q (.bl k) H) (e : k = k') : EP X pins σ Q (.bool k') s := by
  subst e
  exact ⟨.bl k, H, I, rfl, q⟩
theorem op_eq : OpR X (compareOp .Eq) rEq := by
  intro pins s σ H x y v u Q I rx ry h
  obtain ⟨hs, q⟩ := h
  cases x with
  | non =>
    cases rx
    cases y with
    | non => cases ry; exact PySem.EqNone.eq_none_none (fin_bl I q (by simp))
    | bl j => cases ry; exact PySem.EqNone.eq_none_bool (fin_bl I q (by simp))
    | int j => obtain ⟨t', rfl⟩ := ry; exact PySem.EqNone.eq_none_int (fin_bl I q (by simp))
    | str j => obtain ⟨t', rfl⟩ := ry; exact PySem.EqNone.eq_none_str (fin_bl I q (by simp))
    | _ => exact absurd (show false = true from hs) Bool.false_ne_true
  | bl i =>
    cases rx
    cases y with
    | non => cases ry; exact PySem.EqNone.eq_bool_none (fin_bl I q (by simp))
    | bl j => cases ry; exact eq_bool (fin_bl I q dec_bl)
    | str j => obtain ⟨t', rfl⟩ := ry; exact PySem.EqMixed.eq_bool_str (fin_bl I q (by simp))
    | _ => exact absurd (show false = true from hs) Bool.false_ne_true
  | int i =>
    obtain ⟨t, rfl⟩ := rx
    cases y with
    | non => cases ry; exact PySem.EqNone.eq_int_none (fin_bl I q (by simp))
    | int j => obtain ⟨t', rfl⟩ := ry; exact eq_int (fin_bl I q dec_int)
    | str j => obtain ⟨t', rfl⟩ := ry; exact PySem.EqMixed.eq_int_str (fin_bl I q (by simp))
    | _ => exact absurd (show false = true from hs) Bool.false_ne_true
  | str i =>
    obtain ⟨t, rfl⟩ := rx
    cases y with
    | non => cases ry; exact PySem.EqNone.eq_str_none (fin_bl I q (by simp))
    | bl j => cases ry; exact PySem.EqMixed.eq_str_bool (fin_bl I q (by simp))
    | int j => obtain ⟨t', rfl⟩ := ry; exact PySem.EqMixed.eq_str_int (fin_bl I q (by simp))
    | str j => obtain ⟨t', rfl⟩ := ry; exact eq_str (fin_bl I q dec_str)
    | _ => exact absurd (show false = true from hs) Bool.false_ne_true
  | byt i =>
    obtain ⟨t, rfl⟩ := rx
    cases y with
    | byt j => obtain ⟨t', rfl⟩ := ry; exact PySem.W.eq_bytes (fin_bl I q dec_byt)
    | _ => exact absurd (show false = true from hs) Bool.false_ne_true
  | _ => cases y <;> exact absurd (show false = true from hs) Bool.false_ne_true
theorem op_ne : OpR X (compareOp .NotEq) rNe := by
  intro pins s σ H x y v u Q I rx ry h
  obtain ⟨hs, q⟩ := h
  cases x with
  | non =>
    cases rx
    cases y with
    | non => cases ry; exact PySem.EqNone.ne_none_none (fin_bl I q (by simp))
    | bl j => cases ry; exact PySem.EqNone.ne_none_bool (fin_bl I q (by simp))
    | int j => obtain ⟨t', rfl⟩ := ry; exact PySem.EqNone.ne_none_int (fin_bl I q (by simp))
    | str j => obtain ⟨t', rfl⟩ := ry; exact PySem.EqNone.ne_none_str (fin_bl I q (by simp))
    | _ => exact absurd (show false = true from hs) Bool.false_ne_true
  | bl i =>
    cases rx
    cases y with
    | non => cases ry; exact PySem.EqNone.ne_bool_none (fin_bl I q (by simp))
    | bl j => cases ry; exact ne_bool (fin_bl I q (congrArg not dec_bl))
    | str j => obtain ⟨t', rfl⟩ := ry; exact PySem.EqMixed.ne_bool_str (fin_bl I q (by simp))
    | _ => exact absurd (show false = true from hs) Bool.false_ne_true
  | int i =>
    obtain ⟨t, rfl⟩ := rx
    cases y with
    | non => cases ry; exact PySem.EqNone.ne_int_none (fin_bl I q (by simp))
    | int j => obtain ⟨t', rfl⟩ := ry; exact ne_int (fin_bl I q (congrArg not dec_int))
    | str j => obtain ⟨t', rfl⟩ := ry; exact PySem.EqMixed.ne_int_str (fin_bl I q (by simp))
    | _ => exact absurd (show false = true from hs) Bool.false_ne_true
  | str i =>
    obtain ⟨t, rfl⟩ := rx
    cases y with
    | non => cases ry; exact PySem.EqNone.ne_str_none (fin_bl I q (by simp))
    | bl j => cases ry; exact PySem.EqMixed.ne_str_bool (fin_bl I q (by simp))
    | int j => obtain ⟨t', rfl⟩ := ry; exact PySem.EqMixed.ne_str_int (fin_bl I q (by simp))
    | str j => obtain ⟨t', rfl⟩ := ry; exact ne_str (fin_bl I q (congrArg not dec_str))
    | _ => exact absurd (show false = true from hs) Bool.false_ne_true
  | byt i =>
    obtain ⟨t, rfl⟩ := rx
    cases y with
    | byt j => obtain ⟨t', rfl⟩ := ry; exact PySem.W.ne_bytes (fin_bl I q (congrArg not dec_byt))
    | _ => exact absurd (show false = true from hs) Bool.false_ne_true
  | _ => cases y <;> exact absurd (show false = true from hs) Bool.false_ne_true
theorem op_lt : OpR X (compareOp .Lt) (rI0 fun i j => .bl (decide (i < j))) := opB0 fun _ _ _ _ _ _ _ q => lt_int q
theorem op_le : OpR X (compareOp .LtE) (rI0 fun i j => .bl (decide (i ≤ j))) := opB0 fun _ _ _ _ _ _ _ q => le_int q
theorem op_gt : OpR X (compareOp .Gt) (rI0 fun i j => .bl (decide (j < i))) := opB0 fun _ _ _ _ _ _ _ q => gt_int q
theorem op_ge : OpR X (compareOp .GtE) (rI0 fun i j => .bl (decide (j ≤ i))) := opB0 fun _ _ _ _ _ _ _ q => ge_int q
theorem op_isN : OpR X (compareOp .Is) (fun x y H Q => y = .non ∧ Q (.bl (decide (x = .non))) H) := by
  intro pins s σ H x y v u Q I rx ry h
  obtain ⟨rfl, q⟩ := h
  cases ry
  refine is_none_gen (fin_bl I q ?_)
  cases x <;> first
    | (cases rx; rfl)
    | (obtain ⟨t, rfl⟩ := rx; rfl)
theorem op_notN : OpR X (compareOp .IsNot) (fun x y H Q => y = .non ∧ Q (.bl (!decide (x = .non))) H) := by
  intro pins s σ H x y v u Q I rx ry h
  obtain ⟨rfl, q⟩ := h
  cases ry
  refine isnot_none_gen (fin_bl I q ?_)
  cases x <;> first
    | (cases rx; rfl)
    | (obtain ⟨t, rfl⟩ := rx; rfl)
theorem OpR.or {f : Value → Value → Sem Value} {r r' : R2} (h : OpR X f r) (h' : OpR X f r') : OpR X f (fun x y H Q => r x y H Q ∨ r' x y H Q) := by
  intro pins s σ H x y v u Q I rx ry q
  rcases q with q | q
  · exact h pins s σ H x y v u Q I rx ry q
  · exact h' pins s σ H x y v u Q I rx ry q
theorem nomark (b : Expr) {op : CmpOp} (h : op ≠ .In := by decide) (h2 : op ≠ .NotIn := by decide) : behindInMarks op b = false := by
  have e1 : (op == CmpOp.In) = false := by cases op <;> first | rfl | exact absurd rfl h
  have e2 : (op == CmpOp.NotIn) = false := by cases op <;> first | rfl | exact absurd rfl h2
  cases b <;> simp [behindInMarks, e1, e2]
theorem pe_cmpR {op : CmpOp} {r : R2} (ho : OpR X (compareOp op) r) (ha : PE X a ta) (hb : PE X b tb) (hm : behindInMarks op b = false) : PE X (.Compare a [op] [b] pos) (tOp r ta tb) := by
  intro pins s σ H Q I h
  exact wpAny_Compare1 (binT ha hb I h fun v u s2 x y H2 I2 rx ry q => ho pins s2 σ H2 x y v u Q I2 rx ry q) hm
def tTest (t : TE) : TT := fun σ H Q => t σ H fun x H' => ∃ k, x = .bl k ∧ Q k H'
theorem pt_cmpR {op : CmpOp} {r : R2} (ho : OpR X (compareOp op) r) (ha : PE X a ta) (hb : PE X b tb) (hm : behindInMarks op b = false) : PT X (.Compare a [op] [b] pos) (tTest (tOp r ta tb)) := by
  intro pins s σ H Q I h
  refine wpAny_isTrue_Compare1 (thn (ha pins s σ H _ I h) fun v s1 ⟨x, H1, I1, r1, q1⟩ => thn (hb pins s1 σ H1 _ I1 q1) fun u s2 ⟨y, H2, I2, r2, q2⟩ =>
    thn (ho pins s2 σ H2 x y v u _ I2 r1 r2 q2) fun c s3 ⟨z, H3, I3, r3, k, e, q3⟩ => ?_) hm
  subst e
  cases r3
  exact wpAny_truthy_bool ⟨H3, I3, q3⟩
def tChain (r r' : R2) (ta tb tc : TE) : TE := fun σ H Q => ta σ H fun x H1 => tb σ H1 fun y H2 => r x y H2 fun z H3 => ∃ k, z = .bl k ∧
  (if k = true then tc σ H3 fun w' H4 => r' y w' H4 Q else Q (.bl false) H3)
theorem pt_chain {op op' : CmpOp} {r r' : R2} (ho : OpR X (compareOp op) r) (ho' : OpR X (compareOp op') r') (ha : PE X a ta) (hb : PE X b tb) (hc : PE X c tc)
    (hm : lastMarks [op, op'] [b, c] = false := by with_unfolding_all rfl) : PT X (.Compare a [op, op'] [b, c] pos) (tTest (tChain r r' ta tb tc)) := by
  intro pins s σ H Q I h
  refine isTrue_chain (thn (ha pins s σ H _ I h) fun v s1 ⟨x, H1, I1, r1, q1⟩ => test_link (thn (hb pins s1 σ H1 _ I1 q1) fun u s2 ⟨y, H2, I2, r2, q2⟩ =>
    thn (ho pins s2 σ H2 x y v u _ I2 r1 r2 q2) fun d s3 ⟨z, H3, I3, r3, k, e, q3⟩ => ?_)) hm
  subst e
  cases r3
  refine wpAny_truthy_bool ?_
  cases k with
  | false =>
    obtain ⟨k', e', q'⟩ := q3
    cases e'
    exact ite_ff ⟨H3, I3, q'⟩
  | true =>
    refine ite_tt (test_last (thn (hc pins s3 σ H3 _ I3 q3) fun w' s4 ⟨z', H4, I4, r4, q4⟩ => thn (ho' pins s4 σ H4 y z' u w' _ I4 r2 r4 q4) fun d' s5 ⟨z2, H5, I5, r5, k2, e2, q5⟩ => ?_))
    subst e2
    cases r5
    exact wpAny_truthy_bool ⟨H5, I5, q5⟩
theorem line63 : (sizeLine : Nat) < 2 ^ 63 := by rw [sizeLine_eq]; decide
theorem vals1 {x : V} {us : List Value} (r : Vals [x] us) : ∃ u, us = [u] ∧ RelV x u := by
  cases r with
  | cons r1 r2 => cases r2; exact ⟨_, rfl, r1⟩
theorem vals2 {x y : V} {us : List Value} (r : Vals [x, y] us) : ∃ u w', us = [u, w'] ∧ RelV x u ∧ RelV y w' := by
  cases r with
  | cons r1 r2 =>
    cases r2 with
    | cons r3 r4 => cases r4; exact ⟨_, _, rfl, r1, r3⟩
theorem call_abs : CallR X (.builtin "abs") (fun xs H Q => ∃ i, xs = [.int i] ∧ Q (.int (if i < 0 then -i else i)) H) := by
  intro pins s σ H xs us Q I r h
  obtain ⟨i, rfl, q⟩ := h
  obtain ⟨u, rfl, t, rfl⟩ := vals1 r
  exact call_abs_int fun u tk => ⟨.int (if i < 0 then -i else i), H, I.tok _, ⟨_, rfl⟩, q⟩
theorem call_min2 (hc : X.calm = true) : CallR X (.builtin "min") (fun xs H Q => ∃ i j, xs = [.int i, .int j] ∧ Q (.int (if j < i then j else i)) H) := by
  intro pins s σ H xs us Q I r h
  obtain ⟨i, j, rfl, q⟩ := h
  obtain ⟨u, w', rfl, ⟨t, rfl⟩, ⟨t', rfl⟩⟩ := vals2 r
  refine min_two_ints (I.ok.hd hc) fun h' tk k => ⟨_, H, I.kept k, ?_, q⟩
  by_cases hj : j < i
  · rw [if_pos hj, if_pos hj]; exact ⟨_, rfl⟩
  · rw [if_neg hj, if_neg hj]; exact ⟨_, rfl⟩
theorem call_int1 : CallR X (.type "int") (fun xs H Q => (∃ i, xs = [.int i] ∧ Q (.int i) H) ∨ ∃ k, xs = [.bl k] ∧ Q (.int (if k then 1 else 0)) H) := by
  intro pins s σ H xs us Q I r h
  rcases h with ⟨i, rfl, q⟩ | ⟨k, rfl, q⟩
  · obtain ⟨u, rfl, t, rfl⟩ := vals1 r
    exact call_int_int ⟨.int i, H, I, ⟨_, rfl⟩, q⟩
  · obtain ⟨u, rfl, r1⟩ := vals1 r
    cases r1
    exact call_int_bool ⟨.int (if k then 1 else 0), H, I.tok _, ⟨_, rfl⟩, q⟩
end
end L2
namespace L2
open PySem PySem.Spec PyProof.Rows
structure ObjM (h : Heap) (x dx C : Addr) (mA : Str → Option Value) : Prop where
  obj : h.get? x = some (PySem.W.instObj C dx)
  ns : h.Ns1 dx mA
  ne : dx ≠ x
theorem lookIn_ns {h : Heap} {dx : Addr} {mA : Str → Option Value} (n : h.Ns1 dx mA) : ∃ od, h.get? dx = some od ∧ ∀ name, PySem.W.lookIn name od = some (mA name) := by
  obtain ⟨o, es, ep, ho, hd, hk, _, hm⟩ := n
  refine ⟨o, ho, fun name => ?_⟩
  have e := hm name
  unfold nsFind findBy at e
  rw [← Array.find?_toList] at e
  unfold PySem.W.lookIn
  rw [hd]
  dsimp only
  split
  · rename_i y q
    rw [q] at e
    exact congrArg some e
  · rename_i q
    rw [q] at e
    have a : es.toList.any (·.refKey) = false := by
      rw [List.any_eq_false]
      intro y hy
      obtain ⟨z, t, hkey⟩ := hk y (Array.mem_toList_iff.mp hy)
      simp [DictEntry.refKey, hkey]
    have a' : ¬ es.toList.any (·.refKey) = true := by rw [a]; exact Bool.false_ne_true
    rw [if_neg a']
    exact congrArg some e
theorem ObjM.look {h : Heap} {x dx C : Addr} {mA : Str → Option Value} (I : ObjM h x dx C mA) : ∃ od, PySem.W.InstAt h x (PySem.W.instObj C dx) C (some od) ∧ ∀ name, PySem.W.lookIn name od = some (mA name) :=
  let ⟨od, ho, hl⟩ := lookIn_ns I.ns
  ⟨od, ⟨I.obj, rfl, rfl, ho⟩, hl⟩
section
variable {prog : Program} {w : World} {A : Around} {E : Value → Shared → Prop} {s : Shared} {K : PySem.W.Frag} {x dx C f : Addr} {mA : Str → Option Value} {name : Str} {v : Value}
theorem get_map {expr : Bool} {Q : Value → Shared → Prop} (X : K.In s.heap) (I : ObjM s.heap x dx C mA) (hg : PySem.W.plainGet K C name = true) (hh : PySem.W.hasDictIn K C = true)
    (ha : PySem.W.findIn K (.ref C) name = some none) (hv : mA name = some v) (hv' : PySem.W.handedIn v = true) (h : Q v { s with toks := s.toks + 1 }) :
    wpAny (model prog w) A (getAttr (.ref x) name expr) Q E s := by
  obtain ⟨od, J, hl⟩ := I.look
  exact PySem.W.get_value X J (PySem.W.plainGet_of hg).1 (PySem.W.findObj_own hh ha rfl (by rw [hl, hv])) hv' h
theorem set_map {ns : List Str} {Q : Unit → Shared → Prop} (X : K.In s.heap) (I : ObjM s.heap x dx C mA)
    (hs : PySem.W.findIn K (.ref C) "__setattr__" = some (some (.builtin "object.__setattr__"))) (hp : PySem.W.plainOver K C = true) (ht : PySem.W.takerIn K C name = some none) (hh : PySem.W.hasDictIn K C = true)
    (hw : PySem.Within mA ns) (hsz : ns.length ≤ sizeLine)
    (h : ∀ h', ObjM h' x dx C (fun y => if y = name then some v else mA y) → Heap.SameBut dx s.heap h' → Q () { s with heap := h', toks := s.toks + 2 }) :
    wpAny (model prog w) A (setAttr (.ref x) name v) Q E s := by
  obtain ⟨od, J, hl⟩ := I.look
  refine PySem.W.set_plain X J hs (PySem.W.osa_open (s := { s with toks := s.toks + 1 }) (r := none) X J hp ht fun b => ?_)
  obtain ⟨cd, hc, hd'⟩ := PySem.W.any_some hh
  have hx : s.heap.get? x = some ⟨.ref C, some dx, .plain, #[]⟩ := I.obj
  refine wpAny_bind (wpAny_pure (wpAny_bind (wpAny_bind (wpAny_loadPart hx (wpAny_bind (PySem.W.Looks.here (s := { s with toks := s.toks + 1 }) (PySem.W.looks_clsIn X hc) ?_))))))
  rw [hd']
  refine wpAny_pure (a := some dx) (wpAny_bind (wpAny_pure (wpAny_bind ?_)))
  refine wpAny_nsSet1 (s := { s with toks := s.toks + 1 }) I.ns fun h' hn2 hs2 => ?_
  obtain ⟨oD, esD, epD, hoD, hdD, hcD⟩ := hn2.count (PySem.Within.cons name v hw)
  refine wpAny_bind (wpAny_lookBehind hoD (by rw [hdD]; exact pastItsLine_dict (Nat.le_trans hcD (by rw [List.length_cons]; omega))) ?_)
  exact wpAny_pure (h _ ⟨(hs2.2 _ (Ne.symm I.ne)).trans I.obj, hn2, I.ne⟩ hs2)
theorem make_map {R : Result → Shared → Prop} {vs : List Value} {kw : List (Str × Value)} (X : K.In s.heap) (hm : PySem.W.makesIn K C = true)
    (hi : PySem.W.findIn K (.ref C) "__init__" = some (some (.ref f))) (hf : PySem.W.typeIn K (.ref f) = some (.type "function"))
    (h : codeAny (model prog w) (A.under (.builtin "type.__call__" ⟨.ref C :: vs, kw⟩)) (.call (.ref f) ⟨.ref (s.heap.objs.size + 1) :: vs, kw⟩) (PySem.W.InitBack (s.heap.objs.size + 1) R)
      { s with heap := (s.heap.push PySem.W.emptyDict).push (PySem.W.instObj C s.heap.objs.size) }) :
    codeAny (model prog w) A (.call (.ref C) ⟨vs, kw⟩) R s := by
  obtain ⟨hh, g, d, t, os⟩ := s
  exact PySem.W.make_core (PySem.W.makes_of X hm) (PySem.W.looks_findIn X hi) (fun self => PySem.W.bind_fn X self hf) (.inl rfl) h
end
def putF (f : Str) (v : V) : List (Str × V) → List (Str × V)
  | [] => [(f, v)]
  | (g, x) :: r => if g = f then (g, v) :: r else (g, x) :: putF f v r
theorem lookup_putF (f g : Str) (v : V) : ∀ fs : List (Str × V), (putF f v fs).lookup g = if g = f then some v else fs.lookup g
  | [] => by
    show List.lookup g [(f, v)] = _
    by_cases h : g = f
    · have hb : (g == f) = true := beq_iff_eq.mpr h
      simp only [List.lookup, hb, if_pos h]
    · have hb : (g == f) = false := beq_eq_false_iff_ne.mpr h
      simp only [List.lookup, hb, if_neg h]
  | (k, x) :: r => by
    have ih := lookup_putF f g v r
    rw [show putF f v ((k, x) :: r) = (if k = f then (k, v) :: r else (k, x) :: putF f v r) from rfl]
    by_cases hk : k = f
    · rw [if_pos hk]
      by_cases h : g = k
      · have hb : (g == k) = true := beq_iff_eq.mpr h
        simp only [List.lookup, hb, if_pos (h.trans hk)]
      · have hb : (g == k) = false := beq_eq_false_iff_ne.mpr h
        simp only [List.lookup, hb, if_neg (fun e : g = f => h (e.trans hk.symm))]
    · rw [if_neg hk]
      by_cases h : g = k
      · have hb : (g == k) = true := beq_iff_eq.mpr h
        simp only [List.lookup, hb, if_neg (fun e : g = f => hk (h.symm.trans e))]
      · have hb : (g == k) = false := beq_eq_false_iff_ne.mpr h
        simp only [List.lookup, hb]
        exact ih
theorem keys_putF (f : Str) (v : V) : ∀ fs : List (Str × V), f ∈ (putF f v fs).map (·.1) ∧ ∀ g, g ∈ fs.map (·.1) → g ∈ (putF f v fs).map (·.1)
  | [] => ⟨by simp [putF], fun g h => by simp at h⟩
  | (k, x) :: r => by
    obtain ⟨i1, i2⟩ := keys_putF f v r
    rw [show putF f v ((k, x) :: r) = (if k = f then (k, v) :: r else (k, x) :: putF f v r) from rfl]
    by_cases hk : k = f
    · rw [if_pos hk]
      subst hk
      exact ⟨by simp, fun g h => by simpa using h⟩
    · rw [if_neg hk]
      refine ⟨?_, fun g h => ?_⟩
      · rw [List.map_cons]
        exact List.mem_cons_of_mem _ i1
      · rw [List.map_cons] at h ⊢
        rcases List.mem_cons.mp h with e | e
        · exact List.mem_cons.mpr (.inl e)
        · exact List.mem_cons_of_mem _ (i2 g e)
theorem length_putF (f : Str) (v : V) : ∀ fs : List (Str × V), (putF f v fs).length ≤ fs.length + 1
  | [] => by simp [putF]
  | (k, x) :: r => by
    have ih := length_putF f v r
    rw [show putF f v ((k, x) :: r) = (if k = f then (k, v) :: r else (k, x) :: putF f v r) from rfl]
    by_cases hk : k = f
    · rw [if_pos hk, List.length_cons, List.length_cons]; omega
    · rw [if_neg hk, List.length_cons, List.length_cons]; omega
theorem RelO.some_of {v : V} {o : Option Value} (r : RelO (some v) o) : ∃ u, o = some u ∧ RelV v u := by
  cases o with
  | none => exact (show False from r).elim
  | some u => exact ⟨u, rfl, r⟩
theorem handed_of {v : V} {u : Value} (r : RelV v u) : PySem.W.handedIn u = true := by
  cases v with
  | non => cases (show u = Value.none from r); rfl
  | bl b => cases (show u = Value.bool b from r); rfl
  | int i => obtain ⟨t, e⟩ := (show ∃ t, u = Value.int i t from r); cases e; rfl
  | str x => obtain ⟨t, e⟩ := (show ∃ t, u = Value.str x t from r); cases e; rfl
  | byt b => obtain ⟨t, e⟩ := (show ∃ t, u = Value.bytes b t from r); cases e; rfl
  | flt b => obtain ⟨t, e⟩ := (show ∃ t, u = Value.float b t from r); cases e; rfl
  | ref a => cases (show u = Value.ref a from r); rfl
  | ty n => cases (show u = Value.type n from r); rfl
section
variable {P : Program} {w : World} {H H' : Hp} {h h' : Heap} {a C dx : Addr} {fs fs' : List (Str × V)}
theorem ins_get (hok : HOk P w H h) (e : H a = some (.ins C dx fs)) : ∃ mA, ObjM h a dx C mA ∧ (∀ f, RelO (fs.lookup f) (mA f)) ∧ PySem.Within mA (fs.map (·.1)) ∧ fs.length ≤ 1000 ∧ H dx = some (.own a) := by
  obtain ⟨d, z, ne, ob, mA, n, r, q⟩ := (show ObjOk P w H h a (.ins C dx fs) from hok a _ e)
  exact ⟨mA, ⟨ob, n, ne⟩, r, q, z, d⟩
end
structure Cls (K : PySem.W.Frag) (C : Addr) : Prop where
  pg : PySem.W.plainGet K C Str.empty = true
  hd : PySem.W.hasDictIn K C = true
  po : PySem.W.plainOver K C = true
  sa : PySem.W.findIn K (.ref C) "__setattr__" = some (some (.builtin "object.__setattr__"))
theorem Cls.get {K : PySem.W.Frag} {C : Addr} (c : Cls K C) (f : Str) : PySem.W.plainGet K C f = true := c.pg
def NoAttr (K : PySem.W.Frag) (C : Addr) (f : Str) : Prop := PySem.W.findIn K (.ref C) f = some none
theorem NoAttr.taker {K : PySem.W.Frag} {C : Addr} {f : Str} (n : NoAttr K C f) : PySem.W.takerIn K C f = some none := by
  unfold PySem.W.takerIn
  rw [show PySem.W.findIn K (.ref C) f = some none from n]
  rfl
structure Con (K : PySem.W.Frag) (C : Addr) (f : Str) (v : V) (u : Value) : Prop where
  at_ : PySem.W.findIn K (.ref C) f = some (some u)
  rel : RelV v u
  get : PySem.W.specialIn K u "__get__" = some none
  cp : PySem.W.copiedNames.contains f = false
structure Meth (K : PySem.W.Frag) (C : Addr) (m : Str) (f : Addr) : Prop where
  at_ : PySem.W.findIn K (.ref C) m = some (some (.ref f))
  fn : PySem.W.isFn K (.ref f) = true
  kp : PySem.W.keepIn K (.ref f) = true
section
variable {X : Cx} {pins : List (Addr × Obj)} {σ : St} {H : Hp} {s : Shared} {a C dx : Addr} {fs : List (Str × V)} {f : Str} {v : V} {A : Around} {E : Value → Shared → Prop}
theorem getattr_ok {b : Bool} {Q : Value → Shared → Prop} (I : Inv X pins σ H s) (e : H a = some (.ins C dx fs)) (c : Cls X.K C) (n : NoAttr X.K C f) (l : fs.lookup f = some v)
    (h : ∀ u s', Inv X pins σ H s' → RelV v u → Q u s') : wpAny (model X.prog X.w) A (getAttr (.ref a) f b) Q E s := by
  obtain ⟨mA, O, r, _, _, _⟩ := ins_get I.hok e
  obtain ⟨u, hu, ru⟩ := RelO.some_of (v := v) (o := mA f) (by rw [← l]; exact r f)
  exact get_map I.kIn O (c.get f) c.hd n hu (handed_of ru) (h u _ (I.tok _) ru)
theorem setattr_ok {y : V} {u : Value} {Q : Unit → Shared → Prop} (I : Inv X pins σ H s) (e : H a = some (.ins C dx fs)) (c : Cls X.K C) (n : NoAttr X.K C f) (hl : fs.length < 1000) (ry : RelV y u)
    (h : ∀ s', Inv X pins σ (upd H a (.ins C dx (putF f y fs))) s' → Q () s') : wpAny (model X.prog X.w) A (setAttr (.ref a) f u) Q E s := by
  obtain ⟨mA, O, r, wi, _, ho⟩ := ins_get I.hok e
  have hz : (fs.map (·.1)).length ≤ sizeLine := by rw [List.length_map, sizeLine_eq]; omega
  refine set_map I.kIn O c.sa c.po n.taker c.hd wi hz fun h' O' sb => h _ ?_
  have hd : ∃ o, h'.get? dx = some o := let ⟨o, _, _, e', _⟩ := O'.ns; ⟨o, e'⟩
  refine I.write (x := a) (e := dx) (by rw [e]; exact True.intro) (.inr ho) (fun b q hb z => (sb.2 b hb).trans z) hd ?_
  refine ⟨by rw [upd_ne O.ne]; exact ho, ?_, O.ne, O'.obj, _, O'.ns, fun g => ?_, fun g hg => ?_⟩
  · have := length_putF f y fs; omega
  · show RelO ((putF f y fs).lookup g) (if g = f then some u else mA g)
    rw [lookup_putF]
    by_cases q : g = f
    · rw [if_pos q, if_pos q]; exact ry
    · rw [if_neg q, if_neg q]; exact r g
  · by_cases q : g = f
    · rw [q]; exact (keys_putF f y fs).1
    · refine (keys_putF f y fs).2 g (wi g fun z => hg ?_)
      show (if g = f then some u else mA g) = none
      rw [if_neg q]; exact z
theorem Inv.made (I : Inv X pins σ H s) : Inv X pins σ (upd (upd H s.heap.objs.size (.own (s.heap.objs.size + 1))) (s.heap.objs.size + 1) (.ins C s.heap.objs.size []))
    { s with heap := (s.heap.push PySem.W.emptyDict).push (PySem.W.instObj C s.heap.objs.size) } := by
  have e1 : (s.heap.push PySem.W.emptyDict).get? s.heap.objs.size = some PySem.W.emptyDict := Heap.get?_push_size s.heap rfl
  have e2 : ((s.heap.push PySem.W.emptyDict).push (PySem.W.instObj C s.heap.objs.size)).get? (s.heap.objs.size + 1) = some (PySem.W.instObj C s.heap.objs.size) := by
    have := Heap.get?_push_size (s.heap.push PySem.W.emptyDict) (o := PySem.W.instObj C s.heap.objs.size) rfl
    rwa [Heap.size_push] at this
  have e3 : (s.heap.push PySem.W.emptyDict).Ns s.heap.objs.size (fun _ => none) := ⟨PySem.W.emptyDict, #[], _, e1, rfl, (fun e he => absurd he (by simp)), fun _ => rfl⟩
  have I1 := I.laid (a := s.heap.objs.size) (o := .own (s.heap.objs.size + 1)) (h' := s.heap.push PySem.W.emptyDict) (t' := s.toks) (fun b u q => Heap.get?_push_of_some _ q) (Nat.le_refl _) ⟨_, e1⟩
  refine I1.laid (a := s.heap.objs.size + 1) (o := .ins C s.heap.objs.size []) (t' := s.toks) (fun b u q => Heap.get?_push_of_some _ q) (Nat.le_of_eq (Heap.size_push _ _)) ?_
  have ne : s.heap.objs.size ≠ s.heap.objs.size + 1 := Nat.ne_of_lt (Nat.lt_succ_self _)
  refine ⟨by rw [upd_ne ne, upd_same], Nat.zero_le _, ne, e2, fun _ => none, (Heap.Ns1.of_empty e3).at fun o q => Heap.get?_push_of_some _ q, fun _ => True.intro, fun y hy => absurd rfl hy⟩
theorem attr_of {prog : Program} {w : World} {env : Env} {e : Expr} {f : Str} {pos : Pos} {s : Shared} {Q : Value → Shared → Prop} (hb : attributeBase e f env (eval e env) = eval e env)
    (h : wpAny (model prog w) A (eval e env) (fun o s₁ => wpAny (model prog w) A (getAttr o f true) Q E s₁) E s) : wpAny (model prog w) A (eval (.Attribute e f pos) env) Q E s :=
  Attribute_any_ h (by rw [arm_eval_Attribute, hb])
end
def sFld (K : PySem.W.Frag) (ta tv : TE) (f : Str) : TS := fun D σ H => tv σ H fun y H1 => ta σ H1 fun x H2 => ∃ a C dx fs, x = .ref a ∧ H2 a = some (.ins C dx fs) ∧ Cls K C ∧ NoAttr K C f ∧ fs.length < 1000 ∧
  D.nx σ (upd H2 a (.ins C dx (putF f y fs)))
section
variable {X : Cx} {o e value : Expr} {f : Str} {pos pos' tpos : Pos} {ta tv : TE}
theorem ps_fld (ha : PE X o ta) (hv : PE X value tv) (hs : swapsWith value (some (.Attribute o f pos')) pos.line X.env = pure false) : PS X (.Assign [.Attribute o f pos'] value pos) (sFld X.K ta tv f) := by
  intro pins s σ H D I h
  refine plainObj_wpAny_Assign_Attribute (thn (hv pins s σ H _ I h) fun u s1 ⟨y, H1, I1, ry, q⟩ => thn (ha pins s1 σ H1 _ I1 q) fun ov s2 ⟨x, H2, I2, rx, a, C, dx, fs, ex, ea, c, n, l, q2⟩ => ?_) hs
  subst ex
  obtain rfl : ov = Value.ref a := rx
  exact setattr_ok I2 ea c n l ry fun s3 I3 => ⟨σ, _, I3, q2⟩
end
section
variable {X : Cx} {pins : List (Addr × Obj)} {σ : St} {H : Hp} {s : Shared} {A : Around} {E : Value → Shared → Prop} {Q : Value → Shared → Prop} {c : Value} {b : Bool}
inductive TyOf (K : PySem.W.Frag) (H : Hp) : V → Value → Prop where
  | non : TyOf K H .non (.type "NoneType")
  | bl (x : Bool) : TyOf K H (.bl x) (.type "bool")
  | int (i : Int) : TyOf K H (.int i) (.type "int")
  | str (x : Str) : TyOf K H (.str x) (.type "str")
  | flt (x : UInt64) : TyOf K H (.flt x) (.type "float")
  | lst {a : Addr} {xs : List V} (e : H a = some (.lst xs)) : TyOf K H (.ref a) (.type "list")
  | frz {a : Addr} {o : Obj} {xs : List V} (e : H a = some (.frz o (.lst xs))) : TyOf K H (.ref a) (.type "list")
  | tup {a : Addr} {xs : List V} (e : H a = some (.tup xs)) : TyOf K H (.ref a) (.type "tuple")
  | dK {a : Addr} {kvs : List (Key × V)} (e : H a = some (.dK kvs)) : TyOf K H (.ref a) (.type "dict")
  | dT {a : Addr} {kvs : List (List Key × V)} (e : H a = some (.dT kvs)) : TyOf K H (.ref a) (.type "dict")
  | ins {a C dx : Addr} {fs : List (Str × V)} (e : H a = some (.ins C dx fs)) (cl : Cls K C) (ha : PySem.W.findIn K (.ref C) "__class__" = some (some (.builtin "object.__class__")))
      (hn : PySem.W.specialIn K (.builtin "object.__class__") "__get__" = some (some (.builtin "getset_descriptor.__get__"))) (htk : PySem.W.takesIn K (.builtin "object.__class__") = some true)
      (hm : PySem.W.mroIn K C (.type "object") = some true) : TyOf K H (.ref a) (.ref C)
theorem isinst_ok {x : V} {u t : Value} (I : Inv X pins σ H s) (rx : RelV x u) (ty : TyOf X.K H x t) (e : PySem.W.kitOne X.K t c = some b) (h : ∀ tk, Q (.bool b) { s with toks := tk }) :
    wpAny (model X.prog X.w) A (call (.builtin "isinstance") [u, c]) Q E s := by
  cases ty with
  | non => cases (show u = Value.none from rx); exact PySem.W.kia_one PySem.W.kitx_none I.kIn True.intro e (fun z => nomatch z) h
  | bl y => cases (show u = Value.bool y from rx); exact PySem.W.kia_one PySem.W.kitx_bool I.kIn True.intro e (fun z => nomatch z) h
  | int i => obtain ⟨t, q⟩ := (show ∃ t, u = Value.int i t from rx); cases q; exact PySem.W.kia_one PySem.W.kitx_int I.kIn True.intro e (fun z => nomatch z) h
  | str y => obtain ⟨t, q⟩ := (show ∃ t, u = Value.str y t from rx); cases q; exact PySem.W.kia_one PySem.W.kitx_str I.kIn True.intro e (fun z => nomatch z) h
  | flt y => obtain ⟨t, q⟩ := (show ∃ t, u = Value.float y t from rx); cases q; exact PySem.W.kia_one PySem.W.kitx_float I.kIn True.intro e (fun z => nomatch z) h
  | @lst a xs ea =>
    cases (show u = Value.ref a from rx)
    obtain ⟨_, _, n, _, h1⟩ := (show ObjOk X.prog X.w H s.heap a (.lst xs) from I.hok a _ ea)
    exact PySem.W.kia_one PySem.W.kitx_list I.kIn ⟨_, h1, rfl⟩ e (fun z => nomatch z) h
  | @frz a ob xs ea =>
    cases (show u = Value.ref a from rx)
    obtain ⟨_, _, _, n, _, h1⟩ := (show ObjOk X.prog X.w H s.heap a (.frz ob (.lst xs)) from I.hok a _ ea)
    exact PySem.W.kia_one PySem.W.kitx_list I.kIn ⟨_, h1, rfl⟩ e (fun z => nomatch z) h
  | @tup a xs ea =>
    cases (show u = Value.ref a from rx)
    obtain ⟨_, _, _, p⟩ := (show ObjOk X.prog X.w H s.heap a (.tup xs) from I.hok a _ ea)
    obtain ⟨o, h1, h2, _⟩ := p
    exact PySem.W.kia_one PySem.W.kitx_tuple I.kIn ⟨o, h1, h2⟩ e (fun z => nomatch z) h
  | @dK a kvs ea =>
    cases (show u = Value.ref a from rx)
    obtain ⟨_, _, vs, _, p⟩ := (show ObjOk X.prog X.w H s.heap a (.dK kvs) from I.hok a _ ea)
    obtain ⟨o, es, ep, h1, h2, _⟩ := p
    exact PySem.W.kia_one PySem.W.kitx_dict I.kIn ⟨o, h1, h2.1⟩ e (fun z => nomatch z) h
  | @dT a kvs ea =>
    cases (show u = Value.ref a from rx)
    obtain ⟨_, _, xs, _, o, es, ep, h1, h2, _⟩ := (show ObjOk X.prog X.w H s.heap a (.dT kvs) from I.hok a _ ea)
    exact PySem.W.kia_one PySem.W.kitx_dict I.kIn ⟨o, h1, h2.1⟩ e (fun z => nomatch z) h
  | @ins a C dx fs ea cl ha hn htk hm =>
    cases (show u = Value.ref a from rx)
    obtain ⟨mA, O, _⟩ := ins_get I.hok ea
    obtain ⟨od, J, _⟩ := O.look
    exact PySem.W.kia_one (PySem.W.kitx_own (cl.get _) cl.hd ha hn htk hm) I.kIn J e (fun z => nomatch z) h
end
end L2
namespace L2
open PySem PySem.Spec PyProof.Rows
structure Room (k : Nat) (A : Around) : Prop where
  hd : A.handled = none
  dp : A.depth + 3 * k + 5 < recursionLimit
  un : A.units + 16 * k + 200 < cLine
theorem Room.mono {j k : Nat} {A : Around} (r : Room k A) (h : j ≤ k) : Room j A := ⟨r.hd, by have := r.dp; omega, by have := r.un; omega⟩
theorem Room.deeper {k : Nat} {A : Around} (r : Room (k + 1) A) (env : Env) : Room k (A.deeper env) :=
  ⟨r.hd, by have := r.dp; show A.depth + 1 + 3 * k + 5 < _; omega, by have := r.un; show A.units + 3 + 16 * k + 200 < _; omega⟩
theorem Room.in1 {k : Nat} {A : Around} (r : Room (k + 1) A) : Room k A.in1 :=
  ⟨r.hd, by have := r.dp; show A.depth + 3 * k + 5 < _; omega, by have := r.un; show A.units + 1 + 16 * k + 200 < _; omega⟩
theorem make_depth {A : Around} {C : Addr} {us : List Value} {kw : List (Str × Value)} : (A.under (.builtin "type.__call__" ⟨.ref C :: us, kw⟩)).depth = A.depth + 1 := by
  first | rfl | simp [Around.under, Code.weight, Code.isCreation, Code.isGuard, Code.isCaller, Code.frames, Code.isFrame, guardIds]
theorem make_units {A : Around} {C : Addr} {us : List Value} {kw : List (Str × Value)} : (A.under (.builtin "type.__call__" ⟨.ref C :: us, kw⟩)).units = A.units + 1 := by
  first | rfl | simp [Around.under, Code.cUnits, Code.frames, Code.isFrame]
theorem Room.make {k : Nat} {A : Around} (r : Room (k + 1) A) (C : Addr) (us : List Value) (kw : List (Str × Value)) : Room k (A.under (.builtin "type.__call__" ⟨.ref C :: us, kw⟩)) :=
  ⟨r.hd, by have := r.dp; rw [make_depth]; omega, by have := r.un; rw [make_units]; omega⟩
theorem Room.depth {k : Nat} {A : Around} (r : Room k A) : A.depth < recursionLimit := by have := r.dp; omega
theorem Room.units {k : Nat} {A : Around} (r : Room k A) : A.units + 64 < cLine := by have := r.un; omega
def tNil : TA := fun _ H Q => Q [] H
def tCons (ta : TE) (tr : TA) : TA := fun σ H Q => ta σ H fun x H1 => tr σ H1 fun xs H2 => Q (x :: xs) H2
section
variable {X : Cx} {e : Expr} {es : List Expr} {te : TE} {t : TA} {pos : Pos}
theorem pa_nil : PA X [] tNil := fun _ _ _ _ H Q I h => Calls.spliced_nil ⟨[], H, I, .nil, h⟩
theorem pa_cons (ha : PE X e te) (hr : PA X es t) (hs : starEach (e :: es) X.env = (false, eval e X.env) :: starEach es X.env := by rfl) : PA X (e :: es) (tCons te t) := by
  intro pos pins s σ H Q I h
  rw [hs]
  show wpAny _ _ (spliced ((false, eval e X.env) :: backTo pos (starEach es X.env))) _ _ s
  refine Calls.spliced_cons (thn (ha pins s σ H _ I h) fun u s1 ⟨x, H1, I1, r1, q1⟩ => ?_)
  exact thn (hr pos pins s1 σ H1 _ I1 q1) fun us s2 ⟨xs, H2, I2, r2, q2⟩ => ⟨x :: xs, H2, I2, .cons r1 r2, q2⟩
def tTup (t : TA) : TE := fun σ H Q => t σ H fun xs H1 => xs.length ≤ sizeLine ∧ ∀ p, H1 p = none → Q (.ref p) (upd H1 p (.tup xs))
def tLst (t : TA) : TE := fun σ H Q => t σ H fun xs H1 => xs.length ≤ sizeLine ∧ ∀ p, H1 p = none → Q (.ref p) (upd H1 p (.lst xs))
theorem pe_tup {x1} (h : PA X es t) : PE X (.Tuple es x1 pos) (tTup t) := by
  intro pins s σ H Q I hq
  refine wpAny_Tuple_spliced (thn (h pos pins s σ H _ I hq) fun us s1 ⟨xs, H1, I1, r, z, q⟩ => ⟨by rw [← r.length]; exact z, ?_⟩)
  have hf : H1 s1.heap.objs.size = none := I1.hok.fresh (Nat.le_refl _)
  refine ⟨.ref s1.heap.objs.size, upd H1 s1.heap.objs.size (.tup xs), I1.laid (t' := s1.toks) (fun b u e => Heap.get?_push_of_some _ e) (Nat.le_refl _) ?_, rfl, q _ hf⟩
  exact ⟨z, us, r, ⟨_, Heap.get?_push_size _ rfl, rfl, _, rfl⟩⟩
theorem pe_lst (h : PA X es t) : PE X (.List es pos) (tLst t) := by
  intro pins s σ H Q I hq
  refine wpAny_List_spliced (thn (h pos pins s σ H _ I hq) fun us s1 ⟨xs, H1, I1, r, z, q⟩ => ⟨by rw [← r.length]; exact z, ?_⟩)
  have hf : H1 s1.heap.objs.size = none := I1.hok.fresh (Nat.le_refl _)
  refine ⟨.ref s1.heap.objs.size, upd H1 s1.heap.objs.size (.lst xs), I1.laid (t' := s1.toks) (fun b u e => Heap.get?_push_of_some _ e) (Nat.le_refl _) ?_, rfl, q _ hf⟩
  exact ⟨z, us, 0, r, Heap.get?_push_size _ rfl⟩
end
abbrev Sp := List V → Hp → VK → XK → Prop
abbrev CXT := List Env → Hp → Shared → XK → Value → Shared → Prop
structure Env0 (P : Program) (w : World) (K : PySem.W.Frag) (mg : Str → Option Value) (base : Heap) (A : Around) (outer : List Env) (s : Shared) (H : Hp) : Prop where
  frames : A.frames = some outer
  mod : Mod K mg base
  bs : ∀ b o, base.get? b = some o → s.heap.get? b = some o ∧ H b = none
  bsz : base.objs.size ≤ s.heap.objs.size
  funs : s.heap.FunFrames base outer
  frf : ∀ b ∈ frs outer, H b = none
  hok : HOk P w H s.heap
  bare : AllBare s.gens
def CE (outer : List Env) (P : Program) (w : World) (H : Hp) (s : Shared) (Q : VK) (u : Value) (s' : Shared) : Prop :=
  ∃ v H', s'.os = s.os ∧ AllBare s'.gens ∧ Un (frs outer) [] H H' s.heap s'.heap ∧ HOk P w H' s'.heap ∧ RelV v u ∧ Q v H'
def CR (CX : CXT) (outer : List Env) (P : Program) (w : World) (H : Hp) (s : Shared) (Q : VK) (E : XK) (r : Result) (s' : Shared) : Prop :=
  match r with
  | .ok (.ret u) => CE outer P w H s Q u s'
  | .ok _ => False
  | .error e => CX outer H s E e s'
structure FnOk (P : Program) (w : World) (K : PySem.W.Frag) (mg : Str → Option Value) (base : Heap) (CX : CXT) (k : Nat) (f : Addr) (fd : FuncData) (ps : List Str) (sp : Sp) : Prop where
  len : ∀ vs H Q E, sp vs H Q E → vs.length = ps.length
  run : ∀ (A : Around) (outer : List Env) (s : Shared) (H : Hp) (args : Args) (us : List Value) (vs : List V) (Q : VK) (E : XK), Room k A → Env0 P w K mg base A outer s H → BindsTo s fd args (ps.zip us) → Vals vs us → sp vs H Q E →
    codeAny (model P w) A (.call (.ref f) args) (CR CX outer P w H s Q E) s
theorem FnOk.mono {P : Program} {w : World} {K : PySem.W.Frag} {mg : Str → Option Value} {base : Heap} {CX : CXT} {j k : Nat} {f : Addr} {fd : FuncData} {ps : List Str} {sp : Sp} (F : FnOk P w K mg base CX j f fd ps sp) (h : j ≤ k) :
    FnOk P w K mg base CX k f fd ps sp := ⟨F.len, fun A outer s H args us vs Q E hr => F.run A outer s H args us vs Q E (hr.mono h)⟩
theorem FnOk.imp {P : Program} {w : World} {K : PySem.W.Frag} {mg : Str → Option Value} {base : Heap} {CX : CXT} {k : Nat} {f : Addr} {fd : FuncData} {ps : List Str} {sp sp' : Sp} (F : FnOk P w K mg base CX k f fd ps sp)
    (h : ∀ vs H Q E, sp' vs H Q E → sp vs H Q E) : FnOk P w K mg base CX k f fd ps sp' :=
  ⟨fun vs H Q E q => F.len vs H Q E (h _ _ _ _ q), fun A outer s H args us vs Q E hr he hb hv hs => F.run A outer s H args us vs Q E hr he hb hv (h _ _ _ _ hs)⟩
theorem Env0.make {P : Program} {w : World} {K : PySem.W.Frag} {mg : Str → Option Value} {base : Heap} {A : Around} {outer : List Env} {s : Shared} {H : Hp} (e : Env0 P w K mg base A outer s H) (C : Addr) (us : List Value) (kw : List (Str × Value)) :
    Env0 P w K mg base (A.under (.builtin "type.__call__" ⟨.ref C :: us, kw⟩)) outer s H := ⟨by first | exact e.frames | (simpa [Around.under, Code.envs, Code.isFrame, pushEnvs] using e.frames), e.mod, e.bs, e.bsz, e.funs, e.frf, e.hok, e.bare⟩
theorem Env0.in1 {P : Program} {w : World} {K : PySem.W.Frag} {mg : Str → Option Value} {base : Heap} {A : Around} {outer : List Env} {s : Shared} {H : Hp} (e : Env0 P w K mg base A outer s H) :
    Env0 P w K mg base A.in1 outer s H := ⟨e.frames, e.mod, e.bs, e.bsz, e.funs, e.frf, e.hok, e.bare⟩
section
variable {X : Cx} {pins : List (Addr × Obj)} {σ : St} {H : Hp} {s s' : Shared}
theorem Inv.env0 (I : Inv X pins σ H s) : Env0 X.prog X.w X.K X.mg X.base X.A X.stack s H :=
  ⟨I.ok.frames, I.ok.mod, I.bs, Nat.le_trans I.ok.bsz I.sz, I.stack, I.stkFree, I.hok, I.bare⟩
theorem Inv.after {Q : VK} {u : Value} (I : Inv X pins σ H s) (h : CE X.stack X.prog X.w H s Q u s') : EP X pins σ Q u s' := by
  obtain ⟨v, H', os, bare, un, hok, r, q⟩ := h
  obtain ⟨hh, g, d, t, os'⟩ := s'
  obtain rfl : os' = s.os := os
  exact ⟨v, H', I.call (h' := hh) (g' := g) (d' := d) (t' := t) (ch := []) un hok bare (fun b z => absurd z (by simp)), r, q⟩
end
def tCall (sp : Sp) (dvs : List V) (E : XK) (t : TA) : TE := fun σ H Q => t σ H fun vs H1 => sp (vs ++ dvs) H1 Q E
def tMake (C : Addr) (sp : Sp) (dvs : List V) (E : XK) (t : TA) : TE := fun σ H Q => t σ H fun vs H1 => ∀ x dx, H1 x = none → H1 dx = none → dx ≠ x →
  sp (.ref x :: (vs ++ dvs)) (upd (upd H1 dx (.own x)) x (.ins C dx [])) (fun v H2 => v = .non ∧ Q (.ref x) H2) E
def Binds (K : PySem.W.Frag) (fd : FuncData) (ps : List Str) (ds : List Value) : Prop :=
  ∀ (s : Shared) (us : List Value), K.In s.heap → (us ++ ds).length = ps.length → BindsTo s fd ⟨us, []⟩ (ps.zip (us ++ ds))
theorem Binds.all {K : PySem.W.Frag} {fd : FuncData} {ps : List Str} (h : ∀ us : List Value, us.length = ps.length → bindArgs fd ⟨us, []⟩ = pure (ps.zip us)) : Binds K fd ps [] := fun s us _ hl => by
  rw [List.append_nil] at hl ⊢
  exact .of_eq (h us hl)
def Passes (CX : CXT) (X : Cx) (E : XK) : Prop := ∀ (pins : List (Addr × Obj)) (σ : St) (H : Hp) (s : Shared) (e : Value) (s' : Shared), Inv X pins σ H s → CX X.stack H s E e s' → X.xe e s'
section
variable {X : Cx} {CX : CXT} {k : Nat} {f C : Addr} {fd : FuncData} {ps : List Str} {sp : Sp} {dvs : List V} {ds : List Value} {E : XK} {x m : Str} {p pos apos : Pos} {e o : Expr} {es : List Expr} {ta : TE} {t : TA}
theorem run_fn {pins : List (Addr × Obj)} {σ : St} {H : Hp} {s : Shared} {Q : VK} {us : List Value} {vs : List V} (F : FnOk X.prog X.w X.K X.mg X.base CX k f fd ps sp) (hr : Room k X.A) (hb : Binds X.K fd ps ds) (hd : Vals dvs ds) (hx : Passes CX X E)
    (I : Inv X pins σ H s) (r : Vals vs us) (h : sp (vs ++ dvs) H Q E) : wpAny (model X.prog X.w) X.A (call (.ref f) us) (EP X pins σ Q) X.xe s := by
  have r2 : Vals (vs ++ dvs) (us ++ ds) := r.append hd
  have hl : (us ++ ds).length = ps.length := by rw [← r2.length]; exact F.len _ _ _ _ h
  refine wpAny_call (codeAny_mono (F.run X.A X.stack s H ⟨us, []⟩ (us ++ ds) (vs ++ dvs) Q E hr I.env0 (hb s us I.kIn hl) r2 h) fun r s' hq => ?_)
  cases r with
  | error e => exact hx pins σ H s e s' I hq
  | ok fl =>
    cases fl with
    | ret u => exact I.after hq
    | next => exact False.elim hq
    | brk => exact False.elim hq
    | cont => exact False.elim hq
theorem pe_call (F : FnOk X.prog X.w X.K X.mg X.base CX k f fd ps sp) (hr : Room k X.A) (hg : Gl X x) (hm : X.mg x = some (.ref f)) (hk : PySem.W.keepIn X.K (.ref f) = true) (hb : Binds X.K fd ps ds) (hd : Vals dvs ds) (hx : Passes CX X E)
    (ha : PA X (e :: es) t) (hdb : (x == ("__debug__" : Str)) = false := by decide) (he : starEach (e :: es) X.env = (false, eval e X.env) :: starEach es X.env := by rfl) (hpl : (backTo pos (starEach es X.env)).any (·.1) = false := by rfl) :
    PE X (.Call (.Name x p) (e :: es) [] pos) (tCall sp dvs E t) := by
  intro pins s σ H Q I h
  refine wpAny_Call_Name_kw (ld_glob I hg hm ?_ hdb)
  refine PySem.W.callWith_K (h₀ := X.base) I.ok.mod.kin hk (thn (ha pos pins s σ H _ I h) fun us s1 ⟨vs, H1, I1, r, q⟩ => ⟨I1.kIn, ?_⟩) he hpl
  exact run_fn F hr hb hd hx I1 r q
structure Mk (K : PySem.W.Frag) (C f : Addr) : Prop where
  makes : PySem.W.makesIn K C = true
  init : PySem.W.findIn K (.ref C) "__init__" = some (some (.ref f))
  fn : PySem.W.isFn K (.ref f) = true
  kp : PySem.W.keepIn K (.ref C) = true
theorem run_make {pins : List (Addr × Obj)} {σ : St} {H : Hp} {s : Shared} {Q : VK} {us : List Value} {vs : List V} (M : Mk X.K C f) (F : FnOk X.prog X.w X.K X.mg X.base CX k f fd ps sp) (hr : Room (k + 1) X.A) (hb : Binds X.K fd ps ds) (hd : Vals dvs ds)
    (hx : Passes CX X E) (I : Inv X pins σ H s) (r : Vals vs us)
    (h : ∀ x dx, H x = none → H dx = none → dx ≠ x → sp (.ref x :: (vs ++ dvs)) (upd (upd H dx (.own x)) x (.ins C dx [])) (fun v H2 => v = .non ∧ Q (.ref x) H2) E) :
    wpAny (model X.prog X.w) X.A (call (.ref C) us) (EP X pins σ Q) X.xe s := by
  have hq := h (s.heap.objs.size + 1) s.heap.objs.size (I.hok.fresh (Nat.le_succ _)) (I.hok.fresh (Nat.le_refl _)) (Nat.ne_of_lt (Nat.lt_succ_self _))
  have I2 := Inv.made (C := C) I
  have r2 : Vals (V.ref (s.heap.objs.size + 1) :: (vs ++ dvs)) (Value.ref (s.heap.objs.size + 1) :: (us ++ ds)) := .cons rfl (r.append hd)
  have hl : (Value.ref (s.heap.objs.size + 1) :: us ++ ds).length = ps.length := by
    have e := r2.length
    rw [F.len _ _ _ _ hq] at e
    exact e.symm
  refine wpAny_call (make_map (f := f) I.kIn M.makes M.init (beq_iff_eq.mp M.fn) (codeAny_mono (F.run _ X.stack _ _ ⟨Value.ref (s.heap.objs.size + 1) :: us, []⟩ (Value.ref (s.heap.objs.size + 1) :: (us ++ ds)) _ _ E (hr.make C us [])
    (I2.env0.make C us []) (hb _ (Value.ref (s.heap.objs.size + 1) :: us) I2.kIn hl) r2 hq) fun r s' hq' => ?_))
  cases r with
  | error e => exact hx pins σ _ _ e s' I2 hq'
  | ok fl =>
    cases fl with
    | ret u =>
      obtain ⟨v, H', I3, rv, ev, q3⟩ := I2.after hq'
      subst ev
      exact ⟨rv, ⟨V.ref (s.heap.objs.size + 1), H', I3, rfl, q3⟩⟩
    | next => exact False.elim hq'
    | brk => exact False.elim hq'
    | cont => exact False.elim hq'
theorem pe_make (M : Mk X.K C f) (F : FnOk X.prog X.w X.K X.mg X.base CX k f fd ps sp) (hr : Room (k + 1) X.A) (hg : Gl X x) (hm : X.mg x = some (.ref C)) (hb : Binds X.K fd ps ds) (hd : Vals dvs ds) (hx : Passes CX X E)
    (ha : PA X (e :: es) t) (hdb : (x == ("__debug__" : Str)) = false := by decide) (he : starEach (e :: es) X.env = (false, eval e X.env) :: starEach es X.env := by rfl) (hpl : (backTo pos (starEach es X.env)).any (·.1) = false := by rfl) :
    PE X (.Call (.Name x p) (e :: es) [] pos) (tMake C sp dvs E t) := by
  intro pins s σ H Q I h
  refine wpAny_Call_Name_kw (ld_glob I hg hm ?_ hdb)
  refine PySem.W.callWith_K (h₀ := X.base) I.ok.mod.kin M.kp (thn (ha pos pins s σ H _ I h) fun us s1 ⟨vs, H1, I1, r, q⟩ => ⟨I1.kIn, ?_⟩) he hpl
  exact run_make M F hr hb hd hx I1 r q
end
section
variable {X : Cx} {CX : CXT} {k : Nat} {f C : Addr} {fd : FuncData} {ps ks : List Str} {sp : Sp} {E : XK} {x m : Str} {p pos apos kpos : Pos} {e o : Expr} {es : List Expr} {kws : List Keyword} {te ta : TE} {t tk : TA} {nm : Option Str}
structure KBinds (K : PySem.W.Frag) (fd : FuncData) (ps ks : List Str) (g : List Value → List Value → List Value) (gV : List V → List V → List V) : Prop where
  to : ∀ (s : Shared) (us ws : List Value), K.In s.heap → (g us ws).length = ps.length → BindsTo s fd ⟨us, ks.zip ws⟩ (ps.zip (g us ws))
  rel : ∀ {vs : List V} {us : List Value} {zs : List V} {ws : List Value}, Vals vs us → Vals zs ws → Vals (gV vs zs) (g us ws)
variable {g : List Value → List Value → List Value} {gV : List V → List V → List V}
end
structure FnScope (N P : List Str) (sc : Scope) : Prop where
  kind : sc.kind = .function
  co : sc.isCoroutine = false
  gen : sc.isGenerator = false
  nd : N.Nodup
  pre : N.take P.length = P
  par : ∀ x ∈ P, sc.names.lookup x = some .local ∨ sc.names.lookup x = some .cell
  nofree : ∀ y ∈ sc.names, y.2 ≠ .free
theorem bindL_out {kindOf : Str → Option NameKind} {x : Str} : ∀ {binds : List (Str × Value)} {m : Str → Option Value}, (∀ v, (x, v) ∉ binds) → bindL kindOf binds m x = m x
  | [], _, _ => rfl
  | (n, v) :: r, m, h => by
    unfold bindL
    rw [bindL_out fun w hw => h w (List.mem_cons_of_mem _ hw)]
    split
    · have : x ≠ n := by rintro rfl; exact h v List.mem_cons_self
      simp [this]
    · rfl
theorem bindC_out {kindOf : Str → Option NameKind} {x : Str} : ∀ {binds : List (Str × Value)} {m : Str → Option Value}, (∀ v, (x, v) ∉ binds) → bindC kindOf binds m x = m x
  | [], _, _ => rfl
  | (n, v) :: r, m, h => by
    unfold bindC
    rw [bindC_out fun w hw => h w (List.mem_cons_of_mem _ hw)]
    split
    · rfl
    · have : x ≠ n := by rintro rfl; exact h v List.mem_cons_self
      simp [this]
theorem bindL_get {kindOf : Str → Option NameKind} {x : Str} {v : Value} : ∀ {P : List Str} {vs : List Value} {i : Nat} {m : Str → Option Value}, P.Nodup → P[i]? = some x → vs[i]? = some v → kindOf x = some .local →
    bindL kindOf (P.zip vs) m x = some v
  | [], _, _, _, _, h, _, _ => by simp at h
  | _ :: _, [], _, _, _, _, h, _ => by simp at h
  | p :: P, w :: vs, 0, m, nd, h1, h2, hk => by
    simp at h1 h2; subst h1; subst h2
    show bindL kindOf ((p, w) :: P.zip vs) m p = _
    unfold bindL
    rw [bindL_out fun v hv => (List.nodup_cons.mp nd).1 (List.of_mem_zip hv).1, if_pos hk]
    simp
  | p :: P, w :: vs, i + 1, m, nd, h1, h2, hk => by
    show bindL kindOf ((p, w) :: P.zip vs) m x = _
    unfold bindL
    exact bindL_get (i := i) (List.nodup_cons.mp nd).2 (by simpa using h1) (by simpa using h2) hk
theorem bindC_get {kindOf : Str → Option NameKind} {x : Str} {v : Value} : ∀ {P : List Str} {vs : List Value} {i : Nat} {m : Str → Option Value}, P.Nodup → P[i]? = some x → vs[i]? = some v → kindOf x ≠ some .local →
    bindC kindOf (P.zip vs) m x = some v
  | [], _, _, _, _, h, _, _ => by simp at h
  | _ :: _, [], _, _, _, _, h, _ => by simp at h
  | p :: P, w :: vs, 0, m, nd, h1, h2, hk => by
    simp at h1 h2; subst h1; subst h2
    show bindC kindOf ((p, w) :: P.zip vs) m p = _
    unfold bindC
    rw [bindC_out fun v hv => (List.nodup_cons.mp nd).1 (List.of_mem_zip hv).1, if_neg hk]
    simp
  | p :: P, w :: vs, i + 1, m, nd, h1, h2, hk => by
    show bindC kindOf ((p, w) :: P.zip vs) m x = _
    unfold bindC
    exact bindC_get (i := i) (List.nodup_cons.mp nd).2 (by simpa using h1) (by simpa using h2) hk
def start (N : List Str) (vs : List V) : St := vs.map some ++ List.replicate (N.length - vs.length) none
def cxOf (CX : CXT) (P : Program) (w : World) (K : PySem.W.Frag) (mg : Str → Option Value) (base : Heap) (N : List Str) (qual : Str) (scope : Scope) (f : Addr) (cd : Value) (A : Around) (outer : List Env) (s : Shared) (H : Hp) (E : XK) : Cx where
  prog := P
  w := w
  K := K
  mg := mg
  base := base
  A := A.deeper (envOfC qual scope s.heap.objs.size f cd)
  N := N
  s₀ := s
  H₀ := H
  env := envOfC qual scope s.heap.objs.size f cd
  outer := outer
  stack := envOfC qual scope s.heap.objs.size f cd :: outer
  ex := []
  calm := true
  fn := fun _ => true
  pn := []
  xe := fun e s' => wpAny (model P w) (A.deeper (envOfC qual scope s.heap.objs.size f cd)) (leaving (envOfC qual scope s.heap.objs.size f cd) e) (fun _ s'' => CX outer H s E e s'') (fun e' s'' => CX outer H s E e' s'') s'
theorem cell_has {sc : Scope} {n : Nat} {x : Str} (h : sc.names.lookup x = some .cell) : ∃ c, (cellsFrom n sc.names []).lookup x = some c := by
  have q := PySem.W.cellsFrom_some sc.names n [] (.inl h)
  exact Option.isSome_iff_exists.mp q
theorem inv_start {CX : CXT} {P : Program} {w : World} {K : PySem.W.Frag} {mg : Str → Option Value} {base : Heap} {N ps : List Str} {qual : Str} {scope : Scope} {f : Addr} {cd : Value} {A : Around} {outer : List Env} {s s1 : Shared} {H : Hp} {E : XK} {us : List Value} {vs : List V}
    (S : FnScope N ps scope) (hd : A.handled = none) (e0 : Env0 P w K mg base A outer s H) (hl : vs.length = ps.length) (r : Vals vs us)
    (x : InCallC s s.heap.objs.size (bindL (envOfC qual scope s.heap.objs.size f cd).kindOf (ps.zip us) fun _ => none) (cellsFrom (s.heap.objs.size + 1) scope.names []) (bindC (envOfC qual scope s.heap.objs.size f cd).kindOf (ps.zip us) fun _ => none) s1) :
    Inv (cxOf CX P w K mg base N qual scope f cd A outer s H E) [] (start N vs) H s1 := by
  have hpl : ps.length ≤ N.length := by have := congrArg List.length S.pre; rw [List.length_take] at this; omega
  obtain ⟨h1, tk, rfl, hk⟩ := x.done
  have noA : ∀ b : Addr, b ∉ (cxOf CX P w K mg base N qual scope f cd A outer s H E).ex := fun b z => absurd (show b ∈ ([] : List Addr) from z) (by simp)
  refine ⟨⟨e0.mod, S.kind, rfl, rfl, Nat.le_refl _, fun y z c h1 h2 => ?_, fun y hy => ?_, fun y c _ h => ?_, fun _ => hd, Around.frames_deeper e0.frames, .inr ⟨rfl, rfl⟩, fun b z => absurd z (noA b), e0.bs, e0.bsz, fun b _ _ => noA b, fun b z => absurd z (noA b), e0.funs, e0.frf⟩,
    rfl, e0.bare, Un.kept hk, ⟨_, x.toInCall.ns, fun i y v h1 h2 h3 => ?_⟩, fun y c h => ⟨_, x.cell y c h⟩, e0.hok.fresh (Nat.le_refl _), fun y c h => ?_, fun p hp => absurd (show p ∈ ([] : List (Addr × Obj)) from hp) (by simp), e0.hok.kept hk, ?_⟩
  · exact name_of_addr x.apart (PySem.mem_of_lookup h1) (PySem.mem_of_lookup h2)
  · have hy : scope.names.lookup y = some .cell ∨ scope.names.lookup y = some .free := hy
    rcases hy with hy | hy
    · exact cell_has hy
    · exact absurd rfl (S.nofree _ (PySem.mem_of_lookup hy))
  · exact Nat.le_of_lt (x.above y c (PySem.mem_of_lookup h))
  · have hi : i < vs.length := by
      unfold start at h2
      by_cases hi : i < vs.length
      · exact hi
      · rw [List.getElem?_append_right (by simpa using hi)] at h2
        rw [List.getElem?_replicate] at h2
        split at h2 <;> cases h2
    have ha : vs[i]? = some v := by
      unfold start at h2
      rw [List.getElem?_append_left (by simpa using hi), List.getElem?_map] at h2
      cases e : vs[i]? with
      | none => rw [e] at h2; cases h2
      | some a => rw [e] at h2; cases h2; rfl
    obtain ⟨u, hu, rv⟩ := r.get ha
    have hp : ps[i]? = some y := by
      rw [← S.pre, List.getElem?_take_of_lt (by omega)]; exact h1
    have ndP : ps.Nodup := by rw [← S.pre]; exact S.nd.sublist (List.take_sublist _ _)
    refine ⟨u, rv, ?_⟩
    rcases S.par y (List.mem_of_getElem? hp) with k | k
    · exact .inl ⟨k, bindL_get ndP hp hu k⟩
    · obtain ⟨c, e⟩ := cell_has (n := s.heap.objs.size + 1) k
      refine .inr ⟨.inl k, c, e, ?_⟩
      have q := x.cell y c e
      rw [bindC_get ndP hp hu (by show scope.names.lookup y ≠ _; rw [k]; decide)] at q
      exact q
  · exact e0.hok.fresh (Nat.le_of_lt (x.above y c (PySem.mem_of_lookup h)))
  · unfold start
    show _ = N.length
    rw [List.length_append, List.length_map, List.length_replicate]
    omega
theorem fn_of {CX : CXT} {P : Program} {w : World} {K : PySem.W.Frag} {mg : Str → Option Value} {base : Heap} {k : Nat} {f : Addr} {name qual : Str} {params : Arguments} {body : List Stmt} {scope : Scope} {dV kV doc pm cdv ct oc : Value} {an od : Option Addr}
    {osl : Array (Option Value)} {N ps : List Str} {sp : Sp} (lk : K.lookup f = some ⟨oc, od, .func (PySem.W.fnOf name qual params body scope dV kV doc pm an cdv ct), osl⟩) (hcd : PySem.W.codeIn K cdv qual = true) (S : FnScope N ps scope)
    (len : ∀ vs H Q E, sp vs H Q E → vs.length = ps.length)
    (hbody : ∀ (A : Around) (outer : List Env) (s : Shared) (H : Hp) (vs : List V) (Q : VK) (E : XK), Room k (A.deeper (envOfC qual scope s.heap.objs.size f cdv)) → sp vs H Q E →
      ∃ t, PSs (cxOf CX P w K mg base N qual scope f cdv A outer s H E) body t ∧ t { nx := fun _ H' => Q .non H', rt := Q } (start N vs) H) :
    FnOk P w K mg base CX (k + 1) f (PySem.W.fnOf name qual params body scope dV kV doc pm an cdv ct) ps sp := by
  refine ⟨len, fun A outer s H args us vs Q E hr e0 hb r hsp => ?_⟩
  have hl := len _ _ _ _ hsp
  have KX : K.In s.heap := e0.mod.kin.keeps fun b o e => (e0.bs b o e).1
  have lim : s.heap.NoLimit := e0.mod.nolimit.keeps fun b o e => (e0.bs b o e).1
  have hkind : ∀ y ∈ ps.zip us, scope.names.lookup y.1 = some .local ∨ (scope.names.lookup y.1 = some .cell ∧ ((cellsFrom (s.heap.objs.size + 1) scope.names []).lookup y.1).isSome = true) := fun ⟨n, v⟩ hy => by
    rcases S.par n (List.of_mem_zip hy).1 with q | q
    · exact .inl q
    · exact .inr ⟨q, PySem.W.cellsFrom_some _ _ _ (.inl q)⟩
  refine codeAny_call_function hr.depth (KX _ _ lk) rfl S.co S.gen rfl (PySem.W.codeRec_of KX hcd) (hb _ _ _ _ ?_)
  refine wpAny_newFunctionEnv_cells S.kind hkind fun env he s1 x => ?_
  subst he
  refine ⟨lim.keeps x.toInCall.keep, codeAny_func ?_⟩
  obtain ⟨t, ht, hq⟩ := hbody A outer s H vs Q E (hr.deeper _) hsp
  have I : Inv (cxOf CX P w K mg base N qual scope f cdv A outer s H E) [] (start N vs) H s1 := inv_start S hr.hd e0 hl r x
  refine wpAny_mono (ht [] s1 (start N vs) H _ I hq) (fun fl s' hs => ?_) fun e s' hs => hs
  have fin : ∀ {σ' : St} {H' : Hp} {v : V} {u : Value}, Inv (cxOf CX P w K mg base N qual scope f cdv A outer s H E) [] σ' H' s' → RelV v u → Q v H' → CE outer P w H s Q u s' :=
    fun {σ' H' v u} J rv q => ⟨v, H', J.os, J.bare, J.base, J.hok, rv, q⟩
  cases fl with
  | ret u =>
    obtain ⟨v, σ', H', J, rv, q⟩ := hs
    exact fin J rv q
  | next =>
    obtain ⟨σ', H', J, q⟩ := hs
    exact fin (v := V.non) (u := Value.none) J rfl q
  | brk =>
    obtain ⟨_, _, _, q⟩ := hs
    exact False.elim q
  | cont =>
    obtain ⟨_, _, _, q⟩ := hs
    exact False.elim q
end L2
namespace L2
open PySem PySem.Spec PyProof.Rows
section
variable {X : Cx} {x : Str} {p pos : Pos} {e : Expr} {es : List Expr} {t : TA} {id T : String} {r : List V → Hp → VK → Prop}
def tCB (r : List V → Hp → VK → Prop) (t : TA) : TE := fun σ H Q => t σ H fun vs H1 => r vs H1 Q
theorem pe_callB (hc : CallR X (.builtin id) r) (hg : Gl X x) (hm : X.mg x = none) (hv : bootBuiltins x = some (.builtin id)) (ha : PA X (e :: es) t) (hn : x ≠ "__name__" := by decide) (hdb : (x == ("__debug__" : Str)) = false := by decide)
    (he : starEach (e :: es) X.env = (false, eval e X.env) :: starEach es X.env := by rfl) (hpl : (backTo pos (starEach es X.env)).any (·.1) = false := by rfl) : PE X (.Call (.Name x p) (e :: es) [] pos) (tCB r t) := by
  intro pins s σ H Q I h
  refine wpAny_Call_Name_kw (ld_blt I hg hm hv ?_ hn hdb)
  exact PyProof.Rows.callWith_builtin1 (thn (ha pos pins s σ H _ I h) fun us s1 ⟨vs, H1, I1, r1, q1⟩ => hc pins s1 σ H1 vs us Q I1 r1 q1) he hpl
theorem pe_callTy (hc : CallR X (.type T) r) (hg : Gl X x) (hm : X.mg x = none) (hv : bootBuiltins x = some (.type T)) (ha : PA X (e :: es) t) (hn : x ≠ "__name__" := by decide) (hdb : (x == ("__debug__" : Str)) = false := by decide)
    (he : starEach (e :: es) X.env = (false, eval e X.env) :: starEach es X.env := by rfl) (hpl : (backTo pos (starEach es X.env)).any (·.1) = false := by rfl) : PE X (.Call (.Name x p) (e :: es) [] pos) (tCB r t) := by
  intro pins s σ H Q I h
  refine wpAny_Call_Name_kw (ld_blt I hg hm hv ?_ hn hdb)
  exact PyProof.Rows.callWith_type1 (thn (ha pos pins s σ H _ I h) fun us s1 ⟨vs, H1, I1, r1, q1⟩ => hc pins s1 σ H1 vs us Q I1 r1 q1) he hpl
end
end L2
namespace HT
open PySem PyProof.Rows
section
open PySem.SeqAt
open PySem.AutoSeq1 (wpAny_loadPart')
open PySem.MeetsSeq PySem.MeetsSeq2 PySem.MeetsSeq3
end
section
variable {prog : Program} {w : World} {A : Around} {E : Value → Shared → Prop} {s : Shared}
end
end HT
namespace L2
open PySem PySem.Spec PyProof.Rows
abbrev TO := St → Hp → (Option Int → Hp → Prop) → Prop
section
variable {X : Cx} {e : Expr} {te : TE} {lo hi : Option Expr} {tl th : TO} {pos p2 : Pos}
def SlR (X : Cx) (r : V → Option Int → Option Int → Hp → VK → Prop) : Prop :=
  ∀ (pins : List (Addr × Obj)) (s : Shared) (σ : St) (H : Hp) (x : V) (v vl vu : Value) (lo hi : Option Int) (sl : Addr) (Q : VK), Inv X pins σ H s → RelV x v → s.heap.IsSliceOf sl vl vu .none → IsPart vl lo → IsPart vu hi → r x lo hi H Q →
    ∃ T id, typeLookup (.type T) "__getitem__" = pure (some (.builtin id)) ∧ s.TypeIs v T ∧ wpAny (model X.prog X.w) X.A (getItem v (.ref sl)) (EP X pins σ Q) X.xe s
theorem SlR.or {r r' : V → Option Int → Option Int → Hp → VK → Prop} (h : SlR X r) (h' : SlR X r') : SlR X (fun x lo hi H Q => r x lo hi H Q ∨ r' x lo hi H Q) := by
  intro pins s σ H x v vl vu lo hi sl Q I rx hs pl pu q
  rcases q with q | q
  · exact h pins s σ H x v vl vu lo hi sl Q I rx hs pl pu q
  · exact h' pins s σ H x v vl vu lo hi sl Q I rx hs pl pu q
end
end L2
namespace L2
open PySem PySem.Spec PyProof.Rows
def ixN (n : Nat) (i : Int) : Option Nat := if 0 ≤ i then (if i < n then some i.toNat else none) else if -(n : Int) ≤ i then some (i + n).toNat else none
def atI {α : Type} (xs : List α) (i : Int) : Option α := (ixN xs.length i).bind fun j => xs[j]?
theorem ixN_seq {n : Nat} {i : Int} {j : Nat} (h : ixN n i = some j) : seqIndex? i n = some j ∧ j < n ∧ -(n : Int) ≤ i ∧ i < n := by
  unfold ixN at h
  by_cases h0 : 0 ≤ i
  · rw [if_pos h0] at h
    by_cases h1 : i < n
    · rw [if_pos h1] at h
      have e : i.toNat = j := Option.some.inj h
      exact ⟨by rw [seqIndex_of h0 h1, e], by omega, by omega, h1⟩
    · rw [if_neg h1] at h; cases h
  · rw [if_neg h0] at h
    by_cases h1 : -(n : Int) ≤ i
    · rw [if_pos h1] at h
      have e : (i + n).toNat = j := Option.some.inj h
      exact ⟨by rw [seqIndex_neg (by omega) h1, e], by omega, h1, by omega⟩
    · rw [if_neg h1] at h; cases h
theorem atI_get {α : Type} {xs : List α} {i : Int} {v : α} (h : atI xs i = some v) : ∃ j, seqIndex? i xs.length = some j ∧ xs[j]? = some v ∧ j < xs.length ∧ -(xs.length : Int) ≤ i ∧ i < xs.length := by
  unfold atI at h
  cases e : ixN xs.length i with
  | none => rw [e] at h; cases h
  | some j =>
    rw [e] at h
    obtain ⟨h1, h2, h3, h4⟩ := ixN_seq e
    exact ⟨j, h1, h, h2, h3, h4⟩
theorem atI_nat {α : Type} {xs : List α} {j : Nat} {v : α} (h : xs[j]? = some v) : atI xs (j : Int) = some v := by
  have hj : j < xs.length := (List.getElem?_eq_some_iff.mp h).1
  have e : ixN xs.length (j : Int) = some j := by
    unfold ixN
    rw [if_pos (by omega), if_pos (by omega)]; simp
  unfold atI; rw [e]; exact h
def PlainIx (b : Expr) : Prop := ∀ o i, subscripted b false o i = operate [o, i] (getItem o i)
def IxR (X : Cx) (r : R2) : Prop :=
  ∀ (value slice : Expr) (pins : List (Addr × Obj)) (s : Shared) (σ : St) (H : Hp) (x y : V) (v u : Value) (Q : VK), Inv X pins σ H s → RelV x v → RelV y u → r x y H Q →
    subscripted slice false v u = operate [v, u] (getItem v u) → wpAny (model X.prog X.w) X.A (subscriptTail value slice v u) (EP X pins σ Q) X.xe s
def MtR (X : Cx) (id : String) (r : V → List V → Hp → VK → Prop) : Prop :=
  ∀ (pins : List (Addr × Obj)) (s : Shared) (σ : St) (H : Hp) (x : V) (xs : List V) (v : Value) (us : List Value) (Q : VK), Inv X pins σ H s → RelV x v → Vals xs us → r x xs H Q →
    wpAny (model X.prog X.w) X.A (call (.builtin id) (v :: us)) (EP X pins σ Q) X.xe s
section
variable {X : Cx} {a b : Expr} {ta tb : TE} {pos : Pos}
theorem IxR.or {r r' : R2} (h : IxR X r) (h' : IxR X r') : IxR X (fun x y H Q => r x y H Q ∨ r' x y H Q) := by
  intro value slice pins s σ H x y v u Q I rx ry q hs
  rcases q with q | q
  · exact h value slice pins s σ H x y v u Q I rx ry q hs
  · exact h' value slice pins s σ H x y v u Q I rx ry q hs
theorem MtR.or {id : String} {r r' : V → List V → Hp → VK → Prop} (h : MtR X id r) (h' : MtR X id r') : MtR X id (fun x xs H Q => r x xs H Q ∨ r' x xs H Q) := by
  intro pins s σ H x xs v us Q I rx rs q
  rcases q with q | q
  · exact h pins s σ H x xs v us Q I rx rs q
  · exact h' pins s σ H x xs v us Q I rx rs q
theorem pe_ix {r : R2} (hr : IxR X r) (ha : PE X a ta) (hb : PE X b tb) (hs : PlainIx b) : PE X (.Subscript a b pos) (tOp r ta tb) := by
  intro pins s σ H Q I h
  exact Subscript_ (binT ha hb I h fun v u s2 x y H2 I2 rx ry q => hr a b pins s2 σ H2 x y v u Q I2 rx ry q (hs _ _))
def rIxL (K : PySem.W.Frag) : R2 := fun x y H Q => ∃ p xs i v, x = .ref p ∧ y = .int i ∧ SqL K H p xs ∧ atI xs i = some v ∧ Q v H
def rIxT (K : PySem.W.Frag) : R2 := fun x y H Q => ∃ p xs i v, x = .ref p ∧ y = .int i ∧ SqT K H p xs ∧ atI xs i = some v ∧ Q v H
theorem ix_list : IxR X (rIxL X.K) := by
  intro value slice pins s σ H x y v u Q I rx ry h hs
  obtain ⟨p, xs, i, z, rfl, rfl, hq, he, q⟩ := h
  cases rx
  obtain ⟨t, rfl⟩ := ry
  obtain ⟨its, r, pl, hz⟩ := I.list hq
  obtain ⟨j, h1, h2, h3, h4, h5⟩ := atI_get he
  obtain ⟨w, ew, rw'⟩ := r.get h2
  have hl := r.length
  have hn := line63
  have fin : EP X pins σ Q w s := ⟨z, H, I, rw', q⟩
  by_cases h0 : 0 ≤ i
  · have hj : i.toNat = j := by
      rw [seqIndex_of h0 h5] at h1
      exact Option.some.inj h1
    exact item_listR pl.isList h0 (by omega) (by rw [hj]; simpa using ew) fin hs
  · have hj : (i + (its.toArray.size : Int)).toNat = j := by
      rw [seqIndex_neg (by omega) h4] at h1
      rw [List.size_toArray, ← hl]
      exact Option.some.inj h1
    exact subscriptTail_builtinR (x := w) pl.isList.typeIs slot_list_getitem.lookup
      (wpAny_getItem_list_neg (Q := fun r s' => r = w ∧ EP X pins σ Q r s') pl.isList (by omega) (by rw [List.size_toArray] <;> omega) (by omega) (by rw [hj]; simpa using ew) ⟨rfl, fin⟩) hs
theorem ix_tup : IxR X (rIxT X.K) := by
  intro value slice pins s σ H x y v u Q I rx ry h hs
  obtain ⟨p, xs, i, z, rfl, rfl, hq, he, q⟩ := h
  cases rx
  obtain ⟨t, rfl⟩ := ry
  obtain ⟨its, r, pl, hz⟩ := I.tuple hq
  obtain ⟨j, h1, h2, h3, h4, h5⟩ := atI_get he
  obtain ⟨w, ew, rw'⟩ := r.get h2
  have hl := r.length
  have hn := line63
  have fin : EP X pins σ Q w s := ⟨z, H, I, rw', q⟩
  exact subscriptTail_builtinR (x := w) pl.typeIs slot_tuple_getitem.lookup
    (getItem_tuple (j := j) (Q := fun r s' => r = w ∧ EP X pins σ Q r s') pl (by omega) (by omega) (by rw [List.size_toArray, ← hl]; exact h1) (by simpa using ew) ⟨rfl, fin⟩) hs
theorem mapSeq_set (its : List Value) (n j : Nat) (u : Value) : Obj.mapSeq (·.setIfInBounds j u) { cls := .type "list", data := .seq its.toArray n } = { cls := .type "list", data := .seq (its.set j u).toArray n } := by
  simp [Obj.mapSeq]
theorem Inv.lst {pins : List (Addr × Obj)} {σ : St} {H : Hp} {s : Shared} {p : Addr} {xs : List V} (I : Inv X pins σ H s) (h : H p = some (.lst xs)) :
    ∃ (its : List Value) (n : Nat), Vals xs its ∧ s.heap.get? p = some { cls := .type "list", data := .seq its.toArray n } ∧ xs.length ≤ sizeLine := by
  obtain ⟨z, its, n, r, e⟩ := I.hok p _ h
  exact ⟨its, n, r, e, z⟩
theorem Inv.lstUpd {pins : List (Addr × Obj)} {σ : St} {H : Hp} {s : Shared} {p : Addr} {xs ys : List V} {its its' : List Value} {n n' : Nat} {f : Obj → Obj} (I : Inv X pins σ H s) (h : H p = some (.lst xs))
    (ho : s.heap.get? p = some { cls := .type "list", data := .seq its.toArray n }) (hf : f { cls := .type "list", data := .seq its.toArray n } = { cls := .type "list", data := .seq its'.toArray n' }) (r : Vals ys its') (hz : ys.length ≤ sizeLine) (t : Nat) :
    Inv X pins σ (upd H p (.lst ys)) { s with heap := s.heap.update p f, toks := t } := by
  have e : (s.heap.update p f).get? p = some { cls := .type "list", data := .seq its'.toArray n' } := by
    rw [Heap.get?_update_self f ho (by rw [hf] <;> rfl), hf]
  refine I.write (x := p) (e := p) (by rw [h]; trivial) (.inl rfl) (fun b u hb q => (Heap.get?_update_other _ _ (Ne.symm hb)).trans q) ⟨_, e⟩ ?_
  exact ⟨hz, its', n', r, e⟩
def rSetL : V → V → V → Hp → (Hp → Prop) → Prop := fun o i v H Q => ∃ p xs k j, o = .ref p ∧ i = .int k ∧ H p = some (.lst xs) ∧ ixN xs.length k = some j ∧ Q (upd H p (.lst (xs.set j v)))
theorem set_list : PSet X rSetL := by
  intro pins s σ H o i v ov iv u Q I ro ri rv h
  obtain ⟨p, xs, k, j, rfl, rfl, hp, hj, q⟩ := h
  cases ro
  obtain ⟨t, rfl⟩ := ri
  obtain ⟨its, n, r, ho, hz⟩ := I.lst hp
  obtain ⟨h1, h2, h3, h4⟩ := ixN_seq hj
  have hl := r.length
  have hn := line63
  have I' : Inv X pins σ (upd H p (.lst (xs.set j v))) { s with heap := s.heap.update p (Obj.mapSeq (·.setIfInBounds j u)) } :=
    I.lstUpd hp ho (mapSeq_set its n j u) (r.set rv j) (by rw [List.length_set]; exact hz) s.toks
  by_cases h0 : 0 ≤ k
  · have hk : k.toNat = j := by
      rw [seqIndex_of h0 h4] at h1
      exact Option.some.inj h1
    exact PySem.W.ki_setAt ho h0 (by omega) (by rw [List.size_toArray, ← hl]; exact h4) (by rw [hk]; exact ⟨_, I', q⟩)
  · have hk : (k + (its.toArray.size : Int)).toNat = j := by
      rw [seqIndex_neg (by omega) h3] at h1
      rw [List.size_toArray, ← hl]
      exact Option.some.inj h1
    exact PySem.W.ki_setBack ho (by omega) (by rw [List.size_toArray, ← hl]; exact h3) (by omega) (by rw [hk]; exact ⟨_, I', q⟩)
def flatV : V → Bool
  | .non => true
  | .bl _ => true
  | .int _ => true
  | .str _ => true
  | _ => false
def eqV : V → V → Bool
  | .non, .non => true
  | .bl a, .bl b => a == b
  | .bl a, .int b => (if a then 1 else 0) == b
  | .int a, .bl b => a == (if b then 1 else 0)
  | .int a, .int b => a == b
  | .str a, .str b => a == b
  | _, _ => false
theorem eqAt_V {A : Around} {s : Shared} {y x : V} {u v : Value} (ry : RelV y u) (rx : RelV x v) (fy : flatV y = true) (fx : flatV x = true) : SeqAt.EqAt A s u v (eqV y x) := by
  cases y with
  | non =>
    cases ry
    cases x with
    | non => cases rx; exact SeqAt.EqAt.same _
    | bl b => cases rx; exact SeqAt.EqAt.none_bool b
    | int b => obtain ⟨t, rfl⟩ := rx; exact SeqAt.EqAt.none_int b t
    | str b => obtain ⟨t, rfl⟩ := rx; exact SeqAt.EqAt.none_str b t
    | _ => exact absurd (show false = true from fx) Bool.false_ne_true
  | bl a =>
    cases ry
    cases x with
    | non => cases rx; exact SeqAt.EqAt.bool_none a
    | bl b => cases rx; exact SeqAt.EqAt.bool_bool a b
    | int b => obtain ⟨t, rfl⟩ := rx; exact SeqAt.EqAt.bool_int a b t
    | str b => obtain ⟨t, rfl⟩ := rx; exact SeqAt.EqAt.bool_str a b t
    | _ => exact absurd (show false = true from fx) Bool.false_ne_true
  | int a =>
    obtain ⟨t', rfl⟩ := ry
    cases x with
    | non => cases rx; exact SeqAt.EqAt.int_none a t'
    | bl b => cases rx; exact SeqAt.EqAt.int_bool a t' b
    | int b => obtain ⟨t, rfl⟩ := rx; exact SeqAt.EqAt.int_int a t' b t
    | str b => obtain ⟨t, rfl⟩ := rx; exact SeqAt.EqAt.int_str a t' b t
    | _ => exact absurd (show false = true from fx) Bool.false_ne_true
  | str a =>
    obtain ⟨t', rfl⟩ := ry
    cases x with
    | non => cases rx; exact SeqAt.EqAt.str_none a t'
    | bl b => cases rx; exact SeqAt.EqAt.str_bool a t' b
    | int b => obtain ⟨t, rfl⟩ := rx; exact SeqAt.EqAt.str_int a t' b t
    | str b => obtain ⟨t, rfl⟩ := rx; exact SeqAt.EqAt.str_str a t' b t
    | _ => exact absurd (show false = true from fx) Bool.false_ne_true
  | _ => exact absurd (show false = true from fy) Bool.false_ne_true
def eqU (x : V) (u : Value) : Bool := match u with
  | .none => eqV .non x
  | .bool b => eqV (.bl b) x
  | .int i _ => eqV (.int i) x
  | .str z _ => eqV (.str z) x
  | _ => false
theorem eqU_of {x y : V} {u : Value} (r : RelV y u) (f : flatV y = true) : eqU x u = eqV y x := by
  cases y with
  | non => cases r; rfl
  | bl b => cases r; rfl
  | int i => obtain ⟨t, rfl⟩ := r; rfl
  | str z => obtain ⟨t, rfl⟩ := r; rfl
  | _ => exact absurd (show false = true from f) Bool.false_ne_true
theorem any_eqU {x : V} : ∀ {xs : List V} {us : List Value}, Vals xs us → xs.all flatV = true → us.any (eqU x) = xs.any fun y => eqV y x
  | _, _, .nil, _ => rfl
  | y :: xs, u :: us, .cons r t, f => by
    rw [List.all_cons, Bool.and_eq_true] at f
    rw [List.any_cons, List.any_cons, eqU_of r f.1, any_eqU t f.2]
theorem mem_eqAt {A : Around} {s : Shared} {x : V} {v : Value} (rx : RelV x v) (fx : flatV x = true) : ∀ {xs : List V} {us : List Value}, Vals xs us → xs.all flatV = true → ∀ u ∈ us, SeqAt.EqAt A s u v (eqU x u)
  | _, _, .nil, _ => fun u hu => by cases hu
  | y :: xs, u :: us, .cons r t, f => fun u' hu => by
    rw [List.all_cons, Bool.and_eq_true] at f
    rcases List.mem_cons.mp hu with rfl | hu
    · rw [eqU_of r f.1]; exact eqAt_V r rx f.1 fx
    · exact mem_eqAt rx fx t f.2 u' hu
def inV (x : V) (xs : List V) : Bool := xs.any fun y => eqV y x
def rIn (K : PySem.W.Frag) (neg : Bool) : R2 := fun x y H Q => ∃ p xs, y = .ref p ∧ (SqL K H p xs ∨ SqT K H p xs) ∧ flatV x = true ∧ xs.all flatV = true ∧ Q (.bl (if neg then !inV x xs else inV x xs)) H
theorem op_in_seq : OpR X (compareOp .In) (rIn X.K false) := by
  intro pins s σ H x y v u Q I rx ry h
  obtain ⟨p, xs, rfl, hq, fx, fs, q⟩ := h
  cases ry
  rcases hq with hq | hq
  · obtain ⟨its, r, pl, hz⟩ := I.list hq
    refine SeqAt.in_listAt (eqU x) pl.isList (fun w hw => mem_eqAt rx fx r fs w (by simpa using hw)) ⟨.bl _, H, I, rfl, ?_⟩
    rw [show its.toArray.any (eqU x) = its.any (eqU x) by simp, any_eqU r fs]
    exact q
  · obtain ⟨its, r, pl, hz⟩ := I.tuple hq
    refine SeqAt.in_tupleAt (eqU x) pl (fun w hw => mem_eqAt rx fx r fs w (by simpa using hw)) ⟨.bl _, H, I, rfl, ?_⟩
    rw [show its.toArray.any (eqU x) = its.any (eqU x) by simp, any_eqU r fs]
    exact q
theorem op_notIn_seq : OpR X (compareOp .NotIn) (rIn X.K true) := by
  intro pins s σ H x y v u Q I rx ry h
  obtain ⟨p, xs, rfl, hq, fx, fs, q⟩ := h
  cases ry
  rcases hq with hq | hq
  · obtain ⟨its, r, pl, hz⟩ := I.list hq
    refine SeqAt.notIn_listAt (eqU x) pl.isList (fun w hw => mem_eqAt rx fx r fs w (by simpa using hw)) ⟨.bl _, H, I, rfl, ?_⟩
    rw [show its.toArray.any (eqU x) = its.any (eqU x) by simp, any_eqU r fs]
    exact q
  · obtain ⟨its, r, pl, hz⟩ := I.tuple hq
    refine SeqAt.notIn_tupleAt (eqU x) pl (fun w hw => mem_eqAt rx fx r fs w (by simpa using hw)) ⟨.bl _, H, I, rfl, ?_⟩
    rw [show its.toArray.any (eqU x) = its.any (eqU x) by simp, any_eqU r fs]
    exact q
theorem call_len_seq : CallR X (.builtin "len") (fun xs H Q => ∃ p ys, xs = [.ref p] ∧ (SqL X.K H p ys ∨ SqT X.K H p ys) ∧ Q (.int ys.length) H) := by
  intro pins s σ H xs us Q I r h
  obtain ⟨p, ys, rfl, hq, q⟩ := h
  obtain ⟨u, rfl, rx⟩ := vals1 r
  cases rx
  have hn := line63
  rcases hq with hq | hq
  · obtain ⟨its, r', pl, hz⟩ := I.list hq
    have hlen := r'.length
    exact Calls.call_len_list pl.isList (by simp only [List.size_toArray] <;> omega) ⟨.int ys.length, H, I.tok _, ⟨s.toks + 1, by rw [List.size_toArray, hlen]⟩, q⟩
  · obtain ⟨its, r', pl, hz⟩ := I.tuple hq
    have hlen := r'.length
    exact len_tuple pl (by simp only [List.size_toArray] <;> omega) ⟨.int ys.length, H, I.tok _, ⟨s.toks + 1, by rw [List.size_toArray, hlen]⟩, q⟩
theorem CallR.or {f : Value} {r r' : List V → Hp → VK → Prop} (h : CallR X f r) (h' : CallR X f r') : CallR X f (fun xs H Q => r xs H Q ∨ r' xs H Q) := by
  intro pins s σ H xs us Q I rs q
  rcases q with q | q
  · exact h pins s σ H xs us Q I rs q
  · exact h' pins s σ H xs us Q I rs q
theorem call_list_of : CallR X (.type "list") (fun xs H Q => ∃ p ys, xs = [.ref p] ∧ (SqL X.K H p ys ∨ SqT X.K H p ys) ∧ ∀ l, H l = none → Q (.ref l) (upd H l (.lst ys))) := by
  intro pins s σ H xs us Q I r h
  obtain ⟨p, ys, rfl, hq, q⟩ := h
  obtain ⟨u, rfl, rx⟩ := vals1 r
  cases rx
  have fin : ∀ (its : List Value), Vals ys its → ys.length ≤ sizeLine → ∀ (h' : Heap) (c' : Nat), (∀ b o', s.heap.get? b = some o' → h'.get? b = some o') →
      h'.get? s.heap.objs.size = some { cls := .type "list", dict := none, data := .seq its.toArray c', slots := #[] } → EP X pins σ Q (.ref s.heap.objs.size) { s with heap := h' } := fun its r' hz h' c' kp e =>
    ⟨.ref s.heap.objs.size, _, I.laid (t' := s.toks) kp (Nat.le_refl _) (show ObjOk X.prog X.w _ h' _ (.lst ys) from ⟨hz, its, c', r', e⟩), rfl, q _ (I.hok.fresh (Nat.le_refl _))⟩
  rcases hq with hq | hq
  · obtain ⟨its, r', pl, hz⟩ := I.list hq
    have hlen := r'.length
    obtain ⟨o, ho, hc, n, hd⟩ := pl.isList
    exact call_list_seq p (.inl rfl) ho hc hd (fun h' c' kp e => fin its r' hz h' c' kp e) (by simp only [List.size_toArray] <;> omega)
  · obtain ⟨its, r', pl, hz⟩ := I.tuple hq
    have hlen := r'.length
    obtain ⟨o, ho, hc, n, hd⟩ := pl
    exact call_list_seq p (.inr rfl) ho hc hd (fun h' c' kp e => fin its r' hz h' c' kp e) (by simp only [List.size_toArray] <;> omega)
theorem call_tuple_of : CallR X (.type "tuple") (fun xs H Q => ∃ p ys, xs = [.ref p] ∧ ((SqL X.K H p ys ∧ ∀ l, H l = none → Q (.ref l) (upd H l (.tup ys))) ∨ (SqT X.K H p ys ∧ Q (.ref p) H))) := by
  intro pins s σ H xs us Q I r h
  obtain ⟨p, ys, rfl, h⟩ := h
  obtain ⟨u, rfl, rx⟩ := vals1 r
  cases rx
  rcases h with ⟨hq, q⟩ | ⟨hq, q⟩
  · obtain ⟨its, r', pl, hz⟩ := I.list hq
    have hlen := r'.length
    refine call_tuple_list pl.isList (fun h' kp => ?_) (by simp only [List.size_toArray] <;> omega)
    have I1 : Inv X pins σ H { s with heap := h' } := I.kept (t' := s.toks) kp
    have I2 : Inv X pins σ (upd H h'.objs.size (.tup ys)) { s with heap := h'.push { cls := .type "tuple", data := .seq its.toArray } } :=
      I1.laid (t' := s.toks) (fun b o e => Heap.get?_push_of_some _ e) (Nat.le_refl _) (show ObjOk X.prog X.w _ _ _ (.tup ys) from ⟨hz, its, r', IsTup.new _ _⟩)
    exact ⟨.ref h'.objs.size, _, I2, rfl, q _ (I1.hok.fresh (Nat.le_refl _))⟩
  · obtain ⟨its, r', pl, hz⟩ := I.tuple hq
    exact call_tuple_same pl ⟨.ref p, H, I, rfl, q⟩
def tyV (K : PySem.W.Frag) (T : String) (x : V) (H : Hp) : Prop := match x with
  | .str _ => T = "str"
  | .int _ => T = "int"
  | .ref p => (T = "list" ∧ ∃ xs, SqL K H p xs) ∨ (T = "tuple" ∧ ∃ o, K.lookup p = some o ∧ o.cls = .type "tuple" ∧ o.dict = none) ∨
      (T = "dict" ∧ ((∃ kvs, H p = some (.dK kvs)) ∨ ∃ kvs, H p = some (.dT kvs))) ∨ (T = "set" ∧ ∃ S n, H p = some (.set S n))
  | _ => False
theorem tyV_is {pins : List (Addr × Obj)} {σ : St} {H : Hp} {s : Shared} {T : String} {x : V} {v : Value} (I : Inv X pins σ H s) (r : RelV x v) (ty : tyV X.K T x H) :
    s.TypeIs v T ∧ ∀ a, v = .ref a → ∃ ob, s.heap.get? a = some ob ∧ ob.dict = none := by
  cases x with
  | str z =>
    obtain ⟨t, rfl⟩ := r
    cases (show T = "str" from ty)
    exact ⟨typeIs_str s z t, fun _ e => nomatch e⟩
  | int i =>
    obtain ⟨t, rfl⟩ := r
    cases (show T = "int" from ty)
    exact ⟨typeIs_int s i t, fun _ e => nomatch e⟩
  | ref p =>
    cases r
    rcases ty with ⟨rfl, xs, hq⟩ | ⟨rfl, o, hk, hc, hd⟩ | ⟨rfl, hk⟩ | ⟨rfl, S, n, hk⟩
    · obtain ⟨its, _, pl, _⟩ := I.list hq
      refine ⟨pl.isList.typeIs, fun a e => ?_⟩
      cases e
      obtain ⟨o, n, e, c, hd, _⟩ := pl
      exact ⟨o, e, hd⟩
    · refine ⟨⟨o, I.kIn p o hk, hc⟩, fun a e => ?_⟩
      cases e
      exact ⟨o, I.kIn _ o hk, hd⟩
    · have z : ∃ o, s.heap.get? p = some o ∧ o.ExactDict := by
        rcases hk with ⟨kvs, hk⟩ | ⟨kvs, hk⟩
        · obtain ⟨_, _, _, _, o, _, _, e, ex, _⟩ := I.hok p _ hk
          exact ⟨o, e, ex⟩
        · obtain ⟨_, _, _, _, o, _, _, e, ex, _⟩ := I.hok p _ hk
          exact ⟨o, e, ex⟩
      obtain ⟨o, e, ex⟩ := z
      refine ⟨⟨o, e, ex.1⟩, fun a e2 => ?_⟩
      cases e2
      exact ⟨o, e, ex.2.1⟩
    · obtain ⟨o, _, _, _, e, ex, _⟩ := I.hok p _ hk
      refine ⟨⟨o, e, ex.1⟩, fun a e2 => ?_⟩
      cases e2
      exact ⟨o, e, ex.2.1⟩
  | _ => exact False.elim ty
def tBM0 (K : PySem.W.Frag) (T : String) (r : V → List V → Hp → VK → Prop) (to : TE) : TE := fun σ H Q => to σ H fun x H1 => tyV K T x H1 ∧ r x [] H1 Q
def tBM (K : PySem.W.Frag) (T : String) (r : V → List V → Hp → VK → Prop) (to : TE) (t : TA) : TE := fun σ H Q => to σ H fun x H1 => tyV K T x H1 ∧ t σ H1 fun xs H2 => r x xs H2 Q
variable {o e : Expr} {es : List Expr} {to : TE} {t : TA} {name : Str} {apos cpos : Pos} {T id : String} {r : V → List V → Hp → VK → Prop}
theorem pe_bm0 (pa : PlainAttrs T) (slot : Slot T name id) (hty : typeOf (.builtin id) = pure (.type "method_descriptor")) (hm : MtR X id r) (ho : PE X o to)
    (hbase : attributeBase o name X.env (eval o X.env) = eval o X.env := by rfl) (hline : (apos.endLine == cpos.line) = true := by rfl) : PE X (.Call (.Attribute o name apos) [] [] cpos) (tBM0 X.K T r to) := by
  intro pins s σ H Q I h
  refine wpAny_Call_method0_late hbase hline (thn (ho pins s σ H _ I h) fun v s1 ⟨x, H1, I1, r1, ty, q1⟩ => ?_)
  obtain ⟨h1, h2⟩ := tyV_is I1 r1 ty
  exact ⟨T, id, pa, slot, hty, h1, h2, Calls.callWith_builtin rfl (PySem.evalArgs_none (hm pins s1 σ H1 x [] v [] Q I1 r1 .nil q1))⟩
theorem pe_bm (pa : PlainAttrs T) (slot : Slot T name id) (hty : typeOf (.builtin id) = pure (.type "method_descriptor")) (hm : MtR X id r) (ho : PE X o to) (ha : PA X (e :: es) t)
    (hbase : attributeBase o name X.env (eval o X.env) = eval o X.env := by rfl)
    (hfew : ((backTo cpos (starEach (e :: es) X.env)).all (fun x => !x.1) && (backToKw cpos (keywordEach [] X.env)).all (fun x => x.1.isSome)
      && decide ((e :: es).length + ([] : List Keyword).length + (if ([] : List Keyword).isEmpty then 0 else 1) < 30)) = true := by rfl)
    (hline : (apos.endLine == cpos.line) = true := by rfl) (hs : starEach (e :: es) X.env = (false, eval e X.env) :: starEach es X.env := by rfl) (hplain : (backTo cpos (starEach es X.env)).any (·.1) = false := by rfl) :
    PE X (.Call (.Attribute o name apos) (e :: es) [] cpos) (tBM X.K T r to t) := by
  intro pins s σ H Q I h
  refine wpAny_Call_method_late hbase hfew hline rfl (thn (ho pins s σ H _ I h) fun v s1 ⟨x, H1, I1, r1, ty, q1⟩ => ?_)
  obtain ⟨h1, h2⟩ := tyV_is I1 r1 ty
  refine ⟨T, id, pa, slot, hty, h1, h2, ?_⟩
  have hA := ha cpos pins s1 σ H1 _ I1 q1
  rw [hs] at hA ⊢
  refine Calls.callWith_builtin (by show (false || (backTo cpos (starEach es X.env)).any (·.1)) = false; rw [hplain] <;> rfl) (Calls.evalArgs_plain ?_)
  exact thn hA fun us s2 ⟨vs, H2, I2, r2, q2⟩ => hm pins s2 σ H2 x vs v us Q I2 r1 r2 q2
end
end L2
namespace L2
open PySem PySem.Spec PyProof.Rows
def MtM (X : Cx) (id : String) (r : V → List V → Hp → VK → Prop) : Prop :=
  ∀ (pins : List (Addr × Obj)) (s : Shared) (σ : St) (H : Hp) (x : V) (xs : List V) (v : Value) (us : List Value) (Q : VK), Inv X pins σ H s → RelV x v → Vals xs us → r x xs H Q →
    wpAny (model X.prog X.w) X.A (call (.builtin id) (v :: us)) (EP X pins σ Q) X.xe s
theorem Vals.one : ∀ {x : V} {us : List Value}, Vals [x] us → ∃ u, us = [u] ∧ RelV x u
  | _, _, .cons r .nil => ⟨_, rfl, r⟩
theorem Vals.two : ∀ {x y : V} {us : List Value}, Vals [x, y] us → ∃ u v, us = [u, v] ∧ RelV x u ∧ RelV y v
  | _, _, _, .cons r (.cons q .nil) => ⟨_, _, rfl, r, q⟩
theorem Vals.zero : ∀ {us : List Value}, Vals [] us → us = []
  | _, .nil => rfl
theorem Vals.dropLast {xs : List V} {us : List Value} (h : Vals xs us) : Vals xs.dropLast us.dropLast := by
  induction h with
  | nil => exact .nil
  | cons r t ih =>
    cases t with
    | nil => exact .nil
    | cons q t' => exact .cons r ih
theorem Vals.rep {xs : List V} {us : List Value} (h : Vals xs us) : ∀ k : Nat, Vals (List.replicate k xs).flatten (List.replicate k us).flatten
  | 0 => .nil
  | k + 1 => by
    rw [List.replicate_succ, List.replicate_succ, List.flatten_cons, List.flatten_cons]
    exact Vals.append h (Vals.rep h k)
theorem foldl_rep (its : List Value) : ∀ (k : Nat) (acc : List Value),
    List.foldl (fun x1 x2 => x1 ++ x2) acc.toArray (List.replicate k its.toArray) = (acc ++ (List.replicate k its).flatten).toArray
  | 0, acc => by simp
  | k + 1, acc => by
    have e : acc.toArray ++ its.toArray = (acc ++ its).toArray := by simp
    have e2 : (acc ++ its) ++ (List.replicate k its).flatten = acc ++ (List.replicate (k + 1) its).flatten := by
      rw [List.replicate_succ, List.flatten_cons, List.append_assoc]
    rw [← e2, ← foldl_rep its k (acc ++ its), ← e, List.replicate_succ, List.foldl_cons]
section
variable {X : Cx} {pins : List (Addr × Obj)} {σ : St} {H : Hp} {s : Shared} {l b : Addr} {xs ys zs : List V}
theorem Inv.lset {its its' : List Value} {n : Nat} {f : Array Value → Array Value} {t' : Nat} (I : Inv X pins σ H s) (hH : H l = some (.lst xs))
    (e : s.heap.get? l = some { cls := .type "list", data := .seq its.toArray n }) (hf : f its.toArray = its'.toArray) (hv : Vals ys its') (hz : ys.length ≤ sizeLine) :
    Inv X pins σ (upd H l (.lst ys)) { s with heap := s.heap.update l (Obj.mapSeq f), toks := t' } := by
  have q := PySem.IsL.update e f
  rw [hf] at q
  refine I.write (x := l) (e := l) (by rw [hH]; exact trivial) (.inl rfl) (fun b' u hb hu => (Heap.get?_update_other s.heap (Obj.mapSeq f) (Ne.symm hb)).trans hu) ⟨_, q⟩ ?_
  exact ⟨hz, its', _, hv, q⟩
theorem Inv.lnew {its : List Value} {t' : Nat} (I : Inv X pins σ H s) (hv : Vals ys its) (hz : ys.length ≤ sizeLine) :
    Inv X pins σ (upd H s.heap.objs.size (.lst ys)) { s with heap := s.heap.push { cls := .type "list", data := .seq its.toArray }, toks := t' } :=
  I.laid (fun _ _ q => Heap.get?_push_of_some _ q) (Nat.le_refl _) ⟨hz, its, 0, hv, Heap.get?_push_size _ rfl⟩
theorem Inv.fresh (I : Inv X pins σ H s) : H s.heap.objs.size = none := I.hok.fresh (Nat.le_refl _)
theorem Inv.lstM (I : Inv X pins σ H s) (hH : H l = some (.lst xs)) : xs.length ≤ sizeLine ∧ ∃ (its : List Value) (n : Nat), Vals xs its ∧ xs.length = its.length ∧ s.heap.get? l = some { cls := .type "list", data := .seq its.toArray n } := by
  obtain ⟨z, its, n, r, e⟩ := I.hok l _ hH
  exact ⟨z, its, n, r, r.length, e⟩
theorem notLongL {n : Nat} (h : n ≤ sizeLine) : Builtin.List.listTooLong n = false := by
  unfold Builtin.List.listTooLong
  exact decide_eq_false (by omega)
end
section
variable {X : Cx}
def rAppend : V → List V → Hp → VK → Prop := fun x vs H Q => ∃ l xs y, x = .ref l ∧ vs = [y] ∧ H l = some (.lst xs) ∧ xs.length < sizeLine ∧ Q .non (upd H l (.lst (xs ++ [y])))
theorem mt_append : MtM X "list.append" rAppend := by
  intro pins s σ H x vs v us Q I rx rv h
  obtain ⟨l, xs, y, rfl, rfl, hH, hz, q⟩ := h
  cases rx
  obtain ⟨u, rfl, ru⟩ := rv.one
  obtain ⟨z, its, n, r, hl, e⟩ := I.lstM hH
  refine call_meets F.slot_list_append ⟨_, e, rfl⟩ F.entry_list_append (F.args_list_append_2 _ _) (PySem.list_append l its.toArray n u (by rw [List.size_toArray]; omega)) ⟨e, ?_⟩
  refine ⟨.non, _, I.lset (its' := its ++ [u]) hH e (by simp) (r.append (.cons ru .nil)) ?_, rfl, q⟩
  rw [List.length_append, List.length_singleton]
  omega
def rExtend : V → List V → Hp → VK → Prop := fun x vs H Q => ∃ l b xs zs, x = .ref l ∧ vs = [.ref b] ∧ H l = some (.lst xs) ∧ H b = some (.lst zs) ∧ xs.length + zs.length ≤ sizeLine ∧ Q .non (upd H l (.lst (xs ++ zs)))
theorem mt_extend : MtM X "list.extend" rExtend := by
  intro pins s σ H x vs v us Q I rx rv h
  obtain ⟨l, b, xs, zs, rfl, rfl, hH, hB, hz, q⟩ := h
  cases rx
  obtain ⟨u, rfl, ru⟩ := rv.one
  cases ru
  obtain ⟨z, its, n, r, hl, e⟩ := I.lstM hH
  obtain ⟨z2, its2, n2, r2, hl2, e2⟩ := I.lstM hB
  have hsz : its.toArray.size + its2.toArray.size ≤ sizeLine := by rw [List.size_toArray, List.size_toArray]; omega
  have hlong : ¬ (!its.toArray.isEmpty && Builtin.List.listTooLong (its.toArray.size + its2.toArray.size)) = true := by
    rw [notLongL hsz, Bool.and_false]
    exact Bool.false_ne_true
  refine call_meets F.slot_list_extend ⟨_, e, rfl⟩ F.entry_list_extend (F.args_list_extend_2 _ _)
    (AutoSeq1.list_extend_list_list_0 l its.toArray n b its2.toArray n2 hlong (by rw [List.size_toArray]; omega) (by omega)) ⟨e, e2, ?_⟩
  refine ⟨.non, _, I.lset (its' := its ++ its2) hH e (by simp) (r.append r2) ?_, rfl, q⟩
  rw [List.length_append]
  omega
def rClear : V → List V → Hp → VK → Prop := fun x vs H Q => ∃ l xs, x = .ref l ∧ vs = [] ∧ H l = some (.lst xs) ∧ Q .non (upd H l (.lst []))
theorem mt_clear : MtM X "list.clear" rClear := by
  intro pins s σ H x vs v us Q I rx rv h
  obtain ⟨l, xs, rfl, rfl, hH, q⟩ := h
  cases rx
  have hus := rv.zero
  subst hus
  obtain ⟨z, its, n, r, hl, e⟩ := I.lstM hH
  refine call_meets F.slot_list_clear ⟨_, e, rfl⟩ F.entry_list_clear (F.args_list_clear_1 _) (AutoSeq1.list_clear_list_0 l its.toArray n (by rw [List.size_toArray]; omega)) ⟨e, ?_⟩
  exact ⟨.non, _, I.lset (its' := []) (ys := []) hH e rfl .nil (Nat.zero_le _), rfl, q⟩
def rCat : R2 := fun x y H Q => ∃ l b xs zs, x = .ref l ∧ y = .ref b ∧ H l = some (.lst xs) ∧ H b = some (.lst zs) ∧ xs.length + zs.length ≤ sizeLine ∧ ∀ p, H p = none → Q (.ref p) (upd H p (.lst (xs ++ zs)))
theorem op_cat : OpR X (binaryOp .Add) rCat := by
  intro pins s σ H x y v u Q I rx ry h
  obtain ⟨l, b, xs, zs, rfl, rfl, hH, hB, hz, q⟩ := h
  cases rx
  cases ry
  obtain ⟨z, its, n, r, hl, e⟩ := I.lstM hH
  obtain ⟨z2, its2, n2, r2, hl2, e2⟩ := I.lstM hB
  refine PySem.P.add_list e e2 ?_ (by rw [List.size_toArray, List.size_toArray]; omega)
  have ea : its.toArray ++ its2.toArray = (its ++ its2).toArray := by simp
  rw [ea]
  exact ⟨.ref _, _, I.lnew (t' := s.toks) (r.append r2) (by rw [List.length_append]; omega), rfl, q _ I.fresh⟩
def rRep : R2 := fun x y H Q => ∃ l k xs, x = .ref l ∧ y = .int k ∧ H l = some (.lst xs) ∧ -(2 ^ 63) ≤ k ∧ k < 2 ^ 63 ∧ xs.length * k.toNat ≤ sizeLine ∧
  ∀ p, H p = none → Q (.ref p) (upd H p (.lst (List.replicate k.toNat xs).flatten))
theorem len_rep {α : Type} (xs : List α) (k : Nat) : (List.replicate k xs).flatten.length = k * xs.length := by
  induction k with
  | zero => simp
  | succ k ih => rw [List.replicate_succ, List.flatten_cons, List.length_append, ih, Nat.succ_mul, Nat.add_comm]
theorem op_rep : OpR X (binaryOp .Mult) rRep := by
  intro pins s σ H x y v u Q I rx ry h
  obtain ⟨l, k, xs, rfl, rfl, hH, h1, h2, hz, q⟩ := h
  cases rx
  obtain ⟨t, rfl⟩ := ry
  obtain ⟨z, its, n, r, hl, e⟩ := I.lstM hH
  have hlen : its.toArray.size * k.toNat ≤ sizeLine := by rw [List.size_toArray, ← hl]; exact hz
  have hcap : ¬ its.toArray.size * k.toNat > (2 ^ 63 - 1) / 8 := by
    have : (sizeLine : Nat) ≤ (2 ^ 63 - 1) / 8 := by decide
    omega
  have hfit : ¬ (!Builtin.List.listFitsIndex k) = true := by
    rw [fitsIndex_both h1 h2]
    exact Bool.false_ne_true
  have hlong : ¬ Builtin.List.listTooLong (its.toArray.size * k.toNat) = true := by
    rw [notLongL hlen]
    exact Bool.false_ne_true
  have hnew : List.foldl (fun x1 x2 => x1 ++ x2) #[] (List.replicate (if its.toArray.isEmpty = true then 0 else k.toNat) its.toArray) = (List.replicate k.toNat its).flatten.toArray := by
    have f0 : ∀ m : Nat, List.foldl (fun x1 x2 => x1 ++ x2) #[] (List.replicate m its.toArray) = (List.replicate m its).flatten.toArray := fun m => by
      have := foldl_rep its m []
      rw [List.nil_append] at this
      exact this
    rw [f0]
    cases its with
    | nil => simp
    | cons a r' => rw [if_neg (by simp)]
  refine wpAny_binaryOp_repeat_ref (T := "list") (U := "int") (by decide) ⟨_, e, rfl⟩ (fun s' => typeIs_int s' k t) noFill_list_mul F.fills_int_mul F.slot_int_rmul repeat_list F.slot_int_index.lookup
    (call_meets F.slot_int_rmul (typeIs_int s k t) F.entry_int_rmul (F.args_int_rmul_2 _ _) (int___rmul___int_list k t l its.toArray n)
      ⟨e, rfl, ⟨_, e, rfl⟩, call_meets F.slot_list_mul ⟨_, e, rfl⟩ F.entry_list_mul (F.args_list_mul_2 _ _) (AutoListH.list___mul___list_int_3 l its.toArray n k t hfit hcap hlong) ⟨e, ?_⟩⟩)
  rw [hnew]
  exact ⟨.ref _, _, I.lnew (t' := s.toks) (r.rep k.toNat) (by rw [len_rep, Nat.mul_comm]; exact hz), rfl, q _ I.fresh⟩
end
section
variable {prog : Program} {w : World} {A : Around} {E : Value → Shared → Prop} {s : Shared}
end
section
variable {X : Cx}
end
end L2
namespace Att
open PySem PySem.W PySem.Calls PyProof.Rows
theorem ints_of_wellAll {P : Params} {h : Heap} : ∀ (ns : List Int) (vs : List Value), WellAll P h vs (ns.map WData.int) → IntsAre vs ns := by
  intro ns
  induction ns with
  | nil =>
    intro vs w
    rw [List.map_nil] at w
    cases w
    exact .nil
  | cons n ns ih =>
    intro vs w
    rw [List.map_cons] at w
    cases w with
    | cons a b =>
      cases a
      exact .cons _ _ (ih _ b)
theorem script_of {l : OpenLaw} {n : Nat} (hn : l.most = some n) {P : Params} {h : Heap} {args : List WData} {vals : List Value}
    (hpre : l.row.toRowW.claim.pre args = true) (hwl : WellAll P h vals args) :
    ∃ a vs ns, vals = [Value.ref a] ∧ args = [WData.list (ns.map WData.int)] ∧ h.get? a = some { cls := .type "list", data := .seq vs.toArray } ∧ IntsAre vs ns ∧ ns.length ≤ n := by
  have hsh : WShape.hasAll [] args [.list .int] = true := (pre_splitW hpre).1
  have hc : l.pre.holds [] { args := args } = true := (pre_splitW hpre).2
  obtain ⟨d, r, rfl, h1, h2⟩ := hasAllW_cons hsh
  obtain rfl := hasAllW_nil h2
  obtain ⟨xs, rfl, h3⟩ := hasW_list h1
  obtain ⟨ns, rfl⟩ := items_int h3
  have hlen : ns.length ≤ n := by
    unfold OpenLaw.pre at hc
    have h4 : (WTm.not (.lt (.lit (.int (n : Int))) (.len (.arg 0)))).holds [] { args := [.list (ns.map .int)] } = true := by
      have h4 := (holds_andW hc).1
      rw [hn] at h4
      exact h4
    have h5 := condW_of h4 (w_not (w_lt w_lit (w_len_list (w_arg rfl))))
    rw [List.length_map] at h5
    refine Nat.le_of_not_lt fun q => ?_
    have q' : (n : Int) < ((ns.length : Nat) : Int) := by omega
    first
      | (rw [decide_eq_true q'] at h5; exact absurd h5 (by decide))
      | (simp at h5; omega)
  cases hwl with
  | cons w1 w2 =>
    cases w2
    cases w1 with
    | list ho hall => exact ⟨_, _, ns, rfl, rfl, ho, ints_of_wellAll ns _ hall, hlen⟩
theorem post_true (l : OpenLaw) (args : List WData) : l.row.toRowW.claim.post args (.bool true) args = true :=
  postW_of (r := l.row.toRowW) (X := (true == true))
    (show WShape.has [] (.bool true) .bool = true by first | rfl | decide | simp [WShape.has, WShape.arms, WShape.armsAll])
    (show (WTm.eq .res (.lit (.bool true))).value [] { args := args, res := some (.bool true), after := args } = some (.bool (true == true)) from w_eq_bool (w_res rfl) w_lit) rfl
theorem attach_call {l : OpenLaw} {n : Nat} {q : Program} {loose : List Str} {XP : (Str → Option Value) → Heap → Prop} {YP : World → Heap → Prop} {d : DefRec}
    (hn : l.most = some n) (hdf : d.params.defaults = [])
    (call : ∀ (w : World) (s₀ s₁ : Shared) (mg mb : Str → Option Value) (fa : Addr) (o : Obj) (pm cd doc : Value) (a : Addr) (vs : List Value) (ns : List Int),
      Ground q loose [] XP w s₀ mg mb s₁.heap → YP w s₁.heap →
      s₁.heap.get? fa = some o → o.data = .func (docDef d.name d.params d.body d.scope pm cd doc) → s₁.heap.CodeRec cd d.name → mg d.name = some (.ref fa) →
      s₁.heap.get? a = some { cls := .type "list", data := .seq vs.toArray } → IntsAre vs ns → ns.length ≤ n → s₁.gens = #[] →
      codeAny (model l.prog w) callerA (.call (.ref fa) ⟨[.ref a], []⟩) (fun r s' => r = .ok (.ret (.bool true)) ∧ OldK s₁.heap s'.heap ∧ s'.os = s₁.os ∧ AllBare s'.gens) s₁) :
    WalkO q loose XP YP l.row.toRowW d [] (fun f vs => PySem.call f vs) := by
  intro w s₀ s₁ mg mb G Y fa o pm cd doc dV kV ho hd hcd hD hmg hg args vals as hpre hlay hrd hwl hlo
  obtain rfl : dV = .none := Dflts.none hD hdf
  obtain rfl : kV = .none := Dflts.noKw hD
  obtain ⟨a, vs, ns, rfl, rfl, hobj, hints, hlen⟩ := script_of hn hpre hwl
  refine enter_call (codeAny_mono (call w s₀ s₁ mg mb fa o pm cd doc a vs ns G Y ho (fd_plain hd) hcd hmg hobj hints hlen hg) fun r s' hq => ?_)
  obtain ⟨rfl, h2, h3, h4⟩ := hq
  exact ⟨.inl ⟨.bool true, .bool true, [], rfl, fun _ => rfl, .bool true, post_true l _, fun _ => ⟨List.Pairwise.nil, fun _ hm => (nomatch hm)⟩⟩, h2, h3, h4⟩
section
variable {prog : Program} {w : World} {A : Around} {E : Value → Shared → Prop} {s : Shared} {K : Frag}
def ledger (h : Heap) (L d : Addr) : List (Addr × Obj) := (List.range h.objs.size).filterMap fun a => if a = L ∨ a = d then none else (h.get? a).map fun o => (a, o)
end
end Att
namespace L2
open PySem PySem.Spec PyProof.Rows
theorem vals_ints : ∀ {vs : List Value} {ns : List Int}, IntsAre vs ns → Vals (ns.map V.int) vs
  | _, _, .nil => .nil
  | _, _, .cons n t h => .cons ⟨t, rfl⟩ (vals_ints h)
def Only (H : Hp) : Prop := ∀ b, H b = none ∨ ∃ o xs, H b = some (.frz o (.lst xs))
theorem law_call {P : Program} {w : World} {K : PySem.W.Frag} {mg mb : Str → Option Value} {CX : CXT} {k : Nat} {fa a : Addr} {fd : FuncData} {x : Str} {sp : Sp} {s₁ : Shared} {vs : List Value} {ns : List Int}
    (KX : K.In s₁.heap) (hns : s₁.heap.Ns mainGlobals mg) (hb : s₁.heap.Ns builtinsNs mb) (hbb : ∀ x : Str, x ≠ "__name__" → mb x = bootBuiltins x) (hlim : s₁.heap.NoLimit) (hg : s₁.gens = #[])
    (ha : s₁.heap.get? a = some { cls := .type "list", data := .seq vs.toArray }) (hi : IntsAre vs ns) (hl : ns.length ≤ sizeLine) (hr : Room k callerA)
    (F : ∀ base : Heap, K.In base → base.Ns mainGlobals mg → FnOk P w K mg base CX k fa fd [x] sp) (hbind : ∀ (s : Shared) (u : Value), BindsTo s fd ⟨[u], []⟩ [(x, u)])
    (hsp : ∀ H : Hp, Only H → SqL K H a (ns.map V.int) → sp [.ref a] H (fun v _ => v = .bl true) fun _ _ _ => False)
    (hCX : ∀ H e s', CX [] H s₁ (fun _ _ _ => False) e s' → False) :
    codeAny (model P w) callerA (.call (.ref fa) ⟨[.ref a], []⟩) (fun r s' => r = .ok (.ret (.bool true)) ∧ OldK s₁.heap s'.heap ∧ s'.os = s₁.os ∧ AllBare s'.gens) s₁ := by
  have rv := vals_ints hi
  have lenV := hi.length
  have core : ∀ H : Hp, Only H → SqL K H a (ns.map V.int) → HOk P w H s₁.heap → (∀ b, H b ≠ none → b = a) → (H a ≠ none → K.lookup a = none) →
      codeAny (model P w) callerA (.call (.ref fa) ⟨[.ref a], []⟩) (fun r s' => r = .ok (.ret (.bool true)) ∧ OldK s₁.heap s'.heap ∧ s'.os = s₁.os ∧ AllBare s'.gens) s₁ := by
    intro H hO hS hok hA hK
    have base_of : ∀ {b : Addr} {o : Obj}, s₁.heap.get? b = some o → H b = none → (hidT s₁.heap H).get? b = some o := fun e n => hidT_get e n
    have noA : ∀ {b : Addr} {o : Obj} {es : Array DictEntry} {ep : Nat}, s₁.heap.get? b = some o → o.data = .dict es ep → H b = none := fun {b o es ep} e d => by
      cases q : H b with
      | none => rfl
      | some u =>
        have e' : b = a := hA b (by rw [q]; simp)
        subst e'
        rw [ha] at e; cases e
        have d' : Data.seq vs.toArray _ = Data.dict es ep := d
        cases d'
    have nsK : ∀ {b : Addr} {m : Str → Option Value}, s₁.heap.Ns b m → (hidT s₁.heap H).Ns b m := fun {b m} ⟨o, es, ep, e, d, r⟩ => ⟨o, es, ep, base_of e (noA e d), d, r⟩
    have hKb : K.In (hidT s₁.heap H) := fun b o e => base_of (KX b o e) (by
      cases q : H b with
      | none => rfl
      | some u =>
        have e' : b = a := hA b (by rw [q]; simp)
        subst e'
        rw [hK (by rw [q]; simp)] at e; cases e)
    have hM : Mod K mg (hidT s₁.heap H) := ⟨hKb, nsK hns, ⟨mb, nsK hb, hbb⟩, let ⟨mc, h1, h2⟩ := hlim; ⟨mc, nsK h1, h2⟩⟩
    have e0 : Env0 P w K mg (hidT s₁.heap H) callerA [] s₁ H := ⟨rfl, hM, fun b o e => of_hidT e, Nat.le_of_eq (hidT_size _ _), trivial, fun b hb => absurd (show b ∈ ([] : List Addr) from hb) (by simp), hok, .of_eq hg⟩
    refine codeAny_mono ((F _ hKb (nsK hns)).run callerA [] s₁ H ⟨[.ref a], []⟩ [.ref a] [.ref a] _ _ hr e0 (hbind s₁ (.ref a)) (.cons rfl .nil) (hsp H hO hS)) fun r s' h => ?_
    cases r with
    | error e => exact (hCX H e s' h).elim
    | ok fl =>
      cases fl with
      | next => exact False.elim h
      | brk => exact False.elim h
      | cont => exact False.elim h
      | ret u =>
        obtain ⟨v, H', os, bare, un, hok', r', q⟩ := h
        have q' : v = .bl true := q
        subst q'
        obtain rfl : u = Value.bool true := r'
        refine ⟨rfl, OldK.of_keep fun b o e => ?_, os, bare⟩
        cases q : H b with
        | none => exact un.keep b o e q (by intro z; exact absurd (show b ∈ ([] : List Addr) from z) (by simp)) (by simp)
        | some u =>
          rcases hO b with z | ⟨ob, xs, z⟩
          · rw [q] at z; cases z
          · have z2 := un.frzs b ob _ z
            obtain ⟨e1, _⟩ := hok b _ z
            obtain ⟨e2, _⟩ := hok' b _ z2
            rw [e] at e1; cases e1
            exact e2
  cases hk : K.lookup a with
  | some o =>
    have e := KX a o hk
    rw [ha] at e
    cases e
    refine core (fun _ => none) (fun _ => .inl rfl) (.inr ⟨_, vs.toArray, _, hk, rfl, rfl, rfl, by rw [List.size_toArray, lenV]; exact hl, by simpa using rv⟩) (fun b u z => by have z' : (none : Option HO) = some u := z; cases z') (fun b z => absurd rfl z) fun z => absurd rfl z
  | none =>
    refine core (fun b => if b = a then some (.frz { cls := .type "list", data := .seq vs.toArray } (.lst (ns.map V.int))) else none) (fun b => ?_) (.inl (.inr ⟨{ cls := .type "list", data := .seq vs.toArray }, if_pos rfl⟩)) (fun b u z => ?_) (fun b z => ?_) fun _ => hk
    · by_cases hb : b = a
      · exact .inr ⟨_, _, if_pos hb⟩
      · exact .inl (if_neg hb)
    · by_cases hb : b = a
      · have z' := (if_pos hb).symm.trans z
        cases z'
        subst hb
        exact ⟨ha, by rw [List.length_map]; exact hl, vs, _, rv, ha⟩
      · have z' := (if_neg hb).symm.trans z
        cases z'
    · by_cases hb : b = a
      · exact hb
      · exact absurd (if_neg hb) z
end L2
namespace L2
open PySem PySem.Spec PyProof.Rows
theorem walk_of {l : PySem.W.OpenLaw} {n k : Nat} {q : Program} {loose : List Str} {XP : (Str → Option Value) → Heap → Prop} {YP : World → Heap → Prop} {d : DefRec} {K : Params → PySem.W.Frag} {CX : World → CXT} {sp : World → Sp} {x : Str}
    (hn : l.most = some n) (hn2 : n ≤ sizeLine) (hdf : d.params.defaults = []) (hr : Room k callerA)
    (hY : ∀ (w : World) (h : Heap), YP w h → (K w.params).In h)
    (F : ∀ (w : World) (mg : Str → Option Value) (fa : Addr) (h : Heap), (K w.params).In h → h.Ns mainGlobals mg → mg d.name = some (.ref fa) →
      ∃ fd : FuncData, (∀ (s : Shared) (u : Value), BindsTo s fd ⟨[u], []⟩ [(x, u)]) ∧
        ∀ base : Heap, (K w.params).In base → base.Ns mainGlobals mg → FnOk l.prog w (K w.params) mg base (CX w) k fa fd [x] (sp w))
    (hsp : ∀ (w : World) (H : Hp) (a : Addr) (ns : List Int), ns.length ≤ n → Only H → SqL (K w.params) H a (ns.map V.int) → sp w [.ref a] H (fun v _ => v = .bl true) fun _ _ _ => False)
    (hCX : ∀ (w : World) (H : Hp) (s : Shared) (e : Value) (s' : Shared), CX w [] H s (fun _ _ _ => False) e s' → False) :
    PySem.W.WalkO q loose XP YP l.row.toRowW d [] (fun f vs => PySem.call f vs) := by
  refine Att.attach_call hn hdf fun w s₀ s₁ mg mb fa o pm cd doc a vs ns G Y ho hd hcd hmg hobj hints hlen hg => ?_
  have KX := hY w _ Y
  obtain ⟨fd, hb, hF⟩ := F w mg fa _ KX G.T.g hmg
  exact law_call KX G.T.g G.T.b G.T.builtins G.T.nolimit hg hobj hints (Nat.le_trans hlen hn2) hr hF hb (fun H hO hS => hsp w H a ns hlen hO hS) fun H e s' => hCX w H s₁ e s'
end L2
namespace L2
open PySem PySem.Spec PyProof.Rows
def inClass (s : Stmt) (j : Nat) : Stmt := match s with
  | .ClassDef _ _ _ body _ _ _ _ _ _ _ => body.getD j (.Pass ⟨0, 0, 0, 0⟩)
  | _ => .Pass ⟨0, 0, 0, 0⟩
def defArgs (s : Stmt) : Arguments := match s with
  | .FunctionDef _ a _ _ _ _ _ _ _ _ => a
  | _ => { posonlyargs := [], args := [], vararg := none, kwonlyargs := [], kw_defaults := [], kwarg := none, defaults := [] }
def defBody (s : Stmt) : List Stmt := match s with
  | .FunctionDef _ _ b _ _ _ _ _ _ _ => b
  | _ => []
def defScope (s : Stmt) : Scope := match s with
  | .FunctionDef _ _ _ _ _ _ sc _ _ _ => sc
  | _ => { kind := .function, names := [], isGenerator := false, isCoroutine := false }
abbrev CX0 : CXT := fun _ _ _ _ _ _ => False
abbrev E0 : XK := fun _ _ _ => False
theorem pass0 {X : Cx} : Passes CX0 X E0 := fun _ _ _ _ _ _ _ h => h.elim
structure Fun (K : PySem.W.Frag) (x qual : Str) (st : Stmt) (f : Addr) (fd : FuncData) : Prop where
  ex : ∃ (oc : Value) (od : Option Addr) (kV doc pm : Value) (an : Option Addr) (cdv ct : Value) (osl : Array (Option Value)),
    fd = PySem.W.fnOf x qual (defArgs st) (defBody st) (defScope st) .none kV doc pm an cdv ct ∧ K.lookup f = some ⟨oc, od, .func fd, osl⟩ ∧ PySem.W.codeIn K cdv qual = true
  kp : PySem.W.keepIn K (.ref f) = true
section
variable {P : Program} {w : World} {K : PySem.W.Frag} {mg : Str → Option Value} {base : Heap}
theorem Fun.ok {x qual : Str} {st : Stmt} {f : Addr} {fd : FuncData} {N ps : List Str} {k : Nat} {sp : Sp} (F : Fun K x qual st f fd) (S : FnScope N ps (defScope st)) (len : ∀ vs H Q E, sp vs H Q E → vs.length = ps.length)
    (hbody : ∀ (cdv : Value) (A : Around) (outer : List Env) (s : Shared) (H : Hp) (vs : List V) (Q : VK) (E : XK), Room k (A.deeper (envOfC qual (defScope st) s.heap.objs.size f cdv)) → sp vs H Q E →
      ∃ t, PSs (cxOf CX0 P w K mg base N qual (defScope st) f cdv A outer s H E).nox (defBody st) t ∧ t { nx := fun _ H' => Q .non H', rt := Q } (start N vs) H) : FnOk P w K mg base CX0 (k + 1) f fd ps sp := by
  obtain ⟨oc, od, kV, doc, pm, an, cdv, ct, osl, rfl, lk, hcd⟩ := F.ex
  refine fn_of lk hcd S len fun A outer s H vs Q E hr hsp => ?_
  obtain ⟨t, h, q⟩ := hbody cdv A outer s H vs Q E hr hsp
  exact ⟨t, h.nox, q⟩
theorem Fun.binds {x qual : Str} {st : Stmt} {f : Addr} {fd : FuncData} {ps : List Str} (F : Fun K x qual st f fd)
    (h : ∀ (kV doc pm : Value) (an : Option Addr) (cdv ct : Value) (us : List Value), us.length = ps.length → bindArgs (PySem.W.fnOf x qual (defArgs st) (defBody st) (defScope st) .none kV doc pm an cdv ct) ⟨us, []⟩ = pure (ps.zip us)) : Binds K fd ps [] := by
  obtain ⟨oc, od, kV, doc, pm, an, cdv, ct, osl, rfl, lk, hcd⟩ := F.ex
  exact .all (h kV doc pm an cdv ct)
theorem fun_mk {x qual : Str} {st : Stmt} {f : Addr} {oc : Value} {od an : Option Addr} {osl : Array (Option Value)} {kV doc pm cdv ct : Value} (l : K.lookup f = some ⟨oc, od, .func (PySem.W.fnOf x qual (defArgs st) (defBody st) (defScope st) .none kV doc pm an cdv ct), osl⟩)
    (c : PySem.W.codeIn K cdv qual = true) (k : PySem.W.keepIn K (.ref f) = true) : Fun K x qual st f (PySem.W.fnOf x qual (defArgs st) (defBody st) (defScope st) .none kV doc pm an cdv ct) := ⟨⟨oc, od, kV, doc, pm, an, cdv, ct, osl, rfl, l, c⟩, k⟩
end
theorem hu_of {A : Around} {k : Nat} (hr : Room k A) : A.units + 1 < cLine := Nat.lt_of_le_of_lt (Nat.add_le_add_left (by decide : 1 ≤ 64) _) hr.units
theorem small1000 {n : Nat} (h : n ≤ 1000) : n < sizeLine := Nat.lt_of_le_of_lt h (by decide)
section
variable {X : Cx}
theorem pv (i : Nat) {x : Str} {pos : Pos} (hN : X.N[i]? = some x := by rfl) (hv : Vis X.env.scope x := by first | exact Or.inl rfl | exact Or.inr (Or.inl rfl) | exact Or.inr (Or.inr rfl)) (hd : (x == ("__debug__" : Str)) = false := by decide)
    (hcd : (x == ("__classdict__" : Str)) = false := by decide) : PE X (.Name x pos) (tVar i) := pe_var hN hv hd hcd
end
theorem iteF {A B : Prop} (h : B) : if false = true then A else B := by
  rw [if_neg Bool.false_ne_true]
  exact h
theorem iteT {A B : Prop} (h : A) : if true = true then A else B := by
  rw [if_pos rfl]
  exact h
theorem ite2 {c A B : Prop} [Decidable c] (h1 : c → A) (h2 : ¬ c → B) : if c then A else B := by
  by_cases h : c
  · rw [if_pos h]
    exact h1 h
  · rw [if_neg h]
    exact h2 h
def Same (H H' : Hp) : Prop := ∀ b o, H b = some o → H' b = some o
theorem Same.refl (H : Hp) : Same H H := fun _ _ h => h
theorem Same.trans {H H1 H2 : Hp} (a : Same H H1) (b : Same H1 H2) : Same H H2 := fun c o h => b c o (a c o h)
theorem Same.free {H H' : Hp} (e : Same H H') {l : Addr} (h : H' l = Option.none) : H l = Option.none := by
  cases q : H l with
  | none => rfl
  | some o =>
    rw [e l o q] at h
    cases h
theorem Same.seq {K : PySem.W.Frag} {H H' : Hp} {a : Addr} {xs : List V} (e : Same H H') (h : SqL K H a xs) : SqL K H' a xs := by
  rcases h with (h | ⟨o, h⟩) | h
  · exact .inl (.inl (e _ _ h))
  · exact .inl (.inr ⟨o, e _ _ h⟩)
  · exact .inr h
end L2
namespace L2
open PySem PySem.Spec PyProof.Rows
def clOf (en : Env) : List (Str × NameKind) → List (Str × Addr) → List (Str × Addr)
  | [], cs => cs
  | (n, k) :: r, cs => if (k == NameKind.free) = true then clOf en r ((n, (en.cells.lookup n).getD 0) :: cs) else clOf en r cs
theorem clOf_for {en : Env} : ∀ (ns : List (Str × NameKind)) (cs : List (Str × Addr)), (∀ y ∈ ns, y.2 = .free → (en.cells.lookup y.1).isSome = true) →
    (forIn ns cs fun (y : Str × NameKind) (r : List (Str × Addr)) => (if (y.2 == NameKind.free) = true then (cellOf en y.1 >>= fun a => pure (ForInStep.yield ((y.1, a) :: r))) else pure (ForInStep.yield r) : Sem (ForInStep (List (Str × Addr))))) = pure (clOf en ns cs) := by
  intro ns
  induction ns with
  | nil => intro cs _; rfl
  | cons y r ih =>
    intro cs h
    obtain ⟨n, k⟩ := y
    rw [List.forIn_cons]
    have hr := fun cs => ih cs fun y hy => h y (List.mem_cons_of_mem _ hy)
    dsimp only
    by_cases hk : (k == NameKind.free) = true
    · have hk' : k = .free := by simpa using hk
      obtain ⟨a, ha⟩ := Option.isSome_iff_exists.mp (h (n, k) List.mem_cons_self hk')
      have e1 : cellOf en n = pure a := by unfold cellOf; dsimp only at ha; rw [ha]
      have e2 : clOf en ((n, k) :: r) cs = clOf en r ((n, a) :: cs) := by
        show (if (k == NameKind.free) = true then _ else _) = _
        rw [if_pos hk]; dsimp only at ha; rw [ha]; rfl
      rw [if_pos hk, e1, e2]
      simp only [pure_bind]
      exact hr _
    · have e2 : clOf en ((n, k) :: r) cs = clOf en r cs := by
        show (if (k == NameKind.free) = true then _ else _) = _
        rw [if_neg hk]
      rw [if_neg hk, e2]
      simp only [pure_bind]
      exact hr _
theorem closureFor_cl {en : Env} {sc : Scope} (h : ∀ y ∈ sc.names, y.2 = .free → (en.cells.lookup y.1).isSome = true) : closureFor sc en = pure (clOf en sc.names []) := by
  have q := clOf_for (en := en) sc.names [] h
  unfold closureFor
  refine Eq.trans ?_ (show (forIn sc.names ([] : List (Str × Addr)) _ >>= pure) = _ by rw [q]; rfl)
  rfl
theorem clOf_sub {en : Env} : ∀ (ns : List (Str × NameKind)) (cs : List (Str × Addr)), (∀ y ∈ ns, y.2 = .free → (en.cells.lookup y.1).isSome = true) → (∀ x c, cs.lookup x = some c → en.cells.lookup x = some c) →
    ∀ x c, (clOf en ns cs).lookup x = some c → en.cells.lookup x = some c
  | [], cs, _, hc, x, c, e => hc x c e
  | (n, k) :: r, cs, h, hc, x, c, e => by
    have hr : ∀ y ∈ r, y.2 = .free → (en.cells.lookup y.1).isSome = true := fun y hy => h y (List.mem_cons_of_mem _ hy)
    unfold clOf at e
    by_cases hk : (k == NameKind.free) = true
    · rw [if_pos hk] at e
      refine clOf_sub r _ hr (fun x' c' e' => ?_) x c e
      rw [List.lookup_cons] at e'
      cases hx : x' == n with
      | true =>
        rw [hx] at e'
        have hx' : x' = n := by simpa using hx
        obtain ⟨a, ha⟩ := Option.isSome_iff_exists.mp (h (n, k) List.mem_cons_self (by simpa using hk))
        dsimp only at ha e'
        rw [ha] at e'
        rw [hx', ha]
        exact e'
      | false => rw [hx] at e'; exact hc x' c' e'
    · rw [if_neg hk] at e
      exact clOf_sub r cs hr hc x c e
theorem clOf_has {en : Env} : ∀ (ns : List (Str × NameKind)) (cs : List (Str × Addr)) (x : Str), ((x, NameKind.free) ∈ ns ∨ (cs.lookup x).isSome = true) → ((clOf en ns cs).lookup x).isSome = true
  | [], cs, x, h => by
    rcases h with h | h
    · cases h
    · exact h
  | (n, k) :: r, cs, x, h => by
    unfold clOf
    by_cases hk : (k == NameKind.free) = true
    · rw [if_pos hk]
      refine clOf_has r _ x ?_
      rcases h with h | h
      · rcases List.mem_cons.mp h with e | h
        · right
          rw [List.lookup_cons, show (x == n) = true by simpa using congrArg Prod.fst e]
          rfl
        · exact .inl h
      · right
        rw [List.lookup_cons]
        cases hx : x == n with
        | true => rfl
        | false => exact h
    · rw [if_neg hk]
      refine clOf_has r _ x ?_
      rcases h with h | h
      · rcases List.mem_cons.mp h with e | h
        · exfalso
          have e' : NameKind.free = k := congrArg Prod.snd e
          rw [← e'] at hk
          exact hk (by decide)
        · exact .inl h
      · exact .inr h
theorem relabel_free {en : Env} : ∀ {ns : List (Str × NameKind)} {x : Str}, ns.lookup x = some .free →
    (ns.map fun (n, k) => if (k == NameKind.free && en.scope.kind == .function && en.kindOf n == some .cell) then (n, NameKind.cell) else (n, k)).lookup x = some .cell ∨
    (ns.map fun (n, k) => if (k == NameKind.free && en.scope.kind == .function && en.kindOf n == some .cell) then (n, NameKind.cell) else (n, k)).lookup x = some .free
  | [], _, h => by simp at h
  | (n, k) :: r, x, h => by
    have ih := @relabel_free en r x
    rw [List.map_cons]
    cases hx : x == n with
    | true =>
      simp only [List.lookup_cons, hx] at h
      cases h
      dsimp only
      split
      · left; simp [List.lookup_cons, hx]
      · right; simp [List.lookup_cons, hx]
    | false =>
      simp only [List.lookup_cons, hx] at h
      dsimp only
      split
      · simp only [List.lookup_cons, hx]; exact ih h
      · simp only [List.lookup_cons, hx]; exact ih h
theorem relabel_of {en : Env} : ∀ {ns : List (Str × NameKind)} {x : Str} {q : NameKind}, (q = .cell ∨ q = .free) →
    (ns.map fun (n, k) => if (k == NameKind.free && en.scope.kind == .function && en.kindOf n == some .cell) then (n, NameKind.cell) else (n, k)).lookup x = some q → (x, NameKind.free) ∈ ns ∨ (x, NameKind.cell) ∈ ns
  | [], _, _, _, h => by simp at h
  | (n, k) :: r, x, q, hq, h => by
    have ih := @relabel_of en r x q hq
    rw [List.map_cons] at h
    dsimp only at h
    by_cases hc : (k == NameKind.free && en.scope.kind == .function && en.kindOf n == some .cell) = true
    · rw [if_pos hc] at h
      have hk : k = .free := by
        simp only [Bool.and_eq_true] at hc
        simpa using hc.1.1
      cases hx : x == n with
      | true =>
        have hx' : x = n := by simpa using hx
        exact .inl (by rw [hx', hk]; exact List.mem_cons_self)
      | false =>
        simp only [List.lookup_cons, hx] at h
        rcases ih h with z | z
        · exact .inl (List.mem_cons_of_mem _ z)
        · exact .inr (List.mem_cons_of_mem _ z)
    · rw [if_neg hc] at h
      cases hx : x == n with
      | true =>
        have hx' : x = n := by simpa using hx
        simp only [List.lookup_cons, hx] at h
        cases h
        rcases hq with z | z
        · exact .inr (by rw [hx', ← z]; exact List.mem_cons_self)
        · exact .inl (by rw [hx', ← z]; exact List.mem_cons_self)
      | false =>
        simp only [List.lookup_cons, hx] at h
        rcases ih h with z | z
        · exact .inl (List.mem_cons_of_mem _ z)
        · exact .inr (List.mem_cons_of_mem _ z)
abbrev blk (X : Cx) (N' : List Str) (sc : Scope) (C : Addr) (s2 : Shared) (H2 : Hp) (ex : List Addr) : Cx :=
  { X with N := N', s₀ := s2, H₀ := H2, env := compEnvC sc (clOf X.env sc.names []) C X.env, outer := X.stack, stack := X.stack, ex := ex, fn := fun _ => false, xe := fun _ _ => False }
def cst (σ : St) (nl : Nat) (js : List Nat) : St := List.replicate nl none ++ js.map fun j => (σ[j]?).getD none
structure CScope (X : Cx) (sc : Scope) (N' : List Str) (nl : Nat) (js : List Nat) : Prop where
  kind : sc.kind = .function
  nocell : ∀ y ∈ sc.names, y.2 ≠ .cell
  locs : ∀ y ∈ sc.names, y.2 = .local → sc.names.lookup y.1 = some .local
  frees : ∀ y ∈ sc.names, y.2 = .free → X.env.kindOf y.1 = some .cell ∨ X.env.kindOf y.1 = some .free
  cap : ∀ (i j : Nat), js[i]? = some j → ∃ x, N'[nl + i]? = some x ∧ X.N[j]? = some x ∧ sc.names.lookup x = some .free
  len : N'.length = nl + js.length
def Wk (σ0 σ2 : St) : Prop := σ0.length = σ2.length ∧ ∀ (i : Nat) v, σ0[i]? = some (some v) → σ2[i]? = some (some v)
def PIf (X : Cx) (ifs : List Expr) (t : TT) : Prop :=
  ∀ (pins : List (Addr × Obj)) (s : Shared) (σ : St) (H : Hp) (Q : Bool → Hp → Prop), Inv X pins σ H s → t σ H Q →
    wpAny (model X.prog X.w) X.A (forIn ifs true fun c r => if r = true then do let ok ← isTrue c X.env (eval c X.env); pure (ForInStep.yield ok) else pure (ForInStep.yield r)) (TP X pins σ Q) X.xe s
theorem pif_nil {X : Cx} : PIf X [] (fun _ H Q => Q true H) := fun _ _ _ H _ I h => wpAny_tests_nil ⟨H, I, h⟩
theorem pif_one {X : Cx} {c : Expr} {t : TT} (h : PT X c t) : PIf X [c] t := fun pins s σ H Q I hw => wpAny_tests_one (h pins s σ H Q I hw)
section
variable {X : Cx} {sc : Scope} {N' : List Str} {nl : Nat} {js : List Nat} {pins : List (Addr × Obj)} {σ : St} {H : Hp} {s : Shared}
theorem CScope.hasC (S : CScope X sc N' nl js) (ok : X.Ok) : ∀ y ∈ sc.names, y.2 = .free → (X.env.cells.lookup y.1).isSome = true := fun y hy hf => by
  obtain ⟨c, e⟩ := ok.has y.1 (S.frees y hy hf)
  rw [e]; rfl
theorem CScope.sub (S : CScope X sc N' nl js) (ok : X.Ok) {x : Str} {c : Addr} (e : (clOf X.env sc.names []).lookup x = Option.some c) : X.env.cells.lookup x = Option.some c :=
  clOf_sub sc.names [] (S.hasC ok) (fun _ _ z => by simp at z) x c e
theorem blk_ok (S : CScope X sc N' nl js) (I : Inv X pins σ H s) {fp : List Addr} {C : Addr} (hf : ∀ b ∈ fp, FpOk X pins H b) (hC : s.heap.objs.size ≤ C) (hfC : ∀ b ∈ fp, b ≠ C) : (blk X N' sc C s H fp).Ok where
  mod := I.ok.mod
  kind := S.kind
  glob := I.ok.glob
  blt := I.ok.blt
  above := hC
  inj := fun x y c h1 h2 => I.ok.inj x y c (S.sub I.ok h1) (S.sub I.ok h2)
  has := fun x hx => by
    have hm : (x, NameKind.free) ∈ sc.names ∨ (x, NameKind.cell) ∈ sc.names := by
      rcases hx with z | z
      · exact relabel_of (.inl rfl) z
      · exact relabel_of (.inr rfl) z
    rcases hm with z | z
    · exact Option.isSome_iff_exists.mp (clOf_has sc.names [] x (.inl z))
    · exact absurd rfl (S.nocell _ z)
  cab := fun x c h _ => absurd (show false = true from h) Bool.false_ne_true
  hd := I.ok.hd
  frames := I.ok.frames
  stk := .inl rfl
  exf := fun b hb => ⟨hfC b hb, fun x c e => (hf b hb).2.2.2.2.1 x c (S.sub I.ok e)⟩
  bs := I.bs
  bsz := Nat.le_trans I.ok.bsz I.sz
  noex := fun b o e hb => by
    rcases (hf b hb).2.2.2.1 with z | z
    · exact I.ok.noex b o e z
    · exact absurd (Nat.lt_of_lt_of_le (Heap.lt_size (I.ok.bs b o e).1) z) (Nat.lt_irrefl _)
  exfs := fun b hb hs => by
    rcases List.mem_cons.mp (I.stkSub b hs) with z | z
    · exact (hf b hb).2.1 z
    · exact (hf b hb).2.2.1 z
  funs := I.stack
  frf := I.stkFree
theorem cst_len (hl : N'.length = nl + js.length) : (cst σ nl js).length = N'.length := by
  unfold cst
  rw [List.length_append, List.length_replicate, List.length_map, hl]
theorem cst_get {i : Nat} {v : V} (e : (cst σ nl js)[i]? = some (some v)) : ∃ k j, i = nl + k ∧ js[k]? = some j ∧ σ[j]? = some (some v) := by
  unfold cst at e
  by_cases hi : i < nl
  · rw [List.getElem?_append_left (by simpa using hi), List.getElem?_replicate] at e
    rw [if_pos hi] at e
    cases e
  · rw [List.getElem?_append_right (by simpa using hi), List.length_replicate, List.getElem?_map] at e
    cases q : js[i - nl]? with
    | none => rw [q] at e; cases e
    | some j =>
      rw [q] at e
      have e' : (σ[j]?).getD none = some v := by simpa using e
      refine ⟨i - nl, j, by omega, q, ?_⟩
      cases z : σ[j]? with
      | none => rw [z] at e'; cases e'
      | some w' => rw [z] at e'; simpa using e'
theorem blk_inv (S : CScope X sc N' nl js) (I : Inv X pins σ H s) {fp : List Addr} {C : Addr} {h' : Heap} {t' : Nat} {m : Str → Option Value} (hf : ∀ b ∈ fp, FpOk X pins H b) (hC : s.heap.objs.size ≤ C) (hfC : ∀ b ∈ fp, b ≠ C)
    (k : ∀ b u, s.heap.get? b = some u → h'.get? b = some u) (hn : h'.Ns C m) : Inv (blk X N' sc C s H fp) pins (cst σ nl js) H { s with heap := h', toks := t' } where
  ok := blk_ok S I hf hC hfC
  os := rfl
  bare := I.bare
  base := Un.kept k
  loc := by
    refine ⟨m, hn, fun i x v e1 e2 e3 => ?_⟩
    obtain ⟨q, j, rfl, hj, hv⟩ := cst_get e2
    obtain ⟨x', n1, n2, n3⟩ := S.cap q j hj
    have ex : x' = x := by
      have z : N'[nl + q]? = some x := e1
      rw [n1] at z; exact Option.some.inj z
    subst ex
    obtain ⟨m0, _, hl⟩ := I.loc
    have kf := S.frees (x', .free) (PySem.mem_of_lookup n3) rfl
    obtain ⟨u, r, l⟩ := hl j x' v n2 hv (by
      rcases kf with z | z
      · exact .inr (.inl z)
      · exact .inr (.inr z))
    refine ⟨u, r, ?_⟩
    rcases l with ⟨z, _⟩ | ⟨_, c, hc, hcell⟩
    · rcases kf with y | y
      · rw [z] at y; cases y
      · rw [z] at y; cases y
    · obtain ⟨c', hc'⟩ := Option.isSome_iff_exists.mp (clOf_has (en := X.env) sc.names [] x' (.inl (PySem.mem_of_lookup n3)))
      have e : c' = c := by
        have z := S.sub I.ok hc'
        rw [hc] at z; exact (Option.some.inj z).symm
      subst e
      obtain ⟨o, ho, hd⟩ := hcell
      exact .inr ⟨relabel_free n3, c', hc', ⟨o, k _ _ ho, hd⟩⟩
  cell := fun x c e => by
    obtain ⟨v, o, ho, hd⟩ := I.cell x c (S.sub I.ok e)
    exact ⟨v, o, k _ _ ho, hd⟩
  free := I.hok.fresh hC
  freeC := fun x c e => I.freeC x c (S.sub I.ok e)
  pin := fun p hp => by
    obtain ⟨e, n, ne, nf, d⟩ := I.pin p hp
    refine ⟨k _ _ e, n, Nat.ne_of_lt (Nat.lt_of_lt_of_le (Heap.lt_size e) hC), fun z => ?_, d⟩
    rcases List.mem_cons.mp (I.stkSub _ z) with y | y
    · exact ne y
    · exact nf y
  hok := I.hok.kept k
  len := cst_len S.len
end
theorem compLoop_any {prog : Program} {w : World} {A : Around} {R : Result → Shared → Prop} {s : Shared} {elt tg it' : Expr} {ifs : List Expr} {sc : Scope} {pos : Pos} {it acc : Value} {en : Env} (I : Nat → Shared → Prop)
    (turn : ∀ n s, I n s → wpAny (model prog w) A (pyNext it) (fun r s1 => match r with
      | none => R (.ok .next) s1
      | some v => wpAny (model prog w) A (letOwnedTupleGo tg it v) (fun _ s2 => wpAny (model prog w) A (assign tg en v) (fun _ s3 =>
          wpAny (model prog w) A (forIn ifs true fun c r => if r = true then do let ok ← isTrue c en (eval c en); pure (ForInStep.yield ok) else pure (ForInStep.yield r)) (fun ok s4 =>
            if ok = true then wpAny (model prog w) A (eval elt en) (fun x s5 => wpAny (model prog w) A (call (.builtin "list.append") [acc, x]) (fun _ s6 => ∃ m, m < n ∧ I m s6) (fun _ _ => False) s5) (fun _ _ => False) s4
            else ∃ m, m < n ∧ I m s4) (fun _ _ => False) s3) (fun _ _ => False) s2) (fun _ _ => False) s1) (fun _ _ => False) s)
    (n : Nat) (h : I n s) : codeAny (model prog w) A (.compLoop (.ListComp elt [⟨tg, it', ifs, 0⟩] sc pos) 0 it acc en) R s := by
  refine codeAny_loop rfl I (fun n s hI => ?_) n h
  show wpAny _ A ((compTurn (.ListComp elt [⟨tg, it', ifs, 0⟩] sc pos) 0 it acc en).onRaise (fun x => do noteFrame x en; theTreesLotGoes x)) _ _ s
  refine wpAny_noted ?_
  rw [compTurn_list]
  refine wpAny_bind (wpAny_standAt (wpAny_bind (wpAny_mono (turn n s hI) (fun r s1 h1 => ?_) fun _ _ z => z.elim)))
  cases r with
  | none => exact wpAny_pure h1
  | some v =>
    refine wpAny_bind (wpAny_mono h1 (fun _ s2 h2 => ?_) fun _ _ z => z.elim)
    refine wpAny_bind (wpAny_mono h2 (fun _ s3 h3 => ?_) fun _ _ z => z.elim)
    refine wpAny_bind (wpAny_mono h3 (fun ok s4 h4 => ?_) fun _ _ z => z.elim)
    cases ok with
    | false => exact wpAny_pure ⟨rfl, h4⟩
    | true =>
      refine wpAny_bind (wpAny_bind (wpAny_mono h4 (fun x s5 h5 => ?_) fun _ _ z => z.elim))
      exact wpAny_bind (wpAny_mono h5 (fun _ s6 h6 => wpAny_pure (wpAny_pure ⟨rfl, h6⟩)) fun _ _ z => z.elim)
def LcW (J : It) (g : TG) (tt : TT) (te : TE) (σ0 : St) (Q : VK) (H1 : Hp) : Prop :=
  ∃ W : Nat → Nat → List V → Hp → Prop, (∃ m, W 0 m [] H1) ∧ ∀ i m ys H, W i m ys H → ys.length ≤ sizeLine ∧
    ((J.stop i H ∧ ∀ p, H p = none → Q (.ref p) (upd H p (.lst ys))) ∨
     (J.go i H ∧ ∀ x H', J.yld i H x H' → g x σ0 H' fun σ2 H2 => Wk σ0 σ2 ∧ tt σ2 H2 fun k H3 => if k = true then te σ2 H3 fun v H4 => ys.length < sizeLine ∧ ∃ m', m' < m ∧ W (i + 1) m' (ys ++ [v]) H4 else ∃ m', m' < m ∧ W (i + 1) m' ys H3))
def tLc (wi : TI) (g : TG) (tt : TT) (te : TE) (nl : Nat) (js : List Nat) : TE := fun σ H Q => wi σ H fun J H1 => LcW J g tt te (cst σ nl js) Q H1
section
variable {X : Cx} {sc : Scope} {N' : List Str} {nl : Nat} {js : List Nat} {tg iter elt : Expr} {ifs : List Expr} {pos : Pos} {wi : TI} {g : TG} {tt : TT} {te : TE}
theorem lc_core {pins : List (Addr × Obj)} {σ : St} {H : Hp} {s : Shared} {E : Value → Shared → Prop} {RR : Value → Addr → Result → Shared → Prop} {it : Addr} {fp : List Addr} {tn : Nat → Heap → Prop} {J : It} {Q : VK} (hc : X.calm = true) (S : CScope X sc N' nl js)
    (hg : ∀ C s2 H2 ex, PG (blk X N' sc C s2 H2 ex) tg g) (ht : ∀ C s2 H2 ex, PIf (blk X N' sc C s2 H2 ex) ifs tt) (he : ∀ C s2 H2 ex, PE (blk X N' sc C s2 H2 ex) elt te)
    (I : Inv X pins σ H s) (T : Turn X.prog X.w X.K tg J fp it tn) (st : tn 0 s.heap) (hf : ∀ b ∈ fp, FpOk X pins H b) (h : LcW J g tt te (cst σ nl js) Q H)
    (fin : ∀ D C H' s' m, Inv X pins σ H' s' → s'.heap.Ns C m → FpOk X pins H' C → Q (.ref D) H' → RR (.ref D) C (.ok .next) s') :
    wpAny (model X.prog X.w) X.A (newList []) (fun acc s3 => wpAny (model X.prog X.w) X.A (newFunctionEnv sc X.env.globals (clOf X.env sc.names []) [] X.env.qual none .none (some X.env)) (fun cenv s4 =>
      codeAny (model X.prog X.w) X.A (.compStart (.ListComp elt [⟨tg, iter, ifs, 0⟩] sc pos) 0 (.ref it) acc { cenv with scope := relabel sc X.env }) (RR acc cenv.locals) s4) E s3) E s := by
  obtain ⟨W, ⟨m0, w0⟩, step⟩ := h
  refine wpAny_newObj_type (wpAny_newFunctionEnv S.nocell (by intro y hy; simp at hy) (fun h1 hns hsb => ?_) S.kind)
  dsimp only at hns hsb ⊢
  generalize hP : s.heap.push { cls := .type "list", dict := none, data := .seq ([] : List Value).toArray } = P1 at hns hsb ⊢
  have hCs : P1.objs.size = s.heap.objs.size + 1 := by rw [← hP, Heap.size_push]
  have hDC : s.heap.objs.size ≠ P1.objs.size := by rw [hCs]; exact Nat.ne_of_lt (Nat.lt_succ_self _)
  have hCle : s.heap.objs.size ≤ P1.objs.size := by rw [hCs]; exact Nat.le_succ _
  have ltf : ∀ b ∈ fp, b < s.heap.objs.size := fun b hb => by
    obtain ⟨o, e, _⟩ := T.obj 0 _ st b hb
    exact Heap.lt_size e
  have hfC : ∀ b ∈ fp, b ≠ P1.objs.size := fun b hb => Nat.ne_of_lt (Nat.lt_of_lt_of_le (ltf b hb) hCle)
  have old : ∀ b o, s.heap.get? b = some o → h1.get? b = some o := fun b o e =>
    hsb.extBut b o (Nat.ne_of_lt (Nat.lt_of_lt_of_le (Heap.lt_size e) hCle)) (Heap.get?_push_of_some _ (hP ▸ Heap.get?_push_of_some _ e))
  have accD : h1.get? s.heap.objs.size = some { cls := .type "list", data := .seq ([] : List Value).toArray 0 } := hsb.extBut _ _ hDC (Heap.get?_push_of_some _ (hP ▸ Heap.get?_push_size _ rfl))
  generalize hDd : s.heap.objs.size = D at *
  generalize hCd : P1.objs.size = C at *
  have ltp : ∀ p ∈ X.pn ++ pins, p.1 < D := fun p hp => by rw [← hDd]; exact Heap.lt_size (I.pin p hp).1
  have ltc : ∀ x c, X.env.cells.lookup x = some c → c < D := fun x c e => by
    obtain ⟨v, o, ho, _⟩ := I.cell x c e
    rw [← hDd]; exact Heap.lt_size ho
  have noD : D ∉ frs X.stack := fun z => by
    rcases List.mem_cons.mp (I.stkSub _ z) with y | y
    · have := I.lt; rw [← y, hDd] at this; exact Nat.lt_irrefl _ this
    · exact I.nofs (Nat.le_of_eq hDd) y
  have fpB : ∀ {H' : Hp} {o : Obj}, (∀ b ∈ fp, H' b = none) → ∀ b ∈ fp, FpOk (blk X N' sc C s H fp) (pins ++ [(D, o)]) H' b := fun {H' o} hn b hb => by
    obtain ⟨f0, f1, f2, f3, f4, f5⟩ := hf b hb
    refine ⟨hn b hb, hfC b hb, fun z => ?_, .inl hb, fun x c e => f4 x c (S.sub I.ok e), fun p hp => ?_⟩
    · rcases List.mem_cons.mp (I.stkSub _ z) with y | y
      · exact f1 y
      · exact f2 y
    · have hp' : p ∈ (X.pn ++ pins) ++ [(D, o)] := by rw [List.append_assoc]; exact hp
      rcases List.mem_append.mp hp' with z | z
      · exact f5 p z
      · have e : p = (D, o) := by simpa using z
        subst e
        exact Nat.ne_of_gt (ltf b hb)
  have repin : ∀ {σ' : St} {H' : Hp} {s' : Shared} {its : List Value} {c : Nat}, Inv (blk X N' sc C s H fp) pins σ' H' s' → H' D = none → s'.heap.get? D = some { cls := .type "list", data := .seq its.toArray c } →
      Inv (blk X N' sc C s H fp) (pins ++ [(D, { cls := .type "list", data := .seq its.toArray c })]) σ' H' s' := fun {σ' H' s' its c} I' hn e =>
    I'.pins_of fun p hp => by
      rcases List.mem_append.mp hp with z | z
      · exact I'.pin p (List.mem_append_right _ z)
      · have e' : p = (D, { cls := .type "list", data := .seq its.toArray c }) := by simpa using z
        subst e'
        exact ⟨e, hn, hDC, noD, fun v z => by cases z⟩
  have loop : ∀ s4 : Shared, s4 = { s with heap := h1, toks := s.toks + ([] : List (Str × Value)).length } →
      codeAny (model X.prog X.w) X.A (.compLoop (.ListComp elt [⟨tg, iter, ifs, 0⟩] sc pos) 0 (.ref it) (.ref D) (compEnvC sc (clOf X.env sc.names []) C X.env)) (RR (.ref D) C) s4 := by
    rintro s4 rfl
    refine compLoop_any (fun n s' => ∃ (i : Nat) (ys : List V) (H' : Hp) (its : List Value) (c : Nat), Inv (blk X N' sc C s H fp) (pins ++ [(D, { cls := .type "list", data := .seq its.toArray c })]) (cst σ nl js) H' s' ∧
      tn i s'.heap ∧ (∀ b ∈ fp, H' b = none) ∧ Vals ys its ∧ W i n ys H') ?_ m0 ⟨0, [], H, [], 0, ?_, ?_, fun b hb => (hf b hb).1, .nil, w0⟩
    · rintro n s' ⟨i, ys, H', its, c, I', st', fr', rv, w'⟩
      obtain ⟨hz, alt⟩ := step i n ys H' w'
      rcases alt with ⟨stop, qn⟩ | ⟨go, more⟩
      · refine wpAny_mono (T.done (blk X N' sc C s H fp) rfl rfl rfl hc i _ s' _ H' (fun _ _ => False) I' (fpB fr') st' stop) (fun r s5 ⟨hr, I5⟩ => ?_) fun _ _ z => z
        subst hr
        obtain ⟨eD, nD, _⟩ := I5.pin (D, _) (List.mem_append_right _ (List.mem_append_right _ List.mem_cons_self))
        dsimp only at eD nD
        obtain ⟨mC, hnC, _⟩ := I5.loc
        have hHD : H D = none := I.hok.fresh (Nat.le_of_eq hDd)
        have I6 : Inv X pins σ (upd H' D (.lst ys)) s5 := by
          refine I.call' (ch := fp) I5.os ?_ ?_ I5.bare fun b hb => ?_
          · have B : Un (frs X.stack) fp H H' s.heap s5.heap := I5.base
            refine ⟨B.keep, B.slot, fun b o e n hx => ?_, B.there, fun b xs e => ?_, fun b o u e => ?_, fun b ps e => ?_⟩
            · rw [upd_ne (by rw [← hDd]; exact Nat.ne_of_lt (Heap.lt_size e))]; exact B.free b o e n hx
            · rw [upd_ne (ne_of_none e hHD)]; exact B.tups b xs e
            · rw [upd_ne (ne_of_none e hHD)]; exact B.frzs b o u e
            · rw [upd_ne (ne_of_none e hHD)]; exact B.tbls b ps e
          · intro b u e
            by_cases hb : b = D
            · subst hb
              rw [upd_same] at e
              cases e
              exact ⟨hz, its, c, rv, eD⟩
            · rw [upd_ne hb] at e
              exact (I5.hok b u e).stay (fun _ _ _ q => q) (fun x q => by rw [upd_ne (ne_of_none q nD)]; exact q) fun x xs q => by rw [upd_ne (ne_of_none q nD)]; exact q
          · obtain ⟨f0, f1, f2, f3, f4, f5⟩ := hf b hb
            exact ⟨f3, f1, f4, f5⟩
        refine fin D C _ s5 mC I6 hnC ⟨?_, ?_, ?_, ?_, ?_, ?_⟩ (qn D nD)
        · rw [upd_ne (Ne.symm hDC)]; exact I5.free
        · have := I.lt; rw [hDd] at this; exact Nat.ne_of_gt (Nat.lt_of_lt_of_le this hCle)
        · exact I.nofs (by rw [hDd]; exact hCle)
        · exact .inr (Nat.le_trans I.sz (by rw [hDd]; exact hCle))
        · exact fun x c' e => Nat.ne_of_lt (Nat.lt_of_lt_of_le (ltc x c' e) hCle)
        · exact fun p hp => Nat.ne_of_lt (Nat.lt_of_lt_of_le (ltp p hp) hCle)
      · refine wpAny_mono (T.item (blk X N' sc C s H fp) rfl rfl rfl hc i _ s' _ H' (fun _ _ => False) I' (fpB fr') st' go) (fun r s5 ⟨u, hr, h5⟩ => ?_) fun _ _ z => z
        subst hr
        refine wpAny_mono h5 (fun _ s6 ⟨x, H6, I6, r6, y6, st6, fr6⟩ => ?_) fun _ _ z => z
        have I6' := I6.pinned (fpB fr6) (T.obj _ _ st6)
        refine wpAny_mono (hg C s H fp _ s6 _ H6 x u _ I6' r6 (more x H6 y6)) (fun _ s7 ⟨σ7, H7, I7, wk, q7⟩ => ?_) fun _ _ z => z
        refine wpAny_mono (ht C s H fp _ s7 σ7 H7 _ I7 q7) (fun ok s8 ⟨H8, I8, q8⟩ => ?_) fun _ _ z => z
        have again : ∀ {H9 : Hp} {s9 : Shared}, Inv (blk X N' sc C s H fp) ((pins ++ [(D, { cls := .type "list", data := .seq its.toArray c })]) ++ pinsAt fp s6.heap) σ7 H9 s9 →
            (∀ b ∈ fp, ∀ o, s6.heap.get? b = some o → s9.heap.get? b = some o) ∧ (∀ b ∈ fp, H9 b = none) := fun {H9 s9} I9 => by
          refine ⟨fun b hb o e => (I9.pin (b, o) (List.mem_append_right _ (List.mem_append_right _ (mem_pinsAt hb e)))).1, fun b hb => ?_⟩
          obtain ⟨o, e, d⟩ := T.obj _ _ st6 b hb
          exact (I9.pin (b, o) (List.mem_append_right _ (List.mem_append_right _ (mem_pinsAt hb e)))).2.1
        cases ok with
        | false =>
          rw [if_neg Bool.false_ne_true] at q8 ⊢
          obtain ⟨m', hm, w8⟩ := q8
          obtain ⟨k8, fr8⟩ := again I8
          exact ⟨m', hm, i + 1, ys, H8, its, c, I8.unpinned.weak wk.1 wk.2, T.keep _ _ _ st6 k8, fr8, rv, w8⟩
        | true =>
          rw [if_pos rfl] at q8 ⊢
          refine wpAny_mono (he C s H fp _ s8 σ7 H8 _ I8 q8) (fun y s9 ⟨v, H9, I9, r9, hz9, m', hm, w9⟩ => ?_) fun _ _ z => z
          obtain ⟨k9, fr9⟩ := again I9
          have I9' := I9.unpinned
          obtain ⟨eD, nD, _⟩ := I9'.pin (D, _) (List.mem_append_right _ (List.mem_append_right _ List.mem_cons_self))
          dsimp only at eD nD
          have hl := rv.length
          refine wpAny_list_append_plain ⟨c, eD⟩ (fun h' pl sb => ?_) (by rw [List.size_toArray]; omega)
          have I10 : Inv (blk X N' sc C s H fp) pins σ7 H9 { s9 with heap := h' } := I9'.unpinned.turned (it := D) (t' := s9.toks) (fun b o hb e => (sb.2 b hb).trans e) nD hDC
            (.inr (Nat.le_of_eq hDd)) (fun x c' e => Nat.ne_of_lt (ltc x c' (S.sub I.ok e))) fun p hp => Nat.ne_of_lt (ltp p hp)
          obtain ⟨c2, e2⟩ := pl
          have ea : its.toArray.push y = (its ++ [y]).toArray := by simp
          rw [ea] at e2
          refine ⟨m', hm, i + 1, ys ++ [v], H9, its ++ [y], c2, (repin I10 nD e2).weak wk.1 wk.2, T.keep _ _ _ st6 fun b hb o e => ?_, fr9, rv.append (.cons r9 .nil), w9⟩
          exact (sb.2 b (Nat.ne_of_lt (ltf b hb))).trans (k9 b hb o e)
    · exact repin (blk_inv S I hf (by rw [hDd]; exact hCle) hfC old hns) (I.hok.fresh (Nat.le_of_eq hDd)) accD
    · exact T.keep _ _ _ st fun b _ o e => old b o e
  exact codeAny_compStart_list (loop _ rfl) (T.self _ 0 _ _ _ (T.keep _ _ _ st fun b _ o e => old b o e) (loop _ rfl))
theorem pe_lc (hc : X.calm = true) (S : CScope X sc N' nl js) (hi : PI X tg iter wi)
    (hg : ∀ C s2 H2 ex, PG (blk X N' sc C s2 H2 ex) tg g) (ht : ∀ C s2 H2 ex, PIf (blk X N' sc C s2 H2 ex) ifs tt) (he : ∀ C s2 H2 ex, PE (blk X N' sc C s2 H2 ex) elt te)
    (hs : ∀ x, foldedSetIterable iter X.env x = pure x := by intro _; rfl) : PE X (.ListComp elt [⟨tg, iter, ifs, 0⟩] sc pos) (tLc wi g tt te nl js) := by
  intro pins s σ H Q I h
  rw [eval_ListComp]
  refine wpAny_comprehension_free (use := none) rfl hs (closureFor_cl (S.hasC I.ok)) S.kind S.locs (thn (hi pins s σ H _ I h) fun v s1 h1 => thn h1 fun itv s2 h2 => ?_)
  obtain ⟨it, fp, tn, J, H2, rfl, I2, T, st2, f2, q2⟩ := h2
  refine lc_core (RR := fun acc C => compPost (model X.prog X.w) X.A X.xe none (EP X pins σ Q) acc C) hc S hg ht he I2 T st2 f2 q2 fun D C H' s' m I' hn ⟨f0, f1, f2, f3, f4, f5⟩ q => ?_
  exact ⟨m, hn, fun h' sb => ⟨.ref D, H', I'.turned (it := C) (t' := s'.toks) (fun b o hb e => (sb.2 b hb).trans e) f0 f1 f3 f4 f5, rfl, q⟩⟩
theorem ps_setlc {i : Nat} {x : Str} {pos' spos : Pos} (hc : X.calm = true) (S : CScope X sc N' nl js) (hi : PI X tg iter wi)
    (hg : ∀ C s2 H2 ex, PG (blk X N' sc C s2 H2 ex) tg g) (ht : ∀ C s2 H2 ex, PIf (blk X N' sc C s2 H2 ex) ifs tt) (he : ∀ C s2 H2 ex, PE (blk X N' sc C s2 H2 ex) elt te)
    (hN : X.N.Nodup) (hx : X.N[i]? = some x) (hloc : X.env.scope.names.lookup x = some .local)
    (hsw : swapsWith (.ListComp elt [⟨tg, iter, ifs, 0⟩] sc pos) (some (.Name x pos')) spos.line X.env = pure true := by rfl) (hs : ∀ x, foldedSetIterable iter X.env x = pure x := by intro _; rfl) :
    PS X (.Assign [.Name x pos'] (.ListComp elt [⟨tg, iter, ifs, 0⟩] sc pos) spos) (tAsg (tLc wi g tt te nl js) (gName i)) := by
  intro pins s σ H D0 I h
  rw [exec_Assign_Name_used _ _ _ _ hsw]
  refine wpAny_bind (wpAny_standAt (wpAny_bind ?_))
  show wpAny _ X.A (do let _ ← comprehension (.ListComp elt [⟨tg, iter, ifs, 0⟩] sc pos) sc X.env _ (newList []) false (eval iter X.env) (some (assign (.Name x pos') X.env))) _ _ s
  refine wpAny_bind (wpAny_mono (wpAny_comprehension_free (use := some (assign (.Name x pos') X.env)) (Q := fun _ s' => SP X pins D0 .next s') rfl hs (closureFor_cl (S.hasC I.ok)) S.kind S.locs
    (thn (hi pins s σ H _ I h) fun v s1 h1 => thn h1 fun itv s2 h2 => ?_)) (fun _ s' hq => wpAny_pure (wpAny_pure hq)) fun _ _ e => e)
  obtain ⟨it, fp, tn, J, H2, rfl, I2, T, st2, f2, q2⟩ := h2
  refine lc_core (RR := fun acc C => compPost (model X.prog X.w) X.A X.xe (some (assign (.Name x pos') X.env)) (fun _ s' => SP X pins D0 .next s') acc C) hc S hg ht he I2 T st2 f2 q2 fun D C H' s' m I' hn ⟨f0, f1, f2, f3, f4, f5⟩ q => ?_
  show wpAny _ X.A (assign (.Name x pos') X.env (.ref D)) _ _ s'
  obtain ⟨o, es, ep, ho, hd, r⟩ := hn
  have I2' : Inv X (pins ++ [(C, o)]) σ H' s' := I'.pins_of fun p hp => by
    rcases List.mem_append.mp hp with z | z
    · exact I'.pin p (List.mem_append_right _ z)
    · have e' : p = (C, o) := by simpa using z
      subst e'
      exact ⟨ho, f0, f1, f2, fun v z => by rw [hd] at z; cases z⟩
  refine wpAny_assign_Name (store_ok I2' hN hx (.inl hloc) (v := .ref D) rfl (fun s3 I3 => ?_) (.inr hloc))
  obtain ⟨e3, _⟩ := I3.pin (C, o) (List.mem_append_right _ (List.mem_append_right _ List.mem_cons_self))
  refine ⟨m, ⟨o, es, ep, e3, hd, r⟩, fun h' sb => ⟨_, H', I3.unpinned.turned (it := C) (t' := s3.toks) (fun b o hb e => (sb.2 b hb).trans e) f0 f1 f3 f4 f5, q⟩⟩
end
end L2
namespace L2
open PySem PySem.Spec PyProof.Rows
theorem Vals.tog : ∀ {xs : List V} {us : List Value} {i : Nat} {u : Value}, Vals xs us → us[i]? = some u → ∃ x, xs[i]? = some x ∧ RelV x u
  | _, _, _, _, .nil, e => by simp at e
  | _, _, 0, _, .cons r _, e => by simp at e; subst e; exact ⟨_, rfl, r⟩
  | _, _, i + 1, u, .cons _ t, e => by
    obtain ⟨x, h1, h2⟩ := Vals.tog (i := i) (u := u) t (by simpa using e)
    exact ⟨x, by simpa using h1, h2⟩
theorem Vals.ints_at {ns : List Int} {us : List Value} {i : Nat} {u : Value} (r : Vals (ns.map V.int) us) (e : us.toArray[i]? = some u) : ∃ t, u = .int (ns.getD i 0) t := by
  obtain ⟨x, h1, h2⟩ := r.tog (i := i) (u := u) (by simpa using e)
  rw [List.getElem?_map] at h1
  cases q : ns[i]? with
  | none => rw [q] at h1; cases h1
  | some z =>
    rw [q] at h1
    have e' : V.int z = x := Option.some.inj h1
    subst e'
    obtain ⟨t, rfl⟩ := h2
    exact ⟨t, by rw [List.getD_eq_getElem?_getD, q]; rfl⟩
theorem preSum_take (ns : List Int) : ∀ k, preSum (fun i => ns.getD i 0) k = (ns.take k).sum
  | 0 => by simp [preSum]
  | k + 1 => by
    rw [preSum, preSum_take ns k, List.take_add_one, List.sum_append, List.getD_eq_getElem?_getD]
    cases ns[k]? <;> simp
section
variable {X : Cx} {pins : List (Addr × Obj)} {σ : St} {H : Hp} {s : Shared}
theorem Inv.moved {o : Obj} {s' : Shared} (I : Inv X pins σ H s) (mv : Moved [s.heap.objs.size] (fun a b => b = a) { s with heap := s.heap.push o } s') : Inv X pins σ H s' := by
  have k : ∀ b u, s.heap.get? b = some u → s'.heap.get? b = some u := fun b u e => mv.heap b u (fun z => by
    have z' : b = s.heap.objs.size := by simpa using z
    exact absurd (Heap.lt_size e) (by rw [z']; exact Nat.lt_irrefl _)) (Heap.get?_push_of_some _ e)
  exact I.call' (ch := []) mv.os (Un.kept k) (I.hok.kept k) (by rw [mv.gens]; exact I.bare) fun b z => absurd z (by simp)
theorem iter_seq {A : Around} {E : Value → Shared → Prop} {Q : Value → Shared → Prop} {p : Addr} {ys : List V} (hh : A.handled = none) (I : Inv X pins σ H s) (hq : SqL X.K H p ys ∨ SqT X.K H p ys)
    (h : ∀ (it : Addr) (its : List Value) (fp : List Addr) (T : Nat → Heap → Prop) (s2 : Shared), Vals ys its → Walks X.prog X.w A it fp [it] its.toArray.size (fun i v => its.toArray[i]? = some v) T → T 0 s2.heap → (∀ b ∈ fp, b < s2.heap.objs.size) →
      (∀ s', Moved [it] (fun a b => b = a) s2 s' → Inv X pins σ H s') → Q (.ref it) s2) : wpAny (model X.prog X.w) A (pyIter (.ref p)) Q E s := by
  rcases hq with hq | hq
  · obtain ⟨its, r, pl, hz⟩ := I.list hq
    obtain ⟨o, ho, _⟩ := id pl.isList
    have hlt := Heap.lt_size ho
    refine wpAny_pyIter_list pl.isList (h s.heap.objs.size its [s.heap.objs.size, p] _ _ r (Walks.list hh _ p (Nat.ne_of_lt hlt) its.toArray) ⟨⟨_, Heap.get?_push_size _ rfl, rfl, rfl⟩, pl.isList.at fun o e => Heap.get?_push_of_some _ e⟩ (fun b hb => ?_) fun s' mv => I.moved mv)
    dsimp only
    rw [Heap.size_push]
    rcases List.mem_cons.mp hb with z | z
    · rw [z]; exact Nat.lt_succ_self _
    · have z' : b = p := by simpa using z
      rw [z']; exact Nat.lt_succ_of_lt hlt
  · obtain ⟨its, r, pl, hz⟩ := I.tuple hq
    have pt : s.heap.IsTuple p its.toArray := pl
    obtain ⟨o, ho, _⟩ := id pt
    have hlt := Heap.lt_size ho
    refine wpAny_pyIter_tuple pt (h s.heap.objs.size its [s.heap.objs.size, p] _ _ r (Walks.tuple hh _ p (Nat.ne_of_lt hlt) its.toArray) ⟨⟨_, Heap.get?_push_size _ rfl, rfl, rfl⟩, pt.at fun o e => Heap.get?_push_of_some _ e⟩ (fun b hb => ?_) fun s' mv => I.moved mv)
    dsimp only
    rw [Heap.size_push]
    rcases List.mem_cons.mp hb with z | z
    · rw [z]; exact Nat.lt_succ_self _
    · have z' : b = p := by simpa using z
      rw [z']; exact Nat.lt_succ_of_lt hlt
end
section
variable {X : Cx}
theorem call_sum_seq (hc : X.calm = true) : CallR X (.builtin "sum") (fun xs H Q => ∃ (p : Addr) (ns : List Int), xs = [.ref p] ∧ (SqL X.K H p (ns.map V.int) ∨ SqT X.K H p (ns.map V.int)) ∧ Q (.int ns.sum) H) := by
  intro pins s σ H xs us Q I r h
  obtain ⟨p, ns, rfl, hq, q⟩ := h
  obtain ⟨u, rfl, rx⟩ := vals1 r
  cases rx
  refine call_sum_walkAnyS (iter_seq (I.ok.hd hc) I hq fun it its fp T s2 rv W st hfp inv => ⟨it, fp, [it], _, _, _, _, fun i => ns.getD i 0, rfl, W.toS, st, hfp, fun i v e => rv.ints_at e, fun s' t' mv => ?_⟩)
  have hl : its.toArray.size = ns.length := by
    have := rv.length
    rw [List.length_map] at this
    rw [List.size_toArray]; omega
  refine ⟨.int ns.sum, H, inv s' mv, ⟨t', ?_⟩, q⟩
  rw [preSum_take, hl, List.take_length]
def tv : V → Bool
  | .bl b => b
  | .int i => i != 0
  | _ => false
def isBI : V → Bool
  | .bl _ => true
  | .int _ => true
  | _ => false
theorem truth_of {ys : List V} {its : List Value} {A : Around} (rv : Vals ys its) (hb : ys.all isBI = true) : TruthOf X.prog X.w A (fun i v => its.toArray[i]? = some v) (fun i => tv (ys.getD i .non)) := by
  intro i v s Q E e h
  obtain ⟨x, h1, h2⟩ := rv.tog (i := i) (u := v) (by simpa using e)
  have hx : isBI x = true := List.all_eq_true.mp hb x (List.mem_of_getElem? h1)
  dsimp only at h
  rw [List.getD_eq_getElem?_getD, h1] at h
  cases x with
  | bl b => cases h2; exact wpAny_truthy_bool h
  | int i => obtain ⟨t, rfl⟩ := h2; exact PySem.P.truthy_int h
  | _ => exact absurd (show false = true from hx) Bool.false_ne_true
theorem range_all {ys : List V} (f : V → Bool) : (List.range ys.length).all (fun i => f (ys.getD i .non)) = ys.all f := by
  rw [Bool.eq_iff_iff, List.all_eq_true, List.all_eq_true]
  constructor
  · intro h x hx
    obtain ⟨i, hi, rfl⟩ := List.mem_iff_getElem.mp hx
    have := h i (List.mem_range.mpr hi)
    rwa [List.getD_eq_getElem?_getD, List.getElem?_eq_getElem hi] at this
  · intro h i hi
    have hi' := List.mem_range.mp hi
    rw [List.getD_eq_getElem?_getD, List.getElem?_eq_getElem hi']
    exact h _ (List.getElem_mem hi')
theorem call_all_seq (hc : X.calm = true) : CallR X (.builtin "all") (fun xs H Q => ∃ (p : Addr) (ys : List V), xs = [.ref p] ∧ (SqL X.K H p ys ∨ SqT X.K H p ys) ∧ ys.all isBI = true ∧ Q (.bl (ys.all tv)) H) := by
  intro pins s σ H xs us Q I r h
  obtain ⟨p, ys, rfl, hq, hb, q⟩ := h
  obtain ⟨u, rfl, rx⟩ := vals1 r
  cases rx
  refine call_all_walkS (iter_seq (I.ok.hd hc) I hq fun it its fp T s2 rv W st hfp inv => ⟨it, fp, [it], _, _, _, _, _, rfl, W.toS, st, truth_of rv hb, fun s' mv => ?_⟩)
  refine ⟨.bl (ys.all tv), H, inv s' mv, ?_, q⟩
  show Value.bool _ = Value.bool _
  rw [List.size_toArray, ← rv.length, range_all]
end
structure ItOk (J : It) (n : Nat) (val : Nat → V) (C : Hp → Prop) : Prop where
  go : ∀ i H, C H → i < n → J.go i H
  yld : ∀ i H x H', C H → i < n → J.yld i H x H' → H' = H ∧ x = val i
  stop : ∀ i H, C H → n ≤ i → J.stop i H
theorem itok_list {K : PySem.W.Frag} {a : Addr} {xs : List V} : ItOk (Itl K a) xs.length (fun i => xs.getD i .non) (fun H => SqL K H a xs) where
  go := fun i H q hi => ⟨xs, xs[i], q, by simp [hi]⟩
  yld := fun i H x H' q hi ⟨e, y⟩ => ⟨e, by rw [List.getD_eq_getElem?_getD, y xs q]; rfl⟩
  stop := fun i H q hi => ⟨xs, q, hi⟩
theorem itok_tup {K : PySem.W.Frag} {a : Addr} {xs : List V} : ItOk (Itt K a) xs.length (fun i => xs.getD i .non) (fun H => SqT K H a xs) where
  go := fun i H q hi => ⟨xs, xs[i], q, by simp [hi]⟩
  yld := fun i H x H' q hi ⟨e, y⟩ => ⟨e, by rw [List.getD_eq_getElem?_getD, y xs q]; rfl⟩
  stop := fun i H q hi => ⟨xs, q, hi⟩
theorem itok_range {lo : Int} {n : Nat} : ItOk (Itr lo n) n (fun i => .int (lo + (i : Nat))) (fun _ => True) where
  go := fun i H _ hi => hi
  yld := fun i H x H' _ hi ⟨e, y⟩ => ⟨e, y⟩
  stop := fun i H _ hi => hi
theorem lc_by {J : It} {n : Nat} {val : Nat → V} {C : Hp → Prop} {g : TG} {tt : TT} {te : TE} {σ0 : St} {Q : VK} {H : Hp} (O : ItOk J n val C) (Pv : Nat → List V → Hp → Prop) (hn : n ≤ sizeLine) (h0 : Pv 0 [] H) (hl : ∀ i ys H, i ≤ n → Pv i ys H → C H ∧ ys.length ≤ i)
    (hs : ∀ i ys H, i < n → Pv i ys H → g (val i) σ0 H fun σ2 H2 => Wk σ0 σ2 ∧ tt σ2 H2 fun k H3 => if k = true then te σ2 H3 fun v H4 => ys.length < sizeLine ∧ ∃ m', m' < n - i ∧ (m' = n - (i + 1) ∧ i + 1 ≤ n ∧ Pv (i + 1) (ys ++ [v]) H4) else ∃ m', m' < n - i ∧ (m' = n - (i + 1) ∧ i + 1 ≤ n ∧ Pv (i + 1) ys H3))
    (hd : ∀ ys H, Pv n ys H → ∀ p, H p = none → Q (.ref p) (upd H p (.lst ys))) : LcW J g tt te σ0 Q H := by
  refine ⟨fun i m ys H => m = n - i ∧ i ≤ n ∧ Pv i ys H, ⟨n, by simp, Nat.zero_le _, h0⟩, ?_⟩
  rintro i m ys H ⟨rfl, hi, p⟩
  obtain ⟨c, hy⟩ := hl i ys H hi p
  refine ⟨by omega, ?_⟩
  by_cases hlt : i < n
  · refine .inr ⟨O.go i H c hlt, fun x H' y => ?_⟩
    obtain ⟨rfl, rfl⟩ := O.yld i H x H' c hlt y
    exact hs i ys _ hlt p
  · have e : i = n := by omega
    subst e
    exact .inl ⟨O.stop _ H c (Nat.le_refl _), hd ys H p⟩
theorem for_by {J : It} {n : Nat} {val : Nat → V} {C : Hp → Prop} {g : TG} {tb : TS} {D : Ends} {σ : St} {H : Hp} (O : ItOk J n val C) (Pv : Nat → St → Hp → Prop) (h0 : Pv 0 σ H) (hl : ∀ i σ H, i ≤ n → Pv i σ H → C H)
    (hs : ∀ i σ H, i < n → Pv i σ H → g (val i) σ H fun σ2 H2 => tb { D with nx := Pv (i + 1), ct := Pv (i + 1), bk := D.nx } σ2 H2) (hd : ∀ σ H, Pv n σ H → D.nx σ H) :
    ∃ W : Nat → Nat → St → Hp → Prop, (∃ m, W 0 m σ H) ∧ ∀ i m σ H, W i m σ H →
      (J.stop i H ∧ D.nx σ H) ∨ (J.go i H ∧ ∃ N : St → Hp → Prop, (∀ σ' H', N σ' H' → ∃ m', m' < m ∧ W (i + 1) m' σ' H') ∧ ∀ x H', J.yld i H x H' → g x σ H' fun σ2 H2 => tb { D with nx := N, ct := N, bk := D.nx } σ2 H2) := by
  refine ⟨fun i m σ H => m = n - i ∧ i ≤ n ∧ Pv i σ H, ⟨n, by simp, Nat.zero_le _, h0⟩, ?_⟩
  rintro i m σ H ⟨rfl, hi, p⟩
  have c := hl i σ H hi p
  by_cases hlt : i < n
  · refine .inr ⟨O.go i H c hlt, Pv (i + 1), fun σ' H' p' => ⟨n - (i + 1), by omega, rfl, hlt, p'⟩, fun x H' y => ?_⟩
    obtain ⟨rfl, rfl⟩ := O.yld i H x H' c hlt y
    exact hs i σ _ hlt p
  · have e : i = n := by omega
    subst e
    exact .inl ⟨O.stop _ H c (Nat.le_refl _), hd σ H p⟩
theorem wk_set {σ0 : St} {i : Nat} {v : Option V} (h : σ0[i]? = some none) : Wk σ0 (σ0.set i v) := by
  refine ⟨by rw [List.length_set], fun j w' e => ?_⟩
  by_cases hj : i = j
  · subst hj; rw [h] at e; cases e
  · rw [List.getElem?_set_ne hj]; exact e
theorem Same.new {H : Hp} {p : Addr} {o : HO} (h : H p = none) : Same H (upd H p o) := fun b u e => by
  rw [upd_ne (ne_of_none e h)]
  exact e
theorem Same.tup {K : PySem.W.Frag} {H H' : Hp} {a : Addr} {xs : List V} (e : Same H H') (h : SqT K H a xs) : SqT K H' a xs := by
  rcases h with (h | ⟨o, h⟩) | h
  · exact .inl (.inl (e _ _ h))
  · exact .inl (.inr ⟨o, e _ _ h⟩)
  · exact .inr h
theorem Same.next {H H1 : Hp} {p : Addr} {o : HO} (s : Same H H1) (h : H1 p = none) : Same H (upd H1 p o) := s.trans (Same.new h)
end L2
namespace L2
open PySem PySem.Spec PyProof.Rows
def tCut (t : TS) : TS := fun D σ H => ∃ M : St → Hp → Prop, t { D with nx := M } σ H ∧ ∀ σ' H', M σ' H' → D.nx σ' H'
theorem ps_cut {X : Cx} {st : Stmt} {t : TS} (h : PS X st t) : PS X st (tCut t) := by
  intro pins s σ H D I hw
  obtain ⟨M, h1, h2⟩ := hw
  refine thn (h pins s σ H { D with nx := M } I h1) fun f s' q => ?_
  cases f with
  | next => obtain ⟨σ', H', I', q⟩ := q; exact ⟨σ', H', I', h2 _ _ q⟩
  | brk => exact q
  | cont => exact q
  | ret u => exact q
theorem PI.or {X : Cx} {tg e : Expr} {w1 w2 : TI} (h1 : PI X tg e w1) (h2 : PI X tg e w2) : PI X tg e (fun σ H R => w1 σ H R ∨ w2 σ H R) := by
  intro pins s σ H R I h
  rcases h with h | h
  · exact h1 pins s σ H R I h
  · exact h2 pins s σ H R I h
def Def (P : Program) (w : World) (K : PySem.W.Frag) (mg : Str → Option Value) (base : Heap) (k : Nat) (x : Str) (ps : List Str) (sp : Sp) : Prop :=
  ∃ f fd, FnOk P w K mg base CX0 k f fd ps sp ∧ mg x = some (.ref f) ∧ PySem.W.keepIn K (.ref f) = true ∧ Binds K fd ps []
theorem Def.of {P : Program} {w : World} {K : PySem.W.Frag} {mg : Str → Option Value} {base : Heap} {k : Nat} {x qual : Str} {ps : List Str} {sp : Sp} {st : Stmt} {f : Addr} {fd : FuncData}
    (F : Fun K x qual st f fd) (m : mg x = some (.ref f)) (b : Binds K fd ps []) (ok : FnOk P w K mg base CX0 k f fd ps sp) : Def P w K mg base k x ps sp := ⟨f, fd, ok, m, F.kp, b⟩
theorem pe_def {X : Cx} {k : Nat} {x : Str} {ps : List Str} {sp : Sp} {e : Expr} {es : List Expr} {t : TA} {p pos : Pos} (D : Def X.prog X.w X.K X.mg X.base k x ps sp) (hr : Room k X.A) (hg : Gl X x) (ha : PA X (e :: es) t)
    (hdb : (x == ("__debug__" : Str)) = false := by decide) (he : starEach (e :: es) X.env = (false, eval e X.env) :: starEach es X.env := by rfl) (hpl : (backTo pos (starEach es X.env)).any (·.1) = false := by rfl) :
    PE X (.Call (.Name x p) (e :: es) [] pos) (tCall sp [] E0 t) := by
  obtain ⟨f, fd, F, m, kp, b⟩ := D
  exact pe_call F hr hg m kp b .nil pass0 ha hdb he hpl
def cchk (osc : Scope) (N : List Str) (sc : Scope) (N' : List Str) (nl : Nat) (js : List Nat) : Bool :=
  sc.kind == .function && sc.names.all (fun y => y.2 != .cell) && sc.names.all (fun y => y.2 != .local || sc.names.lookup y.1 == some .local) &&
  sc.names.all (fun y => y.2 != .free || (osc.names.lookup y.1 == some .cell || osc.names.lookup y.1 == some .free)) && (N'.length == nl + js.length) &&
  (List.range js.length).all (fun i => match js[i]?, N'[nl + i]? with | some j, some x => N[j]? == some x && sc.names.lookup x == some .free | _, _ => false)
theorem CScope.of {X : Cx} {osc sc : Scope} {N N' : List Str} {nl : Nat} {js : List Nat} (h : cchk osc N sc N' nl js = true) (h1 : X.env.scope = osc) (h2 : X.N = N) : CScope X sc N' nl js := by
  unfold cchk at h
  simp only [Bool.and_eq_true] at h
  obtain ⟨⟨⟨⟨⟨a1, a2⟩, a3⟩, a4⟩, a5⟩, a6⟩ := h
  refine ⟨by simpa using a1, fun y hy e => ?_, fun y hy e => ?_, fun y hy e => ?_, fun i j e => ?_, by simpa using a5⟩
  · have := List.all_eq_true.mp a2 y hy
    rw [e] at this
    exact absurd this (by decide)
  · have := List.all_eq_true.mp a3 y hy
    rw [e] at this
    simpa using this
  · have := List.all_eq_true.mp a4 y hy
    rw [e] at this
    have this : (osc.names.lookup y.1 == some .cell || osc.names.lookup y.1 == some .free) = true := by simpa using this
    show X.env.scope.names.lookup y.1 = _ ∨ X.env.scope.names.lookup y.1 = _
    rw [h1]
    simpa using this
  · have hi : i < js.length := (List.getElem?_eq_some_iff.mp e).1
    have := List.all_eq_true.mp a6 i (List.mem_range.mpr hi)
    rw [e] at this
    cases q : N'[nl + i]? with
    | none => rw [q] at this; exact absurd (show false = true from this) Bool.false_ne_true
    | some x =>
      rw [q] at this
      dsimp only at this
      rw [Bool.and_eq_true] at this
      exact ⟨x, rfl, by rw [h2]; simpa using this.1, by simpa using this.2⟩
theorem at_int {ns : List Int} {k : Int} (h0 : 0 ≤ k) (h : k < (ns.length : Int)) : atI (ns.map V.int) k = some (.int (ns.getD k.toNat 0)) := by
  have hk : k.toNat < ns.length := by omega
  have := atI_nat (xs := ns.map V.int) (j := k.toNat) (v := .int (ns.getD k.toNat 0)) (by rw [List.getElem?_map, List.getD_eq_getElem?_getD, List.getElem?_eq_getElem hk]; rfl)
  rwa [Int.toNat_of_nonneg h0] at this
theorem flat_ints (ns : List Int) : (ns.map V.int).all flatV = true := by
  rw [List.all_eq_true]
  intro x hx
  obtain ⟨n, _, rfl⟩ := List.mem_map.mp hx
  rfl
theorem inV_ints (z : Int) (ns : List Int) : inV (.int z) (ns.map V.int) = ns.any (· == z) := by
  unfold inV
  rw [List.any_map]
  rfl
theorem getD_map_int {ns : List Int} {i : Nat} (h : i < (ns.map V.int).length) : ∃ z, (ns.map V.int).getD i .non = .int z ∧ ns[i]? = some z := by
  rw [List.length_map] at h
  refine ⟨ns[i], ?_, List.getElem?_eq_getElem h⟩
  rw [List.getD_eq_getElem?_getD, List.getElem?_map, List.getElem?_eq_getElem h]
  rfl
theorem take_snoc {α : Type} {l : List α} {i : Nat} {z : α} (h : l[i]? = some z) : l.take (i + 1) = l.take i ++ [z] := by
  rw [List.take_add_one, h]
  rfl
end L2
namespace L2
open PySem
theorem kit_self (K : PySem.W.Frag) (t : Value) : PySem.W.kitOne K t t = some true := by
  unfold PySem.W.kitOne
  rw [if_pos (by simp)]
end L2
namespace L2
open PySem PySem.Spec PyProof.Rows
mutual
inductive DatV (K : PySem.W.Frag) (H : Hp) : V → PyData → Prop
  | non : DatV K H .non .none
  | bl (b : Bool) : DatV K H (.bl b) (.bool b)
  | int (i : Int) : DatV K H (.int i) (.int i)
  | str (x : Str) : DatV K H (.str x) (.str x)
  | lst {a : Addr} {xs : List V} {ds : List PyData} : SqL K H a xs → DatVs K H xs ds → DatV K H (.ref a) (.list ds)
  | tup {a : Addr} {xs : List V} {ds : List PyData} : SqT K H a xs → DatVs K H xs ds → DatV K H (.ref a) (.tuple ds)
inductive DatVs (K : PySem.W.Frag) (H : Hp) : List V → List PyData → Prop
  | nil : DatVs K H [] []
  | cons {x : V} {d : PyData} {xs : List V} {ds : List PyData} : DatV K H x d → DatVs K H xs ds → DatVs K H (x :: xs) (d :: ds)
end
section
variable {X : Cx} {pins : List (Addr × Obj)} {σ : St} {H : Hp} {s : Shared}
mutual
theorem DatV.reads (I : Inv X pins σ H s) : ∀ {x : V} {d : PyData} {u : Value}, DatV X.K H x d → RelV x u → ∃ as, Reads s.heap u d as
  | _, _, _, .non, r => by cases r; exact ⟨_, .none⟩
  | _, _, _, .bl b, r => by cases r; exact ⟨_, .bool b⟩
  | _, _, _, .int i, r => by obtain ⟨t, rfl⟩ := r; exact ⟨_, .int i t⟩
  | _, _, _, .str x, r => by obtain ⟨t, rfl⟩ := r; exact ⟨_, .str x t⟩
  | _, _, _, .lst hq h, r => by
    cases r
    obtain ⟨its, rv, pl, _⟩ := I.list hq
    obtain ⟨o, n, e, c, _, d⟩ := pl
    obtain ⟨as, q⟩ := DatVs.reads I h rv
    exact ⟨_, .list e c d (by simpa using q)⟩
  | _, _, _, .tup hq h, r => by
    cases r
    obtain ⟨its, rv, pl, _⟩ := I.tuple hq
    obtain ⟨o, e, c, n, d⟩ := pl
    obtain ⟨as, q⟩ := DatVs.reads I h rv
    exact ⟨_, .tuple e c d (by simpa using q)⟩
theorem DatVs.reads (I : Inv X pins σ H s) : ∀ {xs : List V} {ds : List PyData} {us : List Value}, DatVs X.K H xs ds → Vals xs us → ∃ as, ReadsAll s.heap us ds as
  | _, _, _, .nil, .nil => ⟨_, .nil⟩
  | _, _, _, .cons h t, .cons r rr => by
    obtain ⟨as, q⟩ := DatV.reads I h r
    obtain ⟨bs, q'⟩ := DatVs.reads I t rr
    exact ⟨_, .cons q q'⟩
end
end
def rEqD (K : PySem.W.Frag) (f : Bool → Bool) : R2 := fun x y H Q => ∃ d e, DatV K H x d ∧ DatV K H y e ∧ SeqAt.shaped d = true ∧ SeqAt.shaped e = true ∧ Q (.bl (f (PyData.eqv d e))) H
section
variable {X : Cx}
theorem op_eqD (hu : X.A.units + 64 < cLine) : OpR X (compareOp .Eq) (rEqD X.K id) := by
  intro pins s σ H x y v u Q I rx ry h
  obtain ⟨d, e, hd, he, sd, se, q⟩ := h
  obtain ⟨as, r1⟩ := hd.reads I rx
  obtain ⟨bs, r2⟩ := he.reads I ry
  exact eq_dataH r1 r2 sd se hu ⟨.bl _, H, I, rfl, q⟩
theorem op_neD (hu : X.A.units + 64 < cLine) : OpR X (compareOp .NotEq) (rEqD X.K not) := by
  intro pins s σ H x y v u Q I rx ry h
  obtain ⟨d, e, hd, he, sd, se, q⟩ := h
  obtain ⟨as, r1⟩ := hd.reads I rx
  obtain ⟨bs, r2⟩ := he.reads I ry
  exact ne_dataH r1 r2 sd se hu ⟨.bl _, H, I, rfl, q⟩
end
mutual
theorem DatV.same {K : PySem.W.Frag} {H H' : Hp} (S : Same H H') : ∀ {x : V} {d : PyData}, DatV K H x d → DatV K H' x d
  | _, _, .non => .non
  | _, _, .bl b => .bl b
  | _, _, .int i => .int i
  | _, _, .str x => .str x
  | _, _, .lst hq h => .lst (S.seq hq) (DatVs.same S h)
  | _, _, .tup hq h => .tup (S.tup hq) (DatVs.same S h)
theorem DatVs.same {K : PySem.W.Frag} {H H' : Hp} (S : Same H H') : ∀ {xs : List V} {ds : List PyData}, DatVs K H xs ds → DatVs K H' xs ds
  | _, _, .nil => .nil
  | _, _, .cons h t => .cons (DatV.same S h) (DatVs.same S t)
end
def dI (ns : List Int) : PyData := .list (ns.map PyData.int)
def dP (e : Int × Int) : PyData := .tuple [.int e.1, .int e.2]
theorem dI_lay : ∀ ns : List Int, PyData.canLayAll0 (ns.map PyData.int) = true ∧ PyData.depthAll (ns.map PyData.int) = 0
  | [] => ⟨rfl, rfl⟩
  | n :: r => by
    obtain ⟨h1, h2⟩ := dI_lay r
    simp only [List.map_cons, PyData.canLayAll0, PyData.canLay0, PyData.depthAll, PyData.depth, h1, h2]
    exact ⟨rfl, rfl⟩
theorem eqvAll_dI : ∀ ns ms : List Int, PyData.eqvAll (ns.map PyData.int) (ms.map PyData.int) = decide (ns = ms)
  | [], [] => rfl
  | [], _ :: _ => rfl
  | _ :: _, [] => rfl
  | a :: r, b :: t => by
    simp only [List.map_cons, PyData.eqvAll, PyData.eqv, eqvAll_dI r t]
    by_cases h : a = b <;> by_cases h' : r = t <;> simp [h, h']
theorem eqv_dI (ns ms : List Int) : PyData.eqv (dI ns) (dI ms) = decide (ns = ms) := eqvAll_dI ns ms
theorem datVs_ints {K : PySem.W.Frag} {H : Hp} : ∀ ns : List Int, DatVs K H (ns.map V.int) (ns.map PyData.int)
  | [] => .nil
  | n :: r => .cons (.int n) (datVs_ints r)
theorem dat_ints {K : PySem.W.Frag} {H : Hp} {a : Addr} {ns : List Int} (h : SqL K H a (ns.map V.int)) : DatV K H (.ref a) (dI ns) := .lst h (datVs_ints ns)
def Pairs (K : PySem.W.Frag) (H : Hp) : List V → List (Int × Int) → Prop := Paired fun v e => ∃ r, v = .ref r ∧ SqT K H r [.int e.1, .int e.2]
theorem Pairs.same {K : PySem.W.Frag} {H H' : Hp} (S : Same H H') {xs : List V} {es : List (Int × Int)} (h : Pairs K H xs es) : Pairs K H' xs es := Paired.mapP h fun _ _ ⟨r, e, q⟩ => ⟨r, e, S.tup q⟩
theorem Pairs.len {K : PySem.W.Frag} {H : Hp} {xs : List V} {es : List (Int × Int)} (h : Pairs K H xs es) : xs.length = es.length := Paired.length h
theorem Pairs.at {K : PySem.W.Frag} {H : Hp} : ∀ {xs : List V} {es : List (Int × Int)} {i : Nat}, Pairs K H xs es → i < xs.length → ∃ r e, xs.getD i .non = .ref r ∧ SqT K H r [.int e.1, .int e.2] ∧ es[i]? = some e ∧ e ∈ es
  | _, _, _, .nil, h => absurd h (Nat.not_lt_zero _)
  | _, _, 0, .cons ⟨r, e, q⟩ _, _ => ⟨r, _, e, q, rfl, List.mem_cons_self⟩
  | _, _, i + 1, .cons _ t, h => by
    obtain ⟨r, e, h1, h2, h3, h4⟩ := Pairs.at (i := i) t (by simpa using h)
    exact ⟨r, e, by simpa using h1, h2, by simpa using h3, List.mem_cons_of_mem _ h4⟩
theorem Pairs.snoc {K : PySem.W.Frag} {H : Hp} {xs : List V} {es : List (Int × Int)} {r : Addr} {e : Int × Int} (h : Pairs K H xs es) (q : SqT K H r [.int e.1, .int e.2]) : Pairs K H (xs ++ [.ref r]) (es ++ [e]) := Paired.snoc h ⟨r, rfl, q⟩
def SameX (a : Addr) (H H' : Hp) : Prop := ∀ b o, b ≠ a → H b = some o → H' b = some o
theorem SameX.tup {K : PySem.W.Frag} {H H' : Hp} {a r : Addr} {xs zs : List V} (S : SameX a H H') (ha : H a = some (.lst zs)) (h : SqT K H r xs) : SqT K H' r xs := by
  rcases h with (h | ⟨o, h⟩) | h
  · exact .inl (.inl (S _ _ (ne_of h ha (by intro z; cases z)) h))
  · exact .inl (.inr ⟨o, S _ _ (ne_of h ha (by intro z; cases z)) h⟩)
  · exact .inr h
theorem Pairs.sameX {K : PySem.W.Frag} {H H' : Hp} {a : Addr} {zs : List V} (S : SameX a H H') (ha : H a = some (.lst zs)) {xs : List V} {es : List (Int × Int)} (h : Pairs K H xs es) : Pairs K H' xs es :=
  Paired.mapP h fun _ _ ⟨r, e, q⟩ => ⟨r, e, S.tup ha q⟩
theorem sameX_upd {H : Hp} {a : Addr} {o : HO} : SameX a H (upd H a o) := fun b u hb e => by rw [upd_ne hb]; exact e
end L2
namespace L2
open PySem PySem.Spec PyProof.Rows
section
variable {X : Cx} {tg : Expr}
def iSeq (K : PySem.W.Frag) (tl : TE) : TI := fun σ H R => tl σ H fun x H1 => ∃ a xs, x = .ref a ∧ (SqL K H1 a xs ∨ SqT K H1 a xs) ∧ ∀ J C, ItOk J xs.length (fun i => xs.getD i .non) C → (∀ H2, Same H1 H2 → C H2) → R J H1
theorem pi_seq {l : Expr} {tl : TE} (hl : PE X l tl) : PI X tg l (iSeq X.K tl) := by
  intro pins s σ H R I h
  refine thn (hl pins s σ H _ I h) fun v s1 ⟨x, H1, I1, r1, q1⟩ => ?_
  obtain ⟨a, xs, e, hq, q⟩ := q1
  subst e
  cases r1
  have fp : ∀ b ∈ [s1.heap.objs.size], FpOk X pins H1 b := fun b hb => by
    have e : b = s1.heap.objs.size := by simpa using hb
    rw [e]; exact I1.fpOk (Nat.le_refl _) (I1.hok.fresh (Nat.le_refl _))
  rcases hq with hq | hq
  · obtain ⟨its, rv, p, hz⟩ := I1.list hq
    exact wpAny_pyIter_list p.isList ⟨s1.heap.objs.size, [s1.heap.objs.size], _, _, H1, rfl, I1.kept (t' := s1.toks) fun b o e => Heap.get?_push_of_some _ e, turn_list a _, ⟨_, Heap.get?_push_size _ rfl, rfl, rfl⟩, fp,
      q _ _ itok_list fun H2 S => S.seq hq⟩
  · obtain ⟨its, rv, p, hz⟩ := I1.tuple hq
    exact wpAny_pyIter_tuple (show s1.heap.IsTuple a its.toArray from p) ⟨s1.heap.objs.size, [s1.heap.objs.size], _, _, H1, rfl, I1.kept (t' := s1.toks) fun b o e => Heap.get?_push_of_some _ e, turn_tuple a _, ⟨_, Heap.get?_push_size _ rfl, rfl, rfl⟩, fp,
      q _ _ itok_tup fun H2 S => S.tup hq⟩
end
inductive TyX (K : PySem.W.Frag) (H : Hp) : V → Value → Prop
  | of {x : V} {t : Value} : TyOf K H x t → TyX K H x t
  | tup {a : Addr} {xs : List V} : SqT K H a xs → TyX K H (.ref a) (.type "tuple")
  | lst {a : Addr} {xs : List V} : SqL K H a xs → TyX K H (.ref a) (.type "list")
section
variable {X : Cx}
theorem call_isX : CallR X (.builtin "isinstance") (fun xs H Q => ∃ x c t cv b, xs = [x, c] ∧ RelV c cv ∧ (∀ u, RelV c u → u = cv) ∧ TyX X.K H x t ∧ PySem.W.kitOne X.K t cv = some b ∧ Q (.bl b) H) := by
  intro pins s σ H xs us Q I r h
  obtain ⟨x, c, t, cv, b, rfl, _, hu, ty, e, q⟩ := h
  obtain ⟨u, u', rfl, rx, rc⟩ := vals2 r
  obtain rfl := hu u' rc
  have fin : ∀ tk, EP X pins σ Q (.bool b) { s with toks := tk } := fun tk => ⟨.bl b, H, I.tok _, rfl, q⟩
  cases ty with
  | of ty => exact isinst_ok I rx ty e fin
  | @tup a ys hq =>
    cases (show u = Value.ref a from rx)
    obtain ⟨its, rv, ⟨o, h1, h2, _⟩, hz⟩ := I.tuple hq
    exact PySem.W.kia_one PySem.W.kitx_tuple I.kIn ⟨o, h1, h2⟩ e (fun z => nomatch z) fin
  | @lst a ys hq =>
    cases (show u = Value.ref a from rx)
    obtain ⟨its, rv, ⟨o, n, h1, h2, _⟩, hz⟩ := I.list hq
    exact PySem.W.kia_one PySem.W.kitx_list I.kIn ⟨o, h1, h2⟩ e (fun z => nomatch z) fin
end
end L2
namespace L2
open PySem PySem.Spec PyProof.Rows
theorem pg_pair {X : Cx} {i j : Nat} {x y : Str} {p1 p2 pos : Pos} {k : Nat} (hc : X.calm = true) (hN : X.N.Nodup) (hi : X.N[i]? = some x) (hj : X.N[j]? = some y) (hx : X.env.scope.names.lookup x = some .local) (hy : X.env.scope.names.lookup y = some .local) :
    PG X (.Tuple [.Name x p1, .Name y p2] k pos) (gTup X.K 2 (gCons (gName i) (gCons (gName j) gNil))) := pg_tup hc (pgs_cons (pg_name hN hi (.inl hx) (.inr hx)) (pgs_cons (pg_name hN hj (.inl hy) (.inr hy)) pgs_nil))
theorem kIntBool {K : PySem.W.Frag} : PySem.W.kitOne K (.type "int") (.type "bool") = some false := by with_unfolding_all rfl
theorem Wk.trans {a b d : St} (x : Wk a b) (y : Wk b d) : Wk a d := ⟨x.1.trans y.1, fun i v e => y.2 i v (x.2 i v e)⟩
theorem wk_set2 {σ0 : St} {i j : Nat} {v u : Option V} (h : σ0[i]? = some none) (h' : (σ0.set i v)[j]? = some none) : Wk σ0 ((σ0.set i v).set j u) := (wk_set h).trans (wk_set h')
section
variable {K : PySem.W.Frag} {H H' : Hp} {a r C dx : Addr} {xs : List V} {fs : List (Str × V)}
theorem SameX.seqI (S : SameX a H H') (ha : H a = some (.ins C dx fs)) (h : SqL K H r xs) : SqL K H' r xs := by
  rcases h with (h | ⟨o, h⟩) | h
  · exact .inl (.inl (S _ _ (ne_of h ha (by intro z; cases z)) h))
  · exact .inl (.inr ⟨o, S _ _ (ne_of h ha (by intro z; cases z)) h⟩)
  · exact .inr h
theorem SameX.tupI (S : SameX a H H') (ha : H a = some (.ins C dx fs)) (h : SqT K H r xs) : SqT K H' r xs := by
  rcases h with (h | ⟨o, h⟩) | h
  · exact .inl (.inl (S _ _ (ne_of h ha (by intro z; cases z)) h))
  · exact .inl (.inr ⟨o, S _ _ (ne_of h ha (by intro z; cases z)) h⟩)
  · exact .inr h
theorem Pairs.sameI (S : SameX a H H') (ha : H a = some (.ins C dx fs)) {es : List (Int × Int)} (h : Pairs K H xs es) : Pairs K H' xs es := Paired.mapP h fun _ _ ⟨r, e, q⟩ => ⟨r, e, S.tupI ha q⟩
theorem Pairs.take_snoc {xs : List V} {es : List (Int × Int)} {i : Nat} {e : Int × Int} (h : es[i]? = some e) : es.take (i + 1) = es.take i ++ [e] := L2.take_snoc h
end
end L2
namespace L2
open PySem PySem.Spec PyProof.Rows
theorem PE.imp {X : Cx} {e : Expr} {t t' : TE} (h : PE X e t) (k : ∀ σ H Q, t' σ H Q → t σ H Q) : PE X e t' := fun pins s σ H Q I hw => h pins s σ H Q I (k σ H Q hw)
theorem Same.upd {H H' : Hp} {l : Addr} {o : HO} (e : Same H H') (h : H l = none) : Same H (L2.upd H' l o) := fun b u q => by rw [upd_ne (ne_of_none q h)]; exact e _ _ q
theorem pe_defR {X : Cx} {k k' : Nat} {x : Str} {ps : List Str} {sp : Sp} {e : Expr} {es : List Expr} {t : TA} {p pos : Pos} (D : Def X.prog X.w X.K X.mg X.base k x ps sp) (hr : Room k' X.A) (ha : PA X (e :: es) t) (hk : k ≤ k' := by decide) (hg : Gl X x := by rfl)
    (hdb : (x == ("__debug__" : Str)) = false := by decide) (he : starEach (e :: es) X.env = (false, eval e X.env) :: starEach es X.env := by rfl) (hpl : (backTo pos (starEach es X.env)).any (·.1) = false := by rfl) :
    PE X (.Call (.Name x p) (e :: es) [] pos) (fun σ H Q => t σ H fun vs H1 => sp vs H1 Q E0) := (pe_def D (hr.mono hk) hg ha hdb he hpl).imp fun σ H Q h => by
  show t σ H fun vs H1 => sp (vs ++ []) H1 Q E0
  simp only [List.append_nil]
  exact h
structure WebC (K : PySem.W.Frag) (C : Addr) : Prop where
  cl : Cls K C
  nM : NoAttr K C "many"
  nT : NoAttr K C "ties"
  ca : PySem.W.findIn K (.ref C) "__class__" = some (some (.builtin "object.__class__"))
  cg : PySem.W.specialIn K (.builtin "object.__class__") "__get__" = some (some (.builtin "getset_descriptor.__get__"))
  ck : PySem.W.takesIn K (.builtin "object.__class__") = some true
  co : PySem.W.mroIn K C (.type "object") = some true
abbrev wFs (m : Int) (t : Addr) : List (Str × V) := [("many", .int m), ("ties", .ref t)]
theorem wFs_many (m : Int) (t : Addr) : (wFs m t).lookup ("many" : Str) = some (.int m) := rfl
theorem wFs_ties (m : Int) (t : Addr) : (wFs m t).lookup ("ties" : Str) = some (.ref t) := rfl
def WebAt (K : PySem.W.Frag) (C : Addr) (H : Hp) (a : Addr) (m : Int) (es : List (Int × Int)) : Prop := ∃ dx t xs, H a = some (.ins C dx (wFs m t)) ∧ H t = some (.tup xs) ∧ Pairs K H xs es
theorem WebAt.same {K : PySem.W.Frag} {C : Addr} {H H' : Hp} {a : Addr} {m : Int} {es : List (Int × Int)} (h : WebAt K C H a m es) (S : Same H H') : WebAt K C H' a m es := by
  obtain ⟨dx, t, xs, h1, h2, h3⟩ := h
  exact ⟨dx, t, xs, S _ _ h1, S _ _ h2, h3.same S⟩
theorem WebAt.ty {K : PySem.W.Frag} {C : Addr} {H : Hp} {a : Addr} {m : Int} {es : List (Int × Int)} (W : WebC K C) (h : WebAt K C H a m es) : TyOf K H (.ref a) (.ref C) := by
  obtain ⟨dx, t, xs, h1, _⟩ := h
  exact .ins h1 W.cl W.ca W.cg W.ck W.co
section
variable {X : Cx} {C : Addr} {e : Expr} {ta : TE} {pos : Pos}
def tMany (K : PySem.W.Frag) (C : Addr) (ta : TE) : TE := fun σ H Q => ta σ H fun x H1 => ∃ a m es, x = .ref a ∧ WebAt K C H1 a m es ∧ Q (.int m) H1
def tTies (K : PySem.W.Frag) (C : Addr) (ta : TE) : TE := fun σ H Q => ta σ H fun x H1 => ∃ a m es, x = .ref a ∧ WebAt K C H1 a m es ∧ ∀ t xs, H1 t = some (.tup xs) → Pairs K H1 xs es → Q (.ref t) H1
theorem pe_fld2 {f : Str} {r : V → Hp → VK → Prop} (he : PE X e ta) (hb : attributeBase e f X.env (eval e X.env) = eval e X.env) (k : ∀ x H Q, r x H Q → ∃ a C dx fs v, x = .ref a ∧ H a = some (.ins C dx fs) ∧ Cls X.K C ∧ NoAttr X.K C f ∧ fs.lookup f = some v ∧ Q v H) :
    PE X (.Attribute e f pos) (fun σ H Q => ta σ H fun x H1 => r x H1 Q) := by
  intro pins s σ H Q I h
  refine attr_of hb (thn (he pins s σ H _ I h) fun u s1 ⟨x, H1, I1, rx, q⟩ => ?_)
  obtain ⟨a, C', dx, fs, v, ex, ea, c, n, l, q'⟩ := k _ _ _ q
  subst ex
  obtain rfl : u = Value.ref a := rx
  exact getattr_ok I1 ea c n l fun u' s2 I2 ru => ⟨v, H1, I2, ru, q'⟩
theorem pe_many (W : WebC X.K C) (he : PE X e ta) (hb : attributeBase e "many" X.env (eval e X.env) = eval e X.env := by rfl) : PE X (.Attribute e "many" pos) (tMany X.K C ta) :=
  pe_fld2 (r := fun x H1 Q => ∃ a m es, x = .ref a ∧ WebAt X.K C H1 a m es ∧ Q (.int m) H1) he hb fun x H Q ⟨a, m, es, ex, ⟨dx, t, xs, h1, _⟩, q⟩ => ⟨a, C, dx, _, _, ex, h1, W.cl, W.nM, wFs_many m t, q⟩
theorem pe_ties (W : WebC X.K C) (he : PE X e ta) (hb : attributeBase e "ties" X.env (eval e X.env) = eval e X.env := by rfl) : PE X (.Attribute e "ties" pos) (tTies X.K C ta) :=
  pe_fld2 (r := fun x H1 Q => ∃ a m es, x = .ref a ∧ WebAt X.K C H1 a m es ∧ ∀ t xs, H1 t = some (.tup xs) → Pairs X.K H1 xs es → Q (.ref t) H1) he hb fun x H Q ⟨a, m, es, ex, ⟨dx, t, xs, h1, h2, h3⟩, q⟩ => ⟨a, C, dx, _, _, ex, h1, W.cl, W.nT, wFs_ties m t, q t xs h2 h3⟩
end
def EndsIn (es : List (Int × Int)) (m : Int) : Prop := ∀ e ∈ es, 0 ≤ e.1 ∧ e.1 < m ∧ 0 ≤ e.2 ∧ e.2 < m
theorem EndsIn.nil {m : Int} : EndsIn [] m := fun _ h => nomatch h
theorem EndsIn.snoc {es : List (Int × Int)} {m : Int} {e : Int × Int} (h : EndsIn es m) (q : 0 ≤ e.1 ∧ e.1 < m ∧ 0 ≤ e.2 ∧ e.2 < m) : EndsIn (es ++ [e]) m := fun x hx => by
  rcases List.mem_append.mp hx with z | z
  · exact h x z
  · have e' : x = e := by simpa using z
    rw [e']; exact q
def spInit (K : PySem.W.Frag) (C : Addr) : Sp := fun vs H Q _ => ∃ (x dx p : Addr) (m : Int) (xs : List V) (es : List (Int × Int)), vs = [.ref x, .int m, .ref p] ∧ H x = some (.ins C dx []) ∧ (SqL K H p xs ∨ SqT K H p xs) ∧ Pairs K H xs es ∧
  1 ≤ m ∧ m ≤ 20 ∧ es.length ≤ 40 ∧ EndsIn es m ∧ ∀ H' t ys, SameX x H H' → H' x = some (.ins C dx (wFs m t)) → H' t = some (.tup ys) → Pairs K H' ys es → Q .non H'
def MkDef (P : Program) (w : World) (K : PySem.W.Frag) (mg : Str → Option Value) (base : Heap) (k : Nat) (x : Str) (C : Addr) (ps : List Str) (sp : Sp) : Prop :=
  ∃ f fd, Mk K C f ∧ FnOk P w K mg base CX0 k f fd ps sp ∧ Binds K fd ps [] ∧ mg x = some (.ref C)
def tWeb (K : PySem.W.Frag) (C : Addr) (t : TA) : TE := fun σ H Q => t σ H fun vs H1 => ∃ (p : Addr) (m : Int) (xs : List V) (es : List (Int × Int)), vs = [.int m, .ref p] ∧ (SqL K H1 p xs ∨ SqT K H1 p xs) ∧ Pairs K H1 xs es ∧
  1 ≤ m ∧ m ≤ 20 ∧ es.length ≤ 40 ∧ EndsIn es m ∧ ∀ x H', H1 x = none → Same H1 H' → WebAt K C H' x m es → Q (.ref x) H'
theorem pe_make' {X : Cx} {k k' : Nat} {C : Addr} {x : Str} {ps : List Str} {sp : Sp} {e : Expr} {es : List Expr} {t : TA} {p pos : Pos} {R : List V → Hp → VK → Prop} (D : MkDef X.prog X.w X.K X.mg X.base k x C ps sp) (hr : Room k' X.A) (ha : PA X (e :: es) t)
    (hR : ∀ vs H1 Q, R vs H1 Q → ∀ x dx, H1 x = none → H1 dx = none → dx ≠ x → sp (.ref x :: vs) (upd (upd H1 dx (.own x)) x (.ins C dx [])) (fun v H2 => v = .non ∧ Q (.ref x) H2) E0)
    (hk : k + 1 ≤ k' := by decide) (hg : Gl X x := by rfl)
    (hdb : (x == ("__debug__" : Str)) = false := by decide) (he : starEach (e :: es) X.env = (false, eval e X.env) :: starEach es X.env := by rfl) (hpl : (backTo pos (starEach es X.env)).any (·.1) = false := by rfl) :
    PE X (.Call (.Name x p) (e :: es) [] pos) (fun σ H Q => t σ H fun vs H1 => R vs H1 Q) := by
  obtain ⟨f, fd, M, F, b, m⟩ := D
  intro pins s σ H Q I h
  refine wpAny_Call_Name_kw (ld_glob I hg m ?_ hdb)
  refine PySem.W.callWith_K (h₀ := X.base) I.ok.mod.kin M.kp (thn (ha pos pins s σ H _ I h) fun us s1 ⟨vs, H1, I1, r, q⟩ => ⟨I1.kIn, ?_⟩) he hpl
  exact run_make (dvs := []) (ds := []) M F (hr.mono hk) b .nil pass0 I1 r fun y dy n1 n2 n3 => by
    rw [List.append_nil]
    exact hR vs H1 Q q y dy n1 n2 n3
theorem pe_web {X : Cx} {k k' : Nat} {C : Addr} {x : Str} {ps : List Str} {e : Expr} {es : List Expr} {t : TA} {p pos : Pos} (D : MkDef X.prog X.w X.K X.mg X.base k x C ps (spInit X.K C)) (hr : Room k' X.A) (ha : PA X (e :: es) t)
    (hk : k + 1 ≤ k' := by decide) (hg : Gl X x := by rfl)
    (hdb : (x == ("__debug__" : Str)) = false := by decide) (he : starEach (e :: es) X.env = (false, eval e X.env) :: starEach es X.env := by rfl) (hpl : (backTo pos (starEach es X.env)).any (·.1) = false := by rfl) :
    PE X (.Call (.Name x p) (e :: es) [] pos) (tWeb X.K C t) := by
  refine pe_make' D hr ha (fun vs H1 Q q => ?_) hk hg hdb he hpl
  obtain ⟨p', mm, xs, es', rfl, hq, hp, b1, b2, b3, b4, q⟩ := q
  intro z dz nz ndz ne
  have s1 : Same H1 (upd (upd H1 dz (.own z)) z (.ins C dz [])) := (Same.new ndz).trans (Same.new (by rw [upd_ne ne.symm]; exact nz))
  refine ⟨z, dz, p', mm, xs, es', rfl, upd_same, hq.imp (fun y => s1.seq y) (fun y => s1.tup y), hp.same s1, b1, b2, b3, b4, fun H' tt ys sx h1 h2 h3 => ⟨rfl, ?_⟩⟩
  exact q z H' nz (fun bb o eb => sx _ _ (ne_of_none eb nz) (s1 _ _ eb)) ⟨dz, tt, ys, h1, h2, h3⟩
end L2
namespace L2
open PySem PySem.Spec PyProof.Rows
theorem SameX.of {H H' : Hp} {a : Addr} (S : Same H H') : SameX a H H' := fun b o _ e => S b o e
theorem SameX.trans {H H1 H2 : Hp} {a : Addr} (S : SameX a H H1) (T : SameX a H1 H2) : SameX a H H2 := fun b o n e => T b o n (S b o n e)
theorem SameX.seq {K : PySem.W.Frag} {H H' : Hp} {a r : Addr} {xs : List V} (S : SameX a H H') (hr : r ≠ a) (h : SqL K H r xs) : SqL K H' r xs := by
  rcases h with (h | ⟨o, h⟩) | h
  · exact .inl (.inl (S _ _ hr h))
  · exact .inl (.inr ⟨o, S _ _ hr h⟩)
  · exact .inr h
theorem WebAt.sameX {K : PySem.W.Frag} {C : Addr} {H H' : Hp} {a b : Addr} {m : Int} {es : List (Int × Int)} {zs : List V} (h : WebAt K C H a m es) (S : SameX b H H') (hb : H b = some (.lst zs)) : WebAt K C H' a m es := by
  obtain ⟨dx, t, xs, h1, h2, h3⟩ := h
  exact ⟨dx, t, xs, S _ _ (ne_of h1 hb (by intro z; cases z)) h1, S _ _ (ne_of h2 hb (by intro z; cases z)) h2, h3.sameX S hb⟩
end L2
namespace L2
open PySem PySem.Spec PyProof.Rows
section
variable {X : Cx} {K : PySem.W.Frag}
theorem ixL (h : X.K = K) : IxR X (rIxL K) := by subst h; exact ix_list
theorem ixT (h : X.K = K) : IxR X (rIxT K) := by subst h; exact ix_tup
theorem opIn (h : X.K = K) : OpR X (compareOp .In) (rIn K false) := by subst h; exact op_in_seq
theorem opNotIn (h : X.K = K) : OpR X (compareOp .NotIn) (rIn K true) := by subst h; exact op_notIn_seq
theorem opEqD (h : X.K = K) (hu : X.A.units + 64 < cLine) : OpR X (compareOp .Eq) (rEqD K id) := by subst h; exact op_eqD hu
theorem opNeD (h : X.K = K) (hu : X.A.units + 64 < cLine) : OpR X (compareOp .NotEq) (rEqD K not) := by subst h; exact op_neD hu
def rLen (K : PySem.W.Frag) : List V → Hp → VK → Prop := fun xs H Q => ∃ p ys, xs = [.ref p] ∧ (SqL K H p ys ∨ SqT K H p ys) ∧ Q (.int ys.length) H
theorem cLen (h : X.K = K) : CallR X (.builtin "len") (rLen K) := by subst h; exact call_len_seq
def rList (K : PySem.W.Frag) : List V → Hp → VK → Prop := fun xs H Q => ∃ p ys, xs = [.ref p] ∧ (SqL K H p ys ∨ SqT K H p ys) ∧ ∀ l, H l = none → Q (.ref l) (upd H l (.lst ys))
theorem cList (h : X.K = K) : CallR X (.type "list") (rList K) := by subst h; exact call_list_of
def rTuple (K : PySem.W.Frag) : List V → Hp → VK → Prop := fun xs H Q => ∃ p ys, xs = [.ref p] ∧ ((SqL K H p ys ∧ ∀ l, H l = none → Q (.ref l) (upd H l (.tup ys))) ∨ (SqT K H p ys ∧ Q (.ref p) H))
theorem cTuple (h : X.K = K) : CallR X (.type "tuple") (rTuple K) := by subst h; exact call_tuple_of
def rSum (K : PySem.W.Frag) : List V → Hp → VK → Prop := fun xs H Q => ∃ (p : Addr) (ns : List Int), xs = [.ref p] ∧ (SqL K H p (ns.map V.int) ∨ SqT K H p (ns.map V.int)) ∧ Q (.int ns.sum) H
theorem cSum (h : X.K = K) (hc : X.calm = true) : CallR X (.builtin "sum") (rSum K) := by subst h; exact call_sum_seq hc
def rAll (K : PySem.W.Frag) : List V → Hp → VK → Prop := fun xs H Q => ∃ (p : Addr) (ys : List V), xs = [.ref p] ∧ (SqL K H p ys ∨ SqT K H p ys) ∧ ys.all isBI = true ∧ Q (.bl (ys.all tv)) H
theorem cAll (h : X.K = K) (hc : X.calm = true) : CallR X (.builtin "all") (rAll K) := by subst h; exact call_all_seq hc
def rIs (K : PySem.W.Frag) : List V → Hp → VK → Prop := fun xs H Q => ∃ x c t cv b, xs = [x, c] ∧ RelV c cv ∧ (∀ u, RelV c u → u = cv) ∧ TyX K H x t ∧ PySem.W.kitOne K t cv = some b ∧ Q (.bl b) H
theorem cIs (h : X.K = K) : CallR X (.builtin "isinstance") (rIs K) := by subst h; exact call_isX
theorem piSeq {tg l : Expr} {tl : TE} (h : X.K = K) (hl : PE X l tl) : PI X tg l (iSeq K tl) := by subst h; exact pi_seq hl
theorem pgTup {es : List Expr} {k : Nat} {t : TGs} {n : Nat} {pos : Pos} (hK : X.K = K) (hc : X.calm = true) (h : PGs X es t) (hn : (assignEach es X.env).length = n) (hst : (assignEach es X.env).findIdx? (·.1) = none := by rfl) : PG X (.Tuple es k pos) (gTup K n t) := by
  subst hK; exact pg_tup hc h hn hst
theorem pgPair {i j : Nat} {x y : Str} {p1 p2 pos : Pos} {k : Nat} (hK : X.K = K) (hc : X.calm = true) (hN : X.N.Nodup) (hi : X.N[i]? = some x) (hj : X.N[j]? = some y) (hx : X.env.scope.names.lookup x = some .local) (hy : X.env.scope.names.lookup y = some .local) :
    PG X (.Tuple [.Name x p1, .Name y p2] k pos) (gTup K 2 (gCons (gName i) (gCons (gName j) gNil))) := by subst hK; exact pg_pair hc hN hi hj hx hy
theorem pMany {C : Addr} {e : Expr} {ta : TE} {pos : Pos} (h : X.K = K) (W : WebC K C) (he : PE X e ta) (hb : attributeBase e "many" X.env (eval e X.env) = eval e X.env := by rfl) : PE X (.Attribute e "many" pos) (tMany K C ta) := by subst h; exact pe_many W he hb
theorem pTies {C : Addr} {e : Expr} {ta : TE} {pos : Pos} (h : X.K = K) (W : WebC K C) (he : PE X e ta) (hb : attributeBase e "ties" X.env (eval e X.env) = eval e X.env := by rfl) : PE X (.Attribute e "ties" pos) (tTies K C ta) := by subst h; exact pe_ties W he hb
end
end L2
namespace L2
open PySem PySem.Spec PyProof.Rows
theorem ObjOk.live {P : Program} {w : World} {H : Hp} {h : Heap} {a : Addr} {o : HO} (x : ObjOk P w H h a o) : ∃ ob, h.get? a = some ob := by
  cases o with
  | lst xs => obtain ⟨_, _, _, _, e⟩ := x; exact ⟨_, e⟩
  | tup xs => obtain ⟨_, _, _, ob, e, _⟩ := x; exact ⟨_, e⟩
  | dK kvs => obtain ⟨_, _, _, _, ob, _, _, e, _⟩ := x; exact ⟨_, e⟩
  | dT kvs => obtain ⟨_, _, _, _, ob, _, _, e, _⟩ := x; exact ⟨_, e⟩
  | set S n => obtain ⟨ob, _, _, _, e, _⟩ := x; exact ⟨_, e⟩
  | ins C dx fs => obtain ⟨_, _, _, e, _⟩ := x; exact ⟨_, e⟩
  | own y => exact x
  | xd fs => obtain ⟨_, ⟨_, _, _, e, _⟩, _⟩ := x; exact ⟨_, e⟩
  | rng lo hi => obtain ⟨_, _, _, e⟩ := x; exact ⟨_, e⟩
  | frz ob u => obtain ⟨e, _⟩ := x; exact ⟨_, e⟩
  | tbl ps => exact ⟨_, x⟩
  | met f y => exact ⟨_, x⟩
  | ext φ => obtain ⟨_, e, _⟩ := x; exact e
theorem HOk.dead {P : Program} {w : World} {H : Hp} {h : Heap} {a : Addr} (x : HOk P w H h) (e : h.get? a = none) : H a = none := by
  cases q : H a with
  | none => rfl
  | some o =>
    obtain ⟨ob, z⟩ := (x a o q).live
    rw [e] at z; cases z
def Yg (X : Cx) (H : Hp) (b : Addr) : Prop := X.s₀.heap.get? b = none ∧ H b = none ∧ ∀ p ∈ X.pn, p.1 ≠ b
section
variable {X : Cx} {pins : List (Addr × Obj)} {σ : St} {H : Hp} {s : Shared}
theorem Inv.young (I : Inv X pins σ H s) (hex : X.ex = []) {b : Addr} (e : s.heap.get? b = none) : Yg X H b := by
  refine ⟨?_, I.hok.dead e, fun p hp z => ?_⟩
  · cases q : X.s₀.heap.get? b with
    | none => rfl
    | some o =>
      obtain ⟨o', z⟩ := I.base.there b o q (by rw [hex]; simp)
      rw [e] at z; cases z
  · have := (I.pin p (List.mem_append_left _ hp)).1
    rw [z, e] at this; cases this
theorem Inv.bareP (I : Inv X pins σ H s) : Inv X [] σ H s := I.pins_of fun _ h => nomatch h
theorem Inv.noted {h' : Heap} {ch : List Addr} (I : Inv X [] σ H s) (hch : ∀ b ∈ ch, Yg X H b ∧ ∃ o vs, s.heap.get? b = some o ∧ o.data = .fields vs)
    (keep : ∀ b o, s.heap.get? b = some o → b ∉ ch → b ∉ frs X.stack → h'.get? b = some o)
    (slot : ∀ b o, s.heap.get? b = some o → b ∈ frs X.stack → ∃ sl, h'.get? b = some { o with slots := sl }) : Inv X [] σ H { s with heap := h' } := by
  have up : ∀ b o, s.heap.get? b = some o → b ∉ ch → ∃ sl, h'.get? b = some { o with slots := sl } := fun b o e hb => by
    by_cases hf : b ∈ frs X.stack
    · exact slot b o e hf
    · exact ⟨o.slots, keep b o e hb hf⟩
  have nchF : ∀ b o, s.heap.get? b = some o → (∀ vs, o.data ≠ .fields vs) → b ∉ ch := fun b o e hd hb => by
    obtain ⟨_, o', vs, e', d⟩ := hch b hb
    rw [e] at e'; cases e'
    exact hd vs d
  have nch0 : ∀ b o, X.s₀.heap.get? b = some o → b ∉ ch := fun b o e hb => by
    have := (hch b hb).1.1
    rw [e] at this; cases this
  have nst : ∀ b o, X.s₀.heap.get? b = some o → b ∉ X.fs → b ∉ frs X.stack := fun b o e hb hs => by
    rcases List.mem_cons.mp (I.stkSub b hs) with z | z
    · exact absurd (Nat.lt_of_lt_of_le (Heap.lt_size e) I.ok.above) (by rw [z]; exact Nat.lt_irrefl _)
    · exact hb z
  obtain ⟨m, hn, hl⟩ := id I.loc
  refine ⟨I.ok, I.os, I.bare, ⟨fun b o e n hb hx => ?_, fun b o e n hb hx => ?_, I.base.free, fun b o e hx => ?_, I.base.tups, I.base.frzs, I.base.tbls⟩, ⟨m, ?_, fun i x v e1 e2 e3 => ?_⟩, fun x c e => ?_, I.free, I.freeC, fun p hp => ?_, fun b u e => ?_, I.len⟩
  · exact keep b o (I.base.keep b o e n hb hx) (nch0 b o e) (nst b o e hb)
  · obtain ⟨sl, e1⟩ := I.base.slot b o e n hb hx
    obtain ⟨sl', e2⟩ := up b _ e1 (nch0 b o e)
    exact ⟨sl', e2⟩
  · obtain ⟨o', e1⟩ := I.base.there b o e hx
    obtain ⟨sl, e2⟩ := up b o' e1 (nch0 b o e)
    exact ⟨_, e2⟩
  · obtain ⟨o, es, ep, ho, hd, r⟩ := hn
    obtain ⟨sl, e2⟩ := up _ o ho (nchF _ o ho fun vs z => by rw [hd] at z; cases z)
    exact ⟨_, es, ep, e2, hd, r⟩
  · obtain ⟨u, r, l⟩ := hl i x v e1 e2 e3
    refine ⟨u, r, ?_⟩
    rcases l with l | ⟨k, c, e, o, ho, hd⟩
    · exact .inl l
    · obtain ⟨sl, e2⟩ := up c o ho (nchF c o ho fun vs z => by rw [hd] at z; cases z)
      exact .inr ⟨k, c, e, _, e2, hd⟩
  · obtain ⟨v, o, ho, hd⟩ := I.cell x c e
    obtain ⟨sl, e2⟩ := up c o ho (nchF c o ho fun vs z => by rw [hd] at z; cases z)
    exact ⟨v, _, e2, hd⟩
  · obtain ⟨e, n, ne, nf, d⟩ := I.pin p hp
    refine ⟨keep p.1 p.2 e (fun hb => (hch _ hb).1.2.2 p (by simpa using hp) rfl) (fun hs => ?_), n, ne, nf, d⟩
    rcases List.mem_cons.mp (I.stkSub _ hs) with z | z
    · exact ne z
    · exact nf z
  · refine (I.hok b u e).stay (fun c v hc q => keep c v q (fun hb => ?_) (fun hs => ?_)) (fun _ q => q) fun _ _ q => q
    · have z := (hch c hb).1.2.1
      rcases hc with hc | hc
      · rw [hc, e] at z; cases z
      · rw [hc] at z; cases z
    · have z := I.stkFree c hs
      rcases hc with hc | hc
      · rw [hc, e] at z; cases z
      · rw [hc] at z; cases z
end
def IsX (o : Obj) : Value → Prop
  | .int d A => o.cls = .ref A ∧ o.dict = some d.toNat
  | C => o.cls = C
def FlyO (X : Cx) (H : Hp) (h : Heap) (x : Addr) (C : Value) (fl : Option Value) : Prop :=
  Yg X H x ∧ ∃ oe vs a0, h.get? x = some oe ∧ IsX oe C ∧ oe.data = .fields vs ∧ vs[0]? = some a0 ∧
    match fl with
    | none => vs[1]? = some .none
    | some v => ∃ T oT ts, vs[1]? = some (.ref T) ∧ T ≠ x ∧ Yg X H T ∧ h.get? T = some oT ∧ oT.data = .fields ts ∧ ts[3]? = some v
theorem frames_base {h base base' : Heap} : ∀ {l : List Env}, h.FunFrames base l → (∀ b ∈ frs l, base'.get? b = none) → h.FunFrames base' l
  | [], _, _ => trivial
  | env :: r, hl, hb => by
    obtain ⟨hk, ⟨L, o, hf, hn, ho, hd⟩, hr⟩ := hl
    have e : frs (env :: r) = L :: frs r := by unfold frs; rw [List.filterMap_cons, hf]
    exact ⟨hk, ⟨L, o, hf, hb L (by rw [e]; exact List.mem_cons_self), ho, hd⟩, frames_base hr fun b z => hb b (by rw [e]; exact List.mem_cons_of_mem _ z)⟩
section
variable {X : Cx} {σ : St} {H : Hp} {s : Shared} {M : Model} {A : Around} {E : Value → Shared → Prop} {x : Addr} {C : Value}
theorem FlyO.mv {h h' : Heap} {fl : Option Value} (F : FlyO X H h x C fl) (k : ∀ b o, h.get? b = some o → h'.get? b = some o) : FlyO X H h' x C fl := by
  obtain ⟨y, oe, vs, a0, e, c, d, v0, r⟩ := F
  refine ⟨y, oe, vs, a0, k _ _ e, c, d, v0, ?_⟩
  cases fl with
  | none => exact r
  | some v => obtain ⟨T, oT, ts, r1, r2, r3, r4, r5⟩ := r; exact ⟨T, oT, ts, r1, r2, r3, k _ _ r4, r5⟩
theorem flight_ok {v : Value} {fr : Option Addr} {Q : Unit → Shared → Prop} (I : Inv X [] σ H s) (F : FlyO X H s.heap x C (some v))
    (k : ∀ s', Inv X [] σ H s' → FlyO X H s'.heap x C (some (fr.elim .none fun f => rawInt f)) → Q () s') : wpAny M A (setFlight (.ref x) fr) Q E s := by
  obtain ⟨y, oe, vs, a0, e, c, d, v0, T, oT, ts, r1, r2, r3, r4, r5, r6⟩ := F
  have hz : 3 < ts.size := (Array.getElem?_eq_some_iff.mp r6).1
  unfold setFlight
  refine wpAny_bind (wpAny_field e d r1 ?_)
  rw [if_pos (show (Value.ref T != Value.none) = true from by simp)]
  have other : ∀ b, b ≠ T → ∀ z : Value, (s.heap.update T (Obj.mapFields (·.setIfInBounds 3 z))).get? b = s.heap.get? b := fun b hb z => Heap.get?_update_other _ _ (Ne.symm hb)
  have there := fun z : Value => Heap.get?_update_self (Obj.mapFields (·.setIfInBounds 3 z)) r4 (Obj.isFreed_of_fields (Obj.data_mapFields r5 _))
  refine wpAny_setField r4 r5 hz (k _ (I.noted (ch := [T]) (fun b hb => ?_) (fun b o eb hb _ => ?_) fun b o eb hb => ?_) ?_)
  · have z : b = T := by simpa using hb
    rw [z]; exact ⟨r3, oT, ts, r4, r5⟩
  · rw [other b (fun z => hb (by simp [z]))]; exact eb
  · refine ⟨o.slots, ?_⟩
    rw [other b ?_]
    · exact eb
    · intro z
      obtain ⟨_, o', eo, hd⟩ := I.stack.mem hb
      rw [z, r4] at eo; cases eo
      exact hd ts r5
  · refine ⟨y, oe, vs, a0, by rw [other x (Ne.symm r2)]; exact e, c, d, v0, T, _, _, r1, r2, r3, there _, Obj.data_mapFields r5 _, ?_⟩
    simp [hz]
def hidE (s : Shared) (l : List Addr) : Heap := PySem.W.hideAll s.heap l
theorem IsX.eqv {o o' : Obj} (hc : o'.cls = o.cls) (hd : o'.dict = o.dict) : ∀ {C : Value}, IsX o C → IsX o' C := fun {C} h => by
  cases C <;> first
    | exact ⟨hc.trans h.1, hd.trans h.2⟩
    | exact hc.trans h
structure Hung (e : Addr) (oe tb : Obj) (vs : Array Value) (h h' : Heap) : Prop where
  new : h'.get? h.objs.size = some tb
  rest : ∀ b o, b ≠ e → h.get? b = some o → h'.get? b = some o
  at_ : ∃ o', h'.get? e = some o' ∧ o'.cls = oe.cls ∧ o'.dict = oe.dict ∧ o'.data = .fields (vs.setIfInBounds 1 (.ref h.objs.size))
theorem Hung.mk' {e : Addr} {oe tb : Obj} {vs : Array Value} {h : Heap} (he : h.get? e = some oe) (hd : oe.data = .fields vs) (ht : tb.isFreed = false) : Hung e oe tb vs h ((h.push tb).update e (Obj.mapFields (·.setIfInBounds 1 (.ref h.objs.size)))) := by
  obtain ⟨c, d, x, sl⟩ := oe
  cases hd
  have ne := Nat.ne_of_lt (Heap.lt_size he)
  exact ⟨Heap.get?_update_of_ne _ ne (Heap.get?_push_size _ ht), fun b o hb q => Heap.get?_update_of_ne _ (Ne.symm hb) (Heap.get?_push_of_some _ q), _, Heap.get?_update_self _ (Heap.get?_push_of_some _ he) rfl, rfl, rfl, rfl⟩
theorem entryX {base : Heap} {env : Env} {outer : List Env} {L e : Addr} {oe : Obj} {vs : Array Value} {head a0 : Value} {hadNext : Bool} {Q : Unit → Shared → Prop} (hfr : A.frames = some (env :: outer)) (hl : s.heap.FunFrames base (env :: outer)) (hf : env.frame = some L) (he : s.heap.get? e = some oe) (hkb : base.StaysIn s.heap) (hen : base.get? e = none) (hd : oe.data = .fields vs) (hsz : 1 < vs.size) (h0 : vs[0]? = some a0)
    (h : ∀ h', Heap.NotedW base (env :: outer) e oe.cls a0 (rawInt L) s.heap h' → (∃ o', h'.get? e = some o' ∧ o'.dict = oe.dict) → Q () { s with heap := h' }) : wpAny M A (do let a ← frameOf env; let pl ← entryPlaceOf L hadNext; let b ← EntryCells.newEntry head a .none (rawInt L) .none pl; setField (.ref e) 1 b) Q E s := by
  have plain : ∀ {b : Addr} {o : Obj}, s.heap.get? b = some o → (∀ ws, o.data ≠ .fields ws) → b ≠ e := fun q n z => by cases (z ▸ q).symm.trans he; exact n vs hd
  have apart : e ∉ (env :: outer).filterMap (·.frame) := fun m => let ⟨_, _, q, n⟩ := hl.mem m; plain q n rfl
  refine wpAny_bind (wpAny_frameOf_fun hfr hl hf fun hp S => wpAny_bind (wpAny_entryPlaceOf fun pl place => wpAny_bind (wpAny_newObj_type ?_ (place.sizeOk5 _ _ _ _ _))))
  have there := (S.2.1 e apart).trans he
  have low : base.StaysIn hp := fun b o q => (S.2.1 b fun m => nomatch (hl.mem m).1.symm.trans q).trans (hkb b o q)
  refine wpAny_setField (Heap.get?_push_of_some _ there) hd hsz ?_
  have U := Hung.mk' (tb := ⟨.type "traceback", none, .fields ([head, .ref L, .none, rawInt L, .none] ++ (if pl.isEmpty then List.replicate 6 Value.none else pl)).toArray, #[]⟩) there hd rfl
  obtain ⟨o', q1, q2, q3, q4⟩ := U.at_
  have kept : ∀ b o, s.heap.get? b = some o → (∀ ws, o.data ≠ .fields ws) → ∃ sl, _ := fun b o q n => let ⟨sl, z⟩ := S.2.2 b o q; ⟨sl, U.rest b _ (plain q n) z⟩
  refine h _ ⟨fun b o q => U.rest b o (fun z => nomatch (z ▸ hen).symm.trans q) (low b o q), hl.of_keeps fun b o q n => let ⟨_, z⟩ := kept b o q n; ⟨_, z, rfl⟩, ⟨o', _, hp.objs.size, _, _, q1, ⟨q2, ?_⟩, q4, ?_, low.fresh, (Nat.ne_of_lt (Heap.lt_size there)).symm, U.new, rfl, ?_⟩, kept⟩ ⟨o', q1, q3⟩
  · rw [Array.getElem?_setIfInBounds_ne (by decide), h0]
  · rw [Array.getElem?_setIfInBounds_self_of_lt hsz]
  · rw [List.getElem?_toArray]; rfl
theorem note_end {v : Value} {h' : Heap} {l ch : List Addr} {a0 : Value} {ox : Obj} (I : Inv X [] σ H s) (hex : X.ex = []) (y : Yg X H x) (hx : x ∈ ch) (hl : l = ch ++ frs X.stack) (iX : IsX ox C)
    (hch : ∀ b ∈ ch, Yg X H b ∧ ∃ o vs, s.heap.get? b = some o ∧ o.data = .fields vs) (N : Heap.NotedW (hidE s l) X.stack x ox.cls a0 v s.heap h') (hdc : ∃ o', h'.get? x = some o' ∧ o'.dict = ox.dict) :
    Inv X [] σ H { s with heap := h' } ∧ FlyO X H h' x C (some v) := by
  obtain ⟨n1, n2, n3, n4⟩ := N
  subst hl
  have frd : ∀ b o, s.heap.get? b = some o → b ∈ frs X.stack → ∀ vs, o.data ≠ .fields vs := fun b o e hb => by
    obtain ⟨_, o', eo, hd⟩ := I.stack.mem hb
    rw [e] at eo; cases eo
    exact hd
  refine ⟨I.noted (ch := ch) hch (fun b o e hb hs => n1 b o (PySem.W.hideAll_get _ e fun z => (List.mem_append.mp z).elim hb hs)) (fun b o e hb => n4 b o e (frd b o e hb)), y, ?_⟩
  obtain ⟨oe, vs, T, oT, ts, e, ⟨c, v0⟩, d, r1, r2, r3, r4, r5, r6⟩ := n3
  obtain ⟨o', eo', dd⟩ := hdc
  rw [e] at eo'; cases eo'
  refine ⟨oe, vs, a0, e, IsX.eqv c dd iX, d, v0, T, oT, ts, r1, r3, ?_, r4, r5, r6⟩
  cases q : s.heap.get? T with
  | none => exact I.young hex q
  | some o =>
    by_cases hT : T ∈ ch
    · exact (hch T hT).1
    · by_cases hf : T ∈ frs X.stack
      · exfalso
        obtain ⟨sl, z⟩ := n4 T o q (frd T o q hf)
        rw [r4] at z; cases z
        exact frd T o q hf ts r5
      · have := PySem.W.hideAll_get (ch ++ frs X.stack) q fun z => (List.mem_append.mp z).elim hT hf
        rw [show PySem.W.hideAll s.heap (ch ++ frs X.stack) = hidE s (ch ++ frs X.stack) from rfl, r2] at this; cases this
theorem note_ok {fl : Option Value} {L : Addr} {Q : Unit → Shared → Prop} (I : Inv X [] σ H s) (hex : X.ex = []) (hfr : A.frames = some X.stack) (hst : X.stack = X.env :: X.outer) (hL : X.env.frame = some L)
    (F : FlyO X H s.heap x C fl) (hfl : fl = none ∨ fl = some .none ∨ fl = some (rawInt L))
    (k : ∀ s', Inv X [] σ H s' → FlyO X H s'.heap x C (some (rawInt L)) → Q () s') : wpAny M A (noteFrame (.ref x) X.env) Q E s := by
  have hidS : ∀ l, (hidE s l).StaysIn s.heap := fun l b o e => PySem.W.of_hideAll l e
  have hidN : ∀ l b, b ∈ l → (hidE s l).get? b = none := fun l b hb => PySem.W.hideAll_none l hb
  have hidF : ∀ ch, s.heap.FunFrames (hidE s (ch ++ frs X.stack)) X.stack := fun ch => frames_base I.stack fun b hb => hidN _ b (List.mem_append_right _ hb)
  obtain ⟨y, oe, vs, a0, e, c, d, v0, r⟩ := id F
  rcases hfl with rfl | rfl | rfl
  · have hch : ∀ b ∈ [x], Yg X H b ∧ ∃ o vs, s.heap.get? b = some o ∧ o.data = .fields vs := fun b hb => by
      have z : b = x := by simpa using hb
      rw [z]; exact ⟨y, oe, vs, e, d⟩
    have r' : vs[1]? = some Value.none := r
    unfold noteFrame
    simp only [hL]
    refine wpAny_bind (wpAny_field e d r' ?_)
    rw [if_neg (by decide)]
    refine entryX (base := hidE s ([x] ++ frs X.stack)) (outer := X.outer) (by rw [hfr, hst]) (by rw [← hst]; exact hidF [x]) hL e (hidS _) (hidN _ x (by simp)) d (Array.getElem?_eq_some_iff.mp r').1 v0 fun h' N hdc => ?_
    rw [← hst] at N
    obtain ⟨I', F'⟩ := note_end I hex y (by simp) rfl c hch N hdc
    exact k _ I' F'
  · obtain ⟨T, oT, ts, r1, r2, r3, r4, r5, r6⟩ := id r
    have hch : ∀ b ∈ [x, T], Yg X H b ∧ ∃ o vs, s.heap.get? b = some o ∧ o.data = .fields vs := fun b hb => by
      have z : b = x ∨ b = T := by simpa using hb
      rcases z with z | z
      · rw [z]; exact ⟨y, oe, vs, e, d⟩
      · rw [z]; exact ⟨r3, oT, ts, r4, r5⟩
    unfold noteFrame
    simp only [hL]
    refine wpAny_bind (wpAny_field e d r1 ?_)
    rw [if_pos (show (Value.ref T != Value.none) = true from by simp)]; refine wpAny_bind (wpAny_field r4 r5 r6 ?_)
    rw [if_neg (show ¬ ((Value.none == rawInt L) = true) from by simp [rawInt])]; refine wpAny_bind (wpAny_setField r4 r5 (Array.getElem?_eq_some_iff.mp r6).1 ?_)
    have oth : ∀ b, b ≠ T → (s.heap.update T (Obj.mapFields (·.setIfInBounds 3 Value.none))).get? b = s.heap.get? b := fun b hb => Heap.get?_update_other _ _ (Ne.symm hb)
    have nrec : ∀ b o, s.heap.get? b = some o → (∀ vs, o.data ≠ .fields vs) → b ≠ T := fun b o hb hnf q => by
      rw [q, r4] at hb; cases hb; exact hnf ts r5
    have hidT : (hidE s ([x, T] ++ frs X.stack)).get? T = none := hidN _ T (by simp)
    refine entryX (s := { s with heap := s.heap.update T (Obj.mapFields (·.setIfInBounds 3 Value.none)) }) (base := hidE s ([x, T] ++ frs X.stack)) (outer := X.outer) (by rw [hfr, hst]) (by rw [← hst]; exact (hidF [x, T]).of_keeps fun b o hb hnf => ⟨o, (oth b (nrec b o hb hnf)).trans hb, rfl⟩) hL ((oth x (Ne.symm r2)).trans e)
      (fun b o hbo => (oth b fun q => by rw [q, hidT] at hbo; cases hbo).trans (hidS _ b o hbo)) (hidN _ x (by simp)) d (Array.getElem?_eq_some_iff.mp r1).1 v0 fun h' N hdc => ?_
    rw [← hst] at N
    obtain ⟨x1, x2, x3, x4⟩ := N
    obtain ⟨I', F'⟩ := note_end I hex y (by simp) rfl c hch ⟨x1, x2, x3, fun b o hb hnf => x4 b o ((oth b (nrec b o hb hnf)).trans hb) hnf⟩ hdc
    exact k _ I' F'
  · obtain ⟨T, oT, ts, r1, r2, r3, r4, r5, r6⟩ := id r
    refine wpAny_noteFrame_againW (base := hidE s ([x, T] ++ frs X.stack)) (cls := oe.cls) (a0 := a0) hL ?_ (k s I F)
    exact ⟨oe, vs, T, oT, ts, e, ⟨rfl, v0⟩, d, r1, hidN _ T (by simp), r2, r4, r5, r6⟩
end
def FlyE (X : Cx) (Ex : St → Value → Hp → Prop) : Value → Shared → Prop := fun e s' =>
  ∃ (x : Addr) (C : Value) (fl : Option Value) (σ : St) (H : Hp), e = .ref x ∧ Inv X [] σ H s' ∧ FlyO X H s'.heap x C fl ∧ (fl = none ∨ fl = some .none ∨ fl = some (rawInt X.env.locals)) ∧ Ex σ C H
def CXE (P : Program) (w : World) : CXT := fun outer H s E e s' =>
  ∃ (x : Addr) (C : Value) (H' : Hp), e = .ref x ∧ s'.os = s.os ∧ AllBare s'.gens ∧ Un (frs outer) [] H H' s.heap s'.heap ∧ HOk P w H' s'.heap ∧ s.heap.get? x = none ∧ H' x = none ∧
    (∃ oe vs a0 T oT ts, s'.heap.get? x = some oe ∧ IsX oe C ∧ oe.data = .fields vs ∧ vs[0]? = some a0 ∧ vs[1]? = some (.ref T) ∧ T ≠ x ∧ s.heap.get? T = none ∧ H' T = none ∧ s'.heap.get? T = some oT ∧ oT.data = .fields ts ∧ ts[3]? = some .none) ∧
    E C none H'
structure Body (X : Cx) : Prop where
  ex : X.ex = []
  st : X.stack = X.env :: X.outer
  fr : X.env.frame = some X.env.locals
section
variable {X : Cx} {Ex : St → Value → Hp → Prop}
theorem PSs.more {E1 : Value → Shared → Prop} {st : List Stmt} {t : TS} (h : PSs (X.wish E1) st t) (hE : ∀ e s, E1 e s → X.xe e s) : PSs X st t := fun pins s σ H D I hw =>
  wpAny_mono (h pins s σ H D (I.wish _) hw) (fun _ _ q => q.unwish) fun e s z => hE e s z
end
theorem fly_leaves {P : Program} {w : World} {K : PySem.W.Frag} {mg : Str → Option Value} {base : Heap} {N : List Str} {qual : Str} {scope : Scope} {f : Addr} {cd : Value} {A : Around} {outer : List Env} {s : Shared} {H : Hp} {E : XK}
    (B : Body (cxOf (CXE P w) P w K mg base N qual scope f cd A outer s H E)) : ∀ e s', FlyE (cxOf (CXE P w) P w K mg base N qual scope f cd A outer s H E) (fun _ C H' => E C none H') e s' → (cxOf (CXE P w) P w K mg base N qual scope f cd A outer s H E).xe e s' := by
  rintro e s' ⟨x, C, fl, σ, H1, rfl, I, F, hfl, q⟩
  show wpAny _ _ (leaving _ _) _ _ s'
  unfold leaving
  refine wpAny_bind (note_ok I B.ex I.ok.frames B.st B.fr F hfl fun s1 I1 F1 => ?_)
  refine flight_ok I1 F1 fun s2 I2 F2 => ?_
  obtain ⟨y, oe, vs, a0, e1, c, d, v0, T, oT, ts, r1, r2, r3, r4, r5, r6⟩ := id F2
  exact ⟨x, C, H1, rfl, I2.os, I2.bare, I2.base, I2.hok, y.1, y.2.1, ⟨oe, vs, a0, T, oT, ts, e1, c, d, v0, r1, r2, r3.1, r3.2.1, r4, r5, r6⟩, q⟩
section
variable {P : Program} {w : World} {K : PySem.W.Frag} {mg : Str → Option Value} {base : Heap}
abbrev cxE (P : Program) (w : World) (K : PySem.W.Frag) (mg : Str → Option Value) (base : Heap) (N : List Str) (qual : Str) (scope : Scope) (f : Addr) (cd : Value) (A : Around) (outer : List Env) (s : Shared) (H : Hp) (E : XK) : Cx :=
  (cxOf (CXE P w) P w K mg base N qual scope f cd A outer s H E).wish (FlyE (cxOf (CXE P w) P w K mg base N qual scope f cd A outer s H E) (fun _ C H' => E C none H'))
theorem Fun.okE {x qual : Str} {st : Stmt} {f : Addr} {fd : FuncData} {N ps : List Str} {k : Nat} {sp : Sp} (F : Fun K x qual st f fd) (S : FnScope N ps (defScope st)) (len : ∀ vs H Q E, sp vs H Q E → vs.length = ps.length)
    (hbody : ∀ (cdv : Value) (A : Around) (outer : List Env) (s : Shared) (H : Hp) (vs : List V) (Q : VK) (E : XK), Room k (A.deeper (envOfC qual (defScope st) s.heap.objs.size f cdv)) → sp vs H Q E →
      ∃ t, PSs (cxE P w K mg base N qual (defScope st) f cdv A outer s H E) (defBody st) t ∧ t { nx := fun _ H' => Q .non H', rt := Q } (start N vs) H) : FnOk P w K mg base (CXE P w) (k + 1) f fd ps sp := by
  obtain ⟨oc, od, kV, doc, pm, an, cdv, ct, osl, rfl, lk, hcd⟩ := F.ex
  refine fn_of lk hcd S len fun A outer s H vs Q E hr hsp => ?_
  obtain ⟨t, h, q⟩ := hbody cdv A outer s H vs Q E hr hsp
  exact ⟨t, h.more (fly_leaves ⟨rfl, rfl, rfl⟩), q⟩
end
section
variable {X : Cx} {Ex : St → Value → Hp → Prop}
def DefE (P : Program) (w : World) (K : PySem.W.Frag) (mg : Str → Option Value) (base : Heap) (k : Nat) (x : Str) (ps : List Str) (sp : Sp) : Prop :=
  ∃ f fd, FnOk P w K mg base (CXE P w) k f fd ps sp ∧ mg x = some (.ref f) ∧ PySem.W.keepIn K (.ref f) = true ∧ Binds K fd ps []
theorem DefE.of {P : Program} {w : World} {K : PySem.W.Frag} {mg : Str → Option Value} {base : Heap} {k : Nat} {x qual : Str} {ps : List Str} {sp : Sp} {st : Stmt} {f : Addr} {fd : FuncData}
    (F : Fun K x qual st f fd) (m : mg x = some (.ref f)) (b : Binds K fd ps []) (ok : FnOk P w K mg base (CXE P w) k f fd ps sp) : DefE P w K mg base k x ps sp := ⟨f, fd, ok, m, F.kp, b⟩
theorem fly_call {pins : List (Addr × Obj)} {σ : St} {H : Hp} {s s' : Shared} {e : Value} {E : XK} (hex : X.ex = []) (I : Inv X pins σ H s) (hE : ∀ C H', E C none H' → Ex σ C H') (h : CXE X.prog X.w X.stack H s E e s') : FlyE X Ex e s' := by
  obtain ⟨x, C, H', rfl, os, bare, un, hok, nx, hx, ⟨oe, vs, a0, T, oT, ts, e1, c, d, v0, v1, nT, sT, hT, eT, dT, t3⟩, q⟩ := h
  have y := I.young hex nx
  have z := I.young hex sT
  exact ⟨x, C, some .none, σ, H', rfl, I.bareP.call' (ch := []) os un hok bare (fun b hb => nomatch hb), ⟨⟨y.1, hx, y.2.2⟩, oe, vs, a0, e1, c, d, v0, T, oT, ts, v1, nT, ⟨z.1, hT, z.2.2⟩, eT, dT, t3⟩, .inr (.inl rfl), hE _ _ q⟩
theorem run_fnE {k : Nat} {f : Addr} {fd : FuncData} {ps : List Str} {sp : Sp} {pins : List (Addr × Obj)} {σ : St} {H : Hp} {s : Shared} {Q : VK} {us : List Value} {vs : List V} (F : FnOk X.prog X.w X.K X.mg X.base (CXE X.prog X.w) k f fd ps sp) (hr : Room k X.A) (hb : Binds X.K fd ps [])
    (hex : X.ex = []) (I : Inv X pins σ H s) (r : Vals vs us) (h : sp vs H Q fun C _ H' => Ex σ C H') : wpAny (model X.prog X.w) X.A (call (.ref f) us) (EP (X.wish (FlyE X Ex)) pins σ Q) (FlyE X Ex) s := by
  have hl : (us ++ []).length = ps.length := by rw [List.append_nil, ← r.length]; exact F.len _ _ _ _ h
  have bt := hb s us I.kIn hl
  rw [List.append_nil] at bt
  refine wpAny_call (codeAny_mono (F.run X.A X.stack s H ⟨us, []⟩ us vs Q _ hr I.env0 bt r h) fun r s' hq => ?_)
  cases r with
  | error e => exact fly_call (E := fun C _ H' => Ex σ C H') hex I (fun _ _ z => z) hq
  | ok fl =>
    cases fl with
    | ret u =>
      obtain ⟨v, H', I', rv, q⟩ := I.after hq
      exact ⟨v, H', I'.wish _, rv, q⟩
    | next => exact False.elim hq
    | brk => exact False.elim hq
    | cont => exact False.elim hq
def tCallE (sp : Sp) (Ex : St → Value → Hp → Prop) (t : TA) : TE := fun σ H Q => t σ H fun vs H1 => sp vs H1 Q fun C _ H' => Ex σ C H'
theorem pe_defE {k k' : Nat} {x : Str} {ps : List Str} {sp : Sp} {e : Expr} {es : List Expr} {t : TA} {p pos : Pos} (D : DefE X.prog X.w X.K X.mg X.base k x ps sp) (hr : Room k' X.A) (hex : X.ex = []) (hg : Gl X x) (ha : PA (X.wish (FlyE X Ex)) (e :: es) t) (hk : k ≤ k' := by decide)
    (hdb : (x == ("__debug__" : Str)) = false := by decide) (he : starEach (e :: es) X.env = (false, eval e X.env) :: starEach es X.env := by rfl) (hpl : (backTo pos (starEach es X.env)).any (·.1) = false := by rfl) :
    PE (X.wish (FlyE X Ex)) (.Call (.Name x p) (e :: es) [] pos) (tCallE sp Ex t) := by
  obtain ⟨f, fd, F, m, kp, b⟩ := D
  intro pins s σ H Q I h
  refine wpAny_Call_Name_kw (ld_glob I hg m ?_ hdb)
  refine PySem.W.callWith_K (h₀ := X.base) I.ok.mod.kin kp (thn (ha pos pins s σ H _ I h) fun us s1 ⟨vs, H1, I1, r, q⟩ => ⟨I1.kIn, ?_⟩) he hpl
  exact run_fnE F (hr.mono hk) b hex I1.unwish r q
end
end L2
namespace L2
open PySem PySem.Spec PyProof.Rows
abbrev vErr : List Value := [.type "ValueError", .type "Exception", .type "BaseException", .type "object"]
def IsExc (K : PySem.W.Frag) (C : Addr) : Prop := PySem.W.excIn K C vErr "ValueError.__new__" = true
theorem IsExc.obj {K : PySem.W.Frag} {C : Addr} (q : IsExc K C) {h : Heap} (X : K.In h) : ∃ bm N nm qn bs hd sn sub ab col dd k0 k1 k2 k3 k5 mN,
    h.get? C = some (excClassObj nm qn C N bs bm hd sn sub ab col dd k0 k1 k2 k3 k5 "ValueError.__new__") ∧ h.Ns N mN ∧ mN "__init__" = none ∧ OwnTail h vErr bm ∧ PySem.W.mroIn K C = fun b => some ((Value.ref C :: bm).contains b) := by
  unfold IsExc PySem.W.excIn at q
  split at q
  · next dct cd sl look =>
    split at q
    · next C' tl s0 s1 s2 s3 nn s5 em es =>
      simp only [Bool.and_eq_true, beq_iff_eq, Bool.not_eq_true'] at q
      obtain ⟨⟨⟨⟨⟨e1, e2⟩, e3⟩, e4⟩, e5⟩, e6⟩ := q
      subst e1; subst e2
      have hc : PySem.W.clsIn K C' = some cd := by unfold PySem.W.clsIn; rw [look]
      have hm : PySem.W.mroIn K C' = fun b => some ((Value.ref C' :: tl).contains b) := by
        funext b
        unfold PySem.W.mroIn
        rw [hc, Option.bind_some, em]
        rfl
      obtain ⟨z1, z2, z3, z4, z5, z6, z7, z8, z9, z10, z11⟩ := cd
      dsimp only at em e3 e5 e6
      subst em; subst e3
      obtain ⟨ll⟩ := sl
      simp only at es
      subst es
      exact ⟨tl, _, _, _, _, _, _, _, _, _, _, _, _, _, _, _, _, X _ _ look, .of_isNs (PySem.W.isNs_of_in X e5), PySem.W.nsMap_none_of_in X e5 e6, PySem.W.tail_of_in X e4, hm⟩
    · cases q
  · cases q
def ExcO (x : Addr) (C : Value) : Heap → Prop := fun h => ∃ o vs, h.get? x = some o ∧ IsX o C ∧ o.data = .fields vs
section
variable {X : Cx} {Ex : St → Value → Hp → Prop}
def tRaise (C : Addr) (Ex : St → Value → Hp → Prop) (ta : TA) : TS := fun _ σ H => ta σ H fun vs H1 => vs.length ≤ sizeLine ∧ Ex σ (.ref C) H1
theorem ps_raise {x : Str} {C : Addr} {e : Expr} {es : List Expr} {ta : TA} {np cpos pos : Pos} (hc : X.calm = true) (hex : X.ex = []) (hg : Gl X x) (hm : X.mg x = some (.ref C)) (q : IsExc X.K C) (ha : PA (X.wish (FlyE X Ex)) (e :: es) ta)
    (hd : (x == ("__debug__" : Str)) = false := by decide) (he : starEach (e :: es) X.env = (false, eval e X.env) :: starEach es X.env := by rfl) (hpl : (backTo cpos (starEach es X.env)).any (·.1) = false := by rfl) :
    PS (X.wish (FlyE X Ex)) (.Raise (some (.Call (.Name x np) (e :: es) [] cpos)) none pos) (tRaise C Ex ta) := by
  intro pins s σ H D I h
  obtain ⟨bm, N, nm, qn, bs, hdd, sn, sub, ab, col, dd, k0, k1, k2, k3, k5, mN, hC, hN, hni, TL, _⟩ := q.obj I.ok.mod.kin
  refine wpAny_Raise_call_subU (C := C) (nm := nm) (q := qn) (N := N) (bs := bs) (bm := bm) (hdct := hdd) (sn := sn) (sub := sub) (ab := ab) (col := col) (dd := dd) (k0 := k0) (k1 := k1) (k2 := k2) (k3 := k3) (k5 := k5)
    PySem.F.excBase_ValueError (by decide +kernel) PySem.F.excBase_ValueError (mN := mN) (TL.hasType PySem.F.excBase_ValueError.hasBase) (I.ok.hd hc) ?_ hni (ld_glob I hg hm ⟨rfl, ?_⟩ hd)
  · show (backTo cpos (starEach (e :: es) X.env)).any (·.1) = false
    rw [he]
    show (false || (backTo cpos (starEach es X.env)).any (·.1)) = false
    rw [hpl]; rfl
  · have ha' := ha cpos pins s σ H _ I h
    rw [show (X.wish (FlyE X Ex)).env = X.env from rfl] at ha' ⊢
    rw [he] at ha' ⊢
    refine Calls.evalArgs_plain (thn ha' fun us s2 ⟨vs, H1, I2, r, z, qx⟩ => ⟨rfl, by rw [← r.length]; exact z, I2.bk _ _ hC, hN.keeps I2.bk, TL.keeps I2.bk, fun h' x' mk => ?_⟩)
    have I3 := I2.unwish.bareP
    obtain ⟨t, et, _, _⟩ := mk.there
    exact ⟨x', .ref C, none, σ, H1, rfl, I3.kept (t' := s2.toks) mk.keeps, ⟨I3.young hex mk.new, _, _, _, et, rfl, rfl, rfl, rfl⟩, .inl rfl, qx⟩
end
end L2
namespace L2
open PySem PySem.Spec PyProof.Rows
section
variable {X : Cx} {σ : St} {H : Hp} {s : Shared}
theorem Inv.track {pins : List (Addr × Obj)} {x : Addr} {φ : Heap → Prop} (I : Inv X pins σ H s) (y : Yg X H x) (hp : ∀ p ∈ pins, p.1 ≠ x) (ho : ∃ o vs, s.heap.get? x = some o ∧ o.data = .fields vs) (p : φ s.heap)
    (st : ∀ h1 h2 : Heap, φ h1 → (∀ o, h1.get? x = some o → h2.get? x = some o) → φ h2) : Inv X pins σ (upd H x (.ext φ)) s := by
  obtain ⟨o, vs, eo, ed⟩ := ho
  have nH : ∀ b u, H b = some u → b ≠ x := fun b u e z => by rw [z, y.2.1] at e; cases e
  have n0 : ∀ b u, X.s₀.heap.get? b = some u → b ≠ x := fun b u e z => by rw [z, y.1] at e; cases e
  refine ⟨I.ok, I.os, I.bare, ⟨I.base.keep, I.base.slot, fun b u e n hx => by rw [upd_ne (n0 b u e)]; exact I.base.free b u e n hx, I.base.there, fun b xs e => ?_, fun b u xs e => ?_, fun b ps e => ?_⟩, I.loc, I.cell, ?_, fun n c e => ?_, fun q hq => ?_, fun b u e => ?_, I.len⟩
  · have := I.base.tups b xs e; rw [upd_ne (nH b _ this)]; exact this
  · have := I.base.frzs b u xs e; rw [upd_ne (nH b _ this)]; exact this
  · obtain ⟨m, this⟩ := I.base.tbls b ps e; exact ⟨m, by rw [upd_ne (nH b _ this)]; exact this⟩
  · obtain ⟨m, ⟨ol, _, _, el, dl, _⟩, _⟩ := I.loc
    rw [upd_ne fun z => by rw [z, eo] at el; cases el; rw [ed] at dl; cases dl]; exact I.free
  · obtain ⟨v, oc, ec, dc⟩ := I.cell n c e
    rw [upd_ne fun z => by rw [z, eo] at ec; cases ec; rw [ed] at dc; cases dc]; exact I.freeC n c e
  · obtain ⟨q1, q2, q3⟩ := I.pin q hq
    have : q.1 ≠ x := (List.mem_append.mp hq).elim (y.2.2 q) (hp q)
    exact ⟨q1, by rw [upd_ne this]; exact q2, q3⟩
  · by_cases hb : b = x
    · subst hb
      rw [upd_same] at e; cases e
      exact ⟨p, ⟨o, eo⟩, st⟩
    · rw [upd_ne hb] at e
      exact (I.hok b u e).stay (fun _ _ _ q => q) (fun c q => by rw [upd_ne (nH c _ q)]; exact q) fun c xs q => by rw [upd_ne (nH c _ q)]; exact q
end
section
variable {M : Model} {A : Around} {E : Value → Shared → Prop} {nm q nm' q' : Str} {C N C' N' : Addr} {bs bm bs' bm' : List Value} {hd hd' : Bool} {sn sn' : List Str} {sub sub' : List Value} {ab ab' : Bool} {col col' : Option Bool} {dd dd' : Option Addr}
  {k0 k1 k2 k3 k5 l0 l1 l2 l3 l5 : Option Value} {newId newId' : String}
theorem matches_own {h : Heap} {g : Array GenState} {d : Drawn} {t : Nat} {os : OsState} {e : Addr} {oe : Obj} {Q : Bool → Shared → Prop} (hC : h.get? C = some (excClassObj nm q C N bs bm hd sn sub ab col dd k0 k1 k2 k3 k5 newId))
    (hF : h.get? C' = some (excClassObj nm' q' C' N' bs' bm' hd' sn' sub' ab' col' dd' l0 l1 l2 l3 l5 newId')) (he : h.get? e = some oe) (hcls : oe.cls = .ref C) (hb : bm'.contains (.type "BaseException") = true)
    (hs : (Value.ref C :: bm).contains (.ref C') = true) (hq : Q true ⟨h, g, d, t, os⟩) : wpAny M A (excMatches (.ref e) (.ref C')) Q E ⟨h, g, d, t, os⟩ := by
  have hB : (Value.ref C' :: bm').contains (.type "BaseException") = true := by rw [List.contains_cons, hb, Bool.or_true]
  have f := tc_notTuple
  unfold excMatches
  repeat (first | (with_reducible refine wpAny_loadPart_at he ?_; rw [hcls]) | with_reducible refine wpAny_loadPart_at hF ?_ | (with_reducible refine wpAny_isSubtype_exc hF ?_; rw [hB]) | (with_reducible refine wpAny_isSubtype_exc hC ?_; rw [hs]) | wp_step)
  exact hq
end
def tTry (K : PySem.W.Frag) (i : Nat) (CF : Addr) (tb : (St → Value → Hp → Prop) → TS) (ts : TS) : TS := fun D σ H => ∃ Ex : St → Value → Hp → Prop, tb Ex D σ H ∧ ∀ σ' C H', Ex σ' C H' →
  ∃ A, C = .ref A ∧ IsExc K A ∧ PySem.W.mroIn K A (.ref CF) = some true ∧ ∀ x, H' x = none → ts { D with nx := fun σ2 H2 => D.nx (σ2.set i none) H2, bk := fun σ2 H2 => D.bk (σ2.set i none) H2, ct := fun σ2 H2 => D.ct (σ2.set i none) H2 } (σ'.set i (some (.ref x))) (upd H' x (.ext (ExcO x C)))
section
variable {X : Cx}
theorem Inv.pn {pins : List (Addr × Obj)} {σ : St} {H : Hp} {s : Shared} (I : Inv X pins σ H s) : Inv { X with pn := X.pn ++ pins } [] σ H s :=
  ⟨⟨I.ok.mod, I.ok.kind, I.ok.glob, I.ok.blt, I.ok.above, I.ok.inj, I.ok.has, I.ok.cab, I.ok.hd, I.ok.frames, I.ok.stk, I.ok.exf, I.ok.bs, I.ok.bsz, I.ok.noex, I.ok.exfs, I.ok.funs, I.ok.frf⟩, I.os, I.bare, I.base, I.loc, I.cell, I.free, I.freeC, fun p hp => I.pin p (by simpa using hp), I.hok, I.len⟩
theorem Inv.unpn {pins : List (Addr × Obj)} {σ : St} {H : Hp} {s : Shared} (I : Inv { X with pn := X.pn ++ pins } [] σ H s) : Inv X pins σ H s :=
  ⟨⟨I.ok.mod, I.ok.kind, I.ok.glob, I.ok.blt, I.ok.above, I.ok.inj, I.ok.has, I.ok.cab, I.ok.hd, I.ok.frames, I.ok.stk, I.ok.exf, I.ok.bs, I.ok.bsz, I.ok.noex, I.ok.exfs, I.ok.funs, I.ok.frf⟩, I.os, I.bare, I.base, I.loc, I.cell, I.free, I.freeC, fun p hp => I.pin p (by simpa using hp), I.hok, I.len⟩
abbrev Cx.held (X : Cx) (x : Addr) : Cx := { X with A := X.A.mark (some (.ref x)), calm := false }
theorem Inv.held {pins : List (Addr × Obj)} {σ : St} {H : Hp} {s : Shared} (I : Inv X pins σ H s) (x : Addr) : Inv (X.held x) pins σ H s :=
  ⟨⟨I.ok.mod, I.ok.kind, I.ok.glob, I.ok.blt, I.ok.above, I.ok.inj, I.ok.has, I.ok.cab, fun z => (Bool.false_ne_true z).elim, I.ok.frames, I.ok.stk, I.ok.exf, I.ok.bs, I.ok.bsz, I.ok.noex, I.ok.exfs, I.ok.funs, I.ok.frf⟩, I.os, I.bare, I.base, I.loc, I.cell, I.free, I.freeC, I.pin, I.hok, I.len⟩
theorem Inv.unheld {pins : List (Addr × Obj)} {σ : St} {H : Hp} {s : Shared} {x : Addr} (hd : X.calm = true → X.A.handled = none) (hf : X.A.frames = some X.stack) (I : Inv (X.held x) pins σ H s) : Inv X pins σ H s :=
  ⟨⟨I.ok.mod, I.ok.kind, I.ok.glob, I.ok.blt, I.ok.above, I.ok.inj, I.ok.has, I.ok.cab, hd, hf, I.ok.stk, I.ok.exf, I.ok.bs, I.ok.bsz, I.ok.noex, I.ok.exfs, I.ok.funs, I.ok.frf⟩, I.os, I.bare, I.base, I.loc, I.cell, I.free, I.freeC, I.pin, I.hok, I.len⟩
theorem unbind_ok {M : Model} {A : Around} {E : Value → Shared → Prop} {pins : List (Addr × Obj)} {σ : St} {H : Hp} {s : Shared} {i : Nat} {n : Str} {pos : Pos} {Q : Unit → Shared → Prop} (I : Inv X pins σ H s) (hN : X.N.Nodup) (hi : X.N[i]? = some n) (hl : X.env.scope.names.lookup n = some .local)
    (k : ∀ s', Inv X pins (σ.set i none) H s' → Q () s') : wpAny M A (do bindName X.env n .none; unbindBehindTheSuite X.env n pos) Q E s := by
  obtain ⟨m, hn, hlk⟩ := id I.loc
  have hcls : (X.env.scope.kind == .class || (X.env.scope.kind == .module && X.env.locals != X.env.globals)) = false := by rw [I.ok.kind]; rfl
  have hiσ : i < σ.length := by rw [I.len]; exact (List.getElem?_eq_some_iff.mp hi).1
  refine wpAny_nameGoes_keeps hl hn hcls fun h' v hn' sb => k _ ?_
  have ne0 : ∀ b o, X.s₀.heap.get? b = some o → b ≠ X.env.locals := fun b o e => Nat.ne_of_lt (Nat.lt_of_lt_of_le (Heap.lt_size e) I.ok.above)
  refine ⟨I.ok, I.os, I.bare, ⟨fun b o e n hb hx => ?_, fun b o e n hb hx => ?_, I.base.free, fun b o e hx => ?_, I.base.tups, I.base.frzs, I.base.tbls⟩, ⟨_, hn', fun j y v' e1 e2 e3 => ?_⟩, fun y c e => ?_, I.free, I.freeC, fun p hp => ?_, fun b u e => ?_, by simpa using I.len⟩
  · exact (sb.2 b (ne0 b o e)).trans (I.base.keep b o e n hb hx)
  · obtain ⟨sl, e1⟩ := I.base.slot b o e n hb hx
    exact ⟨sl, (sb.2 b (ne0 b o e)).trans e1⟩
  · obtain ⟨o', e1⟩ := I.base.there b o e hx
    exact ⟨o', (sb.2 b (ne0 b o e)).trans e1⟩
  · by_cases hj : i = j
    · subst hj
      rw [List.getElem?_set_self hiσ] at e2
      cases e2
    · rw [List.getElem?_set_ne hj] at e2
      obtain ⟨u', r', q⟩ := hlk j y v' e1 e2 e3
      refine ⟨u', r', ?_⟩
      have hne : y ≠ n := fun e => hj (nodup_ix hN hi (e ▸ e1))
      rcases q with ⟨k1, e⟩ | ⟨k1, c, e, z⟩
      · exact .inl ⟨k1, by simp [hne, e]⟩
      · exact .inr ⟨k1, c, e, z.sameBut sb (I.cne y c e)⟩
  · obtain ⟨w', z⟩ := I.cell y c e
    exact ⟨w', z.sameBut sb (I.cne y c e)⟩
  · obtain ⟨e, n', ne, nf, d⟩ := I.pin p hp
    exact ⟨(sb.2 p.1 ne).trans e, n', ne, nf, d⟩
  · refine (I.hok b u e).stay (fun c v' hc q => (sb.2 c ?_).trans q) (fun _ q => q) fun _ _ q => q
    intro z
    have fr := I.free
    rcases hc with hc | hc
    · rw [← z, hc, e] at fr; cases fr
    · rw [← z, hc] at fr; cases fr
theorem ps_tryE {body : List Stmt} {xn n : Str} {b₀ : Stmt} {suite : List Stmt} {np hpos pos : Pos} {tb : (St → Value → Hp → Prop) → TS} {ts : TS} {i : Nat} {CF : Addr} (B : Body X) (hN : X.N.Nodup) (hi : X.N[i]? = some n) (hl : X.env.scope.names.lookup n = some .local)
    (hg : Gl X xn) (hm : X.mg xn = some (.ref CF)) (qF : IsExc X.K CF) (hb : ∀ pn Ex, PSs (({ X with pn := pn } : Cx).wish (FlyE { X with pn := pn } Ex)) body (tb Ex))
    (hs : ∀ x, PSs ((X.held x).nox) (b₀ :: suite) ts) (hd : (xn == ("__debug__" : Str)) = false := by decide) :
    PS X (.Try body [.ExceptHandler (some (.Name xn np)) (some n) (b₀ :: suite) hpos] [] [] pos) (tTry X.K i CF tb ts) := by
  intro pins s σ H D I h
  obtain ⟨Ex, h1, h2⟩ := h
  refine wpAny_Try_except (wpAny_mono (hb _ Ex [] s σ H D (I.pn.wish _) h1) (fun f s1 q => ?_) fun e s1 q => ?_)
  · cases f with
    | next => obtain ⟨σ', H', J, z⟩ := q; exact wpAny_execs_nil ⟨σ', H', J.unwish.unpn, z⟩
    | brk => obtain ⟨σ', H', J, z⟩ := q; exact ⟨σ', H', J.unwish.unpn, z⟩
    | cont => obtain ⟨σ', H', J, z⟩ := q; exact ⟨σ', H', J.unwish.unpn, z⟩
    | ret u => obtain ⟨v, σ', H', J, r, z⟩ := q; exact ⟨v, σ', H', J.unwish.unpn, r, z⟩
  · obtain ⟨x, C, fl, σ', H', rfl, J, F, hfl, q⟩ := q
    obtain ⟨A, rfl, qA, hsub, k⟩ := h2 σ' C H' q
    refine note_ok (X := { X with pn := X.pn ++ pins }) (L := X.env.locals) J B.ex J.ok.frames B.st B.fr F hfl fun s2 J2 F2 => flight_ok J2 F2 fun s3 J3 F3 => ?_
    obtain ⟨bm, N, nm, qn, bs, hdd, sn, sub, ab, col, dd, k0, k1, k2, k3, k5, mN, hC, hNs, hni, TL, hmro⟩ := qA.obj J3.kIn
    obtain ⟨bm', N', nm', qn', bs', hdd', sn', sub', ab', col', dd', l0, l1, l2, l3, l5, mN', hF, _, _, TF, _⟩ := qF.obj J3.kIn
    obtain ⟨y, oe, vs, a0, e1, c1, _⟩ := id F3
    have cont : (Value.ref A :: bm).contains (.ref CF) = true := by rw [hmro] at hsub; exact Option.some.inj hsub
    refine wpAny_handleBy_cons (codeAny_handlers_test (ld_glob (X := X.held x) (J3.unpn.held x) hg hm ?_ hd)) (by intro z; cases z)
    obtain ⟨hp3, g3, d3, t3, os3⟩ := s3
    refine matches_own hC hF e1 c1 (TF.hasType PySem.F.excBase_ValueError.hasBase) cont (codeAny_handlers_suite_as ?_)
    refine flight_ok J3 F3 fun s4 J4 F4 => ?_
    obtain ⟨y4, oe4, vs4, a4, e4, c4, d4, _⟩ := id F4
    refine store_ok2 (X := X.held x) (J4.unpn.held x) hN hi (.inl hl) (v := .ref x) rfl (fun s5 J5 hch => ?_) (.inr hl)
    have e5 : s5.heap.get? x = some oe4 := by
      obtain ⟨b, sb, hb'⟩ := hch
      refine (sb.2 x ?_).trans e4
      rintro rfl
      rcases hb' with z | z
      · obtain ⟨m, ⟨ol, _, _, el, dl, _⟩, _⟩ := J4.loc
        have el' : s4.heap.get? X.env.locals = some ol := el
        rw [← z, e4] at el'; cases el'; rw [d4] at dl; cases dl
      · obtain ⟨v, oc, ec, dc⟩ := J4.cell _ _ z
        rw [e4] at ec; cases ec; rw [d4] at dc; cases dc
    have J6 : Inv (X.held x) pins (σ'.set i (some (.ref x))) (upd H' x (.ext (ExcO x (.ref A)))) s5 :=
      J5.track ⟨y4.1, y4.2.1, fun p hp => y4.2.2 p (List.mem_append_left _ hp)⟩ (fun p hp => y4.2.2 p (List.mem_append_right _ hp)) ⟨oe4, vs4, e5, d4⟩ ⟨oe4, vs4, e5, c4, d4⟩ fun h1 h2 ⟨o, ws, z1, z2, z3⟩ kk => ⟨o, ws, kk _ z1, z2, z3⟩
    have un : ∀ {σ2 H2 s6}, Inv (X.held x) pins σ2 H2 s6 → Inv X pins σ2 H2 s6 := fun z => z.unheld I.ok.hd I.ok.frames
    refine wpAny_mono (hs x pins s5 _ _ _ (J6.wish _) (k x y4.2.1)) (fun f s6 z => ?_) fun _ _ z => z.elim
    cases f with
    | next => obtain ⟨σ2, H2, J7, z⟩ := z; exact unbind_ok (un J7.unwish) hN hi hl fun s7 J8 => ⟨_, H2, J8, z⟩
    | brk => obtain ⟨σ2, H2, J7, z⟩ := z; exact unbind_ok (un J7.unwish) hN hi hl fun s7 J8 => ⟨_, H2, J8, z⟩
    | cont => obtain ⟨σ2, H2, J7, z⟩ := z; exact unbind_ok (un J7.unwish) hN hi hl fun s7 J8 => ⟨_, H2, J8, z⟩
    | ret u => obtain ⟨v, σ2, H2, J7, r, z⟩ := z; exact unbind_ok (un J7.unwish) hN hi hl fun s7 J8 => ⟨v, _, H2, J8, r, z⟩
end
end L2
namespace L2
open PySem PySem.Spec PyProof.Rows PySem.W Builtin Builtin.ObjectAttr Builtin.Getset_descriptor
structure ExcC (K : Frag) (A : Addr) : Prop where
  ga : findIn K (.ref A) "__getattribute__" = some (some (.builtin "BaseException.__getattribute__"))
  gn : findIn K (.ref A) "__getattr__" = some none
  cl : findIn K (.ref A) "__class__" = some (some (.builtin "object.__class__"))
  cg : specialIn K (.builtin "object.__class__") "__get__" = some (some (.builtin "getset_descriptor.__get__"))
  ck : takesIn K (.builtin "object.__class__") = some true
  co : mroIn K A (.type "object") = some true
  cb : mroIn K A (.type "BaseException") = some true
  is : (clsIn K A).isSome = true
section
variable {prog : Program} {w : World} {B : Around} {E : Value → Shared → Prop} {K : Frag} {x A : Addr} {o : Obj}
theorem exc_ty {M : Model} {h : Heap} (hx : h.get? x = some o) (hc : o.cls = .ref A) : Looks M h (typeOf (.ref x)) (.ref A) := by rw [← hc]; exact (Looks.ld hx).andThen .now
theorem exc_isType {M : Model} {h : Heap} (X : K.In h) (q : (clsIn K A).isSome = true) : Looks M h (isType (.ref A)) true := by
  unfold clsIn at q
  split at q
  · next look =>
    intro A' Q' E' s' k z
    unfold isType loadHead
    exact wpAny_bind (wpAny_loadPart (k _ _ (X _ _ look)) (wpAny_pure z))
  · cases q
set_option maxHeartbeats 1000000 in
theorem exc_get {h : Heap} {g d t os} {R : Result → Shared → Prop} {tp : Value} (X : K.In h) (hx : h.get? x = some o) (hc : o.cls = .ref A) (hm : mroIn K A (.type "object") = some true) (z : R (.ok (.ret (.ref A))) ⟨h, g, d, t, os⟩) :
    codeAny (model prog w) B (.call (.builtin "getset_descriptor.__get__") ⟨[.builtin "object.__class__", .ref x, tp], []⟩) R ⟨h, g, d, t, os⟩ := by
  have e0 := exc_ty (M := model prog w) hx hc
  have e1 := looks_mroIn (M := model prog w) X hm
  have a1 := dga_obj (.builtin "object.__class__") tp x
  have a2 := KF.owner_class
  refine codeAny_call_builtin KF.slot_gs.plain KF.entry_gs ?_
  refine KF.slot_gs.check _ _ _ _ _ _ _ _ KF.type_class (KF.args_gs _ _ _) ?_
  have nm : ".".intercalate ("object.__class__".cutAt '.').dropLast = "object" := congrArg Prod.fst a2
  wp_walk using e0.at
  rw [nm]
  wp_walk using e1.at
  constructor
  · exact Code.quiet_builtin _ (by decide +kernel)
  · apply codeAny_builtin KF.entry_class
    wp_walk using e0.at
    exact z
theorem exc_entry {h : Heap} {g d t os} {tk : Tok} {Q : Fin → Shared → Prop} (X : K.In h) (C : ExcC K A) (hx : h.get? x = some o) (hc : o.cls = .ref A) (z : Q (.done (.ret (.ref A))) ⟨h, g, d, t, os⟩) :
    wpAny (model prog w) B (Builtin.«object.__getattribute__» ⟨[.ref x, .str "__class__" tk], []⟩) Q E ⟨h, g, d, t, os⟩ := by
  have e0 := exc_ty (M := model prog w) hx hc
  have e1 := looks_findIn (M := model prog w) X C.cl
  have e2 := looks_specialIn (M := model prog w) X C.cg
  have e3 := looks_takesIn (M := model prog w) X C.ck
  unfold Builtin.«object.__getattribute__»
  repeat lk
  refine wpAny_run (h := none) (exc_get X hx hc C.co ?_)
  exact wpAny_pure (wpAny_pure z)
theorem exc_by {h : Heap} {g d t os} {tk : Tok} {Q : Value → Shared → Prop} (X : K.In h) (C : ExcC K A) (hx : h.get? x = some o) (hc : o.cls = .ref A) (z : Q (.ref A) ⟨h, g, d, t, os⟩) :
    wpAny (model prog w) B (getAttrBy (.ref x) (.str "__class__" tk) false false) Q E ⟨h, g, d, t, os⟩ := by
  have e0 := exc_ty (M := model prog w) hx hc
  have e1 := looks_findIn (M := model prog w) X C.ga
  have e2 := looks_findIn (M := model prog w) X C.gn
  have e3 := looks_mroIn (M := model prog w) X C.cb
  have f3 := PySem.F.excAttr_ValueError.ga.bind (.ref x)
  unfold getAttrBy
  refine wpAny_holding (wpAny_bind (e0.at (wpAny_bind (e1.at ?_))))
  show wpAny _ _ (getAttrByItsOwn _ _ _ _ _ _) _ _ _
  unfold getAttrByItsOwn hookBefore
  refine wpAny_bind ?_
  rw [if_pos (show onTheHeap (Value.ref A) = true from rfl)]
  refine e2.at (wpAny_bind (wpAny_attempt (wpAny_holding ?_)))
  unfold callGetattribute boundAndCalled
  rw [if_neg (by decide), f3]
  refine wpAny_bind (wpAny_pure (wpAny_call (codeAny_call_builtin PySem.F.excAttr_ValueError.ga.plain F.entry_bexc_ga ?_)))
  have kk : builtinKind "BaseException.__getattribute__" = some .slot ∧ splitId "BaseException.__getattribute__" = some ("BaseException", "__getattribute__") := ⟨by decide +kernel, by decide +kernel⟩
  have e4 := PySem.F.args_bexc_ga (.ref x) (.str "__class__" tk)
  simp only [checkBuiltinCall, kk.1, kk.2]; unfold isInstance
  refine wpAny_bind (wpAny_bind (e0.at (e3.at ?_)))
  rw [if_neg (by decide)]
  refine wpAny_of_eq (show _ = pure () from e4) (exc_entry X C hx hc ?_)
  exact wpAny_pure z
theorem exc_class {s : Shared} {Q : Option Value → Shared → Prop} (X : K.In s.heap) (C : ExcC K A) (hx : s.heap.get? x = some o) (hc : o.cls = .ref A) (z : Q (some (.ref A)) { s with toks := s.toks + 1 }) : wpAny (model prog w) B (getAttr? (.ref x) "__class__") Q E s := by
  obtain ⟨h, g, d, t, os⟩ := s
  unfold getAttr? getAttrBy?
  refine wpAny_bind (wpAny_mkText (wpAny_bind (wpAny_attempt (exc_by X C hx hc ?_))))
  exact wpAny_pure z
theorem kitx_exc (C : ExcC K A) : KitX K (.ref x) (.ref A) (ExcO x (.ref A)) where
  ty := fun M h _ ⟨o, vs, hx, hc, _⟩ => exc_ty hx hc
  it := fun M h X _ => exc_isType X C.is
  ne := fun h tp dd its n sl X htp => by
    refine Bool.eq_false_iff.mpr fun q => ?_
    have e : A = tp := Value.ref.inj (beq_iff_eq.mp q)
    subst e
    have q := C.is
    unfold clsIn at q
    split at q
    · next look => have z := (X _ _ look).symm.trans htp; cases z
    · cases q
  ca := fun X ⟨o, vs, hx, hc, _⟩ k => exc_class X C hx hc k
end
section
variable {X : Cx}
def rIsE (K : Frag) : List V → Hp → VK → Prop := fun xs H Q => ∃ a A c cv b, xs = [.ref a, c] ∧ RelV c cv ∧ (∀ u, RelV c u → u = cv) ∧ H a = some (.ext (ExcO a (.ref A))) ∧ ExcC K A ∧ kitOne K (.ref A) cv = some b ∧ Q (.bl b) H
theorem call_isE : CallR X (.builtin "isinstance") (rIsE X.K) := by
  intro pins s σ H xs us Q I r h
  obtain ⟨a, A, c, cv, b, rfl, _, hu, ha, C, e, q⟩ := h
  obtain ⟨u, u', rfl, rx, rc⟩ := vals2 r
  obtain rfl := hu u' rc
  cases (show u = Value.ref a from rx)
  obtain ⟨p, _, _⟩ := I.hok a _ ha
  exact kia_one (kitx_exc C) I.kIn p e (fun z => nomatch z) fun tk => ⟨.bl b, H, I.tok _, rfl, q⟩
theorem cIsE {K : Frag} (h : X.K = K) : CallR X (.builtin "isinstance") (rIsE K) := by subst h; exact call_isE
end
end L2
namespace L2
open PySem PySem.Spec PyProof.Rows
section
variable {X : Cx}
theorem count_eqU {x : V} : ∀ {xs : List V} {us : List Value}, Vals xs us → xs.all flatV = true → us.countP (eqU x) = xs.countP fun y => eqV y x
  | _, _, .nil, _ => rfl
  | y :: xs, u :: us, .cons r t, h => by
    rw [List.all_cons, Bool.and_eq_true] at h
    rw [List.countP_cons, List.countP_cons, count_eqU t h.2, eqU_of r h.1]
def rCount (K : PySem.W.Frag) : V → List V → Hp → VK → Prop := fun x vs H Q => ∃ p xs y, x = .ref p ∧ vs = [y] ∧ SqL K H p xs ∧ flatV y = true ∧ xs.all flatV = true ∧ Q (.int (xs.countP fun z => eqV z y : Nat)) H
theorem mt_count : MtM X "list.count" (rCount X.K) := by
  intro pins s σ H x vs v us Q I rx rv h
  obtain ⟨p, xs, y, rfl, rfl, hq, fy, fs, q⟩ := h
  cases rx
  obtain ⟨u, rfl, ry⟩ := rv.one
  obtain ⟨its, r, ⟨ob, n, e, c, dn, d⟩, hz⟩ := I.list hq
  obtain ⟨oc, od, odt, osl⟩ := ob
  dsimp only at c dn d
  subst c dn d
  refine call_meets PySem.F.slot_list_count ⟨_, e, rfl⟩ PySem.F.entry_list_count (PySem.F.args_list_count_2 _ _) (SeqAt.list_countAt p its.toArray n _ _ u (eqU y)) ⟨e, fun w hw => mem_eqAt ry fy r fs w (by simpa using hw), ?_⟩
  exact ⟨.int _, H, I.tok _, ⟨_, rfl⟩, by rw [show its.toArray.toList = its from rfl, count_eqU r fs]; exact q⟩
theorem mCount {K : PySem.W.Frag} (h : X.K = K) : MtM X "list.count" (rCount K) := by subst h; exact mt_count
end
def Big (m : Int) (es : List (Int × Int)) : Prop := m < 1 ∨ 20 < m ∨ 40 < (es.length : Int)
instance (m : Int) (es : List (Int × Int)) : Decidable (Big m es) := by unfold Big; infer_instance
instance (es : List (Int × Int)) (m : Int) : Decidable (EndsIn es m) := by unfold EndsIn; infer_instance
end L2
namespace L2
open PySem PySem.Spec PyProof.Rows
section
variable {K : PySem.W.Frag} {H : Hp}
theorem Pairs.get : ∀ {xs : List V} {es : List (Int × Int)} {i : Nat}, Pairs K H xs es → i < es.length → ∃ r e, xs[i]? = some (.ref r) ∧ SqT K H r [.int e.1, .int e.2] ∧ es[i]? = some e ∧ e ∈ es
  | _, _, _, .nil, h => absurd h (Nat.not_lt_zero _)
  | _, _, 0, .cons ⟨r, e, q⟩ _, _ => ⟨r, _, by rw [e]; rfl, q, rfl, List.mem_cons_self⟩
  | _, _, i + 1, .cons _ t, h => by
    obtain ⟨r, e, h1, h2, h3, h4⟩ := Pairs.get (i := i) t (by simpa using h)
    exact ⟨r, e, by simpa using h1, h2, by simpa using h3, List.mem_cons_of_mem _ h4⟩
theorem Pairs.append : ∀ {xs ys : List V} {es fs : List (Int × Int)}, Pairs K H xs es → Pairs K H ys fs → Pairs K H (xs ++ ys) (es ++ fs)
  | _, _, _, _, .nil, s => s
  | _, _, _, _, .cons r t, s => .cons r (Pairs.append t s)
theorem Pairs.set {r : Addr} {e : Int × Int} (q : SqT K H r [.int e.1, .int e.2]) : ∀ {xs : List V} {es : List (Int × Int)} (i : Nat), Pairs K H xs es → Pairs K H (xs.set i (.ref r)) (es.set i e)
  | _, _, _, .nil => .nil
  | _, _, 0, .cons _ t => .cons ⟨r, rfl, q⟩ t
  | _, _, i + 1, .cons p t => .cons p (Pairs.set q i t)
theorem Pairs.rep {r : Addr} {e : Int × Int} (q : SqT K H r [.int e.1, .int e.2]) : ∀ n : Nat, Pairs K H (List.replicate n [V.ref r]).flatten (List.replicate n e)
  | 0 => .nil
  | n + 1 => by
    rw [List.replicate_succ, List.replicate_succ, List.flatten_cons]
    exact .cons ⟨r, rfl, q⟩ (Pairs.rep q n)
theorem ixN_nat {n : Nat} {i : Int} (h0 : 0 ≤ i) (h : i < (n : Int)) : ixN n i = some i.toNat := by
  unfold ixN; rw [if_pos h0, if_pos h]
theorem atI_int {α : Type} {xs : List α} {i : Int} {v : α} (h0 : 0 ≤ i) (h : xs[i.toNat]? = some v) : atI xs i = some v := by
  have := atI_nat h
  rwa [Int.toNat_of_nonneg h0] at this
end
end L2
namespace L2
open PySem PySem.Spec PyProof.Rows
section
variable {prog : Program} {w : World} {A : Around} {E : Value → Shared → Prop} {s : Shared}
set_option maxHeartbeats 2000000 in
theorem stepT {it l : Addr} {i : Nat} {items : Array Value} {x : Value} {c d : Option Addr} {sl sl2 : Array (Option Value)} {n : Nat} {P : Fin → Shared → Prop} (hit : s.heap.get? it = some { cls := .type "tuple_iterator", dict := c, data := .fields #[.ref l, .int i 0], slots := sl }) (hl : s.heap.get? l = some { cls := .type "tuple", dict := d, data := .seq items n, slots := sl2 }) (hx : items[i]? = some x)
    (hP : ∀ h', h'.get? it = some { cls := .type "tuple_iterator", dict := c, data := .fields #[.ref l, .int (i + 1 : Nat) 0], slots := sl } → Heap.SameBut it s.heap h' → P (.done (.ret x)) { s with heap := h' }) :
    wpAny (model prog w) A (Builtin.«tuple_iterator.__next__» ⟨[.ref it], []⟩) P E s := by
  obtain ⟨hp, g, dr, tk, os⟩ := s
  unfold Builtin.«tuple_iterator.__next__»
  wp_walk using AutoSeq1.wpAny_loadPart' hit, AutoSeq1.wpAny_loadPart' hl
  rw [Int.toNat_natCast, hx]
  wp_walk
  have up := Heap.get?_update_self (Obj.mapFields fun v => v.setIfInBounds 1 (rawInt ((i : Int) + 1))) hit rfl
  exact hP _ up (Heap.SameBut.update ..)
set_option maxHeartbeats 2000000 in
theorem stopT {it l : Addr} {i : Nat} {items : Array Value} {c d : Option Addr} {sl sl2 : Array (Option Value)} {n : Nat} {P : Fin → Shared → Prop} (hh : A.handled = none) (hit : s.heap.get? it = some { cls := .type "tuple_iterator", dict := c, data := .fields #[.ref l, .int i 0], slots := sl }) (hl : s.heap.get? l = some { cls := .type "tuple", dict := d, data := .seq items n, slots := sl2 }) (hx : items[i]? = none)
    (hE : ∀ h' e, Heap.ExtBut it s.heap h' → (∃ o, h'.get? e = some o ∧ o.cls = .type "StopIteration") → E (.ref e) { s with heap := h' }) :
    wpAny (model prog w) A (Builtin.«tuple_iterator.__next__» ⟨[.ref it], []⟩) P E s := by
  obtain ⟨hp, g, dr, tk, os⟩ := s
  unfold Builtin.«tuple_iterator.__next__»
  wp_walk using AutoSeq1.wpAny_loadPart' hit, AutoSeq1.wpAny_loadPart' hl
  rw [Int.toNat_natCast, hx]
  wp_walk
  refine wpAny_raiseNew_none hh (hE _ _ ?_ ⟨_, Heap.get?_push_size _ rfl, rfl⟩)
  have one := Heap.SameBut.update (h := hp) (a := it) (f := Obj.mapFields fun v => v.setIfInBounds 0 Value.none)
  exact (one.extBut.push _).push _
theorem nextT_item {it l : Addr} {i : Nat} {items : Array Value} {x : Value} {Q : Value → Shared → Prop} (hit : s.heap.IsTupleIter it l i) (hl : s.heap.IsTuple l items) (hx : items[i]? = some x) (hQ : ∀ h', h'.IsTupleIter it l (i + 1) → Heap.SameBut it s.heap h' → Q x { s with heap := h' }) : wpAny (model prog w) A (Builtin.SmallTypes.nextOf (.ref it)) Q E s := by
  have ty := hit.typeIs
  obtain ⟨⟨_, c, _, sl⟩, ho, rfl, rfl⟩ := hit
  obtain ⟨⟨_, d, _, sl2⟩, hol, rfl, n, rfl⟩ := hl
  have walked := wpAny_call_entry (prog := prog) (w := w) (A := A) (E := E) F.slot_tuple_iterator_next ty F.entry_tuple_iterator_next (stepT ho hol hx fun h' e sb => ⟨x, rfl, hQ h' ⟨_, e, rfl, rfl⟩ sb⟩) (F.args_tuple_iterator_next_1 _)
  unfold Builtin.SmallTypes.nextOf
  exact wpAny_bind (wpAny_callSpecial?_slot ty F.slot_tuple_iterator_next (wpAny_mono walked (fun v s' q => wpAny_pure q) fun _ _ z => z))
theorem nextT_end {it l : Addr} {i : Nat} {items : Array Value} {Q : Value → Shared → Prop} (hh : A.handled = none) (hit : s.heap.IsTupleIter it l i) (hl : s.heap.IsTuple l items) (hx : items[i]? = none) (hE : ∀ h' e, Heap.ExtBut it s.heap h' → (∃ o, h'.get? e = some o ∧ o.cls = .type "StopIteration") → E (.ref e) { s with heap := h' }) : wpAny (model prog w) A (Builtin.SmallTypes.nextOf (.ref it)) Q E s := by
  have ty := hit.typeIs
  obtain ⟨⟨_, c, _, sl⟩, ho, rfl, rfl⟩ := hit
  obtain ⟨⟨_, d, _, sl2⟩, hol, rfl, n, rfl⟩ := hl
  have walked := wpAny_call_entry (prog := prog) (w := w) (A := A) (E := E) (Q := fun v s' => Q v s') F.slot_tuple_iterator_next ty F.entry_tuple_iterator_next (stopT (show A.in1.handled = none from hh) ho hol hx hE) (F.args_tuple_iterator_next_1 _)
  unfold Builtin.SmallTypes.nextOf
  exact wpAny_bind (wpAny_callSpecial?_slot ty F.slot_tuple_iterator_next (wpAny_mono walked (fun v s' q => wpAny_pure q) fun _ _ z => z))
theorem tIter_at {h h' : Heap} {it t : Addr} {i : Nat} (x : h.IsTupleIter it t i) (k : ∀ o, h.get? it = some o → h'.get? it = some o) : h'.IsTupleIter it t i := let ⟨o, ho, r⟩ := x; ⟨o, k o ho, r⟩
end
def SIt (b : Bool) (h : Heap) (it l : Addr) (i : Nat) : Prop := match b with | false => h.IsListIter it l i | true => h.IsTupleIter it l i
def SSq (b : Bool) (h : Heap) (l : Addr) (xs : Array Value) : Prop := match b with | false => h.IsList l xs | true => h.IsTuple l xs
theorem SIt.keep {b : Bool} {h h' : Heap} {it l : Addr} {i : Nat} (x : SIt b h it l i) (k : ∀ o, h.get? it = some o → h'.get? it = some o) : SIt b h' it l i := by
  cases b
  · exact Heap.IsListIter.at x k
  · exact tIter_at x k
theorem SSq.keep {b : Bool} {h h' : Heap} {l : Addr} {xs : Array Value} (x : SSq b h l xs) (k : ∀ o, h.get? l = some o → h'.get? l = some o) : SSq b h' l xs := by
  cases b
  · exact Heap.IsList.at x k
  · exact Heap.IsTuple.at x k
theorem SIt.obj {b : Bool} {h : Heap} {it l : Addr} {i : Nat} (x : SIt b h it l i) : ∃ o, h.get? it = some o ∧ ∀ v, o.data ≠ .cell v := by
  cases b
  · obtain ⟨o, e, _, d⟩ := x; exact ⟨o, e, fun v z => by rw [d] at z; cases z⟩
  · obtain ⟨o, e, _, d⟩ := x; exact ⟨o, e, fun v z => by rw [d] at z; cases z⟩
theorem SSq.live {b : Bool} {h : Heap} {l : Addr} {xs : Array Value} (x : SSq b h l xs) : ∃ o, h.get? l = some o := by
  cases b
  · obtain ⟨o, e, _⟩ := x; exact ⟨o, e⟩
  · obtain ⟨o, e, _⟩ := x; exact ⟨o, e⟩
theorem draws_src {prog : Program} {w : World} {A : Around} (hh : A.handled = none) (b : Bool) (it l : Addr) (hne : l ≠ it) (items : Array Value) : Draws prog w A it [it, l] items.size (fun i v => items[i]? = some v) (fun i h => SIt b h it l i ∧ SSq b h l items) := by
  cases b
  · exact Draws.list hh it l hne items
  · exact { live := fun _ _ st => let ⟨o, ho, _⟩ := st.1; ⟨o, ho⟩
            frame := fun _ _ _ st hk => ⟨tIter_at st.1 fun o e => hk it (by simp) o e, Heap.IsTuple.at st.2 fun o e => hk l (by simp) o e⟩
            item := fun i s Q E hi st hQ => nextT_item st.1 st.2 (x := items[i]) (by simp [hi]) fun h' hit' hs' => hQ _ h' s.toks (by simp [hi]) ⟨hit', Heap.IsTuple.extBut st.2 hs'.extBut hne⟩ hs'
            done := fun s Q E st hE => nextT_end hh st.1 st.2 (by simp) hE }
structure ZA (z TO i1 i2 : Addr) (f1 f2 : List Addr) : Prop where
  m1 : i1 ∈ f1
  m2 : i2 ∈ f2
  z1 : z ∉ f1
  z2 : z ∉ f2
  o1 : TO ∉ f1
  o2 : TO ∉ f2
  x1 : i1 ∉ f2
  x2 : i2 ∉ f1
  oz : TO ≠ z
theorem nin {a b : Addr} {l : List Addr} (h : a ∉ l) (hb : b ∈ l) : b ≠ a := fun e => h (e ▸ hb)
section
variable {prog : Program} {w : World} {A : Around} {E : Value → Shared → Prop} {s : Shared} {z TI TO i1 i2 : Addr} {f1 f2 : List Addr} {n1 n2 i : Nat} {P1 P2 : Nat → Value → Prop} {S1 S2 : Nat → Heap → Prop} {a b : Value}
end
end L2
namespace L2
open PySem PySem.Spec PyProof.Rows
def SqB (b : Bool) (K : PySem.W.Frag) (H : Hp) (a : Addr) (xs : List V) : Prop := match b with | false => SqL K H a xs | true => SqT K H a xs
theorem SqB.of {K : PySem.W.Frag} {H : Hp} {a : Addr} {xs : List V} (h : SqL K H a xs ∨ SqT K H a xs) : ∃ b, SqB b K H a xs := by
  rcases h with h | h
  · exact ⟨false, h⟩
  · exact ⟨true, h⟩
theorem SqB.or {b : Bool} {K : PySem.W.Frag} {H : Hp} {a : Addr} {xs : List V} (h : SqB b K H a xs) : SqL K H a xs ∨ SqT K H a xs := by
  cases b
  · exact .inl h
  · exact .inr h
section
variable {X : Cx} {pins : List (Addr × Obj)} {σ : St} {H : Hp} {s : Shared} {b : Bool} {a c : Addr} {xs : List V}
theorem Inv.src (I : Inv X pins σ H s) (h : SqB b X.K H a xs) : ∃ its : List Value, Vals xs its ∧ SSq b s.heap a its.toArray ∧ xs.length ≤ sizeLine := by
  cases b
  · obtain ⟨its, r, p, z⟩ := I.list h; exact ⟨its, r, p.isList, z⟩
  · obtain ⟨its, r, p, z⟩ := I.tuple h; exact ⟨its, r, p, z⟩
theorem Inv.srcNe (I : Inv X pins σ H s) (h : SqB b X.K H a xs) (f : FpOk X pins H c) : a ≠ c := by
  have known : ∀ o, X.K.lookup a = some o → a ≠ c := fun o hk e => by
    have hb := I.ok.mod.kin a o hk
    subst e
    rcases f.2.2.2.1 with z | z
    · exact I.ok.noex a o hb z
    · exact absurd (Nat.lt_of_lt_of_le (Heap.lt_size hb) (Nat.le_trans I.ok.bsz z)) (Nat.lt_irrefl _)
  have free : ∀ o, H a = some o → a ≠ c := fun o e z => by rw [z, f.1] at e; cases e
  cases b
  · rcases h with (h | ⟨o, h⟩) | ⟨o, _, _, hk, _⟩
    · exact free _ h
    · exact free _ h
    · exact known o hk
  · rcases h with (h | ⟨o, h⟩) | ⟨o, _, _, hk, _⟩
    · exact free _ h
    · exact free _ h
    · exact known o hk
theorem Inv.turnedLaid {h' : Heap} {t' : Nat} {fp : List Addr} {ys : List V} {us : List Value} (I : Inv X pins σ H s) (hf : ∀ b ∈ fp, FpOk X pins H b) (k : ∀ c o, c ∉ fp → s.heap.get? c = some o → h'.get? c = some o) (r : Vals ys us) (hz : ys.length ≤ sizeLine) (hT : IsTup h' s.heap.objs.size us.toArray) :
    Inv X pins σ (upd H s.heap.objs.size (.tup ys)) { s with heap := h', toks := t' } := by
  have hn : H s.heap.objs.size = none := I.hok.fresh (Nat.le_refl _)
  refine I.call' (ch := fp) rfl ⟨fun b o e n hb hx => k b o hx e, fun b o e n hb hx => ⟨o.slots, k b o hx e⟩, fun b o e n hx => ?_, fun b o e hx => ⟨o, k b o hx e⟩, fun b zs e => ?_, fun b o u e => ?_, fun b ps e => ⟨#[], ?_⟩⟩ (fun b u e => ?_) I.bare fun b hb => ?_
  · rw [upd_ne (Nat.ne_of_lt (Heap.lt_size e))]; exact n
  · rw [upd_ne (ne_of_none e hn)]; exact e
  · rw [upd_ne (ne_of_none e hn)]; exact e
  · rw [upd_ne (ne_of_none e hn), e]; simp
  · by_cases hb : b = s.heap.objs.size
    · subst hb; rw [upd_same] at e; cases e
      exact ⟨hz, us, r, hT⟩
    · rw [upd_ne hb] at e
      refine (I.hok b u e).stay (fun c v hc q => k c v (fun z => ?_) q) (fun c q => by rw [upd_ne (ne_of_none q hn)]; exact q) fun c zs q => by rw [upd_ne (ne_of_none q hn)]; exact q
      have z' := (hf c z).1
      rcases hc with hc | hc
      · rw [hc, e] at z'; cases z'
      · rw [hc] at z'; cases z'
  · obtain ⟨f0, f1, f2, f3, f4, f5⟩ := hf b hb
    exact ⟨f3, f1, f4, f5⟩
theorem Inv.turnedAll {h' : Heap} {t' : Nat} {fp : List Addr} (I : Inv X pins σ H s) (hf : ∀ b ∈ fp, FpOk X pins H b) (k : ∀ c o, c ∉ fp → s.heap.get? c = some o → h'.get? c = some o) : Inv X pins σ H { s with heap := h', toks := t' } := by
  refine I.call' (ch := fp) rfl ⟨fun b o e n hb hx => k b o hx e, fun b o e n hb hx => ⟨o.slots, k b o hx e⟩, fun b o e n hx => n, fun b o e hx => ⟨o, k b o hx e⟩, fun b zs e => e, fun b o u e => e, fun b ps e => ⟨#[], by rw [e]; simp⟩⟩ (fun b u e => ?_) I.bare fun b hb => ?_
  · refine (I.hok b u e).stay (fun c v hc q => k c v (fun z => ?_) q) (fun c q => q) fun c zs q => q
    have z' := (hf c z).1
    rcases hc with hc | hc
    · rw [hc, e] at z'; cases z'
    · rw [hc] at z'; cases z'
  · obtain ⟨f0, f1, f2, f3, f4, f5⟩ := hf b hb
    exact ⟨f3, f1, f4, f5⟩
end
section
variable {prog : Program} {w : World} {A : Around} {E : Value → Shared → Prop} {s : Shared}
end
section
variable {prog : Program} {w : World} {A : Around} {E : Value → Shared → Prop} {s : Shared}
end
theorem getD_val {xs : List V} {its : List Value} {i : Nat} {u : Value} (r : Vals xs its) (e : its.toArray[i]? = some u) : RelV (xs.getD i .non) u := by
  obtain ⟨x, h1, h2⟩ := r.tog (i := i) (u := u) (by simpa using e)
  rw [List.getD_eq_getElem?_getD, h1]; exact h2
structure ItP (J : It) (n : Nat) (val : Nat → List V) (C : Hp → Prop) : Prop where
  go : ∀ i H, C H → i < n → J.go i H
  yld : ∀ i H x H', C H → i < n → J.yld i H x H' → ∃ p, x = .ref p ∧ H p = none ∧ H' = upd H p (.tup (val i))
  stop : ∀ H, C H → J.stop n H
theorem SqB.same {b : Bool} {K : PySem.W.Frag} {H H' : Hp} {a : Addr} {xs : List V} (h : SqB b K H a xs) (S : Same H H') : SqB b K H' a xs := by
  cases b
  · exact S.seq h
  · exact S.tup h
section
variable {X : Cx} {K : PySem.W.Frag} {elts : List Expr} {kx : Nat} {tpos : Pos}
end
theorem lc_byP {J : It} {n : Nat} {val : Nat → List V} {C : Hp → Prop} {g : TG} {tt : TT} {te : TE} {σ0 : St} {Q : VK} {H : Hp} (O : ItP J n val C) (Pv : Nat → List V → Hp → Prop) (hn : n ≤ sizeLine) (h0 : Pv 0 [] H) (hl : ∀ i ys H, i ≤ n → Pv i ys H → C H ∧ ys.length ≤ i)
    (hs : ∀ i ys H p, i < n → Pv i ys H → H p = none → g (.ref p) σ0 (upd H p (.tup (val i))) fun σ2 H2 => Wk σ0 σ2 ∧ tt σ2 H2 fun k H3 => if k = true then te σ2 H3 fun v H4 => ys.length < sizeLine ∧ ∃ m', m' < n - i ∧ (m' = n - (i + 1) ∧ i + 1 ≤ n ∧ Pv (i + 1) (ys ++ [v]) H4) else ∃ m', m' < n - i ∧ (m' = n - (i + 1) ∧ i + 1 ≤ n ∧ Pv (i + 1) ys H3))
    (hd : ∀ ys H, Pv n ys H → ∀ p, H p = none → Q (.ref p) (upd H p (.lst ys))) : LcW J g tt te σ0 Q H := by
  refine ⟨fun i m ys H => m = n - i ∧ i ≤ n ∧ Pv i ys H, ⟨n, by simp, Nat.zero_le _, h0⟩, ?_⟩
  rintro i m ys H ⟨rfl, hi, p⟩
  obtain ⟨c, hy⟩ := hl i ys H hi p
  refine ⟨by omega, ?_⟩
  by_cases hlt : i < n
  · refine .inr ⟨O.go i H c hlt, fun x H' y => ?_⟩
    obtain ⟨q, rfl, hq, rfl⟩ := O.yld i H x H' c hlt y
    exact hs i ys _ q hlt p hq
  · obtain rfl : i = n := by omega
    exact .inl ⟨O.stop H c, hd ys H p⟩
theorem for_byP {J : It} {n : Nat} {val : Nat → List V} {C : Hp → Prop} {g : TG} {tb : TS} {D : Ends} {σ : St} {H : Hp} (O : ItP J n val C) (Pv : Nat → St → Hp → Prop) (h0 : Pv 0 σ H) (hl : ∀ i σ H, i ≤ n → Pv i σ H → C H)
    (hs : ∀ i σ H p, i < n → Pv i σ H → H p = none → g (.ref p) σ (upd H p (.tup (val i))) fun σ2 H2 => tb { D with nx := Pv (i + 1), ct := Pv (i + 1), bk := D.nx } σ2 H2) (hd : ∀ σ H, Pv n σ H → D.nx σ H) :
    ∃ W : Nat → Nat → St → Hp → Prop, (∃ m, W 0 m σ H) ∧ ∀ i m σ H, W i m σ H → (J.stop i H ∧ D.nx σ H) ∨ (J.go i H ∧ ∃ N : St → Hp → Prop, (∀ σ' H', N σ' H' → ∃ m', m' < m ∧ W (i + 1) m' σ' H') ∧ ∀ x H', J.yld i H x H' → g x σ H' fun σ2 H2 => tb { D with nx := N, ct := N, bk := D.nx } σ2 H2) := by
  refine ⟨fun i m σ H => m = n - i ∧ i ≤ n ∧ Pv i σ H, ⟨n, by simp, Nat.zero_le _, h0⟩, ?_⟩
  rintro i m σ H ⟨rfl, hi, p⟩
  have c := hl i σ H hi p
  by_cases hlt : i < n
  · refine .inr ⟨O.go i H c hlt, Pv (i + 1), fun σ' H' p' => ⟨n - (i + 1), by omega, rfl, hlt, p'⟩, fun x H' y => ?_⟩
    obtain ⟨q, rfl, hq, rfl⟩ := O.yld i H x H' c hlt y
    exact hs i σ _ q hlt p hq
  · obtain rfl : i = n := by omega
    exact .inl ⟨O.stop H c, hd σ H p⟩
end L2
namespace L2
open PySem PySem.Spec PyProof.Rows
section
variable {X : Cx} {K : PySem.W.Frag}
theorem get_list (hK : X.K = K) : PGet X (fun o i H Q => ∃ p xs k v, o = .ref p ∧ i = .int k ∧ 0 ≤ k ∧ SqL K H p xs ∧ xs[k.toNat]? = some v ∧ Q v H) := by
  subst hK
  intro pins s σ H o i ov iv Q I ro ri h
  obtain ⟨p, xs, k, v, rfl, rfl, h0, hq, hx, q⟩ := h
  cases ro
  obtain ⟨t, rfl⟩ := ri
  obtain ⟨its, r, pl, hz⟩ := I.list hq
  obtain ⟨u, hu, ru⟩ := r.get hx
  have hl : k.toNat < xs.length := (List.getElem?_eq_some_iff.mp hx).1
  have hn := line63
  exact wpAny_getItem_list pl.isList h0 (by omega) (by simpa using hu) ⟨v, H, I, ru, q⟩
end
theorem DefE.calm {P : Program} {w : World} {K : PySem.W.Frag} {mg : Str → Option Value} {base : Heap} {k : Nat} {x : Str} {ps : List Str} {sp : Sp} (D : DefE P w K mg base k x ps sp) : Def P w K mg base k x ps (fun vs H Q _ => sp vs H Q fun _ _ _ => False) := by
  obtain ⟨f, fd, F, m, kp, b⟩ := D
  refine ⟨f, fd, ⟨fun vs H Q E h => F.len _ _ _ _ h, fun A outer s H args us vs Q E hr he hb hv hs => codeAny_mono (F.run A outer s H args us vs Q _ hr he hb hv hs) fun r s' hq => ?_⟩, m, kp, b⟩
  cases r with
  | error e => obtain ⟨_, _, _, _, _, _, _, _, _, _, _, z⟩ := hq; exact z.elim
  | ok fl => cases fl <;> exact hq
theorem SqB.len {b : Bool} {K : PySem.W.Frag} {H : Hp} {a : Addr} {xs : List V} (h : SqB b K H a xs) : SqL K H a xs ∨ SqT K H a xs := h.or
theorem getD_ints {ns : List Int} {i : Nat} (h : i < ns.length) : (ns.map V.int).getD i .non = .int (ns.getD i 0) := by
  rw [List.getD_eq_getElem?_getD, List.getElem?_map, List.getD_eq_getElem?_getD, List.getElem?_eq_getElem h]; rfl
theorem get_ints {ns : List Int} {i : Nat} (h : i < ns.length) : (ns.map V.int)[i]? = some (.int (ns.getD i 0)) := by
  rw [List.getElem?_map, List.getD_eq_getElem?_getD, List.getElem?_eq_getElem h]; rfl
theorem set_ints {ns : List Int} {i : Nat} {v : Int} : (ns.map V.int).set i (.int v) = (ns.set i v).map V.int := by rw [List.map_set]
theorem rep_ints (n : Nat) (v : Int) : (List.replicate n [V.int v]).flatten = (List.replicate n v).map V.int := by
  induction n with
  | zero => rfl
  | succ n ih => rw [List.replicate_succ, List.flatten_cons, ih, List.replicate_succ]; rfl
end L2
namespace L2
open PySem PySem.Spec PyProof.Rows
structure RoomC (k : Nat) (A : Around) : Prop where
  dp : A.depth + 3 * k + 5 < recursionLimit
  un : A.units + 16 * k + 200 < cLine
theorem Room.c {k : Nat} {A : Around} (r : Room k A) : RoomC k A := ⟨r.dp, r.un⟩
theorem Room.held {k : Nat} {A : Around} {v : Option Value} (r : Room k A) : RoomC k (A.mark v) := ⟨r.dp, r.un⟩
theorem RoomC.mono {j k : Nat} {A : Around} (r : RoomC k A) (h : j ≤ k) : RoomC j A := ⟨by have := r.dp; omega, by have := r.un; omega⟩
abbrev cxC (P : Program) (w : World) (K : PySem.W.Frag) (mg : Str → Option Value) (base : Heap) (N : List Str) (qual : Str) (scope : Scope) (f : Addr) (cd : Value) (A : Around) (outer : List Env) (s : Shared) (H : Hp) (E : XK) : Cx := { cxOf CX0 P w K mg base N qual scope f cd A outer s H E with calm := false }
theorem inv_startC {P : Program} {w : World} {K : PySem.W.Frag} {mg : Str → Option Value} {base : Heap} {N ps : List Str} {qual : Str} {scope : Scope} {f : Addr} {cd : Value} {A : Around} {outer : List Env} {s s1 : Shared} {H : Hp} {E : XK} {us : List Value} {vs : List V}
    (S : FnScope N ps scope) (e0 : Env0 P w K mg base A outer s H) (hl : vs.length = ps.length) (r : Vals vs us) (x : InCallC s s.heap.objs.size (bindL (envOfC qual scope s.heap.objs.size f cd).kindOf (ps.zip us) fun _ => none) (cellsFrom (s.heap.objs.size + 1) scope.names []) (bindC (envOfC qual scope s.heap.objs.size f cd).kindOf (ps.zip us) fun _ => none) s1) :
    Inv (cxC P w K mg base N qual scope f cd A outer s H E) [] (start N vs) H s1 := by
  have e1 : Env0 P w K mg base { A with handled := none } outer s H := ⟨e0.frames, e0.mod, e0.bs, e0.bsz, e0.funs, e0.frf, e0.hok, e0.bare⟩
  have I := inv_start (CX := CX0) (E := E) (A := { A with handled := none }) S rfl e1 hl r x
  exact ⟨⟨I.ok.mod, I.ok.kind, I.ok.glob, I.ok.blt, I.ok.above, I.ok.inj, I.ok.has, I.ok.cab, fun z => (Bool.false_ne_true z).elim, Around.frames_deeper e0.frames, I.ok.stk, I.ok.exf, I.ok.bs, I.ok.bsz, I.ok.noex, I.ok.exfs, I.ok.funs, I.ok.frf⟩, I.os, I.bare, I.base, I.loc, I.cell, I.free, I.freeC, I.pin, I.hok, I.len⟩
structure FnOkC (P : Program) (w : World) (K : PySem.W.Frag) (mg : Str → Option Value) (base : Heap) (k : Nat) (f : Addr) (fd : FuncData) (ps : List Str) (sp : Sp) : Prop where
  len : ∀ vs H Q E, sp vs H Q E → vs.length = ps.length
  run : ∀ (A : Around) (outer : List Env) (s : Shared) (H : Hp) (args : Args) (us : List Value) (vs : List V) (Q : VK) (E : XK), RoomC k A → Env0 P w K mg base A outer s H → BindsTo s fd args (ps.zip us) → Vals vs us → sp vs H Q E → codeAny (model P w) A (.call (.ref f) args) (CR CX0 outer P w H s Q E) s
theorem Fun.okC {P : Program} {w : World} {K : PySem.W.Frag} {mg : Str → Option Value} {base : Heap} {x qual : Str} {st : Stmt} {f : Addr} {fd : FuncData} {N ps : List Str} {k : Nat} {sp : Sp} (F : Fun K x qual st f fd) (S : FnScope N ps (defScope st)) (len : ∀ vs H Q E, sp vs H Q E → vs.length = ps.length)
    (hbody : ∀ (cdv : Value) (A : Around) (outer : List Env) (s : Shared) (H : Hp) (vs : List V) (Q : VK) (E : XK), RoomC k (A.deeper (envOfC qual (defScope st) s.heap.objs.size f cdv)) → sp vs H Q E →
      ∃ t, PSs (cxC P w K mg base N qual (defScope st) f cdv A outer s H E).nox (defBody st) t ∧ t { nx := fun _ H' => Q .non H', rt := Q } (start N vs) H) : FnOkC P w K mg base (k + 1) f fd ps sp := by
  obtain ⟨oc, od, kV, doc, pm, an, cdv, ct, osl, rfl, lk, hcd⟩ := F.ex
  refine ⟨len, fun A outer s H args us vs Q E hr e0 hb r hsp => ?_⟩
  have hl := len _ _ _ _ hsp
  have KX : K.In s.heap := e0.mod.kin.keeps fun b o e => (e0.bs b o e).1
  have lim : s.heap.NoLimit := e0.mod.nolimit.keeps fun b o e => (e0.bs b o e).1
  have hkind : ∀ y ∈ ps.zip us, (defScope st).names.lookup y.1 = some .local ∨ ((defScope st).names.lookup y.1 = some .cell ∧ ((cellsFrom (s.heap.objs.size + 1) (defScope st).names []).lookup y.1).isSome = true) := fun ⟨n, v⟩ hy => by
    rcases S.par n (List.of_mem_zip hy).1 with q | q
    · exact .inl q
    · exact .inr ⟨q, PySem.W.cellsFrom_some _ _ _ (.inl q)⟩
  refine codeAny_call_function (by have := hr.dp; omega) (KX _ _ lk) rfl S.co S.gen rfl (PySem.W.codeRec_of KX hcd) (hb _ _ _ _ ?_)
  refine wpAny_newFunctionEnv_cells S.kind hkind fun env he s1 x => ?_
  subst he
  refine ⟨lim.keeps x.toInCall.keep, codeAny_func ?_⟩
  obtain ⟨t, ht', hq⟩ := hbody cdv A outer s H vs Q E ⟨by have := hr.dp; show A.depth + 1 + 3 * k + 5 < _; omega, by have := hr.un; show A.units + 3 + 16 * k + 200 < _; omega⟩ hsp
  have ht := ht'.nox
  have I : Inv (cxC P w K mg base N qual (defScope st) f cdv A outer s H E) [] (start N vs) H s1 := inv_startC S e0 hl r x
  refine wpAny_mono (ht [] s1 (start N vs) H _ I hq) (fun fl s' hs => ?_) fun e s' hs => hs
  have fin : ∀ {σ' : St} {H' : Hp} {v : V} {u : Value}, Inv (cxC P w K mg base N qual (defScope st) f cdv A outer s H E) [] σ' H' s' → RelV v u → Q v H' → CE outer P w H s Q u s' := fun {σ' H' v u} J rv q => ⟨v, H', J.os, J.bare, J.base, J.hok, rv, q⟩
  cases fl with
  | ret u => obtain ⟨v, σ', H', J, rv, q⟩ := hs; exact fin J rv q
  | next => obtain ⟨σ', H', J, q⟩ := hs; exact fin (v := V.non) (u := Value.none) J rfl q
  | brk => obtain ⟨_, _, _, q⟩ := hs; exact False.elim q
  | cont => obtain ⟨_, _, _, q⟩ := hs; exact False.elim q
def DefC (P : Program) (w : World) (K : PySem.W.Frag) (mg : Str → Option Value) (base : Heap) (k : Nat) (x : Str) (ps : List Str) (sp : Sp) : Prop :=
  ∃ f fd, FnOkC P w K mg base k f fd ps sp ∧ mg x = some (.ref f) ∧ PySem.W.keepIn K (.ref f) = true ∧ Binds K fd ps []
theorem DefC.of {P : Program} {w : World} {K : PySem.W.Frag} {mg : Str → Option Value} {base : Heap} {k : Nat} {x qual : Str} {ps : List Str} {sp : Sp} {st : Stmt} {f : Addr} {fd : FuncData}
    (F : Fun K x qual st f fd) (m : mg x = some (.ref f)) (b : Binds K fd ps []) (ok : FnOkC P w K mg base k f fd ps sp) : DefC P w K mg base k x ps sp := ⟨f, fd, ok, m, F.kp, b⟩
theorem DefC.calm {P : Program} {w : World} {K : PySem.W.Frag} {mg : Str → Option Value} {base : Heap} {k : Nat} {x : Str} {ps : List Str} {sp : Sp} (D : DefC P w K mg base k x ps sp) : Def P w K mg base k x ps sp := by
  obtain ⟨f, fd, F, r⟩ := D
  exact ⟨f, fd, ⟨F.len, fun A outer s H args us vs Q E hr => F.run A outer s H args us vs Q E hr.c⟩, r⟩
theorem pe_defC {X : Cx} {k k' : Nat} {x : Str} {ps : List Str} {sp : Sp} {e : Expr} {es : List Expr} {t : TA} {p pos : Pos} (D : DefC X.prog X.w X.K X.mg X.base k x ps sp) (hr : RoomC k' X.A) (ha : PA X (e :: es) t) (hk : k ≤ k' := by decide) (hg : Gl X x := by rfl)
    (hdb : (x == ("__debug__" : Str)) = false := by decide) (he : starEach (e :: es) X.env = (false, eval e X.env) :: starEach es X.env := by rfl) (hpl : (backTo pos (starEach es X.env)).any (·.1) = false := by rfl) :
    PE X (.Call (.Name x p) (e :: es) [] pos) (fun σ H Q => t σ H fun vs H1 => sp vs H1 Q E0) := by
  obtain ⟨f, fd, F, m, kp, b⟩ := D
  intro pins s σ H Q I h
  refine wpAny_Call_Name_kw (ld_glob I hg m ?_ hdb)
  refine PySem.W.callWith_K (h₀ := X.base) I.ok.mod.kin kp (thn (ha pos pins s σ H _ I h) fun us s1 ⟨vs, H1, I1, r, q⟩ => ⟨I1.kIn, ?_⟩) he hpl
  have hl : (us ++ []).length = ps.length := by rw [List.append_nil, ← r.length]; exact F.len _ _ _ _ q
  have bt := b s1 us I1.kIn hl
  rw [List.append_nil] at bt
  refine wpAny_call (codeAny_mono (F.run X.A X.stack s1 H1 ⟨us, []⟩ us vs Q E0 (hr.mono hk) I1.env0 bt r q) fun r s' hq => ?_)
  cases r with
  | error e => exact False.elim hq
  | ok fl =>
    cases fl with
    | ret u => exact I1.after hq
    | next => exact False.elim hq
    | brk => exact False.elim hq
    | cont => exact False.elim hq
def iSeqB (K : PySem.W.Frag) (tl : TE) : TI := fun σ H R => tl σ H fun x H1 => ∃ b a xs, x = .ref a ∧ SqB b K H1 a xs ∧ ∀ J C, ItOk J xs.length (fun i => xs.getD i .non) C → (∀ H2, SqB b K H2 a xs → C H2) → R J H1
theorem piSeqB {X : Cx} {K : PySem.W.Frag} {tg l : Expr} {tl : TE} (hK : X.K = K) (hl : PE X l tl) : PI X tg l (iSeqB K tl) := by
  subst hK
  intro pins s σ H R I h
  refine thn (hl pins s σ H _ I h) fun v s1 ⟨x, H1, I1, r1, q1⟩ => ?_
  obtain ⟨b, a, xs, e, hq, q⟩ := q1
  subst e
  cases r1
  have fp : ∀ b ∈ [s1.heap.objs.size], FpOk X pins H1 b := fun b hb => by
    have e : b = s1.heap.objs.size := by simpa using hb
    rw [e]; exact I1.fpOk (Nat.le_refl _) (I1.hok.fresh (Nat.le_refl _))
  cases b
  · obtain ⟨its, rv, p, hz⟩ := I1.list hq
    exact wpAny_pyIter_list p.isList ⟨s1.heap.objs.size, [s1.heap.objs.size], _, _, H1, rfl, I1.kept (t' := s1.toks) fun b o e => Heap.get?_push_of_some _ e, turn_list a _, ⟨_, Heap.get?_push_size _ rfl, rfl, rfl⟩, fp, q _ _ itok_list fun H2 S => S⟩
  · obtain ⟨its, rv, p, hz⟩ := I1.tuple hq
    exact wpAny_pyIter_tuple (show s1.heap.IsTuple a its.toArray from p) ⟨s1.heap.objs.size, [s1.heap.objs.size], _, _, H1, rfl, I1.kept (t' := s1.toks) fun b o e => Heap.get?_push_of_some _ e, turn_tuple a _, ⟨_, Heap.get?_push_size _ rfl, rfl, rfl⟩, fp, q _ _ itok_tup fun H2 S => S⟩
end L2
namespace L2
open PySem PySem.Spec PyProof.Rows
set_option maxRecDepth 100000
section
variable {prog : Program} {w : World} {A : Around} {E : Value → Shared → Prop} {s : Shared}
end
section
variable {prog : Program} {w : World} {A : Around} {E : Value → Shared → Prop} {s : Shared}
end
section
variable {X : Cx} {K : PySem.W.Frag}
end
end L2
namespace L2
open PySem PySem.Spec PyProof.Rows
section
variable {X : Cx}
theorem op_mulB : OpR X (binaryOp .Mult) (rI (fun i j => i.natAbs < 2 ^ 200 ∧ j.natAbs < 2 ^ 200) fun i j => .int (i * j)) := opI fun i j _ _ _ _ _ hc q => mul_int q (by
  have h1 := intBits_le hc.1
  have h2 := intBits_le hc.2
  unfold IntMulOk
  intro h
  rw [Bool.and_eq_true] at h
  have h3 : ((Builtin.Int.intBits i + Builtin.Int.intBits j : Nat) : Int) > bitsLine := of_decide_eq_true h.2
  have h4 : (400 : Int) ≤ bitsLine := by decide
  omega)
end
end L2
namespace L2
open PySem PySem.Spec PyProof.Rows
open AutoSeq1 (wpAny_loadPart')
set_option maxRecDepth 100000
set_option maxHeartbeats 1000000 in
theorem meets_enumT (l : Addr) (items : Array Value) (n : Nat) (dct : Option Addr) (sl : Array (Option Value)) : Meets (Builtin.«enumerate.__new__» ⟨[.type "enumerate", .ref l], []⟩) (fun _ R s => s.heap.get? l = some { cls := .type "tuple", dict := dct, data := .seq items n, slots := sl } ∧
      R (.ok (.ret (.ref (s.heap.push { cls := .type "tuple_iterator", data := .fields #[.ref l, .int 0 0] }).objs.size))) { s with heap := (s.heap.push { cls := .type "tuple_iterator", data := .fields #[.ref l, .int 0 0] }).push { cls := .type "enumerate", data := .fields #[.none, .bool false, .ref s.heap.objs.size, rawInt 0, .none, .none] } }) :=
  .of_wp fun prog w A R s h => by
    obtain ⟨at_, told⟩ := h
    obtain ⟨hp, gs, dn, tk, os⟩ := s
    have self := sub_enumerate
    have seq : Heap.IsTuple (Shared.heap ⟨hp, gs, dn, tk, os⟩) l items := ⟨_, at_, rfl, n, rfl⟩
    wp_walk using AutoSeq1.wpAny_loadPart' at_
    apply wpAny_stack_any
    intro rows
    apply wpAny_pure
    split
    rename_i cl _ _ _ _ _
    rcases Bool.eq_false_or_eq_true (cl == Value.type "enumerate") with q | q <;> rw [q]
    all_goals wp_walk using AutoSeq1.wpAny_loadPart' at_, wpAny_pyIter_tuple seq
    all_goals exact ⟨_, rfl, told⟩
section
variable {prog : Program} {w : World} {A : Around} {E : Value → Shared → Prop} {s : Shared}
theorem call_enumT {l : Addr} {items : Array Value} {Q : Value → Shared → Prop} (hL : s.heap.IsTuple l items)
    (h : ∀ h', IsEnum h' (s.heap.objs.size + 1) s.heap.objs.size 0 .none → h'.IsTupleIter s.heap.objs.size l 0 → (∀ b o, s.heap.get? b = some o → h'.get? b = some o) → Q (.ref (s.heap.objs.size + 1)) { s with heap := h' }) : wpAny (model prog w) A (call (.type "enumerate") [.ref l]) Q E s := by
  obtain ⟨⟨cc, dct, dt, sl⟩, hl, hc, n, hd⟩ := hL
  replace hc : cc = .type "tuple" := hc; replace hd : dt = .seq items n := hd; subst hc hd
  refine callType_new F.called_enumerate (by decide) (F.typeCall_enumerate_1 _) (F.newCall_enumerate_1 _) (fun obj => F.args_object_init_2 obj _) F.entry_enumerate_new (meets_enumT l items n dct sl) ⟨hl, ?_⟩
  have hz : (s.heap.push { cls := .type "tuple_iterator", data := .fields #[.ref l, .int 0 0] }).objs.size = s.heap.objs.size + 1 := Heap.size_push ..
  show _ ∧ _
  rw [hz]
  have he : IsEnum ((s.heap.push { cls := .type "tuple_iterator", data := .fields #[.ref l, .int 0 0] }).push { cls := .type "enumerate", data := .fields #[.none, .bool false, .ref s.heap.objs.size, rawInt 0, .none, .none] }) (s.heap.objs.size + 1) s.heap.objs.size 0 .none := by
    have := Heap.get?_push_size (s.heap.push { cls := .type "tuple_iterator", data := .fields #[.ref l, .int 0 0] }) (o := { cls := .type "enumerate", data := .fields #[.none, .bool false, .ref s.heap.objs.size, rawInt 0, .none, .none] }) rfl
    rw [hz] at this; exact this
  exact ⟨⟨_, he, rfl⟩, h _ he ⟨_, Heap.get?_push_of_some _ (Heap.get?_push_size _ rfl), rfl, rfl⟩ fun b o x => Heap.get?_push_of_some _ (Heap.get?_push_of_some _ x)⟩
theorem call_enumB {b : Bool} {l : Addr} {items : Array Value} {Q : Value → Shared → Prop} (hL : SSq b s.heap l items)
    (h : ∀ h', IsEnum h' (s.heap.objs.size + 1) s.heap.objs.size 0 .none → SIt b h' s.heap.objs.size l 0 → (∀ b o, s.heap.get? b = some o → h'.get? b = some o) → Q (.ref (s.heap.objs.size + 1)) { s with heap := h' }) : wpAny (model prog w) A (call (.type "enumerate") [.ref l]) Q E s := by
  cases b
  · exact call_enumerate_list hL fun h' h1 h2 _ h3 => h h' h1 h2 h3
  · exact call_enumT hL fun h' h1 h2 h3 => h h' h1 h2 h3
end
def Ite (K : PySem.W.Frag) (b : Bool) (a : Addr) (xs : List V) : It :=
  ⟨fun i H => SqB b K H a xs ∧ i < xs.length, fun i H x H' => ∃ p, x = .ref p ∧ H p = none ∧ H' = upd H p (.tup [.int (i : Nat), xs.getD i .non]), fun i H => SqB b K H a xs ∧ i = xs.length⟩
theorem turn_enum {P : Program} {w : World} {K : PySem.W.Frag} {elts : List Expr} {kx} {pos : Pos} (b : Bool) (a e it : Addr) (xs : List V) (ne : e ≠ it) :
    Turn P w K (.Tuple elts kx pos) (Ite K b a xs) [e, it] e (fun i h => (∃ old, IsEnum h e it (i : Nat) old) ∧ SIt b h it a i) where
  mem := by simp
  obj := fun i h st c hc => by
    obtain ⟨⟨old, he⟩, h1⟩ := st
    simp only [List.mem_cons, List.not_mem_nil, or_false] at hc
    rcases hc with rfl | rfl
    · exact ⟨_, he, fun v z => by cases z⟩
    · exact h1.obj
  keep := fun i h h' st k => by
    obtain ⟨⟨old, he⟩, h1⟩ := st
    exact ⟨⟨old, k e (by simp) _ he⟩, h1.keep fun o x => k it (by simp) o x⟩
  item := by
    intro X hP hw hK hc i pins s σ H E I hf st hg
    subst hP hw hK
    obtain ⟨⟨old, he⟩, h1⟩ := st
    obtain ⟨q1, hx⟩ := hg
    obtain ⟨its, r1, p1, z1⟩ := I.src q1
    have na := I.srcNe q1 (hf it (by simp)); have nb := I.srcNe q1 (hf e (by simp)); have len1 := r1.length
    have D := draws_src (prog := X.prog) (w := X.w) (A := X.A.in1) (I.ok.hd hc) b it a na its.toArray
    refine wpAny_pyNext_enum_itemD D he ⟨h1, p1⟩ (by simp; omega) ne (by simp [ne, nb.symm]) fun x h' tk hPx ho hs' hT hsz hk => ?_
    have r : Vals [V.int (i : Nat), xs.getD i .non] [Value.int (i : Nat) tk, x] := .cons ⟨tk, rfl⟩ (.cons (getD_val r1 hPx) .nil)
    have I1 : Inv X pins σ (upd H s.heap.objs.size (.tup [.int (i : Nat), xs.getD i .non])) { s with heap := h', toks := tk + 1 } :=
      I.turnedLaid (t' := tk + 1) hf (fun c o hc e' => hk c o (fun q => hc (by simp [q])) (fun q => hc (by simp [q])) e') r (by show 2 ≤ sizeLine; decide) ⟨_, hT, rfl, _, rfl⟩
    have nH : H s.heap.objs.size = none := I.hok.fresh (Nat.le_refl _)
    have fresh : ∀ c ∈ [e, it], (upd H s.heap.objs.size (.tup [.int (i : Nat), xs.getD i .non])) c = none := fun c hc => by
      rw [upd_ne ?_]
      · exact (hf c hc).1
      · simp only [List.mem_cons, List.not_mem_nil, or_false] at hc
        rcases hc with rfl | rfl
        · exact Nat.ne_of_lt (Heap.lt_size he)
        · obtain ⟨o, e', _⟩ := h1.obj; exact Nat.ne_of_lt (Heap.lt_size e')
    obtain ⟨f0, f1, f2, f3, f4, f5⟩ := hf e (by simp)
    refine ⟨_, rfl, wpAny_letOwnedTupleGo_enum ho fun h2 he2 sb => ⟨.ref s.heap.objs.size, _, I1.turned (t' := tk + 1) (fun b o hb e' => (sb.2 b hb).trans e') (fresh e (by simp)) f1 f3 f4 f5, rfl, ⟨_, rfl, nH, rfl⟩, ⟨⟨x, by simpa using he2⟩, ?_⟩, fresh⟩⟩
    exact hs'.1.keep fun o e' => (sb.2 it ne.symm).trans e'
  done := by
    intro X hP hw hK hc i pins s σ H E I hf st hg
    subst hP hw hK
    obtain ⟨⟨old, he⟩, h1⟩ := st
    obtain ⟨q1, hx⟩ := hg
    obtain ⟨its, r1, p1, z1⟩ := I.src q1
    have na := I.srcNe q1 (hf it (by simp)); have len1 := r1.length
    have D := draws_src (prog := X.prog) (w := X.w) (A := X.A.in1) (I.ok.hd hc) b it a na its.toArray
    have hs : SIt b s.heap it a its.toArray.size := by rw [List.size_toArray, ← len1, ← hx]; exact h1
    refine wpAny_pyNext_enum_endD D he ⟨hs, p1⟩ fun h' eb => ⟨rfl, I.turnedAll (t' := s.toks) hf fun c o hc e' => eb c o (fun q => hc (by simp [q])) e'⟩
  self := fun A i s Q E st h => by obtain ⟨⟨old, he⟩, _⟩ := st; exact wpAny_pyIter_enum he h
theorem itp_enum {K : PySem.W.Frag} {b : Bool} {a : Addr} {xs : List V} : ItP (Ite K b a xs) xs.length (fun i => [.int (i : Nat), xs.getD i .non]) (fun H => SqB b K H a xs) where
  go := fun i H c hi => ⟨c, hi⟩
  yld := fun i H x H' c hi y => y
  stop := fun H c => ⟨c, rfl⟩
def iEnum (K : PySem.W.Frag) (ta : TA) : TI := fun σ H R => ta σ H fun vs H1 => ∃ (b : Bool) (a : Addr) (xs : List V), vs = [.ref a] ∧ SqB b K H1 a xs ∧ ∀ J C, ItP J xs.length (fun i => [.int (i : Nat), xs.getD i .non]) C → (∀ H2, SqB b K H2 a xs → C H2) → R J H1
theorem pi_enum {X : Cx} {K : PySem.W.Frag} {elts : List Expr} {kx : Nat} {tpos : Pos} {a : Expr} {ta : TA} {p pos : Pos} (hK : X.K = K) (hg : Gl X "enumerate") (hm : X.mg "enumerate" = none) (ha : PA X [a] ta) (hs : starEach [a] X.env = [(false, eval a X.env)] := by rfl) :
    PI X (.Tuple elts kx tpos) (.Call (.Name "enumerate" p) [a] [] pos) (iEnum K ta) := by
  subst hK
  intro pins s σ H R I h
  refine Call_ (ld_blt I hg hm boot_enumerate (PyProof.Rows.callWith_type1 (thn (ha pos pins s σ H _ I h) fun us s1 ⟨vs, H1, I1, r1, q1⟩ => ?_) hs rfl))
  obtain ⟨b, a1, xs, e, q1, q⟩ := q1
  subst e
  obtain ⟨u, rfl, rx⟩ := vals1 r1
  cases rx
  obtain ⟨its, rv1, p1, z1⟩ := I1.src q1
  refine call_enumB p1 fun h' he h1 hk => wpAny_pyIter_enum he ?_
  have I2 : Inv X pins σ H1 { s1 with heap := h' } := I1.kept (t' := s1.toks) hk
  refine ⟨_, [s1.heap.objs.size + 1, s1.heap.objs.size], _, _, H1, rfl, I2, turn_enum b a1 _ _ xs (Nat.ne_of_gt (Nat.lt_succ_self _)), ⟨⟨_, he⟩, h1⟩, fun c hc => ?_, q _ _ itp_enum fun H2 k1 => k1⟩
  have : s1.heap.objs.size ≤ c := by
    simp only [List.mem_cons, List.not_mem_nil, or_false] at hc
    rcases hc with rfl | rfl <;> first | exact Nat.le_add_right _ _ | exact Nat.le_refl _
  exact I1.fpOk this (I1.hok.fresh this)
end L2
namespace L2
open PySem PySem.Spec PyProof.Rows
def Thin (H : Hp) (v : V) : Prop := ∃ r o xs, v = .ref r ∧ H r = some (.frz o (.tup xs)) ∧ o.dict = none
theorem Thin.same {H H' : Hp} {v : V} (S : Same H H') (h : Thin H v) : Thin H' v := by
  obtain ⟨r, o, xs, e, h1, h2⟩ := h
  exact ⟨r, o, xs, e, S _ _ h1, h2⟩
def WebD (K : PySem.W.Frag) (C : Addr) (H : Hp) (a : Addr) (m : Int) (es : List (Int × Int)) : Prop := ∃ dx t xs, H a = some (.ins C dx (wFs m t)) ∧ H t = some (.tup xs) ∧ Pairs K H xs es ∧ ∀ v ∈ xs, Thin H v
theorem WebD.at {K : PySem.W.Frag} {C : Addr} {H : Hp} {a : Addr} {m : Int} {es : List (Int × Int)} (h : WebD K C H a m es) : WebAt K C H a m es := by
  obtain ⟨dx, t, xs, h1, h2, h3, _⟩ := h
  exact ⟨dx, t, xs, h1, h2, h3⟩
theorem WebD.same {K : PySem.W.Frag} {C : Addr} {H H' : Hp} {a : Addr} {m : Int} {es : List (Int × Int)} (h : WebD K C H a m es) (S : Same H H') : WebD K C H' a m es := by
  obtain ⟨dx, t, xs, h1, h2, h3, h4⟩ := h
  exact ⟨dx, t, xs, S _ _ h1, S _ _ h2, h3.same S, fun v hv => (h4 v hv).same S⟩
section
variable {X : Cx} {K : PySem.W.Frag}
end
end L2
namespace L2
open PySem PySem.Spec PyProof.Rows
section
variable {prog : Program} {w : World} {A : Around} {E : Value → Shared → Prop} {s : Shared}
end
section
variable {X : Cx} {K : PySem.W.Frag}
theorem rng_acc {lo : Int} {n : Nat} {acc : Array Value} (h : ItemsOf (fun i v => ∃ t, v = .int (lo + i * 1) t) acc n) : Vals (((List.range n).map fun i => lo + ((i : Nat) : Int)).map V.int) acc.toList := by
  obtain ⟨h1, h2⟩ := h
  have key : ∀ (us : List Value) (k m : Nat), us.length = m → (∀ (j : Nat) v, us[j]? = some v → ∃ t, v = .int (lo + ((k + j : Nat) : Int)) t) → Vals (((List.range' k m).map fun i => lo + ((i : Nat) : Int)).map V.int) us := by
    intro us
    induction us with
    | nil => intro k m hm _; cases hm; exact .nil
    | cons u us ih =>
      intro k m hm hv
      cases m with
      | zero => cases hm
      | succ m =>
        rw [List.range'_succ, List.map_cons, List.map_cons]
        refine .cons ?_ (ih (k + 1) m (by simpa using hm) fun j v e => ?_)
        · obtain ⟨t, e⟩ := hv 0 u rfl
          exact ⟨t, by rw [e, Nat.add_zero]⟩
        · obtain ⟨t, e'⟩ := hv (j + 1) v (by simpa using e)
          exact ⟨t, by rw [e', show k + (j + 1) = k + 1 + j by omega]⟩
  rw [List.range_eq_range']
  refine key acc.toList 0 n (by simpa using h1) fun j v e => ?_
  obtain ⟨t, e'⟩ := h2 j v (by simpa using e)
  exact ⟨t, by rw [e', Int.mul_one, Nat.zero_add]⟩
theorem listrange_ok {pins : List (Addr × Obj)} {σ : St} {H : Hp} {s : Shared} {E : Value → Shared → Prop} {lo hi : Int} {t u v : Tok} {tk : Nat} {Q : VK} (hh : X.A.handled = none) (I : Inv X pins σ H s) (h1 : -(2 ^ 62) ≤ lo) (h2 : lo < 2 ^ 62) (h3 : -(2 ^ 62) ≤ hi) (h4 : hi < 2 ^ 62) (hn : (hi - lo).toNat ≤ 1000)
    (q : ∀ l, H l = none → Q (.ref l) (upd H l (.lst (((List.range (hi - lo).toNat).map fun i => lo + ((i : Nat) : Int)).map V.int)))) :
    wpAny (model X.prog X.w) X.A (call (.type "list") [.ref s.heap.objs.size]) (EP X pins σ Q) E { s with heap := s.heap.push { cls := .type "range", data := .fields #[.int lo t, .int hi u, .int 1 v] }, toks := tk } := by
  refine call_list_range (n := (hi - lo).toNat) hh (IsRange.new ..) (small_one h1 h2 h3 h4) (by rw [rangeSize_one]; split <;> omega) (Nat.le_trans hn (by decide)) fun h' tk' acc' c' hk hS hacc => ?_
  have fr : s.heap.objs.size ≤ (s.heap.push { cls := .type "range", data := .fields #[.int lo t, .int hi u, .int 1 v] }).objs.size := by rw [Heap.size_push]; exact Nat.le_succ _
  have ea : acc' = acc'.toList.toArray := rfl
  refine ⟨.ref _, _, I.laid (t' := tk') (fun b o e => hk b o (Heap.get?_push_of_some _ e)) fr (show ObjOk X.prog X.w _ h' _ (.lst _) from ⟨?_, acc'.toList, c', rng_acc hacc, hS⟩), rfl, q _ (I.hok.fresh fr)⟩
  rw [List.length_map, List.length_map, List.length_range]; exact Nat.le_of_lt (small1000 hn)
def tLr1 (ta : TA) : TE := fun σ H Q => ta σ H fun vs H1 => ∃ j : Int, vs = [.int j] ∧ -(2 ^ 62) ≤ j ∧ j ≤ 1000 ∧ ∀ l, H1 l = none → Q (.ref l) (upd H1 l (.lst (((List.range j.toNat).map fun i => 0 + ((i : Nat) : Int)).map V.int)))
def tLr2 (ta : TA) : TE := fun σ H Q => ta σ H fun vs H1 => ∃ i j : Int, vs = [.int i, .int j] ∧ 0 ≤ i ∧ i ≤ 1000 ∧ -(2 ^ 62) ≤ j ∧ j ≤ 1000 ∧ ∀ l, H1 l = none → Q (.ref l) (upd H1 l (.lst (((List.range (j - i).toNat).map fun k => i + ((k : Nat) : Int)).map V.int)))
theorem pe_listrange1 {e : Expr} {ta : TA} {p1 p2 pos1 pos2 : Pos} (hc : X.calm = true) (hg : Gl X "list") (hm : X.mg "list" = none) (hg2 : Gl X "range") (hm2 : X.mg "range" = none) (ha : PA X [e] ta)
    (hs : starEach [.Call (.Name "range" p2) [e] [] pos2] X.env = [(false, eval (.Call (.Name "range" p2) [e] [] pos2) X.env)] := by rfl) (hs2 : starEach [e] X.env = [(false, eval e X.env)] := by rfl) :
    PE X (.Call (.Name "list" p1) [.Call (.Name "range" p2) [e] [] pos2] [] pos1) (tLr1 ta) := by
  intro pins s σ H Q I h
  refine Call_ (ld_blt I hg hm boot_list (PyProof.Rows.callWith_type1 ?_ hs rfl))
  rw [hs]
  refine Calls.spliced_cons ?_
  refine Call_ (ld_blt I hg2 hm2 boot_range (PyProof.Rows.callWith_type1 (thn (ha pos2 pins s σ H _ I h) fun us s1 ⟨vs, H1, I1, r1, q1⟩ => ?_) hs2 rfl))
  obtain ⟨j, rfl, b1, b2, q⟩ := q1
  obtain ⟨u, rfl, t, rfl⟩ := vals1 r1
  refine call_range_1 (Calls.spliced_nil ?_)
  exact listrange_ok (I.ok.hd hc) I1 (by decide) (by decide) b1 (by omega) (by omega) fun l nl => by rw [Int.sub_zero]; exact q l nl
theorem pe_listrange2 {e e' : Expr} {ta : TA} {p1 p2 pos1 pos2 : Pos} (hc : X.calm = true) (hg : Gl X "list") (hm : X.mg "list" = none) (hg2 : Gl X "range") (hm2 : X.mg "range" = none) (ha : PA X [e, e'] ta)
    (hs : starEach [.Call (.Name "range" p2) [e, e'] [] pos2] X.env = [(false, eval (.Call (.Name "range" p2) [e, e'] [] pos2) X.env)] := by rfl) (hs2 : starEach [e, e'] X.env = [(false, eval e X.env), (false, eval e' X.env)] := by rfl) (hs3 : starEach [e'] X.env = [(false, eval e' X.env)] := by rfl) :
    PE X (.Call (.Name "list" p1) [.Call (.Name "range" p2) [e, e'] [] pos2] [] pos1) (tLr2 ta) := by
  intro pins s σ H Q I h
  refine Call_ (ld_blt I hg hm boot_list (PyProof.Rows.callWith_type1 ?_ hs rfl))
  rw [hs]
  refine Calls.spliced_cons ?_
  refine Call_ (ld_blt I hg2 hm2 boot_range (PyProof.Rows.callWith_type1 (thn (ha pos2 pins s σ H _ I h) fun us s1 ⟨vs, H1, I1, r1, q1⟩ => ?_) (by rw [hs2, hs3]) (by rw [hs3]; rfl)))
  obtain ⟨i, j, rfl, b1, b2, b3, b4, q⟩ := q1
  obtain ⟨u, u', rfl, ⟨t, rfl⟩, ⟨t', rfl⟩⟩ := vals2 r1
  refine call_range_2 (Calls.spliced_nil ?_)
  exact listrange_ok (I.ok.hd hc) I1 (by omega) (by omega) b3 (by omega) (by omega) fun l nl => q l nl
end
theorem Pairs.take {K : PySem.W.Frag} {H : Hp} : ∀ {xs : List V} {es : List (Int × Int)} (i : Nat), Pairs K H xs es → Pairs K H (xs.take i) (es.take i)
  | _, _, _, .nil => by rw [List.take_nil, List.take_nil]; exact .nil
  | _, _, 0, .cons _ _ => .nil
  | _, _, i + 1, .cons p t => .cons p (Pairs.take i t)
theorem Pairs.drop {K : PySem.W.Frag} {H : Hp} : ∀ {xs : List V} {es : List (Int × Int)} (i : Nat), Pairs K H xs es → Pairs K H (xs.drop i) (es.drop i)
  | _, _, _, .nil => by rw [List.drop_nil, List.drop_nil]; exact .nil
  | _, _, 0, .cons p t => .cons p t
  | _, _, i + 1, .cons _ t => Pairs.drop i t
end L2
namespace L2
open PySem PySem.Spec PyProof.Rows
section
variable {X : Cx} {tg : Expr}
end
end L2
namespace L2
open PySem PySem.Spec PyProof.Rows
section
variable {κ : Type} [DecidableEq κ]
def valV (kvs : List (κ × V)) (k : κ) : Option V := (kvs.find? fun kv => decide (kv.1 = k)).map (·.2)
def putK (kvs : List (κ × V)) (k : κ) (v : V) : List (κ × V) :=
  if (kvs.any fun kv => decide (kv.1 = k)) = true then kvs.map (fun kv => if kv.1 = k then (kv.1, v) else kv) else kvs ++ [(k, v)]
def dropK (kvs : List (κ × V)) (k : κ) : List (κ × V) := kvs.filter fun kv => decide (kv.1 ≠ k)
theorem valV_pos {p : κ × V} {r : List (κ × V)} {k : κ} (e : p.1 = k) : valV (p :: r) k = some p.2 := by simp [valV, List.find?_cons, e]
theorem valV_neg {p : κ × V} {r : List (κ × V)} {k : κ} (e : ¬ p.1 = k) : valV (p :: r) k = valV r k := by simp [valV, List.find?_cons, e]
theorem valV_any (k : κ) : ∀ kvs : List (κ × V), (kvs.any fun kv => decide (kv.1 = k)) = (valV kvs k).isSome
  | [] => rfl
  | p :: r => by
    rw [List.any_cons]
    by_cases e : p.1 = k
    · simp only [valV_pos e, decide_eq_true e, Bool.true_or, Option.isSome_some]
    · rw [valV_neg e, decide_eq_false e, Bool.false_or]; exact valV_any k r
theorem length_putK (kvs : List (κ × V)) (k : κ) (v : V) : (putK kvs k v).length ≤ kvs.length + 1 := by
  unfold putK
  split
  · rw [List.length_map]; omega
  · rw [List.length_append, List.length_cons, List.length_nil]; omega
theorem putK_new {kvs : List (κ × V)} {k : κ} (v : V) (h : valV kvs k = none) : putK kvs k v = kvs ++ [(k, v)] := by
  unfold putK
  rw [valV_any, h]
  exact if_neg (by decide)
theorem RelO.isSome_eq {o : Option V} {u : Option Value} (r : RelO o u) : o.isSome = u.isSome := by
  cases o with
  | none => cases u with
    | none => rfl
    | some _ => exact (show False from r).elim
  | some _ => cases u with
    | none => exact (show False from r).elim
    | some _ => rfl
theorem RelO.getD {o : Option V} {u : Option Value} {d : V} {d' : Value} (r : RelO o u) (rd : RelV d d') : RelV (o.getD d) (u.getD d') := by
  cases o with
  | none => cases u with
    | none => exact rd
    | some _ => exact (show False from r).elim
  | some _ => cases u with
    | none => exact (show False from r).elim
    | some _ => exact r
theorem KV.val {kvs : List (κ × V)} {vs : List (κ × Value)} (r : KV kvs vs) (k : κ) : RelO (valV kvs k) (valueAt vs k) := by
  unfold KV at r
  induction r with
  | nil => exact True.intro
  | @cons p q ps qs h t ih =>
    obtain ⟨h1, h2⟩ := h
    by_cases e : p.1 = k
    · have e' : q.1 = k := h1.symm.trans e
      have b : valueAt (q :: qs) k = some q.2 := by simp [valueAt, List.find?_cons, e']
      rw [valV_pos e, b]; exact h2
    · have e' : ¬ q.1 = k := fun z => e (h1.trans z)
      have b : valueAt (q :: qs) k = valueAt qs k := by simp [valueAt, List.find?_cons, e']
      rw [valV_neg e, b]; exact ih
theorem KV.any {kvs : List (κ × V)} {vs : List (κ × Value)} (r : KV kvs vs) (k : κ) : (kvs.any fun kv => decide (kv.1 = k)) = vs.any fun kv => decide (kv.1 = k) := by
  unfold KV at r
  induction r with
  | nil => rfl
  | cons h t ih => rw [List.any_cons, List.any_cons, ih, h.1]
theorem KV.repl {kvs : List (κ × V)} {vs : List (κ × Value)} (r : KV kvs vs) (k : κ) {y : V} {u : Value} (ry : RelV y u) :
    KV (kvs.map fun kv => if kv.1 = k then (kv.1, y) else kv) (vs.map fun kv => if kv.1 = k then (kv.1, u) else kv) := by
  unfold KV at r ⊢
  induction r with
  | nil => exact .nil
  | @cons p q ps qs h t ih =>
    rw [List.map_cons, List.map_cons]
    refine .cons ?_ ih
    obtain ⟨h1, h2⟩ := h
    by_cases e : p.1 = k
    · rw [if_pos e, if_pos (h1.symm.trans e)]; exact ⟨h1, ry⟩
    · rw [if_neg e, if_neg (fun z => e (h1.trans z))]; exact ⟨h1, h2⟩
theorem KV.put {kvs : List (κ × V)} {vs : List (κ × Value)} (r : KV kvs vs) (k : κ) {y : V} {u : Value} (ry : RelV y u) : KV (putK kvs k y) (stored vs k u) := by
  unfold putK stored
  rw [r.any k]
  by_cases e : (vs.any fun kv => decide (kv.1 = k)) = true
  · rw [if_pos e, if_pos e]; exact r.repl k ry
  · rw [if_neg e, if_neg e]; exact Paired.snoc r ⟨rfl, ry⟩
theorem KV.drop {kvs : List (κ × V)} {vs : List (κ × Value)} (r : KV kvs vs) (k : κ) : KV (dropK kvs k) (without vs k) := by
  unfold KV at r ⊢
  unfold dropK without
  induction r with
  | nil => exact .nil
  | @cons p q ps qs h t ih =>
    obtain ⟨h1, h2⟩ := h
    rw [List.filter_cons, List.filter_cons]
    by_cases e : p.1 = k
    · have a : ¬ decide (p.1 ≠ k) = true := by simp [e]
      have b : ¬ decide (q.1 ≠ k) = true := by simp [h1.symm.trans e]
      rw [if_neg a, if_neg b]; exact ih
    · have e' : ¬ q.1 = k := fun z => e (h1.trans z)
      have a : decide (p.1 ≠ k) = true := by simp [e]
      have b : decide (q.1 ≠ k) = true := by simp [e']
      rw [if_pos a, if_pos b]; exact .cons ⟨h1, h2⟩ ih
theorem KV.keys {kvs : List (κ × V)} {vs : List (κ × Value)} (r : KV kvs vs) : kvs.map (·.1) = vs.map (·.1) := by
  unfold KV at r
  induction r with
  | nil => rfl
  | cons h t ih => rw [List.map_cons, List.map_cons, ih, h.1]
theorem KV.length {kvs : List (κ × V)} {vs : List (κ × Value)} (r : KV kvs vs) : kvs.length = vs.length := Paired.length r
end
theorem kV_is {P : Program} {w : World} {k : Key} {u : Value} (r : RelV (kV k) u) : (mixKind P w).is k u = true := by
  cases k with
  | inl i => obtain ⟨t, e⟩ := (show ∃ t, u = Value.int i t from r); subst e; exact mixKind_int P w i t
  | inr x => obtain ⟨t, e⟩ := (show ∃ t, u = Value.str x t from r); subst e; exact mixKind_str P w x t
theorem items_are {P : Program} {w : World} : ∀ {ks : List Key} {us : List Value}, Vals (ks.map kV) us → ItemsAre (mixKind P w) ks us
  | [], _, r => by rw [List.map_nil] at r; cases r; exact .nil
  | k :: ks, _, r => by
    rw [List.map_cons] at r
    cases r with
    | cons h t => exact .cons (kV_is h) (items_are t)
abbrev KT (H : Hp) : List (List Key × V) → List (List Key × Addr × Value) → Prop := Paired fun p q => p.1 = q.1 ∧ H q.2.1 = some (.tup (p.1.map kV)) ∧ RelV p.2 q.2.2
theorem KT.val {H : Hp} {kvs : List (List Key × V)} {xs : List (List Key × Addr × Value)} (r : KT H kvs xs) (k : List Key) : RelO (valV kvs k) ((atKey xs k).map (·.2)) := by
  induction r with
  | nil => exact True.intro
  | @cons p q ps qs h t ih =>
    obtain ⟨h1, _, h2⟩ := h
    by_cases e : p.1 = k
    · have e' : q.1 = k := h1.symm.trans e
      have b : atKey (q :: qs) k = some q.2 := by simp [atKey, List.find?_cons, e']
      rw [valV_pos e, b]; exact h2
    · have e' : ¬ q.1 = k := fun z => e (h1.trans z)
      have b : atKey (q :: qs) k = atKey qs k := by simp [atKey, List.find?_cons, e']
      rw [valV_neg e, b]; exact ih
theorem KT.repl {H : Hp} {kvs : List (List Key × V)} {xs : List (List Key × Addr × Value)} (r : KT H kvs xs) (k : List Key) {y : V} {u : Value} (ry : RelV y u) :
    KT H (kvs.map fun kv => if kv.1 = k then (kv.1, y) else kv) (xs.map (putAt k u)) := by
  induction r with
  | nil => exact .nil
  | @cons p q ps qs h t ih =>
    rw [List.map_cons, List.map_cons]
    refine .cons ?_ ih
    obtain ⟨h1, h2, h3⟩ := h
    unfold putAt
    by_cases e : p.1 = k
    · rw [if_pos e, if_pos (h1.symm.trans e)]; exact ⟨h1, h2, ry⟩
    · rw [if_neg e, if_neg (fun z => e (h1.trans z))]; exact ⟨h1, h2, h3⟩
theorem KT.put {H : Hp} {kvs : List (List Key × V)} {xs : List (List Key × Addr × Value)} (r : KT H kvs xs) (k : List Key) {b : Addr} {y : V} {u : Value} (hb : H b = some (.tup (k.map kV))) (ry : RelV y u) :
    KT H (putK kvs k y) (storedH xs k b u) := by
  have e : (kvs.any fun kv => decide (kv.1 = k)) = (atKey xs k).isSome := by
    rw [valV_any, (r.val k).isSome_eq, Option.isSome_map]
  unfold putK storedH
  rw [e]
  by_cases q : (atKey xs k).isSome = true
  · rw [if_pos q, if_pos q]; exact r.repl k ry
  · rw [if_neg q, if_neg q]; exact Paired.snoc r ⟨rfl, hb, ry⟩
theorem KT.keeps {H H' : Hp} {kvs : List (List Key × V)} {xs : List (List Key × Addr × Value)} (r : KT H kvs xs) (ht : ∀ b ys, H b = some (.tup ys) → H' b = some (.tup ys)) : KT H' kvs xs :=
  Paired.mapP r fun _ _ z => ⟨z.1, ht _ _ z.2.1, z.2.2⟩
section
variable {P : Program} {w : World} {H : Hp} {h : Heap} {a : Addr}
theorem rd_of {u : HO} (ok : HOk P w H h) (e : Rd H a u) : ObjOk P w H h a u := e.ok ok
theorem dk_rd {kvs : List (Key × V)} (ok : HOk P w H h) (e : Rd H a (.dK kvs)) : kvs.length ≤ sizeLine ∧ (a == sysModules) = false ∧ ∃ vs, KV kvs vs ∧ h.DictOf (mixKind P w) a vs :=
  show ObjOk P w H h a (.dK kvs) from rd_of ok e
theorem dk_of {kvs : List (Key × V)} (ok : HOk P w H h) (e : H a = some (.dK kvs)) : kvs.length ≤ sizeLine ∧ (a == sysModules) = false ∧ ∃ vs, KV kvs vs ∧ h.DictOf (mixKind P w) a vs := dk_rd ok (.inl e)
theorem key_of {ks : List Key} (ok : HOk P w H h) (e : H a = some (.tup (ks.map kV))) : (tupleKind (mixKind P w)).is h ks a := by
  obtain ⟨_, its, r, o, h1, h2, n, h3⟩ := (show ObjOk P w H h a (.tup (ks.map kV)) from ok a _ e)
  exact ⟨o, its.toArray, n, h1, h2, h3, by simpa using items_are r⟩
theorem dt_rd {kvs : List (List Key × V)} (ok : HOk P w H h) (e : Rd H a (.dT kvs)) : kvs.length ≤ sizeLine ∧ (a == sysModules) = false ∧
    ∃ xs, KT H kvs xs ∧ h.DictOfH (tupleKind (mixKind P w)) a xs := by
  obtain ⟨z, y, xs, r, o, es, ep, h1, h2, h3, h4, h5⟩ := (show ObjOk P w H h a (.dT kvs) from rd_of ok e)
  refine ⟨z, y, xs, r, o, es, ep, h1, h2, h3, h4, fun x hx => ?_, h5⟩
  have all : ∀ {l : List (List Key × V)} {m : List (List Key × Addr × Value)}, KT H l m → ∀ x ∈ m, (tupleKind (mixKind P w)).is h x.1 x.2.1 := by
    intro l m q
    induction q with
    | nil => intro x hx; exact nomatch hx
    | @cons p q ps qs hq t ih =>
      intro x hx
      rcases List.mem_cons.mp hx with e | hx
      · subst e
        exact key_of ok (by rw [← hq.1]; exact hq.2.1)
      · exact ih x hx
  exact all r x hx
theorem dt_of {kvs : List (List Key × V)} (ok : HOk P w H h) (e : H a = some (.dT kvs)) : kvs.length ≤ sizeLine ∧ (a == sysModules) = false ∧
    ∃ xs, KT H kvs xs ∧ h.DictOfH (tupleKind (mixKind P w)) a xs := dt_rd ok (.inl e)
end
def DGet (H : Hp) (a : Addr) (y : V) (r : Option V) : Prop :=
  (∃ kvs k, Rd H a (.dK kvs) ∧ y = kV k ∧ r = valV kvs k) ∨ ∃ kvs k b, Rd H a (.dT kvs) ∧ y = .ref b ∧ H b = some (.tup (k.map kV)) ∧ r = valV kvs k
def DPut (H : Hp) (a : Addr) (y v : V) (H' : Hp) : Prop :=
  (∃ kvs k, H a = some (.dK kvs) ∧ y = kV k ∧ kvs.length < sizeLine ∧ H' = upd H a (.dK (putK kvs k v))) ∨
  ∃ kvs k b, H a = some (.dT kvs) ∧ y = .ref b ∧ H b = some (.tup (k.map kV)) ∧ kvs.length < sizeLine ∧ H' = upd H a (.dT (putK kvs k v))
theorem DGet.k {H : Hp} {a : Addr} {kvs : List (Key × V)} {k : Key} (e : H a = some (.dK kvs)) : DGet H a (kV k) (valV kvs k) := .inl ⟨kvs, k, .inl e, rfl, rfl⟩
theorem DGet.t {H : Hp} {a b : Addr} {kvs : List (List Key × V)} {k : List Key} (e : H a = some (.dT kvs)) (eb : H b = some (.tup (k.map kV))) : DGet H a (.ref b) (valV kvs k) := .inr ⟨kvs, k, b, .inl e, rfl, eb, rfl⟩
theorem DPut.k {H : Hp} {a : Addr} {kvs : List (Key × V)} {k : Key} {v : V} (e : H a = some (.dK kvs)) (hl : kvs.length < sizeLine) : DPut H a (kV k) v (upd H a (.dK (putK kvs k v))) := .inl ⟨kvs, k, e, rfl, hl, rfl⟩
theorem DPut.t {H : Hp} {a b : Addr} {kvs : List (List Key × V)} {k : List Key} {v : V} (e : H a = some (.dT kvs)) (eb : H b = some (.tup (k.map kV))) (hl : kvs.length < sizeLine) :
    DPut H a (.ref b) v (upd H a (.dT (putK kvs k v))) := .inr ⟨kvs, k, b, e, rfl, eb, hl, rfl⟩
section
variable {X : Cx} {pins : List (Addr × Obj)} {σ : St} {H : Hp} {s : Shared} {a : Addr} {y v : V} {u r : Value} {o : Option V} {A : Around} {E : Value → Shared → Prop}
theorem Inv.big (I : Inv X pins σ H s) : sysModules < s.heap.objs.size := by
  have h : mainGlobals < s.heap.objs.size := (I.mod.glob.keeps I.bk).lt
  exact Nat.lt_trans (by decide) h
theorem d_getItem {Q : Value → Shared → Prop} (hu : A.units + 1 < cLine) (I : Inv X pins σ H s) (g : DGet H a y (some v)) (ry : RelV y u) (h : ∀ w' s', Inv X pins σ H s' → RelV v w' → Q w' s') :
    wpAny (model X.prog X.w) A (getItem (.ref a) u) Q E s := by
  rcases g with ⟨kvs, k, e, ey, l⟩ | ⟨kvs, k, b, e, ey, eb, l⟩
  · subst ey
    obtain ⟨z, hd, vs, rel, dd⟩ := dk_rd I.hok e
    obtain ⟨w', hw, rw'⟩ := RelO.some_of (v := v) (o := valueAt vs k) (by rw [l]; exact rel.val k)
    exact wpAny_getItem_of (kV_is ry) dd.mapOf hw (h w' _ (I.tok _) rw')
  · subst ey
    cases (show u = Value.ref b from ry)
    obtain ⟨z, hd, xs, rel, dd⟩ := dt_rd I.hok e
    obtain ⟨w', hw, rw'⟩ := RelO.some_of (v := v) (o := (atKey xs k).map (·.2)) (by rw [l]; exact rel.val k)
    obtain ⟨p, hp, hp2⟩ := Option.map_eq_some_iff.mp hw
    refine wpAny_getItem_heap (tupleKind_room_in1 hu) (key_of I.hok eb) dd hp ?_
    rw [hp2]
    exact h w' _ (I.tok _) rw'
theorem d_notIn {Q : Value → Shared → Prop} (hu : A.units + 1 < cLine) (I : Inv X pins σ H s) (g : DGet H a y o) (ry : RelV y u) (h : ∀ s', Inv X pins σ H s' → Q (.bool (!o.isSome)) s') :
    wpAny (model X.prog X.w) A (compareOp .NotIn u (.ref a)) Q E s := by
  rcases g with ⟨kvs, k, e, ey, l⟩ | ⟨kvs, k, b, e, ey, eb, l⟩
  · subst ey
    obtain ⟨z, hd, vs, rel, dd⟩ := dk_rd I.hok e
    refine wpAny_notIn_of (kV_is ry) hd dd.mapOf ?_
    rw [← (rel.val k).isSome_eq, ← l]
    exact h _ (I.tok _)
  · subst ey
    cases (show u = Value.ref b from ry)
    obtain ⟨z, hd, xs, rel, dd⟩ := dt_rd I.hok e
    refine wpAny_notIn_heap (tupleKind_room_in1 hu) (key_of I.hok eb) hd dd ?_
    have q := (rel.val k).isSome_eq
    rw [Option.isSome_map] at q
    rw [← q, ← l]
    exact h _ (I.tok _)
theorem d_write {h' : Heap} {t' : Nat} {ob : HO} (I : Inv X pins σ H s) (mu : Mut (H a)) (hs : Heap.SameBut a s.heap h') (he : ∃ q, h'.get? a = some q) (new : ObjOk X.prog X.w (upd H a ob) h' a ob) :
    Inv X pins σ (upd H a ob) { s with heap := h', toks := t' } :=
  I.write (x := a) (e := a) mu (.inl rfl) (fun b q hb z => (hs.2 b hb).trans z) he new
theorem dk_new {P : Program} {w : World} {H' : Hp} {h' : Heap} {kvs : List (Key × V)} {vs : List (Key × Value)} (z : kvs.length ≤ sizeLine) (hd : (a == sysModules) = false) (rel : KV kvs vs) (dd : h'.DictOf (mixKind P w) a vs) :
    ObjOk P w H' h' a (.dK kvs) := ⟨z, hd, vs, rel, dd⟩
theorem d_setItem {H' : Hp} {Q : Unit → Shared → Prop} (hu : A.units + 1 < cLine) (I : Inv X pins σ H s) (g : DPut H a y v H') (ry : RelV y u) (rv : RelV v r) (h : ∀ s', Inv X pins σ H' s' → Q () s') :
    wpAny (model X.prog X.w) A (setItem (.ref a) u r) Q E s := by
  rcases g with ⟨kvs, k, e, ey, l, eH⟩ | ⟨kvs, k, b, e, ey, eb, l, eH⟩
  · subst ey eH
    obtain ⟨z, hd, vs, rel, dd⟩ := dk_of I.hok e
    have hz : vs.length ≤ sizeLine := by rw [← rel.length]; exact z
    have hl : (putK kvs k v).length ≤ sizeLine := by have := length_putK kvs k v; omega
    refine wpAny_setItem_pairs (hsz := hz) (kV_is ry) dd fun h' dd' hs => h _ ?_
    have he : ∃ q, h'.get? a = some q := let ⟨q, _, _, hq, _⟩ := dd'; ⟨q, hq⟩
    exact d_write I (by rw [e]; exact True.intro) hs he (dk_new hl hd (rel.put k rv) dd')
  · subst ey eH
    cases (show u = Value.ref b from ry)
    obtain ⟨z, hd, xs, rel, dd⟩ := dt_of I.hok e
    have hz : xs.length ≤ sizeLine := by rw [← Paired.length rel]; exact z
    have hl : (putK kvs k v).length ≤ sizeLine := by have := length_putK kvs k v; omega
    refine wpAny_setItem_heap (hsz := hz) (tupleKind_room_in1 hu) (key_of I.hok eb) dd fun h' dd' hs => h _ ?_
    obtain ⟨q, es, ep, hq, h2, h3, h4, _, h5⟩ := dd'
    refine d_write I (by rw [e]; exact True.intro) hs ⟨q, hq⟩ ⟨hl, hd, _, (rel.put k eb rv).keeps fun c ys ec => ?_, q, es, ep, hq, h2, h3, h4, h5⟩
    rw [upd_ne (ne_of ec e (fun z => nomatch z))]
    exact ec
end
section
variable {X : Cx} {pins : List (Addr × Obj)} {σ : St} {H : Hp} {s : Shared} {a : Addr} {kvs : List (Key × V)} {k : Key} {u : Value} {A : Around} {E : Value → Shared → Prop}
end
def NoSl (i : Expr) : Prop := ∀ ov iv, subscripted i false ov iv = operate [ov, iv] (getItem ov iv)
theorem subD_of {prog : Program} {w : World} {A : Around} {E : Value → Shared → Prop} {s : Shared} {env : Env} {value slice : Expr} {pos : Pos} {T id : String} {Q : Value → Shared → Prop}
    (hl : typeLookup (.type T) "__getitem__" = pure (some (.builtin id))) (hs : NoSl slice)
    (h : wpAny (model prog w) A (eval value env) (fun o s₁ => wpAny (model prog w) A (eval slice env) (fun i s₂ => s₂.TypeIs o T ∧ wpAny (model prog w) A (getItem o i) Q E s₂) E s₁) E s) :
    wpAny (model prog w) A (eval (.Subscript value slice pos) env) Q E s := by
  refine Subscript_ (wpAny_mono h (fun o s₁ h₁ => wpAny_mono h₁ (fun i s₂ h₂ => ?_) fun _ _ x => x) fun _ _ x => x)
  obtain ⟨hT, h₂⟩ := h₂
  unfold subscriptTail
  refine wpAny_bind ?_
  rw [getitemInPython_of_ne hT.not_modules]
  refine wpAny_bind (wpAny_specialOf hT hl ?_)
  have fin : wpAny (model prog w) A (subscripted slice false o i) (fun r s₃ => wpAny (model prog w) A (letTemporaryGo value o r >>= fun _ => pure r) Q E s₃) E s₂ := by
    rw [hs o i]
    exact wpAny_operating (wpAny_mono h₂ (fun r s₃ h₃ => wpAny_bind (wpAny_letTemporaryGo (wpAny_pure h₃))) fun _ _ x => x)
  first
    | exact wpAny_pure (wpAny_bind fin)
    | exact wpAny_bind (wpAny_pure (wpAny_bind fin))
    | exact wpAny_bind fin
theorem dict_typeIs {X : Cx} {pins : List (Addr × Obj)} {σ : St} {H : Hp} {s : Shared} {a : Addr} {y : V} {o : Option V} (I : Inv X pins σ H s) (g : DGet H a y o) : s.TypeIs (.ref a) "dict" := by
  rcases g with ⟨kvs, k, e, _, _⟩ | ⟨kvs, k, b, e, _, _, _⟩
  · obtain ⟨_, _, vs, _, dd⟩ := dk_rd I.hok e
    exact dd.typeIs
  · obtain ⟨_, _, xs, _, dd⟩ := dt_rd I.hok e
    exact dd.typeIs
def tDGet (td ty : TE) : TE := fun σ H Q => td σ H fun x H1 => ty σ H1 fun y H2 => ∃ a v, x = .ref a ∧ DGet H2 a y (some v) ∧ Q v H2
def tDNotIn (ty td : TE) : TE := fun σ H Q => ty σ H fun y H1 => td σ H1 fun x H2 => ∃ a o, x = .ref a ∧ DGet H2 a y o ∧ Q (.bl (!o.isSome)) H2
def sDPut (td ty tv : TE) : TS := fun D σ H => tv σ H fun v H1 => td σ H1 fun x H2 => ty σ H2 fun y H3 => ∃ a H4, x = .ref a ∧ DPut H3 a y v H4 ∧ D.nx σ H4
section
variable {X : Cx} {o i e value : Expr} {pos pos' tpos : Pos} {td ty tv : TE}
theorem pe_dget (hu : X.A.units + 1 < cLine) (ho : PE X o td) (hi : PE X i ty) (hs : NoSl i) : PE X (.Subscript o i pos) (tDGet td ty) := by
  intro pins s σ H Q I h
  refine subD_of PySem.F.slot_dict_getitem.lookup hs (thn (ho pins s σ H _ I h) fun u s1 ⟨x, H1, I1, rx, q1⟩ => thn (hi pins s1 σ H1 _ I1 q1) fun iv s2 ⟨y, H2, I2, ry, a, v, ex, g, q2⟩ => ?_)
  subst ex
  obtain rfl : u = Value.ref a := rx
  exact ⟨dict_typeIs I2 g, d_getItem hu I2 g ry fun w' s3 I3 rw' => ⟨v, H2, I3, rw', q2⟩⟩
theorem pc_dnotin (hu : X.A.units + 1 < cLine) (hi : PE X i ty) (ho : PE X o td) : PC X .NotIn i o (tDNotIn ty td) := by
  intro pins s σ H Q I h
  refine thn (hi pins s σ H _ I h) fun iv s1 ⟨y, H1, I1, ry, q1⟩ => thn (ho pins s1 σ H1 _ I1 q1) fun u s2 ⟨x, H2, I2, rx, a, ov, ex, g, q2⟩ => ?_
  subst ex
  obtain rfl : u = Value.ref a := rx
  exact d_notIn hu I2 g ry fun s3 I3 => ⟨.bl (!ov.isSome), H2, I3, rfl, q2⟩
theorem ps_dput (hu : X.A.units + 1 < cLine) (ho : PE X o td) (hi : PE X i ty) (hv : PE X value tv) (hs : swapsWith value (some (.Subscript o i pos')) pos.line X.env = pure false) :
    PS X (.Assign [.Subscript o i pos'] value pos) (sDPut td ty tv) := by
  intro pins s σ H D I h
  refine wpAny_Assign_Subscript (thn (hv pins s σ H _ I h) fun r s1 ⟨v, H1, I1, rv, q1⟩ => thn (ho pins s1 σ H1 _ I1 q1) fun u s2 ⟨x, H2, I2, rx, q2⟩ => thn (hi pins s2 σ H2 _ I2 q2) fun iv s3 ⟨y, H3, I3, ry, a, H4, ex, g, q3⟩ => ?_) hs
  subst ex
  obtain rfl : u = Value.ref a := rx
  exact d_setItem hu I3 g ry rv fun s4 I4 => ⟨σ, H4, I4, q3⟩
end
theorem dk_empty {P : Program} {w : World} {H : Hp} (h : Heap) (hb : sysModules < h.objs.size) : ObjOk P w H (h.push { cls := .type "dict", data := .dict #[] }) h.objs.size (.dK []) :=
  ⟨Nat.zero_le _, beq_eq_false_iff_ne.mpr (Ne.symm (Nat.ne_of_lt hb)), [], .nil, Heap.DictOf.new h⟩
section
variable {X : Cx} {pos : Pos}
end
def tPairs : List (TE × TE) → St → Hp → (List (V × V) → Hp → Prop) → Prop
  | [], _, H, Q => Q [] H
  | (tk, tv) :: r, σ, H, Q => tk σ H fun x H1 => tv σ H1 fun y H2 => tPairs r σ H2 fun ps H3 => Q ((x, y) :: ps) H3
abbrev VV : List (V × V) → List (Value × Value) → Prop := Paired fun p q => RelV p.1 q.1 ∧ RelV p.2 q.2
def PPs (X : Cx) (pos : Pos) (keys : List (Option Expr)) (values : List Expr) (trs : List (TE × TE)) : Prop :=
  ∀ (pins : List (Addr × Obj)) (s : Shared) (σ : St) (H : Hp) (Q : List (V × V) → Hp → Prop), Inv X pins σ H s → tPairs trs σ H Q →
    wpAny (model X.prog X.w) X.A (evalPairs (pairTrees keys values X.env pos)) (fun vs s' => ∃ ps H', Inv X pins σ H' s' ∧ VV ps vs ∧ Q ps H') X.xe s
theorem pps_nil {X : Cx} {pos : Pos} : PPs X pos [] [] [] := fun pins s σ H Q I h => pairTrees_nil_walk ⟨[], H, I, .nil, h⟩
theorem pps_cons {X : Cx} {pos : Pos} {k v : Expr} {ks : List (Option Expr)} {vs : List Expr} {tk tv : TE} {trs : List (TE × TE)} (hk : PE X k tk) (hv : PE X v tv) (hr : PPs X pos ks vs trs) :
    PPs X pos (some k :: ks) (v :: vs) ((tk, tv) :: trs) := fun pins s σ H Q I h =>
  pairTrees_cons_walk (thn (hk pins s σ H _ I h) fun u s1 ⟨x, H1, I1, rx, q1⟩ => thn (hv pins s1 σ H1 _ I1 q1) fun w2 s2 ⟨y, H2, I2, ry, q2⟩ =>
    thn (hr pins s2 σ H2 _ I2 q2) fun ws s3 ⟨ps, H3, I3, rel, q3⟩ => ⟨(x, y) :: ps, H3, I3, .cons ⟨rx, ry⟩ rel, q3⟩)
def mergeK (kvs more : List (Key × V)) : List (Key × V) := more.foldl (fun acc kv => putK acc kv.1 kv.2) kvs
theorem KV.merge : ∀ {more : List (Key × V)} {rs : List (Key × Value)} {kvs : List (Key × V)} {vs : List (Key × Value)}, KV more rs → KV kvs vs → KV (mergeK kvs more) (merged vs rs) := by
  intro more rs kvs vs r
  unfold KV at r
  induction r generalizing kvs vs with
  | nil => intro q; exact q
  | @cons p q ps qs h t ih =>
    intro r0
    have e : KV (putK kvs p.1 p.2) (stored vs q.1 q.2) := by
      have := r0.put p.1 h.2
      rw [← h.1]; exact this
    exact ih e
theorem length_mergeK : ∀ (more kvs : List (Key × V)), (mergeK kvs more).length ≤ kvs.length + more.length
  | [], kvs => by show kvs.length ≤ kvs.length + 0; omega
  | p :: r, kvs => by
    have h1 := length_mergeK r (putK kvs p.1 p.2)
    have h2 := length_putK kvs p.1 p.2
    show (mergeK (putK kvs p.1 p.2) r).length ≤ _
    rw [List.length_cons]; omega
theorem carries_of {P : Program} {w : World} : ∀ {kvs : List (Key × V)} {ws : List (Value × Value)}, VV (kvs.map fun kv => (kV kv.1, kv.2)) ws → ∃ rs, Carries (mixKind P w) ws rs ∧ KV kvs rs
  | [], _, r => by rw [List.map_nil] at r; cases r; exact ⟨[], True.intro, .nil⟩
  | p :: kvs, _, r => by
    rw [List.map_cons] at r
    cases r with
    | @cons a b as bs h t =>
      obtain ⟨rs, c, q⟩ := carries_of (P := P) (w := w) t
      obtain ⟨b1, b2⟩ := b
      exact ⟨(p.1, b2) :: rs, ⟨kV_is h.1, rfl, c⟩, .cons ⟨rfl, h.2⟩ q⟩
def tDisp (trs : List (TE × TE)) : TE := fun σ H Q => ∀ p, H p = none → tPairs trs σ (upd H p (.dK [])) fun ps H2 => H2 p = some (.dK []) ∧ ∃ kvs : List (Key × V), ps = kvs.map (fun kv => (kV kv.1, kv.2)) ∧ kvs.length ≤ 15 ∧ Q (.ref p) (upd H2 p (.dK (mergeK [] kvs)))
theorem pe_disp {X : Cx} {pos : Pos} {keys : List (Option Expr)} {values : List Expr} {trs : List (TE × TE)} (h : PPs X pos keys values trs) (hall : keys.all (·.isSome) = true) (hl : keys.length = values.length) (h0 : keys ≠ [])
    (h15 : keys.length ≤ 15) : PE X (.Dict keys values pos) (tDisp trs) := by
  intro pins s σ H Q I q
  have hn := I.hok.fresh (Nat.le_refl s.heap.objs.size)
  have I1 := I.laid (a := s.heap.objs.size) (o := .dK []) (h' := s.heap.push { cls := .type "dict", data := .dict #[] }) (t' := s.toks) (fun _ _ q => Heap.get?_push_of_some _ q) (Nat.le_refl _) (dk_empty s.heap I.big)
  refine wpAny_Dict_walk (knd := mixKind X.prog X.w) hall hl h0 h15 (thn (h pins _ σ _ _ I1 (q _ hn)) fun ws s2 ⟨ps, H2, I2, rel, e, kvs, ep, lk, q2⟩ => ?_)
  subst ep
  obtain ⟨rs, c, rk⟩ := carries_of (P := X.prog) (w := X.w) rel
  obtain ⟨z, hd, vs0, r0, dd⟩ := dk_of I2.hok e
  cases r0
  refine ⟨rs, c, dd, fun h' dd' hs => ⟨.ref s.heap.objs.size, _, ?_, rfl, q2⟩⟩
  have hz : (mergeK [] kvs).length ≤ sizeLine := by
    have h1 := length_mergeK kvs []
    rw [List.length_nil] at h1
    rw [sizeLine_eq]; omega
  have he : ∃ q, h'.get? s.heap.objs.size = some q := let ⟨q, _, _, hq, _⟩ := dd'; ⟨q, hq⟩
  exact d_write I2 (by rw [e]; exact True.intro) hs he (dk_new hz hd (rk.merge .nil) dd')
structure M1 (X : Cx) (o : Expr) (m : Str) (apos : Pos) (e : Expr) (cpos : Pos) : Prop where
  base : attributeBase o m X.env (eval o X.env) = eval o X.env
  few : ((backTo cpos (starEach [e] X.env)).all (fun x => !x.1) && (backToKw cpos (keywordEach [] X.env)).all (fun x => x.1.isSome)
    && decide (([e] : List Expr).length + ([] : List Keyword).length + (if ([] : List Keyword).isEmpty then 0 else 1) < 30)) = true
  line : (apos.endLine == cpos.line) = true
  trees : backTo cpos (starEach [e] X.env) = [(false, eval e X.env)]
structure M2 (X : Cx) (o : Expr) (m : Str) (apos : Pos) (e f : Expr) (cpos : Pos) : Prop where
  base : attributeBase o m X.env (eval o X.env) = eval o X.env
  few : ((backTo cpos (starEach [e, f] X.env)).all (fun x => !x.1) && (backToKw cpos (keywordEach [] X.env)).all (fun x => x.1.isSome)
    && decide (([e, f] : List Expr).length + ([] : List Keyword).length + (if ([] : List Keyword).isEmpty then 0 else 1) < 30)) = true
  line : (apos.endLine == cpos.line) = true
  trees : backTo cpos (starEach [e, f] X.env) = [(false, eval e X.env), (false, eval f X.env)]
def IsD (H : Hp) (a : Addr) : Prop := (∃ kvs, Rd H a (.dK kvs)) ∨ ∃ kvs, Rd H a (.dT kvs)
theorem isD_at {X : Cx} {pins : List (Addr × Obj)} {σ : St} {H : Hp} {s : Shared} {a : Addr} (I : Inv X pins σ H s) (d : IsD H a) :
    s.TypeIs (.ref a) "dict" ∧ (∀ b, Value.ref a = .ref b → ∃ ob, s.heap.get? b = some ob ∧ ob.dict = none) ∧ (a == sysModules) = false := by
  rcases d with ⟨kvs, e⟩ | ⟨kvs, e⟩
  · obtain ⟨_, hd, vs, _, dd⟩ := dk_rd I.hok e
    refine ⟨dd.typeIs, fun b q => ?_, hd⟩
    cases q
    obtain ⟨ob, _, _, h1, h2, _⟩ := dd
    exact ⟨ob, h1, h2.2.1⟩
  · obtain ⟨_, hd, xs, _, dd⟩ := dt_rd I.hok e
    refine ⟨dd.typeIs, fun b q => ?_, hd⟩
    cases q
    obtain ⟨ob, _, _, h1, h2, _⟩ := dd
    exact ⟨ob, h1, h2.2.1⟩
section
variable {X : Cx} {pins : List (Addr × Obj)} {σ : St} {H : Hp} {s : Shared} {a : Addr} {y d : V} {u r : Value} {o : Option V} {A : Around} {E : Value → Shared → Prop}
theorem d_get1 {Q : Value → Shared → Prop} (hu : A.units + 1 < cLine) (I : Inv X pins σ H s) (g : DGet H a y o) (ry : RelV y u) (h : ∀ w' s', Inv X pins σ H s' → RelV (o.getD .non) w' → Q w' s') :
    wpAny (model X.prog X.w) A (call (.builtin "dict.get") [.ref a, u]) Q E s := by
  rcases g with ⟨kvs, k, e, ey, l⟩ | ⟨kvs, k, b, e, ey, eb, l⟩
  · subst ey
    obtain ⟨z, hd, vs, rel, dd⟩ := dk_rd I.hok e
    refine call_meetsIn PySem.F.slot_dict_get dd.typeIs PySem.F.entry_dict_get (PySem.F.args_dict_get_2 _ _) (meets_dict_get (mixKind X.prog X.w) a (kV_is ry) hd) ⟨_, dd.mapOf, h _ _ (I.tok _) ?_⟩
    rw [l]
    exact (rel.val k).getD rfl
  · subst ey
    cases (show u = Value.ref b from ry)
    obtain ⟨z, hd, xs, rel, dd⟩ := dt_rd I.hok e
    refine call_meetsIn PySem.F.slot_dict_get dd.typeIs PySem.F.entry_dict_get (PySem.F.args_dict_get_2 _ _) (meetsH_dict_get (tupleKind (mixKind X.prog X.w)) a b hd) ⟨tupleKind_room_in1 hu, k, xs, key_of I.hok eb, dd, h _ _ (I.tok _) ?_⟩
    rw [l]
    exact (rel.val k).getD rfl
end
def tDGet1 (td ty : TE) : TE := fun σ H Q => td σ H fun x H1 => ∃ a, x = .ref a ∧ IsD H1 a ∧ ty σ H1 fun y H2 => ∃ o, DGet H2 a y o ∧ Q (o.getD .non) H2
section
variable {X : Cx} {o e f : Expr} {apos cpos : Pos} {td ty tx : TE}
theorem pe_dget1 (hu : X.A.units + 1 < cLine) (ho : PE X o td) (he : PE X e ty) (m : M1 X o "get" apos e cpos) : PE X (.Call (.Attribute o "get" apos) [e] [] cpos) (tDGet1 td ty) := by
  intro pins s σ H Q I h
  refine wpAny_Call_method m.base m.few m.line PySem.F.plainAttrs_dict PySem.F.slot_dict_get PySem.F.type_dict_get (thn (ho pins s σ H _ I h) fun u s1 ⟨x, H1, I1, rx, a, ex, d, q1⟩ => ?_)
  subst ex
  obtain rfl : u = Value.ref a := rx
  obtain ⟨t1, t2, _⟩ := isD_at I1 d
  refine ⟨t1, t2, ?_⟩
  rw [m.trees]
  refine Calls.callWith_builtin rfl (Calls.evalArgs_plain (Calls.spliced_cons (thn (he pins s1 σ H1 _ I1 q1) fun iv s2 ⟨y, H2, I2, ry, ov, g, q2⟩ => Calls.spliced_nil ?_)))
  exact d_get1 hu I2 g ry fun w' s3 I3 rw' => ⟨_, H2, I3, rw', q2⟩
end
section
variable {X : Cx} {pins : List (Addr × Obj)} {σ : St} {H : Hp} {s : Shared} {a : Addr} {kvs : List (Key × V)} {A : Around} {E : Value → Shared → Prop}
end
section
variable {X : Cx} {pins : List (Addr × Obj)} {σ : St} {H : Hp} {s : Shared} {a : Addr} {y : V} {u : Value} {A : Around} {E : Value → Shared → Prop}
end
end L2
namespace L2
open PySem PySem.Spec PyProof.Rows
section
variable {κ : Type} [DecidableEq κ]
end
end L2
namespace L2
open PySem PySem.Spec PyProof.Rows
section
variable {X : Cx} {pins : List (Addr × Obj)} {σ : St} {H : Hp} {s : Shared} {a : Addr} {kvs : List (Key × V)} {k : Key} {u r : Value} {z : V} {A : Around} {E : Value → Shared → Prop}
end
section
variable {X : Cx} {o e f : Expr} {apos cpos p1 pos1 : Pos} {td ty tx : TE}
end
end L2
namespace L2
inductive Cn (es : List (Int × Int)) : Int → Int → Prop
  | refl (a : Int) : Cn es a a
  | fwd {a : Int} {e : Int × Int} : Cn es a e.1 → e ∈ es → Cn es a e.2
  | bwd {a : Int} {e : Int × Int} : Cn es a e.2 → e ∈ es → Cn es a e.1
theorem Cn.trans {es : List (Int × Int)} {a b c : Int} (h : Cn es a b) (h2 : Cn es b c) : Cn es a c := by
  induction h2 with
  | refl => exact h
  | fwd _ he ih => exact .fwd ih he
  | bwd _ he ih => exact .bwd ih he
theorem Cn.tie {es : List (Int × Int)} {e : Int × Int} (h : e ∈ es) : Cn es e.1 e.2 := .fwd (.refl _) h
theorem Cn.eit {es : List (Int × Int)} {e : Int × Int} (h : e ∈ es) : Cn es e.2 e.1 := .bwd (.refl _) h
theorem Cn.symm {es : List (Int × Int)} {a b : Int} (h : Cn es a b) : Cn es b a := by
  induction h with
  | refl => exact .refl _
  | fwd _ he ih => exact (Cn.eit he).trans ih
  | bwd _ he ih => exact (Cn.tie he).trans ih
theorem Cn.map {es es' : List (Int × Int)} {g : Int → Int} (hg : ∀ e ∈ es, Cn es' (g e.1) (g e.2)) {a b : Int} (h : Cn es a b) : Cn es' (g a) (g b) := by
  induction h with
  | refl => exact .refl _
  | fwd _ he ih => exact ih.trans (hg _ he)
  | bwd _ he ih => exact ih.trans (hg _ he).symm
theorem Cn.mono {es es' : List (Int × Int)} (hs : ∀ e ∈ es, e ∈ es') {a b : Int} (h : Cn es a b) : Cn es' a b := Cn.map (g := id) (fun e he => Cn.tie (hs e he)) h
structure Lab (n : Int) (es : List (Int × Int)) (f : Int → Int) : Prop where
  conn : ∀ p, 0 ≤ p → p < n → Cn es p (f p)
  same : ∀ e ∈ es, f e.1 = f e.2
  low : ∀ p, 0 ≤ p → p < n → 0 ≤ f p ∧ f p ≤ p
theorem lab_cn {es : List (Int × Int)} {f : Int → Int} (h : ∀ e ∈ es, f e.1 = f e.2) {a b : Int} (c : Cn es a b) : f a = f b := by
  induction c with
  | refl => rfl
  | fwd _ he ih => rw [ih, h _ he]
  | bwd _ he ih => rw [ih, ← h _ he]
theorem Lab.le {n : Int} {es : List (Int × Int)} {f g : Int → Int} (F : Lab n es f) (G : Lab n es g) {p : Int} (p0 : 0 ≤ p) (p1 : p < n) : g p ≤ f p := by
  have l := F.low p p0 p1
  have e := lab_cn G.same (F.conn p p0 p1)
  have := G.low (f p) l.1 (by omega)
  omega
theorem Lab.uniq {n : Int} {es : List (Int × Int)} {f g : Int → Int} (F : Lab n es f) (G : Lab n es g) {p : Int} (p0 : 0 ≤ p) (p1 : p < n) : f p = g p := Int.le_antisymm (G.le F p0 p1) (F.le G p0 p1)
theorem Lab.idem {n : Int} {es : List (Int × Int)} {f : Int → Int} (F : Lab n es f) {p : Int} (p0 : 0 ≤ p) (p1 : p < n) : f (f p) = f p := (lab_cn F.same (F.conn p p0 p1)).symm
theorem Lab.iff {n : Int} {es : List (Int × Int)} {f : Int → Int} (F : Lab n es f) {p q : Int} (p0 : 0 ≤ p) (p1 : p < n) (q0 : 0 ≤ q) (q1 : q < n) : f p = f q ↔ Cn es p q :=
  ⟨fun e => (F.conn p p0 p1).trans (by rw [e]; exact (F.conn q q0 q1).symm), fun c => lab_cn F.same c⟩
theorem Lab.nil (n : Int) : Lab n [] (fun p => p) := ⟨fun p _ _ => .refl p, fun e he => (nomatch he), fun p h _ => ⟨h, Int.le_refl _⟩⟩
theorem Lab.congr {n : Int} {es : List (Int × Int)} {f g : Int → Int} (F : Lab n es f) (hE : ∀ e ∈ es, 0 ≤ e.1 ∧ e.1 < n ∧ 0 ≤ e.2 ∧ e.2 < n) (h : ∀ p, 0 ≤ p → p < n → f p = g p) : Lab n es g :=
  ⟨fun p p0 p1 => by rw [← h p p0 p1]; exact F.conn p p0 p1, fun e he => by
    have := hE e he
    rw [← h _ this.1 this.2.1, ← h _ this.2.2.1 this.2.2.2]; exact F.same e he, fun p p0 p1 => by rw [← h p p0 p1]; exact F.low p p0 p1⟩
def mrg (f : Int → Int) (e : Int × Int) (p : Int) : Int := if f p = max (f e.1) (f e.2) then min (f e.1) (f e.2) else f p
theorem Lab.merge {n : Int} {es : List (Int × Int)} {f : Int → Int} {e : Int × Int} (F : Lab n es f) (b : 0 ≤ e.1 ∧ e.1 < n ∧ 0 ≤ e.2 ∧ e.2 < n) : Lab n (es ++ [e]) (mrg f e) := by
  have l1 := F.low e.1 b.1 b.2.1
  have l2 := F.low e.2 b.2.2.1 b.2.2.2
  have up : ∀ {x y : Int}, Cn es x y → Cn (es ++ [e]) x y := fun c => c.mono fun a ha => List.mem_append_left _ ha
  have me : e ∈ es ++ [e] := List.mem_append_right _ (List.mem_singleton.mpr rfl)
  have c1 : Cn (es ++ [e]) (f e.1) (f e.2) := (up (F.conn e.1 b.1 b.2.1)).symm.trans ((Cn.tie me).trans (up (F.conn e.2 b.2.2.1 b.2.2.2)))
  refine ⟨fun p p0 p1 => ?_, fun a ha => ?_, fun p p0 p1 => ?_⟩
  · have cp := up (F.conn p p0 p1)
    unfold mrg
    by_cases h : f p = max (f e.1) (f e.2)
    · rw [if_pos h]
      rw [h] at cp
      by_cases g : f e.1 ≤ f e.2
      · rw [Int.max_eq_right g] at cp; rw [Int.min_eq_left g]; exact cp.trans c1.symm
      · rw [Int.max_eq_left (by omega)] at cp; rw [Int.min_eq_right (by omega)]; exact cp.trans c1
    · rw [if_neg h]; exact cp
  · rcases List.mem_append.mp ha with y | y
    · unfold mrg; rw [F.same a y]
    · have ea : a = e := List.mem_singleton.mp y
      subst ea
      unfold mrg
      have h1 : f a.1 ≤ f a.2 ∨ f a.2 < f a.1 := by omega
      rcases h1 with g | g
      · rw [Int.max_eq_right g, Int.min_eq_left g, if_pos rfl]; split <;> omega
      · rw [Int.max_eq_left (by omega), Int.min_eq_right (by omega), if_pos rfl]; split <;> omega
  · have := F.low p p0 p1
    unfold mrg
    by_cases h : f p = max (f e.1) (f e.2)
    · rw [if_pos h]; omega
    · rw [if_neg h]; exact this
def rts (n : Nat) (f : Int → Int) : List Int := ((List.range n).filter fun (m : Nat) => decide (f (m : Int) = (m : Int))).map fun (m : Nat) => (m : Int)
def grp (n : Nat) (f : Int → Int) (r : Int) : List Int := ((List.range n).filter fun (p : Nat) => decide (f (p : Int) = r)).map fun (p : Nat) => (p : Int)
theorem mem_rts {n : Nat} {f : Int → Int} {r : Int} : r ∈ rts n f ↔ 0 ≤ r ∧ r < n ∧ f r = r := by
  unfold rts
  rw [List.mem_map]
  constructor
  · rintro ⟨m, hm, rfl⟩
    rw [List.mem_filter, List.mem_range, decide_eq_true_eq] at hm
    exact ⟨by omega, by omega, hm.2⟩
  · rintro ⟨h0, h1, h2⟩
    refine ⟨r.toNat, ?_, by omega⟩
    rw [List.mem_filter, List.mem_range, decide_eq_true_eq]
    have e : ((r.toNat : Nat) : Int) = r := by omega
    rw [e]; exact ⟨by omega, h2⟩
theorem mem_grp {n : Nat} {f : Int → Int} {r p : Int} : p ∈ grp n f r ↔ 0 ≤ p ∧ p < n ∧ f p = r := by
  unfold grp
  rw [List.mem_map]
  constructor
  · rintro ⟨m, hm, rfl⟩
    rw [List.mem_filter, List.mem_range, decide_eq_true_eq] at hm
    exact ⟨by omega, by omega, hm.2⟩
  · rintro ⟨h0, h1, h2⟩
    refine ⟨p.toNat, ?_, by omega⟩
    rw [List.mem_filter, List.mem_range, decide_eq_true_eq]
    have e : ((p.toNat : Nat) : Int) = p := by omega
    rw [e]; exact ⟨by omega, h2⟩
theorem rts_congr {n : Nat} {f g : Int → Int} (h : ∀ p : Int, 0 ≤ p → p < n → f p = g p) : rts n f = rts n g := by
  unfold rts
  congr 1
  refine List.filter_congr fun m hm => ?_
  rw [List.mem_range] at hm
  rw [h m (by omega) (by omega)]
end L2
namespace L2
open PySem
theorem nodup_sub {α : Type} [DecidableEq α] : ∀ {l l' : List α}, l.Nodup → (∀ a ∈ l, a ∈ l') → l.length ≤ l'.length
  | [], _, _, _ => Nat.zero_le _
  | a :: l, l', h, s => by
    rw [List.nodup_cons] at h
    have ha := s a List.mem_cons_self
    have := nodup_sub (l := l) (l' := l'.erase a) h.2 fun b hb => (List.mem_erase_of_ne (fun (z : b = a) => h.1 (z ▸ hb))).mpr (s b (List.mem_cons_of_mem _ hb))
    rw [List.length_erase_of_mem ha] at this
    have : 0 < l'.length := List.length_pos_of_mem ha
    rw [List.length_cons]; omega
theorem nodup_len {rs : List Int} {m : Int} (h : rs.Nodup) (b : ∀ p ∈ rs, 0 ≤ p ∧ p < m) : rs.length ≤ m.toNat := by
  have := nodup_sub (l' := (List.range m.toNat).map fun (i : Nat) => (i : Int)) h fun p hp => by
    have := b p hp
    exact List.mem_map.mpr ⟨p.toNat, List.mem_range.mpr (by omega), by omega⟩
  rwa [List.length_map, List.length_range] at this
theorem nodup_snoc {α : Type} {l : List α} {a : α} (h : l.Nodup) (n : ¬ a ∈ l) : (l ++ [a]).Nodup := by
  rw [List.nodup_append]
  refine ⟨h, by simp, fun x hx y hy e => ?_⟩
  rw [List.mem_singleton.mp hy] at e
  exact n (e ▸ hx)
def atP (p : Int) (e : Int × Int) : Bool := e.1 == p || e.2 == p
theorem inV_at (p a b : Int) : inV (.int p) [.int a, .int b] = atP p (a, b) := by
  have := inV_ints p [a, b]
  rw [show [V.int a, V.int b] = [a, b].map V.int from rfl, this]
  simp [atP]
theorem atP_iff {p : Int} {e : Int × Int} : atP p e = true ↔ e.1 = p ∨ e.2 = p := by
  unfold atP
  rw [Bool.or_eq_true, beq_iff_eq, beq_iff_eq]
def far (e : Int × Int) (p : Int) : Int := if e.1 = p then e.2 else e.1
def tieOf (es : List (Int × Int)) (t : Int) : Int × Int := es.getD t.toNat (0, 0)
def sub (es : List (Int × Int)) (ss : List Int) : List (Int × Int) := ss.map (tieOf es)
theorem far_cn {es : List (Int × Int)} {e : Int × Int} (h : e ∈ es) {p : Int} (hp : e.1 = p ∨ e.2 = p) : Cn es p (far e p) := by
  unfold far
  by_cases c : e.1 = p
  · rw [if_pos c, ← c]; exact Cn.tie h
  · rw [if_neg c]
    rcases hp with y | y
    · exact absurd y c
    · rw [← y]; exact Cn.eit h
theorem far_end (e : Int × Int) {p : Int} (hp : e.1 = p ∨ e.2 = p) : e.1 = far e p ∨ e.2 = far e p := by
  unfold far
  by_cases c : e.1 = p
  · rw [if_pos c]; exact .inr rfl
  · rw [if_neg c]; exact .inl rfl
inductive Way (es : List (Int × Int)) (ss : List Int) (a : Int) : List Int → List Int → Int → Prop
  | nil : Way es ss a [] [] a
  | snoc {ts ps : List Int} {p t : Int} : Way es ss a ts ps p → t ∈ ss → 0 ≤ t → t < (es.length : Int) → ((tieOf es t).1 = p ∨ (tieOf es t).2 = p) → ¬ far (tieOf es t) p ∈ ps ++ [p] → Way es ss a (ts ++ [t]) (ps ++ [p]) (far (tieOf es t) p)
theorem Way.cn {es : List (Int × Int)} {ss ts ps : List Int} {a p : Int} (h : Way es ss a ts ps p) : Cn (sub es ss) a p := by
  induction h with
  | nil => exact .refl _
  | snoc _ ht _ _ hp _ ih => exact ih.trans (far_cn (List.mem_map.mpr ⟨_, ht, rfl⟩) hp)
theorem Way.nd {es : List (Int × Int)} {ss ts ps : List Int} {a p : Int} (h : Way es ss a ts ps p) : (ps ++ [p]).Nodup := by
  induction h with
  | nil => simp
  | snoc _ _ _ _ _ hn ih => exact nodup_snoc ih hn
theorem Way.len {es : List (Int × Int)} {ss ts ps : List Int} {a p : Int} (h : Way es ss a ts ps p) : ts.length = ps.length := by
  induction h with
  | nil => rfl
  | snoc _ _ _ _ _ _ ih => rw [List.length_append, List.length_append, ih]; rfl
theorem Way.ends {es : List (Int × Int)} {ss ts ps : List Int} {a p : Int} (h : Way es ss a ts ps p) : ∀ t ∈ ts, (tieOf es t).1 ∈ ps ++ [p] ∧ (tieOf es t).2 ∈ ps ++ [p] := by
  induction h with
  | nil => exact fun t ht => nomatch ht
  | @snoc ts ps p t _ _ _ _ hp _ ih =>
    intro t' ht'
    rcases List.mem_append.mp ht' with y | y
    · exact ⟨List.mem_append_left _ (ih t' y).1, List.mem_append_left _ (ih t' y).2⟩
    · rw [List.mem_singleton.mp y]
      have mp : p ∈ (ps ++ [p]) ++ [far (tieOf es t) p] := List.mem_append_left _ (List.mem_append_right _ (List.mem_singleton.mpr rfl))
      have mf : far (tieOf es t) p ∈ (ps ++ [p]) ++ [far (tieOf es t) p] := List.mem_append_right _ (List.mem_singleton.mpr rfl)
      by_cases c : (tieOf es t).1 = p
      · have e2 : far (tieOf es t) p = (tieOf es t).2 := if_pos c
        rw [c]; exact ⟨mp, by rw [← e2]; exact mf⟩
      · have e1 : far (tieOf es t) p = (tieOf es t).1 := if_neg c
        have e2 : (tieOf es t).2 = p := hp.resolve_left c
        rw [e2]; exact ⟨by rw [← e1]; exact mf, mp⟩
theorem Way.fresh {es : List (Int × Int)} {ss ts ps : List Int} {a p t : Int} (h : Way es ss a ts ps p) (hp : (tieOf es t).1 = p ∨ (tieOf es t).2 = p) (hn : ¬ far (tieOf es t) p ∈ ps ++ [p]) : ¬ t ∈ ts := fun ht => by
  have := h.ends t ht
  rcases far_end (tieOf es t) hp with y | y
  · exact hn (y ▸ this.1)
  · exact hn (y ▸ this.2)
theorem Way.tnd {es : List (Int × Int)} {ss ts ps : List Int} {a p : Int} (h : Way es ss a ts ps p) : ts.Nodup := by
  induction h with
  | nil => simp
  | snoc h _ _ _ hp hn ih => exact nodup_snoc ih (h.fresh hp hn)
theorem Way.sub {es : List (Int × Int)} {ss ts ps : List Int} {a p : Int} (h : Way es ss a ts ps p) : ∀ t ∈ ts, t ∈ ss ∧ 0 ≤ t ∧ t < (es.length : Int) := by
  induction h with
  | nil => exact fun t ht => nomatch ht
  | snoc _ h1 h2 h3 _ _ ih =>
    intro t' ht'
    rcases List.mem_append.mp ht' with y | y
    · exact ih t' y
    · rw [List.mem_singleton.mp y]; exact ⟨h1, h2, h3⟩
theorem valV_key (ad : Int → Addr) (k : Int) : ∀ R : List Int, valV (R.map fun r => ((Sum.inl r : Key), V.ref (ad r))) (Sum.inl k) = if k ∈ R then some (V.ref (ad k)) else none
  | [] => rfl
  | r :: R => by
    rw [List.map_cons]
    by_cases e : r = k
    · subst e
      rw [valV_pos rfl, if_pos List.mem_cons_self]
    · rw [valV_neg (fun z => e (Sum.inl.inj z)), valV_key ad k R]
      by_cases h : k ∈ R
      · rw [if_pos h, if_pos (List.mem_cons_of_mem _ h)]
      · rw [if_neg h, if_neg (fun z => (List.mem_cons.mp z).elim (fun y => e y.symm) h)]
theorem cn_closed {es : List (Int × Int)} {R : List Int} {a b : Int} (ha : a ∈ R) (hc : ∀ e ∈ es, ∀ p ∈ R, (e.1 = p ∨ e.2 = p) → far e p ∈ R) (h : Cn es a b) : b ∈ R := by
  induction h with
  | refl => exact ha
  | fwd _ he ih => have := hc _ he _ ih (.inl rfl); rwa [show far _ _ = _ from if_pos rfl] at this
  | @bwd e _ he ih =>
    have := hc _ he _ ih (.inr rfl)
    unfold far at this
    by_cases c : e.1 = e.2
    · rw [if_pos c] at this; rw [c]; exact this
    · rwa [if_neg c] at this
end L2
namespace L2
structure Nam (n : Int) (es : List (Int × Int)) (f : Int → Int) : Prop where
  conn : ∀ p, 0 ≤ p → p < n → Cn es p (f p)
  same : ∀ e ∈ es, f e.1 = f e.2
  rng : ∀ p, 0 ≤ p → p < n → 0 ≤ f p ∧ f p < n
theorem Nam.iff {n : Int} {es : List (Int × Int)} {f : Int → Int} (F : Nam n es f) {p q : Int} (p0 : 0 ≤ p) (p1 : p < n) (q0 : 0 ≤ q) (q1 : q < n) : f p = f q ↔ Cn es p q :=
  ⟨fun e => (F.conn p p0 p1).trans (by rw [e]; exact (F.conn q q0 q1).symm), fun c => lab_cn F.same c⟩
theorem Nam.nil (n : Int) : Nam n [] (fun p => p) := ⟨fun p _ _ => .refl p, fun e he => (nomatch he), fun p h h' => ⟨h, h'⟩⟩
theorem Nam.congr {n : Int} {es : List (Int × Int)} {f g : Int → Int} (F : Nam n es f) (hE : ∀ e ∈ es, 0 ≤ e.1 ∧ e.1 < n ∧ 0 ≤ e.2 ∧ e.2 < n) (h : ∀ p, 0 ≤ p → p < n → f p = g p) : Nam n es g :=
  ⟨fun p p0 p1 => by rw [← h p p0 p1]; exact F.conn p p0 p1, fun e he => by
    have := hE e he
    rw [← h _ this.1 this.2.1, ← h _ this.2.2.1 this.2.2.2]; exact F.same e he, fun p p0 p1 => by rw [← h p p0 p1]; exact F.rng p p0 p1⟩
theorem Nam.put {n : Int} {es : List (Int × Int)} {f : Int → Int} {e : Int × Int} (F : Nam n es f) (b : 0 ≤ e.1 ∧ e.1 < n ∧ 0 ≤ e.2 ∧ e.2 < n) : Nam n (es ++ [e]) (fun p => if f p = f e.2 then f e.1 else f p) := by
  have up : ∀ {x y : Int}, Cn es x y → Cn (es ++ [e]) x y := fun c => c.mono fun a ha => List.mem_append_left _ ha
  have me : e ∈ es ++ [e] := List.mem_append_right _ (List.mem_singleton.mpr rfl)
  refine ⟨fun p p0 p1 => ?_, fun a ha => ?_, fun p p0 p1 => ?_⟩
  · have cp := up (F.conn p p0 p1)
    by_cases h : f p = f e.2
    · try dsimp only
      rw [if_pos h]
      rw [h] at cp
      exact cp.trans ((up (F.conn e.2 b.2.2.1 b.2.2.2)).symm.trans ((Cn.eit me).trans (up (F.conn e.1 b.1 b.2.1))))
    · try dsimp only
      rw [if_neg h]; exact cp
  · rcases List.mem_append.mp ha with y | y
    · try dsimp only
      rw [F.same a y]
    · have ea : a = e := List.mem_singleton.mp y
      subst ea
      try dsimp only
      rw [if_pos rfl]; split
      · rfl
      · rfl
  · try dsimp only
    split
    · exact F.rng _ b.1 b.2.1
    · exact F.rng p p0 p1
theorem Nam.skip {n : Int} {es : List (Int × Int)} {f : Int → Int} {e : Int × Int} (F : Nam n es f) (h : f e.1 = f e.2) : Nam n (es ++ [e]) f :=
  ⟨fun p p0 p1 => (F.conn p p0 p1).mono fun a ha => List.mem_append_left _ ha, fun a ha => by
    rcases List.mem_append.mp ha with y | y
    · exact F.same a y
    · rw [List.mem_singleton.mp y]; exact h, F.rng⟩
theorem Lab.skip {n : Int} {es : List (Int × Int)} {f : Int → Int} {e : Int × Int} (F : Lab n es f) (h : f e.1 = f e.2) : Lab n (es ++ [e]) f :=
  ⟨fun p p0 p1 => (F.conn p p0 p1).mono fun a ha => List.mem_append_left _ ha, fun a ha => by
    rcases List.mem_append.mp ha with y | y
    · exact F.same a y
    · rw [List.mem_singleton.mp y]; exact h, F.low⟩
noncomputable def inF (es : List (Int × Int)) (i : Nat) : Bool := @decide (¬ Cn (es.take i) (es.getD i (0, 0)).1 (es.getD i (0, 0)).2) (Classical.propDecidable _)
theorem inF_iff {es : List (Int × Int)} {i : Nat} : inF es i = true ↔ ¬ Cn (es.take i) (es.getD i (0, 0)).1 (es.getD i (0, 0)).2 := by
  unfold inF; exact @decide_eq_true_iff _ (Classical.propDecidable _)
noncomputable def frN (es : List (Int × Int)) (n : Nat) : List Int := ((List.range n).filter fun i => inF es i).map fun (i : Nat) => (i : Int)
noncomputable def frst (es : List (Int × Int)) : List Int := frN es es.length
theorem frN_succ (es : List (Int × Int)) (n : Nat) : frN es (n + 1) = frN es n ++ (if inF es n = true then [(n : Int)] else []) := by
  unfold frN
  rw [List.range_succ, List.filter_append, List.map_append]
  by_cases h : inF es n = true
  · rw [if_pos h, List.filter_cons_of_pos h]; rfl
  · rw [if_neg h, List.filter_cons_of_neg h]; rfl
theorem mem_frN {es : List (Int × Int)} {n : Nat} {t : Int} : t ∈ frN es n ↔ 0 ≤ t ∧ t < n ∧ inF es t.toNat = true := by
  unfold frN
  rw [List.mem_map]
  constructor
  · rintro ⟨m, hm, rfl⟩
    rw [List.mem_filter, List.mem_range] at hm
    exact ⟨by omega, by omega, hm.2⟩
  · rintro ⟨h0, h1, h2⟩
    exact ⟨t.toNat, List.mem_filter.mpr ⟨List.mem_range.mpr (by omega), h2⟩, by omega⟩
def upto (n : Nat) : List Int := (List.range n).map fun (i : Nat) => (i : Int)
def oth (n : Nat) (t : Int) : List Int := (upto n).filter fun z => decide (z ≠ t)
theorem upto_succ (n : Nat) : upto (n + 1) = upto n ++ [(n : Int)] := by unfold upto; rw [List.range_succ, List.map_append]; rfl
theorem upto_len (n : Nat) : (upto n).length = n := by unfold upto; rw [List.length_map, List.length_range]
theorem upto_get {n i : Nat} (h : i < n) : (upto n)[i]? = some (i : Int) := by unfold upto; rw [List.getElem?_map, List.getElem?_range h]; rfl
theorem mem_upto {n : Nat} {t : Int} : t ∈ upto n ↔ 0 ≤ t ∧ t < n := by
  unfold upto
  rw [List.mem_map]
  constructor
  · rintro ⟨m, hm, rfl⟩
    rw [List.mem_range] at hm
    omega
  · rintro ⟨h0, h1⟩
    exact ⟨t.toNat, List.mem_range.mpr (by omega), by omega⟩
theorem upto0 (n : Nat) : ((List.range n).map fun i => 0 + ((i : Nat) : Int)) = upto n := by
  unfold upto
  exact List.map_congr_left fun i _ => Int.zero_add _
theorem mem_oth {n : Nat} {t z : Int} : z ∈ oth n t ↔ (0 ≤ z ∧ z < n) ∧ z ≠ t := by
  unfold oth
  rw [List.mem_filter, mem_upto, decide_eq_true_eq]
noncomputable def isB (es : List (Int × Int)) (t : Int) : Bool := @decide (¬ Cn (sub es (oth es.length t)) (tieOf es t).1 (tieOf es t).2) (Classical.propDecidable _)
theorem isB_iff {es : List (Int × Int)} {t : Int} : isB es t = true ↔ ¬ Cn (sub es (oth es.length t)) (tieOf es t).1 (tieOf es t).2 := by
  unfold isB; exact @decide_eq_true_iff _ (Classical.propDecidable _)
noncomputable def fre (es : List (Int × Int)) : List Int := (upto es.length).filter fun z => !((frst es).any (· == z))
end L2
namespace L2
open PySem PySem.Spec PyProof.Rows
theorem IntsAre.vals : ∀ {ns : List Int} {us : List Value}, IntsAre us ns → Vals (ns.map V.int) us
  | _, _, .nil => .nil
  | _, _, .cons _ _ t => .cons ⟨_, rfl⟩ (IntsAre.vals t)
section
variable {X : Cx} {K : PySem.W.Frag}
end
theorem sorted_uniq : ∀ {a b : List Int}, a.Perm b → a.Pairwise (· ≤ ·) → b.Pairwise (· ≤ ·) → a = b := fun h ha hb => h.eq_of_pairwise (le := (· ≤ ·)) (fun _ _ _ _ x y => Int.le_antisymm x y) ha hb
end L2
namespace L2
open PySem PySem.Spec PyProof.Rows
def lf (ls : List Int) (p : Int) : Int := ls.getD p.toNat 0
theorem lf_range (n : Nat) (p : Int) (p0 : 0 ≤ p) (p1 : p < n) : lf ((List.range n).map fun i => 0 + ((i : Nat) : Int)) p = p := by
  unfold lf
  rw [List.getD_eq_getElem?_getD, List.getElem?_map, List.getElem?_range (by omega)]
  show 0 + ((p.toNat : Nat) : Int) = p
  omega
theorem lf_map (ls : List Int) (g : Int → Int) (p : Int) (p0 : 0 ≤ p) (p1 : p < ls.length) : lf (ls.map g) p = g (lf ls p) := by
  unfold lf
  rw [List.getD_eq_getElem?_getD, List.getElem?_map, List.getD_eq_getElem?_getD, List.getElem?_eq_getElem (show p.toNat < ls.length by omega)]; rfl
theorem none_back {H0 H' : Hp} {l : Addr} (s : Same H0 H') (n : H' l = none) : H0 l = none := by
  cases e : H0 l with
  | none => rfl
  | some o => have := s _ _ e; rw [n] at this; cases this
theorem tie_get {K : PySem.W.Frag} {H : Hp} {ys : List V} {es : List (Int × Int)} {t : Int} (hp : Pairs K H ys es) (h0 : 0 ≤ t) (h1 : t < (es.length : Int)) : ∃ r, atI ys t = some (.ref r) ∧ SqT K H r [.int (tieOf es t).1, .int (tieOf es t).2] ∧ tieOf es t ∈ es := by
  have hi : t.toNat < es.length := by omega
  obtain ⟨r, e, er, hr, ei, he⟩ := hp.get hi
  have e0 : tieOf es t = e := by unfold tieOf; rw [List.getD_eq_getElem?_getD, ei]; rfl
  rw [e0]
  exact ⟨r, atI_int h0 er, hr, he⟩
theorem Nam.start (n : Nat) (m : Int) (h : m.toNat = n) : Nam m [] (lf ((List.range n).map fun i => 0 + ((i : Nat) : Int))) := (Nam.nil m).congr (fun e he => (nomatch he)) fun p p0 p1 => (lf_range n p p0 (by omega)).symm
def dT (es : List (Int × Int)) : PyData := .tuple (es.map dP)
end L2
namespace L2
open PySem
def dp (p : Int) (es : List (Int × Int)) (fs : List Int) : Nat → Int
  | 0 => 0
  | i + 1 => dp p es fs i + (if (es.getD i (0, 0)).2 = p then fs.getD i 0 else 0) - (if (es.getD i (0, 0)).1 = p then fs.getD i 0 else 0)
def memI (ps : List Int) (z : Int) : Bool := ps.any (· == z)
def ac (ps : List Int) (es : List (Int × Int)) (fs : List Int) : Nat → Int
  | 0 => 0
  | i + 1 => ac ps es fs i + (if (memI ps (es.getD i (0, 0)).1 && !memI ps (es.getD i (0, 0)).2) = true then fs.getD i 0 else 0) - (if (memI ps (es.getD i (0, 0)).2 && !memI ps (es.getD i (0, 0)).1) = true then fs.getD i 0 else 0)
theorem getD_map0 (z : Int) (fs : List Int) (n : Nat) : (fs.map (z * ·)).getD n 0 = z * fs.getD n 0 := by
  rw [List.getD_eq_getElem?_getD, List.getElem?_map, List.getD_eq_getElem?_getD]
  cases fs[n]? with
  | none => exact (Int.mul_zero z).symm
  | some v => rfl
theorem dp_map (p z : Int) (es : List (Int × Int)) (fs : List Int) : ∀ n, dp p es (fs.map (z * ·)) n = z * dp p es fs n
  | 0 => (Int.mul_zero z).symm
  | n + 1 => by
    show dp p es (fs.map (z * ·)) n + _ - _ = z * (dp p es fs n + _ - _)
    rw [dp_map p z es fs n, getD_map0, Int.mul_sub, Int.mul_add]
    by_cases c1 : (es.getD n (0, 0)).2 = p <;> by_cases c2 : (es.getD n (0, 0)).1 = p <;> simp only [c1, c2, if_true, if_false, Int.mul_zero]
theorem getD_zip (fs gs : List Int) (h : fs.length = gs.length) (n : Nat) : (List.zipWith (· + ·) fs gs).getD n 0 = fs.getD n 0 + gs.getD n 0 := by
  rw [List.getD_eq_getElem?_getD, List.getElem?_zipWith, List.getD_eq_getElem?_getD, List.getD_eq_getElem?_getD]
  by_cases hn : n < fs.length
  · rw [List.getElem?_eq_getElem hn, List.getElem?_eq_getElem (show n < gs.length by omega)]; rfl
  · rw [List.getElem?_eq_none (by omega), List.getElem?_eq_none (show gs.length ≤ n by omega)]; rfl
theorem dp_zip (p : Int) (es : List (Int × Int)) (fs gs : List Int) (h : fs.length = gs.length) : ∀ n, dp p es (List.zipWith (· + ·) fs gs) n = dp p es fs n + dp p es gs n
  | 0 => rfl
  | n + 1 => by
    show dp p es (List.zipWith (· + ·) fs gs) n + _ - _ = (dp p es fs n + _ - _) + (dp p es gs n + _ - _)
    rw [dp_zip p es fs gs h n, getD_zip fs gs h]
    by_cases c1 : (es.getD n (0, 0)).2 = p <;> by_cases c2 : (es.getD n (0, 0)).1 = p <;> simp only [c1, c2, if_true, if_false] <;> omega
theorem sum_pick (a z : Int) : ∀ ps : List Int, ps.Nodup → (ps.map fun p => if z = p then a else 0).sum = if memI ps z = true then a else 0
  | [], _ => rfl
  | p :: ps, h => by
    rw [List.nodup_cons] at h
    rw [List.map_cons, List.sum_cons, sum_pick a z ps h.2]
    show _ = if ((p == z) || memI ps z) = true then a else 0
    by_cases c : z = p
    · subst c
      have hn : memI ps z = false := by
        unfold memI
        rw [List.any_eq_false]
        intro y hy e
        rw [beq_iff_eq] at e
        exact h.1 (e ▸ hy)
      rw [hn, if_pos rfl, beq_self_eq_true]; simp
    · have hb : (p == z) = false := by rw [beq_eq_false_iff_ne]; exact fun e => c e.symm
      rw [if_neg c, hb, Bool.false_or, Int.zero_add]
theorem sum_three (A B C : Int → Int) : ∀ ps : List Int, (ps.map fun p => A p + B p - C p).sum = (ps.map A).sum + (ps.map B).sum - (ps.map C).sum
  | [] => rfl
  | p :: ps => by
    rw [List.map_cons, List.sum_cons, sum_three A B C ps, List.map_cons, List.map_cons, List.map_cons, List.sum_cons, List.sum_cons, List.sum_cons]; omega
theorem ac_dp (ps : List Int) (hN : ps.Nodup) (es : List (Int × Int)) (fs : List Int) : ∀ n, ac ps es fs n = -(ps.map fun p => dp p es fs n).sum
  | 0 => by
    have : ∀ ps : List Int, (ps.map fun _ => (0 : Int)).sum = 0 := fun ps => by
      induction ps with
      | nil => rfl
      | cons p ps ih => rw [List.map_cons, List.sum_cons, ih]; rfl
    show (0 : Int) = -(ps.map fun _ => (0 : Int)).sum
    rw [this]; rfl
  | n + 1 => by
    have e := sum_three (fun p => dp p es fs n) (fun p => if (es.getD n (0, 0)).2 = p then fs.getD n 0 else 0) (fun p => if (es.getD n (0, 0)).1 = p then fs.getD n 0 else 0) ps
    rw [sum_pick _ _ _ hN, sum_pick _ _ _ hN] at e
    show ac ps es fs n + _ - _ = -(ps.map fun p => dp p es fs n + (if (es.getD n (0, 0)).2 = p then fs.getD n 0 else 0) - (if (es.getD n (0, 0)).1 = p then fs.getD n 0 else 0)).sum
    rw [e, ac_dp ps hN es fs n]
    cases memI ps (es.getD n (0, 0)).1 <;> cases memI ps (es.getD n (0, 0)).2 <;> simp <;> omega
theorem ac_zero {ps : List Int} (hN : ps.Nodup) {es : List (Int × Int)} {fs : List Int} {n : Nat} (h : ∀ p : Int, dp p es fs n = 0) : ac ps es fs n = 0 := by
  rw [ac_dp ps hN es fs n]
  have : ∀ ps : List Int, (ps.map fun p => dp p es fs n).sum = 0 := fun ps => by
    induction ps with
    | nil => rfl
    | cons p ps ih => rw [List.map_cons, List.sum_cons, ih, h]; rfl
  rw [this]; rfl
theorem getDi_set (fs : List Int) (i n : Nat) (v : Int) (h : i < fs.length) : (fs.set i v).getD n 0 = if i = n then v else fs.getD n 0 := by
  rw [List.getD_eq_getElem?_getD, List.getElem?_set, List.getD_eq_getElem?_getD]
  by_cases c : i = n
  · rw [if_pos c, if_pos c, if_pos h]; rfl
  · rw [if_neg c, if_neg c]
theorem dp_set (p : Int) (es : List (Int × Int)) (fs : List Int) (k : Nat) (v : Int) (hk : k < fs.length) : ∀ n, dp p es (fs.set k v) n = dp p es fs n + (if k < n then (if (es.getD k (0, 0)).2 = p then v - fs.getD k 0 else 0) - (if (es.getD k (0, 0)).1 = p then v - fs.getD k 0 else 0) else 0)
  | 0 => by show (0 : Int) = 0 + _; rw [if_neg (Nat.not_lt_zero _)]; rfl
  | n + 1 => by
    show dp p es (fs.set k v) n + _ - _ = dp p es fs n + _ - _ + _
    rw [dp_set p es fs k v hk n, getDi_set fs k n v hk]
    by_cases c : k = n
    · subst c
      rw [if_neg (Nat.lt_irrefl _), if_pos rfl, if_pos (Nat.lt_succ_self _)]
      by_cases c1 : (es.getD k (0, 0)).2 = p <;> by_cases c2 : (es.getD k (0, 0)).1 = p <;> simp only [c1, c2, if_true, if_false] <;> omega
    · rw [if_neg c]
      by_cases c3 : k < n
      · rw [if_pos c3, if_pos (show k < n + 1 by omega)]; omega
      · rw [if_neg c3, if_neg (show ¬ k < n + 1 by omega)]; omega
theorem dp_nil (p : Int) (es : List (Int × Int)) (k : Nat) : ∀ n, dp p es (List.replicate k 0) n = 0
  | 0 => rfl
  | n + 1 => by
    show dp p es (List.replicate k 0) n + _ - _ = 0
    have e : (List.replicate k (0 : Int)).getD n 0 = 0 := by
      rw [List.getD_eq_getElem?_getD, List.getElem?_replicate]; split <;> rfl
    rw [dp_nil p es k n, e]; simp
theorem lab_ex {m : Int} : ∀ {es : List (Int × Int)}, (∀ e ∈ es, 0 ≤ e.1 ∧ e.1 < m ∧ 0 ≤ e.2 ∧ e.2 < m) → ∀ n, ∃ f, Lab m (es.take n) f
  | es, hE, 0 => ⟨_, Lab.nil m⟩
  | es, hE, n + 1 => by
    obtain ⟨f, F⟩ := lab_ex hE n
    rw [List.take_add_one]
    cases h : es[n]? with
    | none => exact ⟨f, by simpa using F⟩
    | some e => exact ⟨_, F.merge (hE e (List.mem_of_getElem? h))⟩
theorem memI_iff {ps : List Int} {z : Int} : memI ps z = true ↔ z ∈ ps := by
  unfold memI
  rw [List.any_eq_true]
  constructor
  · rintro ⟨x, hx, e⟩; rw [← beq_iff_eq.mp e]; exact hx
  · exact fun h => ⟨z, h, beq_iff_eq.mpr rfl⟩
theorem grp_nd (n : Nat) (f : Int → Int) (r : Int) : (grp n f r).Nodup := by
  unfold grp
  rw [List.nodup_iff_pairwise_ne, List.pairwise_map]
  exact (List.Pairwise.filter _ List.pairwise_lt_range).imp fun h z => by omega
theorem flow_zero {m : Int} {es : List (Int × Int)} {fs : List Int} (hE : ∀ e ∈ es, 0 ≤ e.1 ∧ e.1 < m ∧ 0 ≤ e.2 ∧ e.2 < m) (hd : ∀ p : Int, dp p es fs es.length = 0) (h0 : ∀ t, t < es.length → ¬ inF es t = true → fs.getD t 0 = 0) : ∀ t, t < es.length → fs.getD t 0 = 0 := by
  have key : ∀ k t, t < es.length → es.length ≤ t + k → fs.getD t 0 = 0 := by
    intro k
    induction k with
    | zero => intro t ht h; omega
    | succ k ih =>
      intro t ht h
      by_cases hF : inF es t = true
      · obtain ⟨f, F⟩ := lab_ex hE t
        have hg : es[t]? = some (es.getD t (0, 0)) := by rw [List.getD_eq_getElem?_getD, List.getElem?_eq_getElem ht]; rfl
        obtain ⟨b1, b2, b3, b4⟩ := hE _ (List.mem_of_getElem? hg)
        have hne : ¬ f (es.getD t (0, 0)).1 = f (es.getD t (0, 0)).2 := fun z => inF_iff.mp hF ((F.iff b1 b2 b3 b4).mp z)
        have hz := ac_zero (grp_nd m.toNat f (f (es.getD t (0, 0)).1)) hd
        have hmem : ∀ z : Int, 0 ≤ z → z < m → memI (grp m.toNat f (f (es.getD t (0, 0)).1)) z = decide (f z = f (es.getD t (0, 0)).1) := fun z z0 z1 => by
          rw [Bool.eq_iff_iff, memI_iff, mem_grp, decide_eq_true_iff]
          exact ⟨fun h => h.2.2, fun h => ⟨z0, by omega, h⟩⟩
        have st : ∀ n, n ≤ es.length → ac (grp m.toNat f (f (es.getD t (0, 0)).1)) es fs n = if t < n then fs.getD t 0 else 0 := by
          intro n
          induction n with
          | zero => intro _; rw [if_neg (Nat.not_lt_zero _)]; rfl
          | succ n ihn =>
            intro hn
            show ac _ es fs n + _ - _ = _
            rw [ihn (by omega)]
            have hgn : es[n]? = some (es.getD n (0, 0)) := by rw [List.getD_eq_getElem?_getD, List.getElem?_eq_getElem (show n < es.length by omega)]; rfl
            obtain ⟨d1, d2, d3, d4⟩ := hE _ (List.mem_of_getElem? hgn)
            rw [hmem _ d1 d2, hmem _ d3 d4]
            by_cases c : n < t
            · have es1 : f (es.getD n (0, 0)).1 = f (es.getD n (0, 0)).2 := F.same _ (List.mem_take_iff_getElem.mpr ⟨n, by omega, by rw [List.getD_eq_getElem?_getD, List.getElem?_eq_getElem (show n < es.length by omega)]; rfl⟩)
              rw [es1, if_neg (show ¬ t < n by omega), if_neg (show ¬ t < n + 1 by omega)]
              cases decide (f (es.getD n (0, 0)).2 = f (es.getD t (0, 0)).1) <;> simp
            · by_cases c2 : n = t
              · subst c2
                rw [decide_eq_true rfl, decide_eq_false (fun z => hne z.symm), if_neg (Nat.lt_irrefl _), if_pos (Nat.lt_succ_self _)]; simp
              · have hzn : fs.getD n 0 = 0 := ih n (by omega) (by omega)
                rw [if_pos (show t < n by omega), if_pos (show t < n + 1 by omega), hzn]; simp
        rw [st es.length (Nat.le_refl _), if_pos ht] at hz
        exact hz
      · exact h0 t ht hF
  exact fun t ht => key es.length t ht (by omega)
theorem flow_uniq {m : Int} {es : List (Int × Int)} {fs gs : List Int} (hE : ∀ e ∈ es, 0 ≤ e.1 ∧ e.1 < m ∧ 0 ≤ e.2 ∧ e.2 < m) (h1 : fs.length = es.length) (h2 : gs.length = es.length) (hf : ∀ p : Int, dp p es fs es.length = 0) (hg : ∀ p : Int, dp p es gs es.length = 0) (h0 : ∀ t, t < es.length → ¬ inF es t = true → fs.getD t 0 = gs.getD t 0) : fs = gs := by
  have hz := flow_zero (fs := List.zipWith (· + ·) fs (gs.map ((-1) * ·))) hE (fun p => by rw [dp_zip p es _ _ (by rw [List.length_map]; omega), dp_map, hf p, hg p]; rfl) fun t ht hn => by
    rw [getD_zip _ _ (by rw [List.length_map]; omega), getD_map0, h0 t ht hn]; omega
  apply List.ext_getElem (by omega)
  intro t ht1 ht2
  have := hz t (by omega)
  rw [getD_zip _ _ (by rw [List.length_map]; omega), getD_map0, List.getD_eq_getElem?_getD, List.getElem?_eq_getElem ht1, List.getD_eq_getElem?_getD, List.getElem?_eq_getElem ht2] at this
  have e : fs[t] + -1 * gs[t] = 0 := this
  omega
theorem frst_cn (es : List (Int × Int)) : ∀ n, n ≤ es.length → ∀ {a b : Int}, Cn (es.take n) a b → Cn (sub es (frN es n)) a b
  | 0, _, _, _, h => h.mono fun e he => (by simp at he)
  | n + 1, hn, a, b, h => by
    have ih : ∀ {a b : Int}, Cn (es.take n) a b → Cn (sub es (frN es (n + 1))) a b := fun h => (frst_cn es n (by omega) h).mono fun e he => by
      rw [frN_succ]; unfold sub at *; rw [List.map_append]; exact List.mem_append_left _ he
    have hg : es[n]? = some (es.getD n (0, 0)) := by rw [List.getD_eq_getElem?_getD, List.getElem?_eq_getElem (show n < es.length by omega)]; rfl
    refine Cn.map (g := id) (fun e he => ?_) h
    rw [List.take_add_one, hg] at he
    rcases List.mem_append.mp he with y | y
    · exact ih (Cn.tie y)
    · have ee : e = es.getD n (0, 0) := by simpa using y
      subst ee
      by_cases c : inF es n = true
      · refine Cn.tie ?_
        rw [frN_succ, if_pos c]
        unfold sub
        rw [List.map_append]
        exact List.mem_append_right _ (List.mem_singleton.mpr rfl)
      · exact ih (Classical.byContradiction fun z => c (inF_iff.mpr z))
def cur (es : List (Int × Int)) (a : Int) (ts : List Int) : Int := ts.foldl (fun p t => far (tieOf es t) p) a
theorem cur_snoc (es : List (Int × Int)) (a : Int) (ts : List Int) (t : Int) : cur es a (ts ++ [t]) = far (tieOf es t) (cur es a ts) := by unfold cur; rw [List.foldl_append]; rfl
theorem Way.cur {es : List (Int × Int)} {ss ts ps : List Int} {a p : Int} (h : Way es ss a ts ps p) : L2.cur es a ts = p := by
  induction h with
  | nil => rfl
  | snoc _ _ _ _ _ _ ih => rw [cur_snoc, ih]
theorem Way.step {es : List (Int × Int)} {ss ts ps : List Int} {a p : Int} (h : Way es ss a ts ps p) : ∀ i t, ts[i]? = some t → (tieOf es t).1 = L2.cur es a (ts.take i) ∨ (tieOf es t).2 = L2.cur es a (ts.take i) := by
  induction h with
  | nil => intro i t e; simp at e
  | @snoc ts ps p t h _ _ _ hp _ ih =>
    intro i t' e
    by_cases c : i < ts.length
    · rw [List.getElem?_append_left c] at e
      rw [List.take_append_of_le_length (by omega)]
      exact ih i t' e
    · have hi : i = ts.length := by
        have := (List.getElem?_eq_some_iff.mp e).1
        rw [List.length_append] at this
        have e1 : [t].length = 1 := rfl
        omega
      subst hi
      rw [List.getElem?_append_right (Nat.le_refl _), Nat.sub_self] at e
      have et : t = t' := by simpa using e
      rw [List.take_left, h.cur, ← et]
      exact hp
end L2
namespace L2
open PySem PySem.Spec PyProof.Rows
section
variable {X : Cx}
end
noncomputable def kpt (es : List (Int × Int)) (n : Nat) : List Int := (upto n).filter fun z => !isB es z
theorem kpt_succ (es : List (Int × Int)) (n : Nat) : kpt es (n + 1) = kpt es n ++ (if isB es (n : Int) = true then [] else [(n : Int)]) := by
  unfold kpt
  rw [upto_succ, List.filter_append]
  by_cases h : isB es (n : Int) = true
  · rw [if_pos h, List.filter_cons_of_neg (by rw [h]; decide)]; rfl
  · rw [if_neg h, List.filter_cons_of_pos (by rw [Bool.eq_false_iff.mpr h]; rfl)]; rfl
theorem kpt_len (es : List (Int × Int)) (n : Nat) : (kpt es n).length ≤ n := Nat.le_trans (List.length_filter_le _ _) (by rw [upto_len]; exact Nat.le_refl _)
theorem mem_kpt {es : List (Int × Int)} {n : Nat} {z : Int} (h : z ∈ kpt es n) : 0 ≤ z ∧ z < n := mem_upto.mp (List.mem_filter.mp h).1
end L2
namespace L2
open PySem PySem.Spec PyProof.Rows
section
variable {X : Cx}
end
theorem flow_dvd {m k : Int} {es : List (Int × Int)} {fs : List Int} (hE : ∀ e ∈ es, 0 ≤ e.1 ∧ e.1 < m ∧ 0 ≤ e.2 ∧ e.2 < m) (hd : ∀ p : Int, dp p es fs es.length = 0) (h0 : ∀ t, t < es.length → ¬ inF es t = true → k ∣ fs.getD t 0) : ∀ t, t < es.length → k ∣ fs.getD t 0 := by
  have key : ∀ n t, t < es.length → es.length ≤ t + n → k ∣ fs.getD t 0 := by
    intro n
    induction n with
    | zero => intro t ht h; omega
    | succ n ih =>
      intro t ht h
      by_cases hF : inF es t = true
      · obtain ⟨f, F⟩ := lab_ex hE t
        have hg : es[t]? = some (es.getD t (0, 0)) := by rw [List.getD_eq_getElem?_getD, List.getElem?_eq_getElem ht]; rfl
        obtain ⟨b1, b2, b3, b4⟩ := hE _ (List.mem_of_getElem? hg)
        have hne : ¬ f (es.getD t (0, 0)).1 = f (es.getD t (0, 0)).2 := fun z => inF_iff.mp hF ((F.iff b1 b2 b3 b4).mp z)
        have hz := ac_zero (grp_nd m.toNat f (f (es.getD t (0, 0)).1)) hd
        have hmem : ∀ z : Int, 0 ≤ z → z < m → memI (grp m.toNat f (f (es.getD t (0, 0)).1)) z = decide (f z = f (es.getD t (0, 0)).1) := fun z z0 z1 => by
          rw [Bool.eq_iff_iff, memI_iff, mem_grp, decide_eq_true_iff]
          exact ⟨fun h => h.2.2, fun h => ⟨z0, by omega, h⟩⟩
        have st : ∀ j, j ≤ es.length → k ∣ (ac (grp m.toNat f (f (es.getD t (0, 0)).1)) es fs j - if t < j then fs.getD t 0 else 0) := by
          intro j
          induction j with
          | zero => intro _; rw [if_neg (Nat.not_lt_zero _)]; exact ⟨0, by rw [Int.mul_zero]; rfl⟩
          | succ j ihj =>
            intro hj
            have ih1 := ihj (by omega)
            show k ∣ (ac _ es fs j + _ - _ - _)
            have hgn : es[j]? = some (es.getD j (0, 0)) := by rw [List.getD_eq_getElem?_getD, List.getElem?_eq_getElem (show j < es.length by omega)]; rfl
            obtain ⟨d1, d2, d3, d4⟩ := hE _ (List.mem_of_getElem? hgn)
            rw [hmem _ d1 d2, hmem _ d3 d4]
            by_cases c : j < t
            · have es1 : f (es.getD j (0, 0)).1 = f (es.getD j (0, 0)).2 := F.same _ (List.mem_take_iff_getElem.mpr ⟨j, by omega, by rw [List.getD_eq_getElem?_getD, List.getElem?_eq_getElem (show j < es.length by omega)]; rfl⟩)
              rw [es1, if_neg (show ¬ t < j + 1 by omega)]
              rw [if_neg (show ¬ t < j by omega)] at ih1
              cases decide (f (es.getD j (0, 0)).2 = f (es.getD t (0, 0)).1) <;> simpa using ih1
            · by_cases c2 : j = t
              · subst c2
                rw [decide_eq_true rfl, decide_eq_false (fun z => hne z.symm), if_pos (Nat.lt_succ_self _)]
                rw [if_neg (Nat.lt_irrefl _)] at ih1
                have e : ∀ A B : Int, A + (if (true && !false) = true then B else 0) - (if (false && !true) = true then B else 0) - B = A - 0 := fun A B => by simp
                rw [e]; exact ih1
              · obtain ⟨u, hu⟩ : k ∣ fs.getD j 0 := ih j (by omega) (by omega)
                rw [if_pos (show t < j + 1 by omega)]
                rw [if_pos (show t < j by omega)] at ih1
                obtain ⟨v, hv⟩ := ih1
                have e : ∀ (x y : Bool) (A B C : Int), A + (if (x && !y) = true then C else 0) - (if (y && !x) = true then C else 0) - B = (A - B) + C * ((if x = true then 1 else 0) - (if y = true then 1 else 0)) := fun x y A B C => by
                  cases x <;> cases y <;> simp <;> omega
                rw [hu, e, hv, Int.mul_assoc, ← Int.mul_add]
                exact ⟨_, rfl⟩
        have := st es.length (Nat.le_refl _)
        rw [if_pos ht, hz] at this
        obtain ⟨v, hv⟩ := this
        exact ⟨-v, by rw [Int.mul_neg]; omega⟩
      · exact h0 t ht hF
  exact fun t ht => key es.length t ht (by omega)
theorem fre_iff {es : List (Int × Int)} {k : Nat} (hk : k < es.length) : (k : Int) ∈ fre es ↔ ¬ inF es k = true := by
  unfold fre
  rw [List.mem_filter, mem_upto]
  have : (frst es).any (· == (k : Int)) = true ↔ inF es k = true := by
    rw [show (frst es).any (· == (k : Int)) = memI (frst es) (k : Int) from rfl, memI_iff]
    unfold frst
    rw [mem_frN]
    exact ⟨fun h => h.2.2, fun h => ⟨by omega, by omega, h⟩⟩
  constructor
  · rintro ⟨_, h⟩ z
    rw [this.mpr z] at h; cases h
  · intro h
    refine ⟨⟨by omega, by omega⟩, ?_⟩
    rw [Bool.eq_false_iff.mpr fun z => h (this.mp z)]; rfl
def FW (es : List (Int × Int)) (vs fs : List Int) : Prop := fs.length = es.length ∧ (∀ p : Int, dp p es fs es.length = 0) ∧ ∀ j, j < (fre es).length → fs.getD ((fre es).getD j 0).toNat 0 = vs.getD j 0
theorem fre_at {es : List (Int × Int)} {t : Nat} (ht : t < es.length) (hn : ¬ inF es t = true) : ∃ j, j < (fre es).length ∧ (fre es).getD j 0 = (t : Int) := by
  obtain ⟨j, hj, e⟩ := List.mem_iff_getElem.mp ((fre_iff ht).mpr hn)
  exact ⟨j, hj, by rw [List.getD_eq_getElem?_getD, List.getElem?_eq_getElem hj]; exact e⟩
theorem FW.uniq {m : Int} {es : List (Int × Int)} {vs fs gs : List Int} (hE : ∀ e ∈ es, 0 ≤ e.1 ∧ e.1 < m ∧ 0 ≤ e.2 ∧ e.2 < m) (hf : FW es vs fs) (hg : FW es vs gs) : fs = gs := flow_uniq hE hf.1 hg.1 hf.2.1 hg.2.1 fun t ht hn => by
  obtain ⟨j, hj, e⟩ := fre_at ht hn
  have h1 := hf.2.2 j hj
  have h2 := hg.2.2 j hj
  rw [e, show ((t : Nat) : Int).toNat = t by omega] at h1 h2
  rw [h1, h2]
theorem FW.rest {m k : Int} {es : List (Int × Int)} {vs ws fs gs : List Int} (hE : ∀ e ∈ es, 0 ≤ e.1 ∧ e.1 < m ∧ 0 ≤ e.2 ∧ e.2 < m) (hf : FW es vs fs) (hg : FW es ws gs) (h : ∀ j, j < (fre es).length → k ∣ ws.getD j 0 - vs.getD j 0) : (gs.map (· % k)) = (fs.map (· % k)) := by
  have hl : gs.length = (fs.map ((-1) * ·)).length := by rw [List.length_map, hf.1, hg.1]
  have hz := flow_dvd (k := k) (fs := List.zipWith (· + ·) gs (fs.map ((-1) * ·))) hE (fun p => by rw [dp_zip p es _ _ hl, dp_map, hf.2.1 p, hg.2.1 p]; rfl) fun t ht hn => by
    obtain ⟨j, hj, e⟩ := fre_at ht hn
    have h1 := hf.2.2 j hj
    have h2 := hg.2.2 j hj
    rw [e, show ((t : Nat) : Int).toNat = t by omega] at h1 h2
    rw [getD_zip _ _ hl, getD_map0, h1, h2, show ws.getD j 0 + -1 * vs.getD j 0 = ws.getD j 0 - vs.getD j 0 by omega]
    exact h j hj
  apply List.ext_getElem (by rw [List.length_map, List.length_map, hf.1, hg.1])
  intro t h1 h2
  rw [List.length_map] at h1 h2
  rw [List.getElem_map, List.getElem_map]
  have hg1 := hg.1
  obtain ⟨u, hu⟩ := hz t (by omega)
  rw [getD_zip _ _ hl, getD_map0, List.getD_eq_getElem?_getD, List.getElem?_eq_getElem h1, List.getD_eq_getElem?_getD, List.getElem?_eq_getElem h2] at hu
  have hu' : gs[t] + -1 * fs[t] = k * u := hu
  rw [show gs[t] = fs[t] + k * u by omega, Int.add_mul_emod_self_left]
end L2
namespace L2
end L2
namespace L2
open PySem PySem.Spec PyProof.Rows
section
variable {X : Cx}
end
def Tch (es : List (Int × Int)) (L : List Int) (p : Int) : Prop := ∃ t ∈ L, (tieOf es t).1 = p ∨ (tieOf es t).2 = p
theorem cn_alone {es : List (Int × Int)} {L : List Int} {p q : Int} (h : ¬ Tch es L p) (c : Cn (sub es L) p q) : q = p := by
  have := cn_closed (R := [p]) (List.mem_singleton.mpr rfl) (fun e he r hr hx => by
    obtain ⟨t, ht, rfl⟩ := List.mem_map.mp he
    rw [List.mem_singleton.mp hr] at hx
    exact absurd ⟨t, ht, hx⟩ h) c
  exact List.mem_singleton.mp this
theorem dp_loops {es : List (Int × Int)} {fs : List Int} {p : Int} : ∀ n, (∀ k, k < n → ((es.getD k (0, 0)).1 = p ↔ (es.getD k (0, 0)).2 = p)) → dp p es fs n = 0
  | 0, _ => rfl
  | n + 1, h => by
    show dp p es fs n + _ - _ = 0
    rw [dp_loops n fun k hk => h k (by omega)]
    have := h n (by omega)
    by_cases c : (es.getD n (0, 0)).2 = p
    · rw [if_pos c, if_pos (this.mpr c)]; omega
    · rw [if_neg c, if_neg (fun z => c (this.mp z))]; rfl
structure FlI (m : Int) (es : List (Int × Int)) (as : List Int) (L fs : List Int) : Prop where
  len : fs.length = es.length
  nd : L.Nodup
  fr : ∀ t ∈ L, 0 ≤ t ∧ t < (es.length : Int) ∧ inF es t.toNat = true
  free : ∀ k, k < es.length → ¬ inF es k = true → fs.getD k 0 = as.getD k 0
  nought : ∀ t ∈ L, fs.getD t.toNat 0 = 0
  done : ∀ p, 0 ≤ p → p < m → ¬ Tch es L p → dp p es fs es.length = 0
  held : ∀ p q, Tch es L p → Tch es L q → Cn es p q → Cn (sub es L) p q
theorem frst_nd (es : List (Int × Int)) : (frst es).Nodup := by
  unfold frst frN
  rw [List.nodup_iff_pairwise_ne, List.pairwise_map]
  exact (List.Pairwise.filter _ List.pairwise_lt_range).imp fun h z => by omega
theorem FlI.start {m : Int} {es : List (Int × Int)} {as : List Int} (hl : as.length = es.length) (h0 : ∀ k, k < es.length → inF es k = true → as.getD k 0 = 0) : FlI m es as (frst es) as := by
  have hin : ∀ t ∈ frst es, 0 ≤ t ∧ t < (es.length : Int) ∧ inF es t.toNat = true := fun t ht => mem_frN.mp ht
  have hcn : ∀ {p q : Int}, Cn es p q → Cn (sub es (frst es)) p q := fun {p q} c => frst_cn es es.length (Nat.le_refl _) (by rw [List.take_length]; exact c)
  refine ⟨hl, frst_nd es, hin, fun k _ _ => rfl, fun t ht => h0 _ (by have := hin t ht; omega) (hin t ht).2.2, fun p p0 p1 hp => ?_, fun p q _ _ c => hcn c⟩
  refine dp_loops es.length fun k hk => ?_
  have hm : es.getD k (0, 0) ∈ es := by rw [List.getD_eq_getElem?_getD, List.getElem?_eq_getElem hk]; exact List.getElem_mem hk
  constructor
  · intro e
    have := cn_alone hp (hcn (show Cn es p (es.getD k (0, 0)).2 by rw [← e]; exact Cn.tie hm))
    exact this
  · intro e
    have := cn_alone hp (hcn (show Cn es p (es.getD k (0, 0)).1 by rw [← e]; exact Cn.eit hm))
    exact this
theorem FlI.step {m : Int} {es : List (Int × Int)} {as L fs : List Int} {u t w : Int} (hE : ∀ e ∈ es, 0 ≤ e.1 ∧ e.1 < m ∧ 0 ≤ e.2 ∧ e.2 < m) (I : FlI m es as L fs) (ht : t ∈ L) (hf : L.filter (fun s => atP u (tieOf es s)) = [t])
    (hw : w = if (tieOf es t).1 = u then dp u es fs es.length else -(dp u es fs es.length)) : FlI m es as (L.erase t) (fs.set t.toNat w) := by
  have htF := I.fr t ht
  have htl : t.toNat < fs.length := by rw [I.len]; omega
  have hmt : tieOf es t ∈ es := by unfold tieOf; rw [List.getD_eq_getElem?_getD, List.getElem?_eq_getElem (show t.toNat < es.length by omega)]; exact List.getElem_mem _
  obtain ⟨b1, b2, b3, b4⟩ := hE _ hmt
  have hut : (tieOf es t).1 = u ∨ (tieOf es t).2 = u := by
    have : t ∈ L.filter (fun s => atP u (tieOf es s)) := by rw [hf]; exact List.mem_singleton.mpr rfl
    exact atP_iff.mp (List.mem_filter.mp this).2
  have honly : ∀ s ∈ L, ((tieOf es s).1 = u ∨ (tieOf es s).2 = u) → s = t := fun s hs hx => by
    have : s ∈ L.filter (fun s => atP u (tieOf es s)) := List.mem_filter.mpr ⟨hs, atP_iff.mpr hx⟩
    rw [hf] at this
    exact List.mem_singleton.mp this
  have hne : (tieOf es t).1 ≠ (tieOf es t).2 := fun z => inF_iff.mp htF.2.2 (by
    show Cn _ (tieOf es t).1 (tieOf es t).2
    rw [← z]; exact Cn.refl _)
  obtain ⟨v, hv⟩ : ∃ v, v = far (tieOf es t) u := ⟨_, rfl⟩
  have huv : u ≠ v := by
    rw [hv]; unfold far
    by_cases c : (tieOf es t).1 = u
    · rw [if_pos c, ← c]; exact hne
    · rw [if_neg c]; exact fun z => c z.symm
  have hends : ∀ x, ((tieOf es t).1 = x ∨ (tieOf es t).2 = x) → x = u ∨ x = v := fun x hx => by
    rw [hv]; unfold far
    by_cases c : (tieOf es t).1 = u
    · rw [if_pos c]
      rcases hx with y | y
      · exact .inl (y.symm.trans c)
      · exact .inr y.symm
    · rw [if_neg c]
      have c2 := hut.resolve_left c
      rcases hx with y | y
      · exact .inr y.symm
      · exact .inl (y.symm.trans c2)
  have hcuv : Cn es u v := by rw [hv]; exact far_cn hmt hut
  have hsub : ∀ s ∈ L.erase t, s ∈ L ∧ s ≠ t := fun s hs => ⟨List.mem_of_mem_erase hs, fun z => by
    rw [z] at hs
    exact (List.Nodup.not_mem_erase I.nd) hs⟩
  have hback : ∀ s ∈ L, s ≠ t → s ∈ L.erase t := fun s hs z => (List.mem_erase_of_ne z).mpr hs
  have hnu : ¬ Tch es (L.erase t) u := fun ⟨s, hs, hx⟩ => (hsub s hs).2 (honly s (hsub s hs).1 hx)
  have hdp : ∀ p : Int, dp p es (fs.set t.toNat w) es.length = dp p es fs es.length + ((if (tieOf es t).2 = p then w else 0) - (if (tieOf es t).1 = p then w else 0)) := fun p => by
    rw [dp_set p es fs t.toNat w htl, I.nought t ht, if_pos (show t.toNat < es.length by omega)]
    show _ + ((if (tieOf es t).2 = p then w - 0 else 0) - (if (tieOf es t).1 = p then w - 0 else 0)) = _
    rw [Int.sub_zero]
  have hdu : dp u es (fs.set t.toNat w) es.length = 0 := by
    rw [hdp u, hw]
    by_cases c : (tieOf es t).1 = u
    · rw [if_pos c, if_pos c, if_neg (fun z => hne (c.trans z.symm))]; omega
    · rw [if_neg c, if_neg c, if_pos (hut.resolve_left c)]; omega
  have hother : ∀ p, p ≠ u → p ≠ v → dp p es (fs.set t.toNat w) es.length = dp p es fs es.length := fun p h1 h2 => by
    rw [hdp p, if_neg (fun z => (hends p (.inr z)).elim h1 h2), if_neg (fun z => (hends p (.inl z)).elim h1 h2)]; omega
  have hmap : ∀ {p q : Int}, p ≠ u → q ≠ u → Cn (sub es L) p q → Cn (sub es (L.erase t)) p q := fun {p q} h1 h2 c => by
    have := Cn.map (es' := sub es (L.erase t)) (g := fun x => if x = u then v else x) (fun e he => by
      obtain ⟨s, hs, rfl⟩ := List.mem_map.mp he
      by_cases cs : s = t
      · subst cs
        have e1 : (if (tieOf es s).1 = u then v else (tieOf es s).1) = v := by
          by_cases c : (tieOf es s).1 = u
          · rw [if_pos c]
          · rw [if_neg c]; exact ((hends _ (.inl rfl)).resolve_left c)
        have e2 : (if (tieOf es s).2 = u then v else (tieOf es s).2) = v := by
          by_cases c : (tieOf es s).2 = u
          · rw [if_pos c]
          · rw [if_neg c]; exact ((hends _ (.inr rfl)).resolve_left c)
        show Cn _ (if (tieOf es s).1 = u then v else (tieOf es s).1) (if (tieOf es s).2 = u then v else (tieOf es s).2)
        rw [e1, e2]; exact Cn.refl _
      · have n1 : ¬ (tieOf es s).1 = u := fun z => cs (honly s hs (.inl z))
        have n2 : ¬ (tieOf es s).2 = u := fun z => cs (honly s hs (.inr z))
        show Cn _ (if (tieOf es s).1 = u then v else (tieOf es s).1) (if (tieOf es s).2 = u then v else (tieOf es s).2)
        rw [if_neg n1, if_neg n2]
        exact Cn.tie (List.mem_map.mpr ⟨s, hback s hs cs, rfl⟩)) c
    have e : Cn (sub es (L.erase t)) (if p = u then v else p) (if q = u then v else q) := this
    rwa [if_neg h1, if_neg h2] at e
  refine ⟨by rw [List.length_set]; exact I.len, I.nd.erase t, fun s hs => I.fr s (hsub s hs).1, fun k hk hn => ?_, fun s hs => ?_, fun p p0 p1 hp => ?_, fun p q hp hq c => ?_⟩
  · rw [getDi_set fs t.toNat k w htl, if_neg (show ¬ t.toNat = k from fun z => hn (z ▸ htF.2.2))]
    exact I.free k hk hn
  · have h1 := hsub s hs
    have h2 := I.fr s h1.1
    rw [getDi_set fs t.toNat s.toNat w htl, if_neg (fun z => h1.2 (by omega))]
    exact I.nought s h1.1
  · by_cases c1 : p = u
    · rw [c1]; exact hdu
    · by_cases c2 : p = v
      · subst c2
        obtain ⟨f, F⟩ := lab_ex hE es.length
        rw [List.take_length] at F
        have hz : ac (grp m.toNat f (f p)) es (fs.set t.toNat w) es.length = 0 := by
          have : ∀ n, n ≤ es.length → ac (grp m.toNat f (f p)) es (fs.set t.toNat w) n = 0 := by
            intro n
            induction n with
            | zero => intro _; rfl
            | succ n ih =>
              intro hn
              show ac _ es (fs.set t.toNat w) n + _ - _ = 0
              have hmn : es.getD n (0, 0) ∈ es := by rw [List.getD_eq_getElem?_getD, List.getElem?_eq_getElem (show n < es.length by omega)]; exact List.getElem_mem _
              obtain ⟨d1, d2, d3, d4⟩ := hE _ hmn
              have es1 := F.same _ hmn
              have hmm : memI (grp m.toNat f (f p)) (es.getD n (0, 0)).1 = memI (grp m.toNat f (f p)) (es.getD n (0, 0)).2 := by
                rw [Bool.eq_iff_iff, memI_iff, memI_iff, mem_grp, mem_grp, es1]
                exact ⟨fun h => ⟨d3, by omega, h.2.2⟩, fun h => ⟨d1, by omega, h.2.2⟩⟩
              rw [ih (by omega), hmm]
              cases memI (grp m.toNat f (f p)) (es.getD n (0, 0)).2 <;> simp
          exact this es.length (Nat.le_refl _)
        rw [ac_dp _ (grp_nd _ _ _)] at hz
        have hq0 : ∀ q ∈ grp m.toNat f (f p), q ≠ p → dp q es (fs.set t.toNat w) es.length = 0 := fun q hq hqp => by
          have hq' := mem_grp.mp hq
          by_cases c3 : q = u
          · rw [c3]; exact hdu
          · rw [hother q c3 hqp]
            refine I.done q hq'.1 (by omega) fun hT => ?_
            have hTp : Tch es L p := ⟨t, ht, by
              rcases hut with y | y
              · exact .inr (by rw [hv]; unfold far; rw [if_pos y])
              · by_cases c : (tieOf es t).1 = u
                · exact .inr (by rw [hv]; unfold far; rw [if_pos c])
                · exact .inl (by rw [hv]; unfold far; rw [if_neg c])⟩
            have hc := I.held p q hTp hT ((F.iff p0 p1 hq'.1 (by omega)).mp hq'.2.2.symm)
            have := cn_alone hp (hmap c1 c3 hc)
            exact hqp this
        have hsum : ∀ R : List Int, R.Nodup → (∀ q ∈ R, q ≠ p → dp q es (fs.set t.toNat w) es.length = 0) → (R.map fun q => dp q es (fs.set t.toNat w) es.length).sum = if p ∈ R then dp p es (fs.set t.toNat w) es.length else 0 := by
          intro R
          induction R with
          | nil => intro _ _; rfl
          | cons q R ih =>
            intro hn hq
            rw [List.nodup_cons] at hn
            rw [List.map_cons, List.sum_cons, ih hn.2 fun r hr => hq r (List.mem_cons_of_mem _ hr)]
            by_cases e : q = p
            · subst e
              rw [if_neg hn.1, if_pos List.mem_cons_self]; omega
            · rw [hq q List.mem_cons_self e]
              by_cases e2 : p ∈ R
              · rw [if_pos e2, if_pos (List.mem_cons_of_mem _ e2)]; omega
              · rw [if_neg e2, if_neg (fun z => (List.mem_cons.mp z).elim (fun y => e y.symm) e2)]; rfl
        rw [hsum _ (grp_nd _ _ _) hq0, if_pos (mem_grp.mpr ⟨p0, by omega, rfl⟩)] at hz
        omega
      · rw [hother p c1 c2]
        refine I.done p p0 p1 fun ⟨s, hs, hx⟩ => ?_
        by_cases cs : s = t
        · subst cs
          exact (hends p hx).elim c1 c2
        · exact hp ⟨s, hback s hs cs, hx⟩
  · have h1 : p ≠ u := fun z => hnu (z ▸ hp)
    have h2 : q ≠ u := fun z => hnu (z ▸ hq)
    obtain ⟨s, hs, hx⟩ := hp
    obtain ⟨s', hs', hx'⟩ := hq
    exact hmap h1 h2 (I.held p q ⟨s, (hsub s hs).1, hx⟩ ⟨s', (hsub s' hs').1, hx'⟩ c)
end L2
namespace L2
open PySem PySem.Spec PyProof.Rows
end L2
namespace L2
open PySem PySem.Spec PyProof.Rows
def en (p : Int) (e : Int × Int) : Int := (if e.1 = p then 1 else 0) + (if e.2 = p then 1 else 0)
def ens (es : List (Int × Int)) (p : Int) (ts : List Int) : Int := (ts.map fun t => en p (tieOf es t)).sum
theorem sum_snocI (l : List Int) (a : Int) : (l ++ [a]).sum = l.sum + a := by
  induction l with
  | nil => show a + 0 = 0 + a; omega
  | cons x l ih => show x + (l ++ [a]).sum = x + l.sum + a; rw [ih]; omega
theorem ens_snoc (es : List (Int × Int)) (p : Int) (ts : List Int) (t : Int) : ens es p (ts ++ [t]) = ens es p ts + en p (tieOf es t) := by
  unfold ens; rw [List.map_append]; exact sum_snocI _ _
theorem en_far {e : Int × Int} {p : Int} (q : Int) (hp : e.1 = p ∨ e.2 = p) : en q e = (if p = q then 1 else 0) + (if far e p = q then 1 else 0) := by
  unfold en far
  by_cases c : e.1 = p
  · rw [if_pos c, c]
  · have c2 := hp.resolve_left c
    rw [if_neg c, c2]; omega
theorem Way.cnt {es : List (Int × Int)} {ss ts ps : List Int} {a b : Int} (h : Way es ss a ts ps b) (q : Int) : ens es q ts = 2 * (if q ∈ ps ++ [b] then 1 else 0) - (if a = q then 1 else 0) - (if b = q then 1 else 0) := by
  induction h with
  | nil =>
    rw [List.nil_append]
    show (0 : Int) = _
    by_cases c : a = q
    · rw [if_pos (List.mem_singleton.mpr c.symm), if_pos c]; rfl
    · rw [if_neg (fun z => c (List.mem_singleton.mp z).symm), if_neg c]; rfl
  | @snoc ts ps p t h _ _ _ hp hn ih =>
    rw [ens_snoc, ih, en_far q hp]
    obtain ⟨f, ef⟩ : ∃ f, f = far (tieOf es t) p := ⟨_, rfl⟩
    rw [← ef] at hn ⊢
    by_cases c : f = q
    · subst c
      rw [if_neg hn, if_pos (List.mem_append_right _ (List.mem_singleton.mpr rfl)), if_pos rfl]
      omega
    · have e : (q ∈ ps ++ [p] ++ [f]) ↔ q ∈ ps ++ [p] := by
        rw [List.mem_append (t := [f]), List.mem_singleton]
        exact ⟨fun z => z.resolve_right (fun y => c y.symm), .inl⟩
      rw [if_neg c]
      by_cases c2 : q ∈ ps ++ [p]
      · rw [if_pos c2, if_pos (e.mpr c2)]; omega
      · rw [if_neg c2, if_neg (fun z => c2 (e.mp z))]; omega
end L2
namespace L2
open PySem PySem.Spec PyProof.Rows
section
variable {X : Cx}
end
def dg (k : Int) : Nat → Int → List Int
  | 0, _ => []
  | n + 1, N => N % k :: dg k n (N / k)
noncomputable def frv (es : List (Int × Int)) (rs : List Int) : List Int := (fre es).map fun t => rs.getD t.toNat 0
theorem getD_map_mod (fs : List Int) (k : Int) (n : Nat) : (fs.map (· % k)).getD n 0 = fs.getD n 0 % k := by
  rw [List.getD_eq_getElem?_getD, List.getElem?_map, List.getD_eq_getElem?_getD]
  cases fs[n]? with
  | none => exact (Int.zero_emod k).symm
  | some v => rfl
theorem gD_at {xs : List Int} {i : Nat} (h : i < xs.length) : xs.getD i 0 = xs[i] := by rw [List.getD_eq_getElem?_getD, List.getElem?_eq_getElem h]; rfl
theorem FW.frv {k : Int} {es : List (Int × Int)} {ws fs : List Int} (hl : ws.length = (fre es).length) (hw : ∀ d ∈ ws, 0 ≤ d ∧ d < k) (h : FW es ws fs) : frv es (fs.map (· % k)) = ws := by
  unfold L2.frv
  apply List.ext_getElem (by rw [List.length_map]; exact hl.symm)
  intro i h1 h2
  rw [List.length_map] at h1
  have e := h.2.2 i h1
  rw [gD_at h1, gD_at h2] at e
  obtain ⟨b1, b2⟩ := hw ws[i] (List.getElem_mem h2)
  rw [List.getElem_map, getD_map_mod, e, Int.emod_eq_of_lt b1 b2]
end L2
namespace L2
open PySem PySem.Spec PyProof.Rows PySem.W Builtin Builtin.ObjectAttr
structure ExI (K : Frag) (A F f : Addr) : Prop where
  lk : ∃ nm qn N bs sn sub ab col dd k0 k1 k2 k3 k5, K.lookup A = some (excClassObj nm qn A N bs (.ref F :: vErr) true sn sub ab col dd k0 k1 k2 k3 k5 "ValueError.__new__")
  up : IsExc K F
  ini : findIn K (.ref A) "__init__" = some (some (.ref f))
  fn : isFn K (.ref f) = true
  sa : findIn K (.ref A) "__setattr__" = some (some (.builtin "object.__setattr__"))
  nt : findIn K (.ref A) "tie" = some none
theorem ExI.dict {K : Frag} {A F f : Addr} (c : ExI K A F f) : hasDictIn K A = true := by
  obtain ⟨nm, qn, N, bs, sn, sub, ab, col, dd, k0, k1, k2, k3, k5, look⟩ := c.lk
  unfold hasDictIn clsIn
  rw [look]; rfl
section
variable {prog : Program} {w : World} {B : Around} {E : Value → Shared → Prop} {K : Frag} {A F f : Addr} {h : Heap} {g : Array GenState} {d : Drawn} {t : Nat} {os : OsState}
end
section
variable {prog : Program} {w : World} {M : Model} {B : Around} {E : Value → Shared → Prop} {env : Env}
variable {nm q : Str} {C N : Addr} {bs bm : List Value} {hdct : Bool} {sn : List Str} {sub : List Value} {ab : Bool} {col : Option Bool} {dd : Option Addr} {k0 k1 k2 k3 k5 : Option Value} {newId : String}
end
end L2
namespace L2
open PySem PySem.Spec PyProof.Rows PySem.W Builtin Builtin.ObjectAttr
section
variable {prog : Program} {w : World} {B : Around} {E : Value → Shared → Prop} {K : Frag} {A F f x : Addr} {s : Shared}
end
section
variable {X : Cx} {σ : St} {H : Hp} {s : Shared} {A F f x : Addr}
end
section
variable {X : Cx} {Ex : St → Value → Hp → Prop}
end
section
variable {X : Cx}
end
section
variable {prog : Program} {w : World} {B : Around} {E : Value → Shared → Prop} {K : Frag} {A x : Addr} {s : Shared}
end
section
variable {X : Cx}
end
end L2
namespace L2
open PySem PySem.Spec PyProof.Rows PySem.W
def ClsX (C : Value) (A : Addr) : Prop := C = .ref A ∨ ∃ d, C = .int d A
theorem ClsX.cls {o : Obj} {C : Value} {A : Addr} (h : ClsX C A) (i : IsX o C) : o.cls = .ref A := by
  rcases h with rfl | ⟨d, rfl⟩
  · exact i
  · exact i.1
section
variable {X : Cx}
end
end L2
namespace L2
open PySem PySem.Spec PyProof.Rows PySem.W
section
variable {X : Cx}
end
end L2
namespace L2
open PySem
end L2
namespace L2
open PySem PySem.Spec PyProof.Rows
abbrev IsTri (h : Heap) (T : Addr) (a b c : Value) : Prop := h.get? T = some { cls := .type "tuple", data := .seq #[a, b, c] }
structure ZA3 (z TO i1 i2 i3 : Addr) (f1 f2 f3 : List Addr) : Prop where
  m1 : i1 ∈ f1
  m2 : i2 ∈ f2
  m3 : i3 ∈ f3
  z1 : z ∉ f1
  z2 : z ∉ f2
  z3 : z ∉ f3
  o1 : TO ∉ f1
  o2 : TO ∉ f2
  o3 : TO ∉ f3
  x12 : i1 ∉ f2
  x13 : i1 ∉ f3
  x21 : i2 ∉ f1
  x23 : i2 ∉ f3
  x31 : i3 ∉ f1
  x32 : i3 ∉ f2
  oz : TO ≠ z
section
variable {prog : Program} {w : World} {A : Around} {E : Value → Shared → Prop} {s : Shared} {z TI TO i1 i2 i3 : Addr} {f1 f2 f3 : List Addr} {n1 n2 n3 i : Nat} {P1 P2 P3 : Nat → Value → Prop} {S1 S2 S3 : Nat → Heap → Prop} {a b c : Value}
set_option maxHeartbeats 8000000 in
theorem zip3_itemD {Q : Value → Shared → Prop} (D1 : Draws prog w A i1 f1 n1 P1 S1) (D2 : Draws prog w A i2 f2 n2 P2 S2) (D3 : Draws prog w A i3 f3 n3 P3 S3) (Z : ZA3 z TO i1 i2 i3 f1 f2 f3) (hz : IsZip s.heap z TI TO .none) (hTI : IsTri s.heap TI (.ref i1) (.ref i2) (.ref i3)) (hTO : IsTri s.heap TO a b c) (h1 : S1 i s.heap) (h2 : S2 i s.heap) (h3 : S3 i s.heap) (l1 : i < n1) (l2 : i < n2) (l3 : i < n3)
    (hQ : ∀ x y u h' tk, P1 i x → P2 i y → P3 i u → IsZip h' z TI TO (rawInt s.heap.objs.size) → IsTri h' TO x y u → S1 (i + 1) h' → S2 (i + 1) h' → S3 (i + 1) h' → IsTri h' s.heap.objs.size x y u →
      (∀ c o, c ≠ z → c ≠ TO → c ≠ i1 → c ≠ i2 → c ≠ i3 → s.heap.get? c = some o → h'.get? c = some o) → Q (.ref s.heap.objs.size) { s with heap := h', toks := tk }) :
    wpAny (model prog w) A (Builtin.«zip.__next__» ⟨[.ref z], []⟩) (fun fin s' => ∃ v, fin = .done (.ret v) ∧ Q v s') E s := by
  obtain ⟨hp, g, d, tk₀, os⟩ := s
  have Oz := Z.oz
  have kz := Heap.get?_update_self (Obj.mapFields fun v => v.setIfInBounds 0 Value.ellipsis) hz rfl
  unfold Builtin.«zip.__next__»
  wp_walk using AutoSeq1.wpAny_loadPart' hz, AutoSeq1.wpAny_loadPart' hTI, wpAny_onRaise, D1.item i _ _ _ l1
  · exact D1.frame _ _ _ h1 fun c hc o e => Heap.get?_update_of_ne _ (nin Z.z1 hc).symm e
  intro x h₂ t₂ px s₁ b₂
  have q2 : ∀ c o, c ≠ z → c ≠ i1 → hp.get? c = some o → h₂.get? c = some o := fun c o cz c1 e => b₂.extBut _ _ c1 (Heap.get?_update_of_ne _ cz.symm e)
  have ez := b₂.extBut _ _ (nin Z.z1 Z.m1).symm kz
  have TO2 : IsTri h₂ TO a b c := q2 _ _ Z.oz (nin Z.o1 Z.m1).symm hTO
  have kO := Heap.get?_update_self (Obj.mapSeq fun v => v.setIfInBounds 0 x) TO2 rfl
  wp_walk using AutoSeq1.wpAny_loadPart' TO2, wpAny_onRaise, D2.item i _ _ _ l2
  · exact D2.frame _ _ _ h2 fun c hc o e => Heap.get?_update_of_ne _ (nin Z.o2 hc).symm (q2 _ _ (nin Z.z2 hc) (nin Z.x12 hc) e)
  intro y h₄ t₄ py s₂ b₄
  have q4 : ∀ c o, c ≠ TO → c ≠ i2 → h₂.get? c = some o → h₄.get? c = some o := fun c o co c2 e => b₄.extBut _ _ c2 (Heap.get?_update_of_ne _ co.symm e)
  have ez4 := q4 _ _ Z.oz.symm (nin Z.z2 Z.m2).symm ez
  have TO4 : IsTri h₄ TO x b c := b₄.extBut _ _ (nin Z.o2 Z.m2).symm kO
  have kP := Heap.get?_update_self (Obj.mapSeq fun v => v.setIfInBounds 1 y) TO4 rfl
  wp_walk using AutoSeq1.wpAny_loadPart' TO4, wpAny_onRaise, D3.item i _ _ _ l3
  · exact D3.frame _ _ _ h3 fun c hc o e => Heap.get?_update_of_ne _ (nin Z.o3 hc).symm (q4 _ _ (nin Z.o3 hc) (nin Z.x23 hc) (q2 _ _ (nin Z.z3 hc) (nin Z.x13 hc) e))
  intro u h₆ t₆ pu s₃ b₆
  have q6 : ∀ c o, c ≠ TO → c ≠ i3 → h₄.get? c = some o → h₆.get? c = some o := fun c o co c3 e => b₆.extBut _ _ c3 (Heap.get?_update_of_ne _ co.symm e)
  have ez6 : IsZip h₆ z TI TO .ellipsis := q6 _ _ Z.oz.symm (nin Z.z3 Z.m3).symm ez4
  have TO6 : IsTri h₆ TO x y c := b₆.extBut _ _ (nin Z.o3 Z.m3).symm kP
  have n6 : h₆.objs.size = hp.objs.size := by rw [b₆.1, Heap.size_after_update, b₄.1, Heap.size_after_update, b₂.1, Heap.size_after_update]
  have kR := Heap.get?_update_self (Obj.mapSeq fun v => v.setIfInBounds 2 u) TO6 rfl
  wp_walk using AutoSeq1.wpAny_loadPart' TO6, AutoSeq1.wpAny_loadPart' kR
  have n7 : (h₆.update TO (Obj.mapSeq fun v => v.setIfInBounds 2 u)).objs.size = hp.objs.size := Heap.size_after_update .. |>.trans n6
  have zl : z < hp.objs.size := Heap.lt_size hz
  refine ⟨_, rfl, ?_⟩
  rw [n7]
  have on : ∀ {c o} (f k : Obj → Obj), c ≠ z → ((h₆.update TO (Obj.mapSeq fun v => v.setIfInBounds 2 u)).push { cls := .type "tuple", data := .seq #[x, y, u] }).get? c = some o →
      ((((h₆.update TO (Obj.mapSeq fun v => v.setIfInBounds 2 u)).push { cls := .type "tuple", data := .seq #[x, y, u] }).update z f).update z k).get? c = some o := fun f k q e => Heap.get?_update_of_ne _ q.symm (Heap.get?_update_of_ne _ q.symm e)
  have up : ∀ {c o} (f k : Obj → Obj), c ≠ z → c ≠ TO → h₆.get? c = some o → ((((h₆.update TO (Obj.mapSeq fun v => v.setIfInBounds 2 u)).push { cls := .type "tuple", data := .seq #[x, y, u] }).update z f).update z k).get? c = some o :=
    fun f k q q' e => on f k q (Heap.get?_push_of_some _ (Heap.get?_update_of_ne _ q'.symm e))
  refine hQ x y u _ t₆ px py pu ?_ ?_ ?_ ?_ ?_ ?_ ?_
  · exact Heap.get?_update_self _ (Heap.get?_update_self _ (Heap.get?_push_of_some _ (Heap.get?_update_of_ne _ Z.oz ez6)) rfl) rfl
  · exact on _ _ Z.oz (Heap.get?_push_of_some _ kR)
  · exact D1.frame _ _ _ s₁ fun c hc o e => up _ _ (nin Z.z1 hc) (nin Z.o1 hc) (q6 _ _ (nin Z.o1 hc) (nin Z.x31 hc) (q4 _ _ (nin Z.o1 hc) (nin Z.x21 hc) e))
  · exact D2.frame _ _ _ s₂ fun c hc o e => up _ _ (nin Z.z2 hc) (nin Z.o2 hc) (q6 _ _ (nin Z.o2 hc) (nin Z.x32 hc) e)
  · exact D3.frame _ _ _ s₃ fun c hc o e => up _ _ (nin Z.z3 hc) (nin Z.o3 hc) e
  · exact on _ _ (Nat.ne_of_gt zl) (Heap.get?_push_at n7.symm rfl)
  · exact fun c o c1 c2 c3 c4 c5 e => up _ _ c1 c2 (q6 _ _ c2 c5 (q4 _ _ c2 c4 (q2 _ _ c1 c3 e)))
set_option maxHeartbeats 4000000 in
theorem zip3_endD {Q : Fin → Shared → Prop} (D1 : Draws prog w A i1 f1 n1 P1 S1) (m1 : i1 ∈ f1) (z1 : z ∉ f1) (hz : IsZip s.heap z TI TO .none) (hTI : IsTri s.heap TI (.ref i1) (.ref i2) (.ref i3)) (h1 : S1 n1 s.heap)
    (hE : ∀ h' tk e, (∀ c o, c ≠ z → c ≠ i1 → s.heap.get? c = some o → h'.get? c = some o) → (∃ o, h'.get? e = some o ∧ o.cls = .type "StopIteration") → E (.ref e) { s with heap := h', toks := tk }) :
    wpAny (model prog w) A (Builtin.«zip.__next__» ⟨[.ref z], []⟩) Q E s := by
  obtain ⟨hp, g, d, tk₀, os⟩ := s
  have kz := Heap.get?_update_self (Obj.mapFields fun v => v.setIfInBounds 0 Value.ellipsis) hz rfl
  have first : S1 n1 (hp.update z (Obj.mapFields fun v => v.setIfInBounds 0 Value.ellipsis)) := D1.frame _ _ _ h1 fun c hc o e => Heap.get?_update_of_ne _ (nin z1 hc).symm e
  unfold Builtin.«zip.__next__»
  wp_walk using AutoSeq1.wpAny_loadPart' hz, AutoSeq1.wpAny_loadPart' hTI, wpAny_onRaise, D1.done _ _ _ first
  rintro h₂ e b₂ ⟨o, ho, hc⟩
  have ez : h₂.get? z = _ := b₂ _ _ (nin z1 m1).symm kz
  have ne : e ≠ z := fun q => by rw [q, ez] at ho; cases ho; exact absurd (Value.type.inj hc) (by decide)
  wp_walk using wpAny_updatePart' ez
  exact hE _ _ _ (fun c o c1 c2 q => Heap.get?_update_of_ne _ c1.symm (b₂ _ _ c2 (Heap.get?_update_of_ne _ c1.symm q))) ⟨o, Heap.get?_update_of_ne _ ne.symm ho, hc⟩
end
end L2
namespace L2
open PySem PySem.Spec PyProof.Rows
abbrev z3I (h : Heap) (l : Addr) : Heap := h.push { cls := .type "list_iterator", data := .fields #[.ref l, .int 0 0] }
abbrev z3L (h : Heap) (l1 l2 l3 : Addr) : Heap := z3I (z3I (z3I h l1) l2) l3
abbrev z3T (h : Heap) (l1 l2 l3 : Addr) : Heap := (z3L h l1 l2 l3).push { cls := .type "tuple", data := .seq #[.ref h.objs.size, .ref (z3I h l1).objs.size, .ref (z3I (z3I h l1) l2).objs.size] }
abbrev z3O (h : Heap) (l1 l2 l3 : Addr) : Heap := (z3T h l1 l2 l3).push { cls := .type "tuple", data := .seq #[.none, .none, .none] }
abbrev z3Z (h : Heap) (l1 l2 l3 : Addr) : Heap := (z3O h l1 l2 l3).push { cls := .type "zip", data := .fields #[.none, .bool false, .bool false, .ref (z3L h l1 l2 l3).objs.size, .ref (z3T h l1 l2 l3).objs.size] }
set_option maxHeartbeats 8000000 in
theorem meets_zip3 (l1 l2 l3 : Addr) (xs ys zs : Array Value) : Meets (Builtin.«zip.__new__» ⟨[.type "zip", .ref l1, .ref l2, .ref l3], []⟩) (fun _ R s => SSq false s.heap l1 xs ∧ SSq false s.heap l2 ys ∧ SSq false s.heap l3 zs ∧ R (.ok (.ret (.ref (z3O s.heap l1 l2 l3).objs.size))) { s with heap := z3Z s.heap l1 l2 l3 }) :=
  .of_wp fun prog w A R s h => by
    obtain ⟨hp, g, d, tk, os⟩ := s; obtain ⟨hl1, hl2, hl3, h⟩ := h; have hsub := sub_zip
    have A1 : (Shared.heap ⟨hp, g, d, tk, os⟩).IsList l1 xs := hl1
    have A2 : (Shared.heap ⟨z3I hp l1, g, d, tk, os⟩).IsList l2 ys := SSq.keep (b := false) hl2 fun o e => Heap.get?_push_of_some _ e
    have A3 : (Shared.heap ⟨z3I (z3I hp l1) l2, g, d, tk, os⟩).IsList l3 zs := SSq.keep (b := false) hl3 fun o e => Heap.get?_push_of_some _ (Heap.get?_push_of_some _ e)
    wp_walk using wpAny_pyIter_list A1, wpAny_pyIter_list A2, wpAny_pyIter_list A3
    exact ⟨_, rfl, h⟩
theorem typeCall_z3 (a b c : Value) : checkTypeCall "zip" ⟨[a, b, c], []⟩ = pure () := by kernel_rfl
theorem newCall_z3 (a b c : Value) : checkBuiltinCall "zip.__new__" ⟨[.type "zip", a, b, c], []⟩ = pure () := by kernel_rfl
theorem init_z3 (o a b c : Value) : argsOk "object.__init__" ⟨[o, a, b, c], []⟩ := by unfold argsOk; kernel_rfl
section
variable {prog : Program} {w : World} {A : Around} {E : Value → Shared → Prop} {s : Shared}
theorem call_zip3 {l1 l2 l3 : Addr} {xs ys zs : Array Value} {Q : Value → Shared → Prop} (hl1 : SSq false s.heap l1 xs) (hl2 : SSq false s.heap l2 ys) (hl3 : SSq false s.heap l3 zs)
    (h : ∀ n h', n = s.heap.objs.size → IsZip h' (n + 5) (n + 3) (n + 4) .none → IsTri h' (n + 3) (.ref n) (.ref (n + 1)) (.ref (n + 2)) → IsTri h' (n + 4) .none .none .none → SIt false h' n l1 0 → SIt false h' (n + 1) l2 0 → SIt false h' (n + 2) l3 0 → (∀ c o, s.heap.get? c = some o → h'.get? c = some o) → Q (.ref (n + 5)) { s with heap := h' }) :
    wpAny (model prog w) A (call (.type "zip") [.ref l1, .ref l2, .ref l3]) Q E s := by
  refine callType_new F.called_zip (by decide) (typeCall_z3 _ _ _) (newCall_z3 _ _ _) (fun obj => init_z3 obj _ _ _) F.entry_zip_new (meets_zip3 l1 l2 l3 xs ys zs) ⟨hl1, hl2, hl3, ?_⟩
  have sz : ∀ (h : Heap) (o : Obj) (n : Nat), h.objs.size = n → (h.push o).objs.size = n + 1 := fun h o n e => by rw [Heap.size_push, e]
  have old : ∀ {h : Heap} {o u : Obj} {a : Addr}, h.get? a = some u → (h.push o).get? a = some u := fun e => Heap.get?_push_of_some _ e
  obtain ⟨n, hn⟩ : ∃ n, n = s.heap.objs.size := ⟨_, rfl⟩
  have z1 := sz s.heap { cls := .type "list_iterator", data := .fields #[.ref l1, .int 0 0] } n hn.symm
  have z2 := sz _ { cls := .type "list_iterator", data := .fields #[.ref l2, .int 0 0] } _ z1
  have z3 := sz _ { cls := .type "list_iterator", data := .fields #[.ref l3, .int 0 0] } _ z2
  have z4 := sz (z3L s.heap l1 l2 l3) { cls := .type "tuple", data := .seq #[.ref s.heap.objs.size, .ref (z3I s.heap l1).objs.size, .ref (z3I (z3I s.heap l1) l2).objs.size] } _ z3
  have z5 := sz (z3T s.heap l1 l2 l3) { cls := .type "tuple", data := .seq #[.none, .none, .none] } _ z4
  have k1 : (z3I s.heap l1).get? n = some { cls := .type "list_iterator", data := .fields #[.ref l1, .int 0 0] } := Heap.get?_push_at hn rfl
  have k2 : (z3I (z3I s.heap l1) l2).get? (n + 1) = some { cls := .type "list_iterator", data := .fields #[.ref l2, .int 0 0] } := Heap.get?_push_at z1.symm rfl
  have k3 : (z3L s.heap l1 l2 l3).get? (n + 2) = some { cls := .type "list_iterator", data := .fields #[.ref l3, .int 0 0] } := Heap.get?_push_at z2.symm rfl
  have k4 : IsTri (z3T s.heap l1 l2 l3) (n + 3) (.ref n) (.ref (n + 1)) (.ref (n + 2)) := (Heap.get?_push_at z3.symm rfl).trans (by rw [← hn, z1, z2])
  have k5 : IsTri (z3O s.heap l1 l2 l3) (n + 4) .none .none .none := Heap.get?_push_at z4.symm rfl
  have k6 : IsZip (z3Z s.heap l1 l2 l3) (n + 5) (n + 3) (n + 4) .none := (Heap.get?_push_at z5.symm rfl).trans (by rw [z3, z4])
  show _ ∧ _
  rw [z5]
  exact ⟨⟨_, k6, rfl⟩, h n _ hn k6 (old (old k4)) (old k5) ⟨_, old (old (old (old (old k1)))), rfl, rfl⟩ ⟨_, old (old (old (old k2))), rfl, rfl⟩ ⟨_, old (old (old k3)), rfl, rfl⟩ fun c o x => old (old (old (old (old (old x)))))⟩
end
def Itz3 (K : PySem.W.Frag) (a1 a2 a3 : Addr) (xs ys zs : List V) : It :=
  ⟨fun i H => SqL K H a1 xs ∧ SqL K H a2 ys ∧ SqL K H a3 zs ∧ i < xs.length, fun i H x H' => ∃ p, x = .ref p ∧ H p = none ∧ H' = upd H p (.tup [xs.getD i .non, ys.getD i .non, zs.getD i .non]), fun i H => SqL K H a1 xs ∧ SqL K H a2 ys ∧ SqL K H a3 zs ∧ i = xs.length⟩
set_option maxHeartbeats 4000000 in
theorem turn_zip3 {P : Program} {w : World} {K : PySem.W.Frag} {elts : List Expr} {kx} {pos : Pos} (a1 a2 a3 n : Addr) (xs ys zs : List V) (hy : ys.length = xs.length) (hz : zs.length = xs.length) :
    Turn P w K (.Tuple elts kx pos) (Itz3 K a1 a2 a3 xs ys zs) [n + 5, n + 3, n + 4, n, n + 1, n + 2] (n + 5) (fun i h => IsZip h (n + 5) (n + 3) (n + 4) .none ∧ IsTri h (n + 3) (.ref n) (.ref (n + 1)) (.ref (n + 2)) ∧ (∃ a b c, IsTri h (n + 4) a b c) ∧ SIt false h n a1 i ∧ SIt false h (n + 1) a2 i ∧ SIt false h (n + 2) a3 i) where
  mem := by simp
  obj := fun i h st b hb => by
    obtain ⟨k1, k2, ⟨a, b', c', k3⟩, k4, k5, k6⟩ := st
    simp only [List.mem_cons, List.not_mem_nil, or_false] at hb
    rcases hb with rfl | rfl | rfl | rfl | rfl | rfl
    · exact ⟨_, k1, fun v z => by cases z⟩
    · exact ⟨_, k2, fun v z => by cases z⟩
    · exact ⟨_, k3, fun v z => by cases z⟩
    · exact k4.obj
    · exact k5.obj
    · exact k6.obj
  keep := fun i h h' st k => by
    obtain ⟨k1, k2, ⟨a, b', c', k3⟩, k4, k5, k6⟩ := st
    exact ⟨k _ (by simp) _ k1, k _ (by simp) _ k2, ⟨a, b', c', k _ (by simp) _ k3⟩, k4.keep fun o e => k _ (by simp) o e, k5.keep fun o e => k _ (by simp) o e, k6.keep fun o e => k _ (by simp) o e⟩
  item := by
    intro X hP hw hK hc i pins s σ H E I hf st hg
    subst hP hw hK
    obtain ⟨k1, k2, ⟨a, b', c', k3⟩, k4, k5, k6⟩ := st
    obtain ⟨q1, q2, q3, hx⟩ := hg
    obtain ⟨its1, r1, p1, w1⟩ := I.src (b := false) q1
    obtain ⟨its2, r2, p2, w2⟩ := I.src (b := false) q2
    obtain ⟨its3, r3, p3, w3⟩ := I.src (b := false) q3
    have fz := hf (n + 5) (by simp); have fo := hf (n + 4) (by simp); have f1 := hf n (by simp); have f2 := hf (n + 1) (by simp); have f3 := hf (n + 2) (by simp)
    have hT : s.TypeIs (.ref (n + 5)) "zip" := ⟨_, k1, rfl⟩
    have D1 := draws_src (prog := X.prog) (w := X.w) (A := X.A.in1) (I.ok.hd hc) false n a1 (I.srcNe (b := false) q1 f1) its1.toArray
    have D2 := draws_src (prog := X.prog) (w := X.w) (A := X.A.in1) (I.ok.hd hc) false (n + 1) a2 (I.srcNe (b := false) q2 f2) its2.toArray
    have D3 := draws_src (prog := X.prog) (w := X.w) (A := X.A.in1) (I.ok.hd hc) false (n + 2) a3 (I.srcNe (b := false) q3 f3) its3.toArray
    have g : ∀ {d b : Addr} {us : List V}, SqL X.K H d us → FpOk X pins H b → b ≠ d := fun q f => (I.srcNe (b := false) q f).symm
    have Z : ZA3 (n + 5) (n + 4) n (n + 1) (n + 2) [n, a1] [n + 1, a2] [n + 2, a3] := ⟨by simp, by simp, by simp, by simp [g q1 fz], by simp [g q2 fz], by simp [g q3 fz], by simp [g q1 fo], by simp [g q2 fo], by simp [g q3 fo], by simp [g q2 f1], by simp [g q3 f1], by simp [g q1 f2], by simp [g q3 f2], by simp [g q1 f3], by simp [g q2 f3], by simp⟩
    have len1 := r1.length; have len2 := r2.length; have len3 := r3.length
    unfold pyNext
    refine wpAny_bind (wpAny_attempt (wpAny_callSpecial?_slot (name := Str.ofString "__next__") hT F.slot_zip_next (wpAny_call_entry F.slot_zip_next hT F.entry_zip_next
      (zip3_itemD D1 D2 D3 Z k1 k2 k3 ⟨k4, p1⟩ ⟨k5, p2⟩ ⟨k6, p3⟩ (by simp; omega) (by simp; omega) (by simp; omega) fun x y u h' tk px py pu hz' hTO' s1 s2 s3 hT' hk => wpAny_pure ?_) (F.args_zip_next_1 _))))
    have r : Vals [xs.getD i .non, ys.getD i .non, zs.getD i .non] [x, y, u] := .cons (getD_val r1 px) (.cons (getD_val r2 py) (.cons (getD_val r3 pu) .nil))
    have I1 : Inv X pins σ (upd H s.heap.objs.size (.tup [xs.getD i .non, ys.getD i .non, zs.getD i .non])) { s with heap := h', toks := tk } :=
      I.turnedLaid (t' := tk) hf (fun c o hc e => hk c o (fun q => hc (by simp [q])) (fun q => hc (by simp [q])) (fun q => hc (by simp [q])) (fun q => hc (by simp [q])) (fun q => hc (by simp [q])) e) r (by show 3 ≤ sizeLine; decide) ⟨_, hT', rfl, _, rfl⟩
    have nH : H s.heap.objs.size = none := I.hok.fresh (Nat.le_refl _)
    have fresh : ∀ b ∈ [n + 5, n + 3, n + 4, n, n + 1, n + 2], (upd H s.heap.objs.size (.tup [xs.getD i .non, ys.getD i .non, zs.getD i .non])) b = none := fun b hb => by
      rw [upd_ne ?_]
      · exact (hf b hb).1
      · have hl := Heap.lt_size k1
        simp only [List.mem_cons, List.not_mem_nil, or_false] at hb
        have le : ∀ j, j ≤ 5 → n + j ≠ s.heap.objs.size := fun j hj => Nat.ne_of_lt (Nat.lt_of_le_of_lt (Nat.add_le_add_left hj n) hl)
        rcases hb with rfl | rfl | rfl | rfl | rfl | rfl <;> first | exact le 5 (by decide) | exact le 3 (by decide) | exact le 4 (by decide) | exact le 0 (by decide) | exact le 1 (by decide) | exact le 2 (by decide)
    obtain ⟨f0, f1', f2', f3', f4', f5'⟩ := fz
    refine ⟨_, rfl, wpAny_letOwnedTupleGo_zip hz' fun h2' hz2 sb => ⟨.ref s.heap.objs.size, _, I1.turned (t' := tk) (fun b o hb e => (sb.2 b hb).trans e) (fresh (n + 5) (by simp)) f1' f3' f4' f5', rfl, ⟨_, rfl, nH, rfl⟩, ⟨hz2, ?_, ⟨x, y, u, ?_⟩, ?_, ?_, ?_⟩, fresh⟩⟩
    · exact (sb.2 (n + 3) (by simp)).trans (hk _ _ (by simp) (by simp) (by simp) (by simp) (by simp) k2)
    · exact (sb.2 (n + 4) (by simp)).trans hTO'
    · exact s1.1.keep fun o e => (sb.2 n (by simp)).trans e
    · exact s2.1.keep fun o e => (sb.2 (n + 1) (by simp)).trans e
    · exact s3.1.keep fun o e => (sb.2 (n + 2) (by simp)).trans e
  done := by
    intro X hP hw hK hc i pins s σ H E I hf st hg
    subst hP hw hK
    obtain ⟨k1, k2, ⟨a, b', c', k3⟩, k4, k5, k6⟩ := st
    obtain ⟨q1, q2, q3, rfl⟩ := hg
    obtain ⟨its1, r1, p1, w1⟩ := I.src (b := false) q1
    have fz := hf (n + 5) (by simp); have f1 := hf n (by simp)
    have hT : s.TypeIs (.ref (n + 5)) "zip" := ⟨_, k1, rfl⟩
    have D1 := draws_src (prog := X.prog) (w := X.w) (A := X.A.in1) (I.ok.hd hc) false n a1 (I.srcNe (b := false) q1 f1) its1.toArray
    have len1 : its1.toArray.size = xs.length := by simp [r1.length]
    rw [len1] at D1
    unfold pyNext
    refine wpAny_bind (wpAny_attempt (wpAny_callSpecial?_slot (name := Str.ofString "__next__") hT F.slot_zip_next (wpAny_call_entry F.slot_zip_next hT F.entry_zip_next
      (zip3_endD D1 (by simp) (by simp [(I.srcNe (b := false) q1 fz).symm]) k1 k2 ⟨k4, p1⟩ fun h' tk e hk he => ?_) (F.args_zip_next_1 _))))
    obtain ⟨o, ho, hcl⟩ := he
    refine wpAny_bind (wpAny_isInstance (T := "StopIteration") (b := true) ⟨o, ho, hcl⟩ isSubtype_stop ?_)
    exact wpAny_pure ⟨rfl, I.turnedAll (t' := tk) hf fun c o hc e => hk c o (fun q => hc (by simp [q])) (fun q => hc (by simp [q])) e⟩
  self := fun A i s Q E st h => wpAny_pyIter_zip st.1 h
theorem itp_zip3 {K : PySem.W.Frag} {a1 a2 a3 : Addr} {xs ys zs : List V} : ItP (Itz3 K a1 a2 a3 xs ys zs) xs.length (fun i => [xs.getD i .non, ys.getD i .non, zs.getD i .non]) (fun H => SqL K H a1 xs ∧ SqL K H a2 ys ∧ SqL K H a3 zs) where
  go := fun i H c hi => ⟨c.1, c.2.1, c.2.2, hi⟩
  yld := fun i H x H' c hi y => y
  stop := fun H c => ⟨c.1, c.2.1, c.2.2, rfl⟩
def iZip3 (K : PySem.W.Frag) (ta : TA) : TI := fun σ H R => ta σ H fun vs H1 => ∃ (a1 a2 a3 : Addr) (xs ys zs : List V), vs = [.ref a1, .ref a2, .ref a3] ∧ SqL K H1 a1 xs ∧ SqL K H1 a2 ys ∧ SqL K H1 a3 zs ∧ ys.length = xs.length ∧ zs.length = xs.length ∧
  ∀ J C, ItP J xs.length (fun i => [xs.getD i .non, ys.getD i .non, zs.getD i .non]) C → (∀ H2, SqL K H2 a1 xs → SqL K H2 a2 ys → SqL K H2 a3 zs → C H2) → R J H1
theorem vals3 {x y z : V} {us : List Value} (h : Vals [x, y, z] us) : ∃ u v t, us = [u, v, t] ∧ RelV x u ∧ RelV y v ∧ RelV z t := by
  obtain _ | ⟨a, h⟩ := h
  obtain _ | ⟨b, h⟩ := h
  obtain _ | ⟨c, h⟩ := h
  cases h
  exact ⟨_, _, _, rfl, a, b, c⟩
section
variable {X : Cx} {K : PySem.W.Frag} {elts : List Expr} {kx : Nat} {tpos : Pos}
theorem pi_zip3 {a b d : Expr} {ta : TA} {p pos : Pos} (hK : X.K = K) (hg : Gl X "zip") (hm : X.mg "zip" = none) (ha : PA X [a, b, d] ta) (hs : starEach [a, b, d] X.env = [(false, eval a X.env), (false, eval b X.env), (false, eval d X.env)] := by rfl) (hs2 : starEach [b, d] X.env = [(false, eval b X.env), (false, eval d X.env)] := by rfl) :
    PI X (.Tuple elts kx tpos) (.Call (.Name "zip" p) [a, b, d] [] pos) (iZip3 K ta) := by
  subst hK
  intro pins s σ H R I h
  refine Call_ (ld_blt I hg hm boot_zip (PyProof.Rows.callWith_type1 (thn (ha pos pins s σ H _ I h) fun us s1 ⟨vs, H1, I1, r1, q1⟩ => ?_) (by rw [hs, hs2]) (by rw [hs2]; rfl)))
  obtain ⟨a1, a2, a3, xs, ys, zs, e, q1, q2, q3, hy, hz, q⟩ := q1
  subst e
  obtain ⟨u, v, t, rfl, rx, ry, rz⟩ := vals3 r1
  cases rx; cases ry; cases rz
  obtain ⟨its1, rv1, p1, _⟩ := I1.src (b := false) q1
  obtain ⟨its2, rv2, p2, _⟩ := I1.src (b := false) q2
  obtain ⟨its3, rv3, p3, _⟩ := I1.src (b := false) q3
  refine call_zip3 p1 p2 p3 fun n h' hn k1 k2 k3 k4 k5 k6 hk => wpAny_pyIter_zip k1 ?_
  have I2 : Inv X pins σ H1 { s1 with heap := h' } := I1.kept (t' := s1.toks) hk
  refine ⟨_, [n + 5, n + 3, n + 4, n, n + 1, n + 2], _, _, H1, rfl, I2, turn_zip3 a1 a2 a3 n xs ys zs hy hz, ⟨k1, k2, ⟨_, _, _, k3⟩, k4, k5, k6⟩, fun b hb => ?_, q _ _ itp_zip3 fun H2 g1 g2 g3 => ⟨g1, g2, g3⟩⟩
  have : s1.heap.objs.size ≤ b := by
    rw [← hn]
    simp only [List.mem_cons, List.not_mem_nil, or_false] at hb
    rcases hb with rfl | rfl | rfl | rfl | rfl | rfl <;> first | exact Nat.le_add_right _ _ | exact Nat.le_refl _
  exact I1.fpOk this (I1.hok.fresh this)
end
end L2
namespace L2
open PySem
def stE (es : List (Int × Int)) (s : Int × Int) : Int := if s.2 = 1 then (tieOf es s.1).2 else (tieOf es s.1).1
def stB (es : List (Int × Int)) (s : Int × Int) : Int := if s.2 = 1 then (tieOf es s.1).1 else (tieOf es s.1).2
def StV (es : List (Int × Int)) (s : Int × Int) : Prop := 0 ≤ s.1 ∧ s.1 < (es.length : Int) ∧ (s.2 = 1 ∨ s.2 = -1)
def rmN (as lo hi : List Int) : List (Int × Int) := (List.range as.length).map fun i => (hi.getD i 0 - as.getD i 0, as.getD i 0 - lo.getD i 0)
def rmA (rm : List (Int × Int)) (s : Int × Int) : Int := if s.2 = 1 then (rm.getD s.1.toNat (0, 0)).1 else (rm.getD s.1.toNat (0, 0)).2
theorem rmN_len (as lo hi : List Int) : (rmN as lo hi).length = as.length := by unfold rmN; rw [List.length_map, List.length_range]
theorem rmN_at {as lo hi : List Int} {i : Nat} (h : i < as.length) : (rmN as lo hi).getD i (0, 0) = (hi.getD i 0 - as.getD i 0, as.getD i 0 - lo.getD i 0) := by
  unfold rmN
  rw [List.getD_eq_getElem?_getD, List.getElem?_map, List.getElem?_range h]; rfl
def stN (es rm : List (Int × Int)) (p : Int) : Nat → List (Int × Int)
  | 0 => []
  | i + 1 => (stN es rm p i ++ if (es.getD i (0, 0)).1 = p ∧ 0 < (rm.getD i (0, 0)).1 then [((i : Int), (1 : Int))] else []) ++ if (es.getD i (0, 0)).2 = p ∧ 0 < (rm.getD i (0, 0)).2 then [((i : Int), (-1 : Int))] else []
theorem mem_stN {es rm : List (Int × Int)} {p : Int} {s : Int × Int} : ∀ {n : Nat}, n ≤ es.length → s ∈ stN es rm p n → StV es s ∧ stB es s = p ∧ 0 < rmA rm s
  | 0, _, h => nomatch h
  | n + 1, hn, h => by
    rcases List.mem_append.mp h with h | h
    · rcases List.mem_append.mp h with h | h
      · exact mem_stN (by omega) h
      · split at h
        · rename_i c
          rw [List.mem_singleton.mp h]
          exact ⟨⟨by show 0 ≤ (n : Int); omega, by show (n : Int) < _; omega, .inl rfl⟩, c.1, c.2⟩
        · cases h
    · split at h
      · rename_i c
        rw [List.mem_singleton.mp h]
        exact ⟨⟨by show 0 ≤ (n : Int); omega, by show (n : Int) < _; omega, .inr rfl⟩, c.1, c.2⟩
      · cases h
theorem stN_has {es rm : List (Int × Int)} {p : Int} {i : Nat} : ∀ {n : Nat}, i < n → ((es.getD i (0, 0)).1 = p → 0 < (rm.getD i (0, 0)).1 → ((i : Int), (1 : Int)) ∈ stN es rm p n) ∧ ((es.getD i (0, 0)).2 = p → 0 < (rm.getD i (0, 0)).2 → ((i : Int), (-1 : Int)) ∈ stN es rm p n)
  | 0, h => absurd h (Nat.not_lt_zero _)
  | n + 1, h => by
    by_cases c : i < n
    · obtain ⟨h1, h2⟩ := stN_has (es := es) (rm := rm) (p := p) c
      exact ⟨fun a b => List.mem_append_left _ (List.mem_append_left _ (h1 a b)), fun a b => List.mem_append_left _ (List.mem_append_left _ (h2 a b))⟩
    · obtain rfl : i = n := by omega
      refine ⟨fun a b => List.mem_append_left _ (List.mem_append_right _ ?_), fun a b => List.mem_append_right _ ?_⟩
      · rw [if_pos ⟨a, b⟩]; exact List.mem_singleton.mpr rfl
      · rw [if_pos ⟨a, b⟩]; exact List.mem_singleton.mpr rfl
def stpS (es : List (Int × Int)) (p : Int) (S : List Int × (Int → List (Int × Int))) (s : Int × Int) : List Int × (Int → List (Int × Int)) :=
  if stE es s ∈ S.1 then S else (S.1 ++ [stE es s], fun z => if z = stE es s then S.2 p ++ [s] else S.2 z)
def rndS (es rm : List (Int × Int)) (S : List Int × (Int → List (Int × Int))) (k : Nat) : List Int × (Int → List (Int × Int)) := (stN es rm (S.1.getD k 0) es.length).foldl (stpS es (S.1.getD k 0)) S
def runS (es rm : List (Int × Int)) : Nat → List Int × (Int → List (Int × Int)) → Nat → List Int × (Int → List (Int × Int))
  | 0, S, _ => S
  | n + 1, S, k => if k < S.1.length then runS es rm n (rndS es rm S k) (k + 1) else S
def wwr (es rm : List (Int × Int)) (a : Int) (m : Nat) : List Int × (Int → List (Int × Int)) := runS es rm m ([a], fun _ => []) 0
theorem runS_end {es rm : List (Int × Int)} {S : List Int × (Int → List (Int × Int))} {k : Nat} (h : ¬ k < S.1.length) : ∀ n, runS es rm n S k = S
  | 0 => rfl
  | n + 1 => if_neg h
inductive WayS (es rm : List (Int × Int)) (a : Int) : List (Int × Int) → List Int → Int → Prop
  | nil : WayS es rm a [] [] a
  | snoc {ss : List (Int × Int)} {ps : List Int} {p : Int} {s : Int × Int} : WayS es rm a ss ps p → StV es s → stB es s = p → 0 < rmA rm s → ¬ stE es s ∈ ps ++ [p] → WayS es rm a (ss ++ [s]) (ps ++ [p]) (stE es s)
section
variable {es rm : List (Int × Int)} {a p : Int} {ss : List (Int × Int)} {ps : List Int}
theorem WayS.nd (h : WayS es rm a ss ps p) : (ps ++ [p]).Nodup := by
  induction h with
  | nil => simp
  | snoc _ _ _ _ hn ih => exact nodup_snoc ih hn
theorem WayS.len (h : WayS es rm a ss ps p) : ss.length = ps.length := by
  induction h with
  | nil => rfl
  | snoc _ _ _ _ _ ih => rw [List.length_append, List.length_append, ih]; rfl
theorem WayS.first (h : WayS es rm a ss ps p) : a ∈ ps ++ [p] := by
  induction h with
  | nil => exact List.mem_singleton.mpr rfl
  | snoc _ _ _ _ _ ih => exact List.mem_append_left _ ih
theorem WayS.step (h : WayS es rm a ss ps p) : ∀ s ∈ ss, StV es s ∧ 0 < rmA rm s ∧ stE es s ≠ a ∧ stE es s ∈ ps ++ [p] ∧ stB es s ∈ ps ++ [p] := by
  induction h with
  | nil => exact fun s hs => nomatch hs
  | @snoc ss ps p s h hv hb hr hn ih =>
    intro t ht
    rcases List.mem_append.mp ht with y | y
    · obtain ⟨h1, h2, h3, h4, h5⟩ := ih t y
      exact ⟨h1, h2, h3, List.mem_append_left _ h4, List.mem_append_left _ h5⟩
    · rw [List.mem_singleton.mp y]
      exact ⟨hv, hr, fun e => hn (e ▸ h.first), List.mem_append_right _ (List.mem_singleton.mpr rfl), by rw [hb]; exact List.mem_append_left _ (List.mem_append_right _ (List.mem_singleton.mpr rfl))⟩
theorem st_ends {s t : Int × Int} (e : s.1 = t.1) : stE es s = stE es t ∨ stE es s = stB es t := by
  unfold stE stB
  rw [e]
  by_cases c1 : s.2 = 1 <;> by_cases c2 : t.2 = 1 <;> simp [c1, c2]
theorem WayS.tnd (h : WayS es rm a ss ps p) : (ss.map (·.1)).Nodup := by
  induction h with
  | nil => simp
  | @snoc ss ps p s h hv hb hr hn ih =>
    rw [List.map_append]
    refine nodup_snoc ih fun ht => ?_
    obtain ⟨t, h1, h2⟩ := List.mem_map.mp ht
    obtain ⟨_, _, _, q1, q2⟩ := h.step t h1
    rcases st_ends (es := es) (show s.1 = t.1 from h2.symm) with e | e
    · exact hn (e ▸ q1)
    · exact hn (e ▸ q2)
end
def psh (as : List Int) (ss : List (Int × Int)) (z : Int) : List Int := ss.foldl (fun as s => as.set s.1.toNat (as.getD s.1.toNat 0 + s.2 * z)) as
theorem psh_snoc (as : List Int) (ss : List (Int × Int)) (s : Int × Int) (z : Int) : psh as (ss ++ [s]) z = (psh as ss z).set s.1.toNat ((psh as ss z).getD s.1.toNat 0 + s.2 * z) := by unfold psh; rw [List.foldl_append]; rfl
theorem psh_len (as : List Int) (z : Int) (ss : List (Int × Int)) : (psh as ss z).length = as.length := by
  induction ss generalizing as with
  | nil => rfl
  | cons s ss ih => exact (ih _).trans (List.length_set ..)
theorem dp_step1 {es : List (Int × Int)} {as : List Int} {s : Int × Int} {z : Int} (hl : as.length = es.length) (hv : StV es s) (p : Int) : dp p es (as.set s.1.toNat (as.getD s.1.toNat 0 + s.2 * z)) es.length = dp p es as es.length + (if stE es s = p then z else 0) - (if stB es s = p then z else 0) := by
  obtain ⟨h0, h1, h2⟩ := hv
  rw [dp_set p es as _ _ (by omega), if_pos (by omega)]
  unfold stE stB tieOf
  have e : as.getD s.1.toNat 0 + s.2 * z - as.getD s.1.toNat 0 = s.2 * z := by omega
  rw [e]
  rcases h2 with c | c
  · rw [c, if_pos rfl, if_pos rfl, Int.one_mul]; omega
  · rw [c, if_neg (show ¬ (-1 : Int) = 1 by decide), if_neg (show ¬ (-1 : Int) = 1 by decide), Int.neg_mul, Int.one_mul]
    split <;> split <;> omega
theorem WayS.dp {es rm : List (Int × Int)} {a q : Int} {ss : List (Int × Int)} {ps : List Int} (h : WayS es rm a ss ps q) {as : List Int} {z : Int} (hl : as.length = es.length) (p : Int) : dp p es (psh as ss z) es.length = L2.dp p es as es.length + (if q = p then z else 0) - (if a = p then z else 0) := by
  induction h with
  | nil => show L2.dp p es as _ = _; omega
  | @snoc ss ps q s h hv hb hr hn ih =>
    rw [psh_snoc, dp_step1 ((psh_len ..).trans hl) hv p, ih, hb]; omega
theorem WayS.ring {es rm : List (Int × Int)} {ss : List (Int × Int)} {ps : List Int} {s : Int × Int} (h : WayS es rm (stE es s) ss ps (stB es s)) (hv : StV es s) {as : List Int} {z : Int} (hl : as.length = es.length) (p : Int) : L2.dp p es (psh as (ss ++ [s]) z) es.length = L2.dp p es as es.length := by
  rw [psh_snoc, dp_step1 ((psh_len ..).trans hl) hv p, h.dp hl p]; omega
theorem psh_out {z : Int} {t : Nat} {ss : List (Int × Int)} : ∀ {as : List Int}, (∀ s ∈ ss, s.1.toNat ≠ t) → (psh as ss z).getD t 0 = as.getD t 0 := by
  induction ss with
  | nil => intro as _; rfl
  | cons s ss ih =>
    intro as h
    have e := ih (as := as.set s.1.toNat (as.getD s.1.toNat 0 + s.2 * z)) fun u hu => h u (List.mem_cons_of_mem _ hu)
    refine Eq.trans e ?_
    rw [List.getD_eq_getElem?_getD, List.getElem?_set_ne (h s List.mem_cons_self), List.getD_eq_getElem?_getD]
theorem psh_in {es : List (Int × Int)} {z : Int} {s : Int × Int} {ss : List (Int × Int)} : ∀ {as : List Int}, as.length = es.length → (∀ u ∈ ss, StV es u) → (ss.map (·.1)).Nodup → s ∈ ss → (psh as ss z).getD s.1.toNat 0 = as.getD s.1.toNat 0 + s.2 * z := by
  induction ss with
  | nil => intro as _ _ _ h; cases h
  | cons u ss ih =>
    intro as hl hv hn hs
    rw [List.map_cons, List.nodup_cons] at hn
    have hu := hv u List.mem_cons_self
    have hl2 : (as.set u.1.toNat (as.getD u.1.toNat 0 + u.2 * z)).length = es.length := (List.length_set ..).trans hl
    rcases List.mem_cons.mp hs with y | y
    · subst y
      have e := psh_out (z := z) (t := s.1.toNat) (ss := ss) (as := as.set s.1.toNat (as.getD s.1.toNat 0 + s.2 * z)) fun v hv' e => by
        have := hv v (List.mem_cons_of_mem _ hv')
        have e' : v.1 = s.1 := by have := this.1; have := hu.1; omega
        exact hn.1 (e' ▸ List.mem_map.mpr ⟨v, hv', rfl⟩)
      refine Eq.trans e ?_
      rw [getDi_set _ _ _ _ (by have := hu.1; have := hu.2.1; omega), if_pos rfl]
    · have e := ih hl2 (fun v h => hv v (List.mem_cons_of_mem _ h)) hn.2 y
      refine Eq.trans e ?_
      have hne : u.1.toNat ≠ s.1.toNat := fun e => by
        have e' : s.1 = u.1 := by have := (hv s (List.mem_cons_of_mem _ y)).1; have := hu.1; omega
        exact hn.1 (e' ▸ List.mem_map.mpr ⟨s, y, rfl⟩)
      rw [List.getD_eq_getElem?_getD, List.getElem?_set_ne hne, List.getD_eq_getElem?_getD]
def dueI (a l h : Int) : Int := if a < l then l - a else if a > h then h - a else 0
def dueN (as lo hi : List Int) (i : Nat) : Int := dueI (as.getD i 0) (lo.getD i 0) (hi.getD i 0)
def stpD (i : Nat) (d : Int) : Int × Int := ((i : Int), if d > 0 then 1 else -1)
theorem stpD_v {es : List (Int × Int)} {i : Nat} (h : i < es.length) (d : Int) : StV es (stpD i d) := by
  refine ⟨by show 0 ≤ (i : Int); omega, by show (i : Int) < _; omega, ?_⟩
  show (if d > 0 then (1 : Int) else -1) = 1 ∨ (if d > 0 then (1 : Int) else -1) = -1
  split
  · exact .inl rfl
  · exact .inr rfl
theorem dueI_next {a l h d z : Int} (hlh : l ≤ h) (e : dueI a l h = d) (hd : d ≠ 0) (z0 : 0 < z) (z1 : z ≤ (if d < 0 then -d else d)) : (dueI (a + (if d > 0 then 1 else -1) * z) l h).natAbs < d.natAbs := by
  unfold dueI at e
  by_cases c : a < l
  · rw [if_pos c] at e
    rw [if_neg (show ¬ d < 0 by omega)] at z1
    rw [if_pos (show d > 0 by omega), Int.one_mul]
    unfold dueI
    split
    · omega
    · split <;> omega
  · rw [if_neg c] at e
    by_cases c2 : a > h
    · rw [if_pos c2] at e
      rw [if_pos (show d < 0 by omega)] at z1
      rw [if_neg (show ¬ d > 0 by omega), Int.neg_mul, Int.one_mul]
      unfold dueI
      split
      · omega
      · split <;> omega
    · rw [if_neg c2] at e; exact absurd e.symm hd
structure BtI (es : List (Int × Int)) (lo hi : List Int) (i : Nat) (as : List Int) : Prop where
  len : as.length = es.length
  flow : ∀ p : Int, dp p es as es.length = 0
  past : ∀ t, t < i → lo.getD t 0 ≤ as.getD t 0 ∧ as.getD t 0 ≤ hi.getD t 0
theorem sz_pos {rm : List (Int × Int)} {d z : Int} {ss : List (Int × Int)} (hd : d ≠ 0) (hr : ∀ s ∈ ss, 0 < rmA rm s) (h : z ∈ (if d < 0 then -d else d) :: ss.map (rmA rm)) : 0 < z := by
  rcases List.mem_cons.mp h with y | y
  · rw [y]; split <;> omega
  · obtain ⟨s, h1, h2⟩ := List.mem_map.mp y
    rw [← h2]; exact hr s h1
theorem way_not {es : List (Int × Int)} {as lo hi : List Int} {i : Nat} {ss : List (Int × Int)} {ps : List Int} {q : Int} (hi' : i < es.length) (hl : as.length = es.length) (hd : dueN as lo hi i ≠ 0) (hlh : lo.getD i 0 ≤ hi.getD i 0)
    (h : WayS es (rmN as lo hi) (stE es (stpD i (dueN as lo hi i))) ss ps q) : ∀ s ∈ ss, s.1 ≠ (i : Int) := fun s hs e => by
  obtain ⟨hv, hr, hne, _⟩ := h.step s hs
  unfold rmA at hr
  rw [e, Int.toNat_natCast, rmN_at (by omega)] at hr
  unfold dueN dueI at hd hne
  unfold stE stpD at hne
  rw [e] at hne
  rcases hv.2.2 with c | c
  · rw [c, if_pos rfl] at hne
    rw [c, if_pos rfl] at hr
    split at hd
    · rename_i c1
      rw [if_pos c1] at hne
      rw [if_pos (show lo.getD i 0 - as.getD i 0 > 0 by omega)] at hne
      exact hne (by simp)
    · split at hd
      · dsimp only at hr; omega
      · exact hd rfl
  · rw [c, if_neg (by decide)] at hne hr
    split at hd
    · dsimp only at hr; omega
    · split at hd
      · rename_i c1 c2
        rw [if_neg c1, if_pos c2] at hne
        rw [if_neg (show ¬ hi.getD i 0 - as.getD i 0 > 0 by omega)] at hne
        exact hne (by simp)
      · exact hd rfl
theorem BtI.next {es : List (Int × Int)} {lo hi as : List Int} {i : Nat} {z : Int} {ss : List (Int × Int)} {ps : List Int} (I : BtI es lo hi i as) (hi' : i < es.length) (hlh : ∀ t, t < es.length → lo.getD t 0 ≤ hi.getD t 0) (hd : dueN as lo hi i ≠ 0)
    (h : WayS es (rmN as lo hi) (stE es (stpD i (dueN as lo hi i))) ss ps (stB es (stpD i (dueN as lo hi i)))) (hz : z ∈ (if dueN as lo hi i < 0 then -dueN as lo hi i else dueN as lo hi i) :: ss.map (rmA (rmN as lo hi))) (hm : ∀ y ∈ (if dueN as lo hi i < 0 then -dueN as lo hi i else dueN as lo hi i) :: ss.map (rmA (rmN as lo hi)), z ≤ y) :
    BtI es lo hi i (psh as (ss ++ [stpD i (dueN as lo hi i)]) z) ∧ (dueN (psh as (ss ++ [stpD i (dueN as lo hi i)]) z) lo hi i).natAbs < (dueN as lo hi i).natAbs := by
  have z0 : 0 < z := sz_pos hd (fun s hs => (h.step s hs).2.1) hz
  have hv := stpD_v hi' (dueN as lo hi i)
  have hno := way_not hi' I.len hd (hlh i hi') h
  have hvs : ∀ u ∈ ss, StV es u := fun u hu => (h.step u hu).1
  have ei : (psh as ss z).getD i 0 = as.getD i 0 := psh_out fun s hs e => hno s hs (by have := (hvs s hs).1; omega)
  have gi : (psh as (ss ++ [stpD i (dueN as lo hi i)]) z).getD i 0 = as.getD i 0 + (if dueN as lo hi i > 0 then 1 else -1) * z := by
    rw [psh_snoc]
    show ((psh as ss z).set ((i : Int)).toNat _).getD i 0 = _
    rw [Int.toNat_natCast, getDi_set _ _ _ _ (by rw [psh_len, I.len]; exact hi'), if_pos rfl]
    show (psh as ss z).getD ((i : Int)).toNat 0 + _ = _
    rw [Int.toNat_natCast, ei]; rfl
  refine ⟨⟨(psh_len ..).trans I.len, fun p => (h.ring hv I.len p).trans (I.flow p), fun t ht => ?_⟩, ?_⟩
  · have gt : (psh as (ss ++ [stpD i (dueN as lo hi i)]) z).getD t 0 = (psh as ss z).getD t 0 := by
      rw [psh_snoc]
      show ((psh as ss z).set ((i : Int)).toNat _).getD t 0 = _
      rw [Int.toNat_natCast, getDi_set _ _ _ _ (by rw [psh_len, I.len]; exact hi'), if_neg (by omega)]
    rw [gt]
    obtain ⟨b1, b2⟩ := I.past t ht
    by_cases hs : ∃ s ∈ ss, s.1.toNat = t
    · obtain ⟨s, hs, es'⟩ := hs
      have e := psh_in (z := z) I.len hvs h.tnd hs
      rw [es'] at e
      rw [e]
      have hr := hm (rmA (rmN as lo hi) s) (List.mem_cons_of_mem _ (List.mem_map.mpr ⟨s, hs, rfl⟩))
      unfold rmA at hr
      rw [es', rmN_at (by rw [I.len]; omega)] at hr
      rcases (hvs s hs).2.2 with c | c
      · rw [c, if_pos rfl] at hr
        rw [c, Int.one_mul]
        have hr' : z ≤ hi.getD t 0 - as.getD t 0 := hr
        omega
      · rw [c, if_neg (by decide)] at hr
        rw [c, Int.neg_mul, Int.one_mul]
        have hr' : z ≤ as.getD t 0 - lo.getD t 0 := hr
        omega
    · rw [psh_out fun s h1 h2 => hs ⟨s, h1, h2⟩]
      exact ⟨b1, b2⟩
  · show (dueI ((psh as (ss ++ [stpD i (dueN as lo hi i)]) z).getD i 0) (lo.getD i 0) (hi.getD i 0)).natAbs < _
    rw [gi]
    exact dueI_next (hlh i hi') rfl hd z0 (hm _ List.mem_cons_self)
def rst (m : Nat) (R : List Int) : List Int := ((List.range m).map fun (j : Nat) => (j : Int)).filter fun p => !decide (p ∈ R)
inductive WhR (es : List (Int × Int)) (lo hi : List Int) (m i : Nat) : List Int → Bool × List Int → Prop
  | done {as : List Int} : dueN as lo hi i = 0 → WhR es lo hi m i as (true, as)
  | shut {as : List Int} : dueN as lo hi i ≠ 0 → ¬ stB es (stpD i (dueN as lo hi i)) ∈ (wwr es (rmN as lo hi) (stE es (stpD i (dueN as lo hi i))) m).1 → WhR es lo hi m i as (false, rst m (wwr es (rmN as lo hi) (stE es (stpD i (dueN as lo hi i))) m).1)
  | next {as ws : List Int} {z : Int} {ss : List (Int × Int)} {r : Bool × List Int} : dueN as lo hi i ≠ 0 → stB es (stpD i (dueN as lo hi i)) ∈ (wwr es (rmN as lo hi) (stE es (stpD i (dueN as lo hi i))) m).1 →
      ss = (wwr es (rmN as lo hi) (stE es (stpD i (dueN as lo hi i))) m).2 (stB es (stpD i (dueN as lo hi i))) → z ∈ (if dueN as lo hi i < 0 then -dueN as lo hi i else dueN as lo hi i) :: ss.map (rmA (rmN as lo hi)) → (∀ y ∈ (if dueN as lo hi i < 0 then -dueN as lo hi i else dueN as lo hi i) :: ss.map (rmA (rmN as lo hi)), z ≤ y) →
      ws = psh as (ss ++ [stpD i (dueN as lo hi i)]) z → WhR es lo hi m i ws r → WhR es lo hi m i as r
inductive BtR (es : List (Int × Int)) (lo hi : List Int) (m : Nat) : Nat → Bool × List Int → Prop
  | nil : BtR es lo hi m 0 (true, List.replicate es.length 0)
  | next {i : Nat} {as : List Int} {r : Bool × List Int} : BtR es lo hi m i (true, as) → WhR es lo hi m i as r → BtR es lo hi m (i + 1) r
  | stop {i : Nat} {x : List Int} : BtR es lo hi m i (false, x) → BtR es lo hi m (i + 1) (false, x)
theorem BtR.shut {es : List (Int × Int)} {lo hi : List Int} {m i n : Nat} {x : List Int} (h : BtR es lo hi m i (false, x)) (hn : i ≤ n) : BtR es lo hi m n (false, x) := by
  induction n with
  | zero => obtain rfl : i = 0 := by omega
            exact h
  | succ n ih =>
    by_cases c : i = n + 1
    · exact c ▸ h
    · exact .stop (ih (by omega))
end L2
namespace L2
open PySem
def tS (fs : List Int) : Nat → Nat → Int
  | _, 0 => 0
  | t, k + 1 => ((fs.getD t 0).natAbs : Int) + tS fs (t + 1) k
theorem tS_snoc (fs : List Int) : ∀ k t, tS fs t (k + 1) = tS fs t k + ((fs.getD (t + k) 0).natAbs : Int)
  | 0, t => by show _ + 0 = 0 + _; rw [Nat.add_zero]; omega
  | k + 1, t => by
    show ((fs.getD t 0).natAbs : Int) + tS fs (t + 1) (k + 1) = (((fs.getD t 0).natAbs : Int) + tS fs (t + 1) k) + _
    rw [tS_snoc fs k (t + 1), show t + 1 + k = t + (k + 1) by omega]; omega
theorem tS_cut {m : Int} {es : List (Int × Int)} {fs : List Int} (hE : ∀ e ∈ es, 0 ≤ e.1 ∧ e.1 < m ∧ 0 ≤ e.2 ∧ e.2 < m) (hd : ∀ p : Int, dp p es fs es.length = 0) {t k : Nat} (ht : t + 1 + k = es.length) (hF : inF es t = true) : ((fs.getD t 0).natAbs : Int) ≤ tS fs (t + 1) k := by
  obtain ⟨f, F⟩ := lab_ex hE t
  have gE : ∀ j, j < es.length → es[j]? = some (es.getD j (0, 0)) := fun j hj => by rw [List.getD_eq_getElem?_getD, List.getElem?_eq_getElem hj]; rfl
  obtain ⟨b1, b2, b3, b4⟩ := hE _ (List.mem_of_getElem? (gE t (by omega)))
  have hne : ¬ f (es.getD t (0, 0)).1 = f (es.getD t (0, 0)).2 := fun z => inF_iff.mp hF ((F.iff b1 b2 b3 b4).mp z)
  have hz := ac_zero (grp_nd m.toNat f (f (es.getD t (0, 0)).1)) hd
  have hmem : ∀ z : Int, 0 ≤ z → z < m → memI (grp m.toNat f (f (es.getD t (0, 0)).1)) z = decide (f z = f (es.getD t (0, 0)).1) := fun z z0 z1 => by
    rw [Bool.eq_iff_iff, memI_iff, mem_grp, decide_eq_true_iff]
    exact ⟨fun h => h.2.2, fun h => ⟨z0, by omega, h⟩⟩
  have bef : ∀ n, n ≤ t → ac (grp m.toNat f (f (es.getD t (0, 0)).1)) es fs n = 0 := by
    intro n
    induction n with
    | zero => intro _; rfl
    | succ n ih =>
      intro hn
      show ac _ es fs n + _ - _ = _
      obtain ⟨d1, d2, d3, d4⟩ := hE _ (List.mem_of_getElem? (gE n (by omega)))
      have es1 : f (es.getD n (0, 0)).1 = f (es.getD n (0, 0)).2 := F.same _ (List.mem_take_iff_getElem.mpr ⟨n, by omega, by rw [List.getD_eq_getElem?_getD, List.getElem?_eq_getElem (show n < es.length by omega)]; rfl⟩)
      rw [ih (by omega), hmem _ d1 d2, hmem _ d3 d4, es1]
      cases decide (f (es.getD n (0, 0)).2 = f (es.getD t (0, 0)).1) <;> simp
  have aft : ∀ j, j ≤ k → fs.getD t 0 - tS fs (t + 1) j ≤ ac (grp m.toNat f (f (es.getD t (0, 0)).1)) es fs (t + 1 + j) ∧ ac (grp m.toNat f (f (es.getD t (0, 0)).1)) es fs (t + 1 + j) ≤ fs.getD t 0 + tS fs (t + 1) j := by
    intro j
    induction j with
    | zero =>
      intro _
      have e : ac (grp m.toNat f (f (es.getD t (0, 0)).1)) es fs (t + 1) = fs.getD t 0 := by
        show ac _ es fs t + _ - _ = _
        rw [bef t (Nat.le_refl _), hmem _ b1 b2, hmem _ b3 b4, decide_eq_true rfl, decide_eq_false (fun z => hne z.symm)]
        simp only [Bool.not_false, Bool.not_true, Bool.and_true, Bool.and_false, Bool.false_eq_true, if_true, if_false, reduceIte]
        omega
      rw [Nat.add_zero, e]
      show _ - 0 ≤ _ ∧ _ ≤ _ + 0
      omega
    | succ j ih =>
      intro hj
      obtain ⟨i1, i2⟩ := ih (by omega)
      rw [tS_snoc]
      have e0 : ∀ G : List Int, ac G es fs (t + 1 + (j + 1)) = ac G es fs (t + 1 + j) + (if (memI G (es.getD (t + 1 + j) (0, 0)).1 && !memI G (es.getD (t + 1 + j) (0, 0)).2) = true then fs.getD (t + 1 + j) 0 else 0) - (if (memI G (es.getD (t + 1 + j) (0, 0)).2 && !memI G (es.getD (t + 1 + j) (0, 0)).1) = true then fs.getD (t + 1 + j) 0 else 0) := fun _ => rfl
      rw [e0]
      have hb : -((fs.getD (t + 1 + j) 0).natAbs : Int) ≤ fs.getD (t + 1 + j) 0 ∧ fs.getD (t + 1 + j) 0 ≤ ((fs.getD (t + 1 + j) 0).natAbs : Int) := by omega
      generalize memI (grp m.toNat f (f (es.getD t (0, 0)).1)) (es.getD (t + 1 + j) (0, 0)).1 = x
      generalize memI (grp m.toNat f (f (es.getD t (0, 0)).1)) (es.getD (t + 1 + j) (0, 0)).2 = y
      cases x <;> cases y <;> simp only [Bool.not_false, Bool.not_true, Bool.and_true, Bool.and_false, Bool.true_and, Bool.false_and, Bool.false_eq_true, if_true, if_false, reduceIte] <;> omega
  have := aft k (Nat.le_refl _)
  rw [ht, hz] at this
  omega
theorem tS_bound {m B : Int} {es : List (Int × Int)} {fs : List Int} (hE : ∀ e ∈ es, 0 ≤ e.1 ∧ e.1 < m ∧ 0 ≤ e.2 ∧ e.2 < m) (hd : ∀ p : Int, dp p es fs es.length = 0) (hB : 0 ≤ B) (h0 : ∀ t, t < es.length → ¬ inF es t = true → ((fs.getD t 0).natAbs : Int) ≤ B) : ∀ k t, t + k = es.length → tS fs t k ≤ 2 ^ k * B - B
  | 0, t, _ => by show 0 ≤ 1 * B - B; omega
  | k + 1, t, ht => by
    have ih := tS_bound hE hd hB h0 k (t + 1) (by omega)
    show ((fs.getD t 0).natAbs : Int) + tS fs (t + 1) k ≤ 2 ^ (k + 1) * B - B
    rw [Int.pow_succ, Int.mul_comm (2 ^ k) 2, Int.mul_assoc]
    have hp : B ≤ 2 ^ k * B := by
      have h1 : (1 : Int) ≤ 2 ^ k := Int.pow_pos (by decide)
      have := Int.mul_le_mul_of_nonneg_right h1 hB
      omega
    generalize (2 : Int) ^ k * B = X at ih hp
    by_cases hF : inF es t = true
    · have := tS_cut hE hd (t := t) (k := k) (by omega) hF
      omega
    · have := h0 t (by omega) hF
      omega
theorem tS_one (fs : List Int) : ∀ k t j, t ≤ j → j < t + k → ((fs.getD j 0).natAbs : Int) ≤ tS fs t k
  | 0, t, j, h1, h2 => by omega
  | k + 1, t, j, h1, h2 => by
    have hn : ∀ k t, 0 ≤ tS fs t k := fun k => by
      induction k with
      | zero => intro t; exact Int.le_refl 0
      | succ k ih => intro t; show 0 ≤ _ + tS fs (t + 1) k; have := ih (t + 1); omega
    show _ ≤ ((fs.getD t 0).natAbs : Int) + tS fs (t + 1) k
    by_cases c : t = j
    · subst c; have := hn k (t + 1); omega
    · have := tS_one fs k (t + 1) j (by omega) (by omega); omega
theorem flow_bound {m B : Int} {es : List (Int × Int)} {fs : List Int} (hE : ∀ e ∈ es, 0 ≤ e.1 ∧ e.1 < m ∧ 0 ≤ e.2 ∧ e.2 < m) (hd : ∀ p : Int, dp p es fs es.length = 0) (hB : 0 ≤ B) (hz : es.length ≤ 40) (h0 : ∀ t, t < es.length → ¬ inF es t = true → ((fs.getD t 0).natAbs : Int) ≤ B) : ∀ t, t < es.length → ((fs.getD t 0).natAbs : Int) ≤ 2 ^ 40 * B := fun t ht => by
  have h1 := tS_one fs es.length 0 t (Nat.zero_le _) (by omega)
  have h2 := tS_bound hE hd hB h0 es.length 0 (Nat.zero_add _)
  have h3 : (2 : Int) ^ es.length ≤ 2 ^ 40 := by exact_mod_cast Nat.pow_le_pow_right (n := 2) (by decide) hz
  have h4 := Int.mul_le_mul_of_nonneg_right h3 hB
  omega
def lwK (fs : List Int) (k : Int) : List Int := fs.map (· / k)
def hgK (fs : List Int) (k : Int) : List Int := fs.map fun a => -(-a / k)
def rdK (fs as : List Int) (k : Int) : List Int := List.zipWith (· + ·) fs (as.map (-k * ·))
structure RdF (es : List (Int × Int)) (rs : List Int) (k : Int) (gs : List Int) : Prop where
  len : gs.length = es.length
  flow : ∀ p : Int, dp p es gs es.length = 0
  zero : ∀ t, t < es.length → rs.getD t 0 = 0 → gs.getD t 0 = 0
  pos : ∀ t, t < es.length → rs.getD t 0 ≠ 0 → gs.getD t 0 = rs.getD t 0 ∨ gs.getD t 0 = rs.getD t 0 - k
def RdR (m : Int) (es : List (Int × Int)) (fs : List Int) (k : Int) (gs : List Int) : Prop := ∃ as, BtR es (lwK fs k) (hgK fs k) m.toNat es.length (true, as) ∧ gs = rdK fs as k
theorem FW.bound {m B : Int} {es : List (Int × Int)} {vs fs : List Int} (hE : ∀ e ∈ es, 0 ≤ e.1 ∧ e.1 < m ∧ 0 ≤ e.2 ∧ e.2 < m) (h : FW es vs fs) (hl : vs.length = (fre es).length) (hB : 0 ≤ B) (hz : es.length ≤ 40) (hv : ∀ v ∈ vs, (v.natAbs : Int) ≤ B) : ∀ t, t < es.length → ((fs.getD t 0).natAbs : Int) ≤ 2 ^ 40 * B :=
  flow_bound hE h.2.1 hB hz fun t ht hn => by
    obtain ⟨j, hj, e⟩ := fre_at ht hn
    have e1 := h.2.2 j hj
    rw [e, Int.toNat_natCast] at e1
    rw [e1, gD_at (by omega)]
    exact hv _ (List.getElem_mem _)
def LtR (m : Int) (es : List (Int × Int)) (rs : List Int) (k : Int) (gs : List Int) : Prop := ∃ fs, FW es (frv es rs) fs ∧ RdR m es fs k gs
end L2
namespace L2
open PySem PySem.Spec PyProof.Rows
section
variable {X : Cx}
def rIns : V → List V → Hp → VK → Prop := fun x vs H Q => ∃ (l : Addr) (xs : List V) (i : Int) (y : V), x = .ref l ∧ vs = [.int i, y] ∧ H l = some (.lst xs) ∧ 0 ≤ i ∧ i ≤ xs.length ∧ xs.length < 1000 ∧ Q .non (upd H l (.lst (xs.take i.toNat ++ y :: xs.drop i.toNat)))
theorem vals_take {xs : List V} {us : List Value} (r : Vals xs us) : ∀ j, Vals (xs.take j) (us.take j) := by
  induction r with
  | nil => intro j; rw [List.take_nil, List.take_nil]; exact .nil
  | cons h t ih =>
    intro j
    cases j with
    | zero => exact .nil
    | succ j => exact .cons h (ih j)
theorem vals_drop {xs : List V} {us : List Value} (r : Vals xs us) : ∀ j, Vals (xs.drop j) (us.drop j) := by
  induction r with
  | nil => intro j; rw [List.drop_nil, List.drop_nil]; exact .nil
  | cons h t ih =>
    intro j
    cases j with
    | zero => exact .cons h t
    | succ j => exact ih j
theorem mt_insI : MtM X "list.insert" rIns := by
  intro pins s σ H x vs v us Q I rx rv h
  obtain ⟨l, xs, i, y, rfl, rfl, hH, i0, i1, hz, q⟩ := h
  cases rx
  obtain ⟨u, u', rfl, ⟨t, rfl⟩, ry⟩ := vals2 rv
  obtain ⟨z, its, n, r, hl, e⟩ := I.lstM hH
  have hlen := r.length
  have big : (1000 : Nat) ≤ sizeLine := by decide
  have fit : ¬ (!Builtin.List.listFitsIndex i) = true := by
    have : Builtin.List.listFitsIndex i = true := by unfold Builtin.List.listFitsIndex; simp; omega
    rw [this]; decide
  refine call_meets F.slot_list_insert ⟨_, e, rfl⟩ F.entry_list_insert (F.args_list_insert_3 _ _ _) (AutoSeq1.list_insert_list_int_val_1 l its.toArray n i t u' fit (by rw [List.size_toArray]; omega)) ⟨e, ?_⟩
  refine ⟨.non, _, I.lset (its' := its.take i.toNat ++ u' :: its.drop i.toNat) hH e ?_ ((vals_take r i.toNat).append (.cons ry (vals_drop r i.toNat))) ?_, rfl, q⟩
  · dsimp only
    rw [if_neg (by omega), List.size_toArray, Nat.min_eq_left (by omega)]
    apply Array.ext'
    simp
    exact List.take_of_length_le (by rw [List.length_drop]; exact Nat.le_refl _)
  · rw [List.length_append, List.length_cons, List.length_take, List.length_drop]
    omega
end
end L2
namespace L2
open PySem PySem.Spec PyProof.Rows
theorem args_min3 (a b c : Value) : argsOk "min" ⟨[a, b, c], []⟩ := by unfold argsOk; kernel_rfl
section
variable {prog : Program} {w : World} {A : Around} {E : Value → Shared → Prop} {s : Shared}
set_option maxHeartbeats 2000000 in
theorem min_three {a b c : Int} {t u v : Tok} {Q : Value → Shared → Prop} (hh : A.handled = none)
    (h : ∀ tt h' tk, (∀ c o, s.heap.get? c = some o → h'.get? c = some o) → Q (.int (if c < (if b < a then b else a) then c else if b < a then b else a) tt) { s with heap := h', toks := tk }) :
    wpAny (model prog w) A (call (.builtin "min") [.int a t, .int b u, .int c v]) Q E s := by
  obtain ⟨hp, gs, dn, tk, os⟩ := s
  have seq : (hp.push { cls := .type "tuple", data := .seq #[.int a t, .int b u, .int c v] }).IsTuple hp.objs.size (intItems #[(a, t), (b, u), (c, v)]) := ⟨_, Heap.get?_push_size _ rfl, rfl, 0, by simp [intItems]⟩
  have n1 : (hp.push { cls := .type "tuple", data := .seq #[.int a t, .int b u, .int c v] }).objs.size = hp.objs.size + 1 := Heap.size_push ..
  have n2 : ((hp.push { cls := .type "tuple", data := .seq #[.int a t, .int b u, .int c v] }).push { cls := .type "tuple_iterator", data := .fields #[.ref hp.objs.size, .int 0 0] }).objs.size = hp.objs.size + 2 := by rw [Heap.size_push, n1]
  refine call_function_tree F.kind_min F.plain_min F.entry_min (args_min3 _ _ _) ?_
  wp_walk using wpAny_pyIter_tuple seq
  constructor
  · exact plainId_quiet F.plain_min_loop _
  have W := Walks.tuple (prog := prog) (w := w) (A := A.in1) hh (hp.objs.size + 1) hp.objs.size (Nat.ne_of_lt (Nat.lt_succ_self _)) (intItems #[(a, t), (b, u), (c, v)])
  show codeAny _ _ (.builtin "min.loop" ⟨[.ref (hp.push { cls := .type "tuple", data := .seq #[.int a t, .int b u, .int c v] }).objs.size, .none, .ref ((hp.push { cls := .type "tuple", data := .seq #[.int a t, .int b u, .int c v] }).push { cls := .type "tuple_iterator", data := .fields #[.ref hp.objs.size, .int 0 0] }).objs.size], []⟩) _ _
  have it := Heap.get?_push_size (hp.push { cls := .type "tuple", data := .seq #[.int a t, .int b u, .int c v] }) (o := { cls := .type "tuple_iterator", data := .fields #[.ref hp.objs.size, .int 0 0] }) rfl
  have best := Heap.get?_push_size ((hp.push { cls := .type "tuple", data := .seq #[.int a t, .int b u, .int c v] }).push { cls := .type "tuple_iterator", data := .fields #[.ref hp.objs.size, .int 0 0] }) (o := { cls := .type "list", data := .seq #[] }) rfl
  rw [n1] at it
  rw [n2] at best
  rw [n1, n2]
  refine codeAny_min_loop_first W _ (CmpOf.ints_lt (numAt #[(a, t), (b, u), (c, v)]) fun _ _ => intItems_at) (hp.objs.size + 2) (by simp) (by simp [intItems]) ⟨⟨_, Heap.get?_push_of_some _ it, rfl, rfl⟩, (seq.push _).push _⟩ best fun x h' tk' px kept => ?_
  obtain ⟨tt, rfl⟩ := intItems_at px
  have val : numAt #[(a, t), (b, u), (c, v)] (argBest (fun i j => decide (numAt #[(a, t), (b, u), (c, v)] i < numAt #[(a, t), (b, u), (c, v)] j)) ((intItems #[(a, t), (b, u), (c, v)]).size - 1)) = if c < (if b < a then b else a) then c else if b < a then b else a := by
    rw [show (intItems #[(a, t), (b, u), (c, v)]).size - 1 = 2 by simp [intItems]]
    by_cases q1 : b < a
    · by_cases q2 : c < b <;> simp [argBest, numAt, q1, q2]
    · by_cases q2 : c < a <;> simp [argBest, numAt, q1, q2]
  rw [val]
  exact h tt h' tk' fun b o q => kept b o (fun m => Nat.ne_of_lt (Nat.lt_succ_of_lt (Heap.lt_size q)) (List.mem_singleton.mp m)) (Nat.ne_of_lt (Nat.lt_succ_of_lt (Nat.lt_succ_of_lt (Heap.lt_size q)))) (Heap.get?_push_of_some _ (Heap.get?_push_of_some _ (Heap.get?_push_of_some _ q)))
end
section
variable {X : Cx}
theorem call_min3 (hc : X.calm = true) : CallR X (.builtin "min") (fun xs H Q => ∃ i j k, xs = [.int i, .int j, .int k] ∧ Q (.int (if k < (if j < i then j else i) then k else if j < i then j else i)) H) := by
  intro pins s σ H xs us Q I r h
  obtain ⟨i, j, k, rfl, q⟩ := h
  cases r with
  | cons h1 r =>
  obtain ⟨t, rfl⟩ := h1
  obtain ⟨u, u', rfl, ⟨t', rfl⟩, ⟨t'', rfl⟩⟩ := vals2 r
  exact min_three (I.ok.hd hc) fun tt h' tk kp => ⟨.int _, H, I.kept kp, ⟨tt, rfl⟩, q⟩
end
end L2
namespace L2
open PySem
def mkS (n : Nat) (ss : List Int) : List Int := (List.range n).map fun (i : Nat) => if (i : Int) ∈ ss then 1 else 0
theorem mkS_len (n : Nat) (ss : List Int) : (mkS n ss).length = n := by unfold mkS; rw [List.length_map, List.length_range]
theorem mkS_get {n i : Nat} {ss : List Int} (h : i < n) : (mkS n ss)[i]? = some (if (i : Int) ∈ ss then 1 else 0) := by
  unfold mkS; rw [List.getElem?_map, List.getElem?_range h]; rfl
theorem mkS_at {n i : Nat} {ss : List Int} (h : i < n) : (mkS n ss).getD i 0 = if (i : Int) ∈ ss then 1 else 0 := by
  rw [List.getD_eq_getElem?_getD, mkS_get h]; rfl
structure SetOk (n : Nat) (ss : List Int) : Prop where
  rng : ∀ t ∈ ss, 0 ≤ t ∧ t < (n : Int)
  up : ss.Pairwise (· < ·)
theorem SetOk.nd {n : Nat} {ss : List Int} (h : SetOk n ss) : ss.Nodup := by
  rw [List.nodup_iff_pairwise_ne]
  exact h.up.imp fun h e => by omega
theorem SetOk.len {n : Nat} {ss : List Int} (h : SetOk n ss) : ss.length ≤ n := by
  have := nodup_len (m := (n : Int)) h.nd h.rng
  omega
theorem dp_cong {k p : Int} {es : List (Int × Int)} {fs gs : List Int} : ∀ n, (∀ t, t < n → k ∣ fs.getD t 0 - gs.getD t 0) → k ∣ dp p es fs n - dp p es gs n
  | 0, _ => ⟨0, by rw [Int.mul_zero]; rfl⟩
  | n + 1, h => by
    obtain ⟨u, hu⟩ := dp_cong (p := p) (es := es) n fun t ht => h t (by omega)
    obtain ⟨v, hv⟩ := h n (by omega)
    show k ∣ (dp p es fs n + _ - _) - (dp p es gs n + _ - _)
    by_cases c1 : (es.getD n (0, 0)).2 = p <;> by_cases c2 : (es.getD n (0, 0)).1 = p
    · exact ⟨u, by rw [if_pos c1, if_pos c1, if_pos c2, if_pos c2]; omega⟩
    · exact ⟨u + v, by rw [if_pos c1, if_pos c1, if_neg c2, if_neg c2, Int.mul_add]; omega⟩
    · exact ⟨u - v, by rw [if_neg c1, if_neg c1, if_pos c2, if_pos c2, Int.mul_sub]; omega⟩
    · exact ⟨u, by rw [if_neg c1, if_neg c1, if_neg c2, if_neg c2]; omega⟩
def EvS (es : List (Int × Int)) (ss : List Int) : Prop := ∀ p : Int, 2 ∣ dp p es (mkS es.length ss) es.length
theorem EvS.parted {es : List (Int × Int)} {a b c : List Int} (ha : EvS es a) (hb : EvS es b) (hc : ∀ t : Int, t ∈ c ↔ (t ∈ a ∧ ¬ t ∈ b) ∨ (t ∈ b ∧ ¬ t ∈ a)) : EvS es c := fun p => by
  have hl : (mkS es.length a).length = (mkS es.length b).length := by rw [mkS_len, mkS_len]
  obtain ⟨u, hu⟩ := dp_cong (k := 2) (p := p) (es := es) (fs := mkS es.length c) (gs := List.zipWith (· + ·) (mkS es.length a) (mkS es.length b)) es.length fun t ht => by
    rw [getD_zip _ _ hl, mkS_at ht, mkS_at ht, mkS_at ht]
    by_cases h1 : (t : Int) ∈ a <;> by_cases h2 : (t : Int) ∈ b
    · rw [if_pos h1, if_pos h2, if_neg (fun z => ((hc _).mp z).elim (fun y => y.2 h2) fun y => y.2 h1)]; exact ⟨-1, rfl⟩
    · rw [if_pos h1, if_neg h2, if_pos ((hc _).mpr (.inl ⟨h1, h2⟩))]; exact ⟨0, rfl⟩
    · rw [if_neg h1, if_pos h2, if_pos ((hc _).mpr (.inr ⟨h2, h1⟩))]; exact ⟨0, rfl⟩
    · rw [if_neg h1, if_neg h2, if_neg (fun z => ((hc _).mp z).elim (fun y => h1 y.1) fun y => h2 y.1)]; exact ⟨0, rfl⟩
  rw [dp_zip p es _ _ hl] at hu
  obtain ⟨v, hv⟩ := ha p
  obtain ⟨w, hw⟩ := hb p
  exact ⟨u + v + w, by omega⟩
theorem EvS.nil (es : List (Int × Int)) : EvS es [] := fun p => by
  have e : mkS es.length [] = List.replicate es.length 0 := by
    refine List.ext_getElem (by rw [mkS_len, List.length_replicate]) fun i h1 h2 => ?_
    rw [List.getElem_replicate, ← gD_at h1, mkS_at (by rw [mkS_len] at h1; exact h1), if_neg (fun z => nomatch z)]
  rw [e, dp_nil]
  exact ⟨0, rfl⟩
def nzL (n : Nat) (fs : List Int) : List Int := (upto n).filter fun t => !decide (fs.getD t.toNat 0 = 0)
theorem mem_nzL {n : Nat} {fs : List Int} {t : Int} : t ∈ nzL n fs ↔ 0 ≤ t ∧ t < n ∧ fs.getD t.toNat 0 ≠ 0 := by
  unfold nzL
  rw [List.mem_filter, mem_upto]
  simp only [Bool.not_eq_true', decide_eq_false_iff_not, and_assoc, ne_eq]
theorem up_le {a : List Int} (h : a.Pairwise (· ≤ ·)) (n : a.Nodup) : a.Pairwise (· < ·) := by
  rw [List.nodup_iff_pairwise_ne] at n
  exact (h.and n).imp fun h => by omega
end L2
namespace L2
open PySem PySem.Spec PyProof.Rows
section
variable {prog : Program} {w : World} {A : Around} {E : Value → Shared → Prop} {s : Shared}
end
section
variable {X : Cx} {pos p2 : Pos} {o : Expr} {lo hi : Option Expr} {to : TE} {tl th : TO}
end
end L2
namespace L2
open PySem
def LlS (H : Hp) : List V → List (List Int) → Prop := Paired fun v ns => ∃ r, v = .ref r ∧ H r = some (.lst (ns.map V.int))
theorem LlS.same {H H' : Hp} (S : Same H H') {xs : List V} {ls : List (List Int)} (h : LlS H xs ls) : LlS H' xs ls := Paired.mapP h fun _ _ ⟨r, e, q⟩ => ⟨r, e, S _ _ q⟩
theorem LlS.len {H : Hp} {xs : List V} {ls : List (List Int)} (h : LlS H xs ls) : xs.length = ls.length := Paired.length h
theorem LlS.at : ∀ {H : Hp} {xs : List V} {ls : List (List Int)} {i : Nat}, LlS H xs ls → i < xs.length → ∃ r ns, xs.getD i .non = .ref r ∧ H r = some (.lst (ns.map V.int)) ∧ ls[i]? = some ns
  | _, _, _, i, .nil, h => absurd h (Nat.not_lt_zero _)
  | _, _, _, 0, .cons ⟨r, e, q⟩ _, _ => ⟨r, _, e, q, rfl⟩
  | _, _, _, i + 1, .cons _ t, h => LlS.at (i := i) t (Nat.lt_of_succ_lt_succ h)
theorem LlS.append : ∀ {H : Hp} {xs ys : List V} {ls ms : List (List Int)}, LlS H xs ls → LlS H ys ms → LlS H (xs ++ ys) (ls ++ ms)
  | _, _, _, _, _, .nil, h => h
  | _, _, _, _, _, .cons a t, h => .cons a (LlS.append t h)
theorem gdl {l : List (List Int)} {g : List Int} {j : Nat} (h : j < l.length) : (l ++ [g]).getD j [] = l.getD j [] := by
  rw [List.getD_eq_getElem?_getD, List.getD_eq_getElem?_getD, List.getElem?_append_left h]
theorem gdr {l : List (List Int)} {g : List Int} : (l ++ [g]).getD l.length [] = g := by
  rw [List.getD_eq_getElem?_getD, List.getElem?_append_right (Nat.le_refl _), Nat.sub_self]; rfl
def lay (n : Nat) (fss : List (List Int)) : Nat → List Int
  | 0 => List.replicate n 0
  | k + 1 => List.zipWith (· + ·) (lay n fss k) ((fss.getD k []).map ((2 ^ k : Int) * ·))
theorem lay_len {n : Nat} {fss : List (List Int)} : ∀ {k : Nat}, (∀ j, j < k → (fss.getD j []).length = n) → (lay n fss k).length = n
  | 0, _ => List.length_replicate ..
  | k + 1, h => by
    show (List.zipWith _ _ _).length = n
    rw [List.length_zipWith, List.length_map, lay_len fun j hj => h j (by omega), h k (by omega)]
    exact Nat.min_self _
theorem lay_at {n t : Nat} {fss : List (List Int)} {k : Nat} (h : ∀ j, j < k + 1 → (fss.getD j []).length = n) (ht : t < n) : (lay n fss (k + 1)).getD t 0 = (lay n fss k).getD t 0 + 2 ^ k * (fss.getD k []).getD t 0 := by
  have h1 := lay_len (n := n) (fss := fss) (k := k) fun j hj => h j (by omega)
  have h2 := h k (by omega)
  show (List.zipWith _ _ _).getD t 0 = _
  rw [List.getD_eq_getElem?_getD, List.getElem?_zipWith, List.getElem?_map, List.getElem?_eq_getElem (h1.symm ▸ ht), List.getElem?_eq_getElem (h2.symm ▸ ht), gD_at (h1.symm ▸ ht), gD_at (h2.symm ▸ ht)]
  rfl
structure LayF (m : Int) (es : List (Int × Int)) (sets fss : List (List Int)) (k : Nat) : Prop where
  rd : ∀ j, j < k → RdF es (mkS es.length (sets.getD j [])) 2 (fss.getD j [])
  lt : ∀ j, j < k → LtR m es (mkS es.length (sets.getD j [])) 2 (fss.getD j [])
theorem LayF.lens {m : Int} {es : List (Int × Int)} {sets fss : List (List Int)} {k : Nat} (L : LayF m es sets fss k) : ∀ j, j < k → (fss.getD j []).length = es.length := fun j hj => (L.rd j hj).len
theorem LayF.pre {m : Int} {es : List (Int × Int)} {sets fss : List (List Int)} {k : Nat} (L : LayF m es sets fss (k + 1)) : LayF m es sets fss k := ⟨fun j hj => L.rd j (by omega), fun j hj => L.lt j (by omega)⟩
theorem LayF.len {m : Int} {es : List (Int × Int)} {sets fss : List (List Int)} {k : Nat} (L : LayF m es sets fss k) : (lay es.length fss k).length = es.length := lay_len L.lens
theorem LayF.snoc {m : Int} {es : List (Int × Int)} {sets fss : List (List Int)} {ss gs : List Int} (L : LayF m es sets fss fss.length) (hs : sets[fss.length]? = some ss) (R : RdF es (mkS es.length ss) 2 gs) (D : LtR m es (mkS es.length ss) 2 gs) : LayF m es sets (fss ++ [gs]) (fss.length + 1) := by
  have e1 : sets.getD fss.length [] = ss := by rw [List.getD_eq_getElem?_getD, hs]; rfl
  have e2 : (fss ++ [gs]).getD fss.length [] = gs := gdr
  constructor <;> intro j hj <;> (by_cases c : j = fss.length)
  · rw [c, e1, e2]; exact R
  · rw [gdl (by omega)]; exact L.rd j (by omega)
  · rw [c, e1, e2]; exact D
  · rw [gdl (by omega)]; exact L.lt j (by omega)
theorem LayF.flow {m : Int} {es : List (Int × Int)} {sets fss : List (List Int)} : ∀ {k : Nat}, LayF m es sets fss k → ∀ p : Int, dp p es (lay es.length fss k) es.length = 0
  | 0, _, p => dp_nil ..
  | k + 1, L, p => by
    show dp p es (List.zipWith _ _ _) _ = 0
    rw [dp_zip p es _ _ (by rw [L.pre.len, List.length_map, L.lens k (by omega)]), dp_map, L.pre.flow p, (L.rd k (by omega)).flow p]
    simp
theorem LayF.one {m : Int} {es : List (Int × Int)} {sets fss : List (List Int)} {k j t : Nat} (L : LayF m es sets fss k) (hj : j < k) (ht : t < es.length) : ((t : Int) ∈ sets.getD j [] → (fss.getD j []).getD t 0 = 1 ∨ (fss.getD j []).getD t 0 = -1) ∧ (¬ (t : Int) ∈ sets.getD j [] → (fss.getD j []).getD t 0 = 0) := by
  have hm := mkS_at (ss := sets.getD j []) ht
  constructor <;> intro c
  · rw [if_pos c] at hm
    rcases (L.rd j hj).pos t ht (by rw [hm]; decide) with z | z
    · rw [hm] at z; exact .inl z
    · rw [hm] at z; exact .inr z
  · rw [if_neg c] at hm
    exact (L.rd j hj).zero t ht hm
theorem pow2_pos (k : Nat) : (0 : Int) < 2 ^ k := Int.pow_pos (by decide)
theorem LayF.bound {m : Int} {es : List (Int × Int)} {sets fss : List (List Int)} {t : Nat} (ht : t < es.length) : ∀ {k : Nat}, LayF m es sets fss k → -(2 ^ k : Int) < (lay es.length fss k).getD t 0 ∧ (lay es.length fss k).getD t 0 < 2 ^ k
  | 0, _ => by
    have : (lay es.length fss 0).getD t 0 = 0 := by
      show (List.replicate es.length (0 : Int)).getD t 0 = 0
      rw [gD_at (by rw [List.length_replicate]; exact ht), List.getElem_replicate]
    rw [this]; decide
  | k + 1, L => by
    have ih := LayF.bound ht L.pre
    have hp := pow2_pos k
    have h2 : (2 : Int) ^ (k + 1) = 2 ^ k * 2 := Int.pow_succ ..
    rw [lay_at L.lens ht, h2]
    by_cases c : (t : Int) ∈ sets.getD k []
    · rcases (L.one (Nat.lt_succ_self k) ht).1 c with z | z <;> rw [z] <;> omega
    · rw [(L.one (Nat.lt_succ_self k) ht).2 c]; omega
theorem LayF.nz {m : Int} {es : List (Int × Int)} {sets fss : List (List Int)} {t : Nat} (ht : t < es.length) : ∀ {k : Nat}, LayF m es sets fss k → ∀ {j : Nat}, j < k → (t : Int) ∈ sets.getD j [] → (lay es.length fss k).getD t 0 ≠ 0
  | k + 1, L, j, hj, hm => by
    have ib := L.pre.bound ht
    have hp := pow2_pos k
    rw [lay_at L.lens ht]
    by_cases c : (t : Int) ∈ sets.getD k []
    · rcases (L.one (Nat.lt_succ_self k) ht).1 c with z | z <;> rw [z] <;> omega
    · rw [(L.one (Nat.lt_succ_self k) ht).2 c, Int.mul_zero, Int.add_zero]
      by_cases y : j = k
      · rw [y] at hm; exact absurd hm c
      · exact LayF.nz ht L.pre (by omega) hm
end L2
namespace L2
open PySem PySem.Spec PyProof.Rows
section
variable {X : Cx} {K : PySem.W.Frag} {a : Expr} {ta : TE} {pos : Pos}
end
theorem asc_nd {l : List Int} (h : l.Pairwise (· < ·)) : l.Nodup := by
  rw [List.nodup_iff_pairwise_ne]
  exact h.imp fun h e => by omega
theorem rts_asc (n : Nat) (f : Int → Int) : (rts n f).Pairwise (· < ·) := by
  unfold rts
  rw [List.pairwise_map]
  exact (List.Pairwise.filter _ List.pairwise_lt_range).imp fun h => by omega
theorem rts_mrg {m : Int} {es : List (Int × Int)} {f : Int → Int} {e : Int × Int} (F : Lab m es f) (b : 0 ≤ e.1 ∧ e.1 < m ∧ 0 ≤ e.2 ∧ e.2 < m) (h : f e.1 ≠ f e.2) : (rts m.toNat (mrg f e)).length + 1 = (rts m.toNat f).length := by
  have l1 := F.low e.1 b.1 b.2.1
  have l2 := F.low e.2 b.2.2.1 b.2.2.2
  have i1 := F.idem b.1 b.2.1
  have i2 := F.idem b.2.2.1 b.2.2.2
  obtain ⟨M, eM⟩ : ∃ M, M = max (f e.1) (f e.2) := ⟨_, rfl⟩
  have fM : f M = M := by
    rw [eM]
    by_cases g : f e.1 ≤ f e.2
    · rw [Int.max_eq_right g]; exact i2
    · rw [Int.max_eq_left (by omega)]; exact i1
  have hM : M ∈ rts m.toNat f := mem_rts.mpr ⟨by omega, by omega, fM⟩
  have e1 : rts m.toNat (mrg f e) = (rts m.toNat f).filter (· != M) := by
    unfold rts
    rw [List.filter_map, List.filter_filter]
    congr 1
    refine List.filter_congr fun p hp => ?_
    rw [List.mem_range] at hp
    have lp := F.low p (by omega) (by omega)
    rw [Bool.eq_iff_iff]
    simp only [Function.comp, Bool.and_eq_true, decide_eq_true_eq, bne_iff_ne, ne_eq]
    unfold mrg
    rw [← eM]
    by_cases c : f (p : Int) = M
    · rw [if_pos c]
      constructor
      · intro z; omega
      · rintro ⟨z1, z2⟩
        exact absurd (z2.symm.trans c) z1
    · rw [if_neg c]
      exact ⟨fun z => ⟨fun y => c (by rw [y]; exact fM), z⟩, fun z => z.2⟩
  have nd := asc_nd (rts_asc m.toNat f)
  rw [e1, ← nd.erase_eq_filter, List.length_erase_of_mem hM]
  have := List.length_pos_of_mem hM
  omega
theorem rts_id (n : Nat) : (rts n fun p => p).length = n := by
  unfold rts
  rw [List.filter_eq_self.mpr fun a _ => by simp, List.length_map, List.length_range]
theorem rank_lab {m : Int} {es : List (Int × Int)} (hE : ∀ e ∈ es, 0 ≤ e.1 ∧ e.1 < m ∧ 0 ≤ e.2 ∧ e.2 < m) : ∀ n, n ≤ es.length → ∃ f, Lab m (es.take n) f ∧ (rts m.toNat f).length + (frN es n).length = m.toNat
  | 0, _ => ⟨fun p => p, by rw [List.take_zero]; exact Lab.nil m, by rw [rts_id]; rfl⟩
  | n + 1, hn => by
    obtain ⟨f, F, hf⟩ := rank_lab hE n (by omega)
    have hg : es[n]? = some (es.getD n (0, 0)) := by rw [List.getD_eq_getElem?_getD, List.getElem?_eq_getElem (show n < es.length by omega)]; rfl
    have b := hE _ (List.mem_of_getElem? hg)
    rw [List.take_add_one, hg, frN_succ]
    by_cases c : inF es n = true
    · have h := inF_iff.mp c
      have hne : f (es.getD n (0, 0)).1 ≠ f (es.getD n (0, 0)).2 := fun z => h ((F.iff b.1 b.2.1 b.2.2.1 b.2.2.2).mp z)
      refine ⟨mrg f (es.getD n (0, 0)), F.merge b, ?_⟩
      have := rts_mrg F b hne
      rw [if_pos c, List.length_append, List.length_singleton]
      omega
    · have h : Cn (es.take n) (es.getD n (0, 0)).1 (es.getD n (0, 0)).2 := Classical.byContradiction fun z => c (inF_iff.mpr z)
      refine ⟨f, F.skip ((F.iff b.1 b.2.1 b.2.2.1 b.2.2.2).mpr h), ?_⟩
      rw [if_neg c, List.append_nil]
      exact hf
theorem lab_of {m : Int} {es : List (Int × Int)} (hE : ∀ e ∈ es, 0 ≤ e.1 ∧ e.1 < m ∧ 0 ≤ e.2 ∧ e.2 < m) : ∃ f, Lab m es f := by
  obtain ⟨f, F, _⟩ := rank_lab hE es.length (Nat.le_refl _)
  rw [List.take_length] at F
  exact ⟨f, F⟩
theorem rank {m : Int} {es : List (Int × Int)} {f : Int → Int} (hE : ∀ e ∈ es, 0 ≤ e.1 ∧ e.1 < m ∧ 0 ≤ e.2 ∧ e.2 < m) (F : Lab m es f) : (rts m.toNat f).length + (frst es).length = m.toNat := by
  obtain ⟨g, G, hg⟩ := rank_lab hE es.length (Nat.le_refl _)
  rw [List.take_length] at G
  rw [rts_congr (g := g) fun p p0 p1 => F.uniq G p0 (by omega)]
  exact hg
theorem lab_fine {m : Int} {es es' : List (Int × Int)} {f f' : Int → Int} (hs : ∀ {a b : Int}, Cn es' a b → Cn es a b) (F : Lab m es f) (F' : Lab m es' f') (h : (rts m.toNat f').length ≤ (rts m.toNat f).length) : ∀ p : Int, 0 ≤ p → p < m → f' p = f p := by
  have s1 : ∀ r ∈ rts m.toNat f, r ∈ rts m.toNat f' := fun r hr => by
    obtain ⟨r0, r1, r2⟩ := mem_rts.mp hr
    have l' := F'.low r r0 (by omega)
    have e := lab_cn F.same (hs (F'.conn r r0 (by omega)))
    have l := F.low (f' r) l'.1 (by omega)
    exact mem_rts.mpr ⟨r0, r1, by omega⟩
  have s2 : ∀ r ∈ rts m.toNat f', r ∈ rts m.toNat f := fun r hr => Classical.byContradiction fun hn => by
    have := nodup_sub (l := r :: rts m.toNat f) (l' := rts m.toNat f') (List.nodup_cons.mpr ⟨hn, asc_nd (rts_asc _ _)⟩) fun a ha => (List.mem_cons.mp ha).elim (fun y => y ▸ hr) (s1 a)
    rw [List.length_cons] at this
    omega
  intro p p0 p1
  have l := F'.low p p0 p1
  have hr := s2 (f' p) (mem_rts.mpr ⟨l.1, by omega, F'.idem p0 p1⟩)
  have e := lab_cn F.same (hs (F'.conn p p0 p1))
  rw [e, (mem_rts.mp hr).2.2]
theorem sub_mem {es : List (Int × Int)} {ss : List Int} (hr : ∀ t ∈ ss, 0 ≤ t ∧ t < (es.length : Int)) : ∀ e ∈ sub es ss, e ∈ es := fun e he => by
  obtain ⟨t, ht, rfl⟩ := List.mem_map.mp he
  have := hr t ht
  unfold tieOf
  rw [List.getD_eq_getElem?_getD, List.getElem?_eq_getElem (show t.toNat < es.length by omega)]
  exact List.getElem_mem _
theorem sub_len (es : List (Int × Int)) (ss : List Int) : (sub es ss).length = ss.length := List.length_map ..
structure Spn (es : List (Int × Int)) (ss : List Int) : Prop where
  ok : SetOk es.length ss
  acy : (frst (sub es ss)).length = ss.length
  all : ss.length = (frst es).length
theorem ends_sub {m : Int} {es : List (Int × Int)} {ss : List Int} (hE : ∀ e ∈ es, 0 ≤ e.1 ∧ e.1 < m ∧ 0 ≤ e.2 ∧ e.2 < m) (hr : ∀ t ∈ ss, 0 ≤ t ∧ t < (es.length : Int)) : ∀ e ∈ sub es ss, 0 ≤ e.1 ∧ e.1 < m ∧ 0 ≤ e.2 ∧ e.2 < m := fun e he => hE e (sub_mem hr e he)
theorem lab_sub {m : Int} {es : List (Int × Int)} {ss : List Int} {f f' : Int → Int} (hE : ∀ e ∈ es, 0 ≤ e.1 ∧ e.1 < m ∧ 0 ≤ e.2 ∧ e.2 < m) (hr : ∀ t ∈ ss, 0 ≤ t ∧ t < (es.length : Int)) (F : Lab m es f) (F' : Lab m (sub es ss) f') (h : (frst (sub es ss)).length = (frst es).length) : ∀ p : Int, 0 ≤ p → p < m → f' p = f p := by
  have r1 := rank hE F
  have r2 := rank (ends_sub hE hr) F'
  exact lab_fine (fun c => c.mono (sub_mem hr)) F F' (by omega)
theorem Spn.cn {m : Int} {es : List (Int × Int)} {ss : List Int} (S : Spn es ss) (hE : ∀ e ∈ es, 0 ≤ e.1 ∧ e.1 < m ∧ 0 ≤ e.2 ∧ e.2 < m) {a b : Int} (h : Cn es a b) (a0 : 0 ≤ a) (a1 : a < m) (b0 : 0 ≤ b) (b1 : b < m) : Cn (sub es ss) a b := by
  obtain ⟨f, F⟩ := lab_of hE
  obtain ⟨f', F'⟩ := lab_of (ends_sub hE S.ok.rng)
  have e := lab_sub hE S.ok.rng F F' (by rw [S.acy, S.all])
  refine (F'.iff a0 a1 b0 b1).mp ?_
  rw [e a a0 a1, e b b0 b1]
  exact (F.iff a0 a1 b0 b1).mpr h
theorem all_inF {es : List (Int × Int)} (h : (frst es).length = es.length) : ∀ i, i < es.length → inF es i = true := fun i hi => by
  unfold frst frN at h
  rw [List.length_map] at h
  have := List.filter_eq_self.mp (List.Sublist.eq_of_length (List.filter_sublist (l := List.range es.length) (p := fun i => inF es i)) (by rw [h, List.length_range]))
  exact this i (List.mem_range.mpr hi)
theorem take_filter : ∀ {ss : List Int} {i : Nat}, ss.Pairwise (· < ·) → i < ss.length → ∀ s ∈ ss, s < ss.getD i 0 → s ∈ ss.take i
  | [], i, _, h, _, _, _ => absurd h (Nat.not_lt_zero _)
  | a :: l, 0, hp, _, s, hs, hlt => by
    have e : (a :: l).getD 0 0 = a := rfl
    rw [e] at hlt
    rcases List.mem_cons.mp hs with y | y
    · omega
    · have := (List.pairwise_cons.mp hp).1 s y; omega
  | a :: l, i + 1, hp, hi, s, hs, hlt => by
    rw [List.take_succ_cons]
    rcases List.mem_cons.mp hs with y | y
    · exact List.mem_cons.mpr (.inl y)
    · exact List.mem_cons_of_mem _ (take_filter (List.pairwise_cons.mp hp).2 (by simpa using hi) s y hlt)
def Acy (es : List (Int × Int)) (L : List Int) : Prop := ∀ t ∈ L, ∀ {M : List Int}, (∀ s ∈ M, s ∈ L ∧ s < t) → ¬ Cn (sub es M) (tieOf es t).1 (tieOf es t).2
theorem Acy.sub {es : List (Int × Int)} {L L' : List Int} (A : Acy es L) (h : ∀ t ∈ L', t ∈ L) : Acy es L' := fun t ht _ hM => A t (h t ht) fun s hs => ⟨h s (hM s hs).1, (hM s hs).2⟩
theorem Spn.free {es : List (Int × Int)} {ss : List Int} (S : Spn es ss) : Acy es ss := fun t ht M hM c => by
  obtain ⟨i, hi, rfl⟩ := List.mem_iff_getElem.mp ht
  have h := inF_iff.mp (all_inF (es := L2.sub es ss) (by rw [S.acy, sub_len]) i (by rw [sub_len]; exact hi))
  have e : (L2.sub es ss).getD i (0, 0) = tieOf es ss[i] := by
    unfold L2.sub
    rw [List.getD_eq_getElem?_getD, List.getElem?_map, List.getElem?_eq_getElem hi]; rfl
  rw [e] at h
  refine h (c.mono fun x hx => ?_)
  obtain ⟨s, hs, rfl⟩ := List.mem_map.mp hx
  have h1 := hM s hs
  unfold L2.sub
  rw [← List.map_take]
  exact List.mem_map.mpr ⟨s, take_filter S.ok.up hi s h1.1 (by rw [gD_at hi]; exact h1.2), rfl⟩
theorem Acy.loop {es : List (Int × Int)} {L : List Int} (A : Acy es L) {t : Int} (ht : t ∈ L) : (tieOf es t).1 ≠ (tieOf es t).2 := fun z => A t ht (M := []) (fun s hs => nomatch hs) (by rw [z]; exact .refl _)
noncomputable def gF (es : List (Int × Int)) (os : List Int) (n : Nat) : List Int := (frN (sub es os) n).map fun i => os.getD i.toNat 0
theorem gF_len (es : List (Int × Int)) (os : List Int) : (gF es os os.length).length = (frst (sub es os)).length := by
  unfold gF frst; rw [List.length_map, sub_len]
theorem getD_all (os : List Int) : ((List.range os.length).map fun i => os.getD i 0) = os := by
  refine List.ext_getElem (by rw [List.length_map, List.length_range]) fun i h1 h2 => ?_
  rw [List.getElem_map, List.getElem_range, gD_at h2]
theorem gF_sub (es : List (Int × Int)) (os : List Int) : (gF es os os.length).Sublist os := by
  have e : gF es os os.length = ((List.range os.length).filter fun i => inF (sub es os) i).map fun i => os.getD i 0 := by
    unfold gF frN
    rw [List.map_map]
    exact List.map_congr_left fun i _ => rfl
  rw [e]
  have := (List.filter_sublist (l := List.range os.length) (p := fun i => inF (sub es os) i)).map fun i => os.getD i 0
  rwa [getD_all] at this
theorem acy_nd {es : List (Int × Int)} {zs : List Int} (h : (frst (sub es zs)).length = zs.length) : zs.Nodup := by
  rw [List.nodup_iff_pairwise_ne, List.pairwise_iff_getElem]
  intro i j hi hj hij e
  have h1 := inF_iff.mp (all_inF (es := sub es zs) (by rw [h, sub_len]) j (by rw [sub_len]; exact hj))
  have ej : (sub es zs).getD j (0, 0) = tieOf es zs[i] := by
    unfold sub
    rw [List.getD_eq_getElem?_getD, List.getElem?_map, List.getElem?_eq_getElem hj, e]; rfl
  rw [ej] at h1
  refine h1 (Cn.tie ?_)
  unfold sub
  rw [← List.map_take]
  exact List.mem_map.mpr ⟨zs[i], List.mem_take_iff_getElem.mpr ⟨i, by omega, rfl⟩, rfl⟩
theorem Spn.test {es : List (Int × Int)} {zs cs : List Int} {n : Nat} (hn : n = (frst es).length) (hr : ∀ t ∈ zs, 0 ≤ t ∧ t < (es.length : Int)) (hs : zs.Pairwise (· ≤ ·)) (hl : zs.length = n) (hp : cs.Perm (gF es zs zs.length)) (hc : cs.Pairwise (· ≤ ·)) : cs = zs ↔ Spn es zs := by
  constructor
  · intro z
    rw [z] at hp
    have h1 : (frst (sub es zs)).length = zs.length := by rw [← gF_len]; exact hp.length_eq.symm
    exact ⟨⟨hr, up_le hs (acy_nd h1)⟩, h1, by omega⟩
  · intro S
    have h1 : gF es zs zs.length = zs := (gF_sub es zs).eq_of_length (by rw [gF_len]; exact S.acy)
    rw [h1] at hp
    exact sorted_uniq hp hc hs
def tg (p : Int) (es : List (Int × Int)) (t : Int) : Int := (if (tieOf es t).2 = p then 1 else 0) - (if (tieOf es t).1 = p then 1 else 0)
theorem Way.two {es : List (Int × Int)} {ss ts ps : List Int} {a b : Int} (p : Int) (W : Way es ss a ts ps b) : (2 : Int) ∣ (ts.map (tg p es)).sum + (if a = p then 1 else 0) + (if b = p then 1 else 0) := by
  induction W with
  | nil =>
    by_cases c : a = p
    · rw [if_pos c]; exact ⟨1, rfl⟩
    · rw [if_neg c]; exact ⟨0, rfl⟩
  | @snoc ts ps q t _ _ _ _ hq _ ih =>
    obtain ⟨u, hu⟩ := ih
    rw [List.map_append, List.sum_append]
    simp only [List.map_cons, List.map_nil, List.sum_cons, List.sum_nil]
    have key : ∃ v, tg p es t + (if q = p then 1 else 0) + (if far (tieOf es t) q = p then (1 : Int) else 0) = 2 * v := by
      unfold tg far
      by_cases c : (tieOf es t).1 = q
      · rw [if_pos c, c]
        by_cases c1 : q = p
        · rw [if_pos c1]; exact ⟨if (tieOf es t).2 = p then 1 else 0, by omega⟩
        · rw [if_neg c1]; exact ⟨if (tieOf es t).2 = p then 1 else 0, by omega⟩
      · rw [if_neg c, hq.resolve_left c]
        by_cases c1 : q = p
        · rw [if_pos c1]; exact ⟨1, by omega⟩
        · rw [if_neg c1]; exact ⟨0, by omega⟩
    obtain ⟨v, hv⟩ := key
    exact ⟨u + v - (if q = p then 1 else 0), by omega⟩
theorem Way.ring {es : List (Int × Int)} {ss ts ps : List Int} {t : Int} (p : Int) (W : Way es ss (tieOf es t).2 ts ps (tieOf es t).1) : (2 : Int) ∣ ((t :: ts).map (tg p es)).sum := by
  obtain ⟨u, hu⟩ := W.two p
  rw [List.map_cons, List.sum_cons]
  unfold tg at *
  exact ⟨u - (if (tieOf es t).1 = p then 1 else 0), by omega⟩
def odd (cs : List Int) : List Int := (upto cs.length).filter fun t => decide (cs.getD t.toNat 0 % 2 = 1)
def cnE (p : Int) (es : List (Int × Int)) (ss : List Int) : Int := (ss.map fun t => (if (tieOf es t).1 = p then 1 else 0) + (if (tieOf es t).2 = p then (1 : Int) else 0)).sum
theorem dp_one (p : Int) (es : List (Int × Int)) (t : Nat) : ∀ n, t < n → dp p es (mkS n [(t : Int)]) n = (if (es.getD t (0, 0)).2 = p then 1 else 0) - (if (es.getD t (0, 0)).1 = p then 1 else 0) := fun n hn => by
  have e : mkS n [(t : Int)] = (List.replicate n (0 : Int)).set t 1 := by
    refine List.ext_getElem (by rw [mkS_len, List.length_set, List.length_replicate]) fun i h1 h2 => ?_
    rw [mkS_len] at h1
    rw [← gD_at (by rw [mkS_len]; exact h1), mkS_at h1, List.getElem_set, List.getElem_replicate]
    by_cases c : t = i
    · rw [if_pos c, if_pos (List.mem_singleton.mpr (by omega))]
    · rw [if_neg c, if_neg (fun z => c (by have := List.mem_singleton.mp z; omega))]
  rw [e, dp_set p es _ _ _ (by rw [List.length_replicate]; exact hn), dp_nil, if_pos hn]
  have z : (List.replicate n (0 : Int)).getD t 0 = 0 := by rw [List.getD_eq_getElem?_getD, List.getElem?_replicate]; split <;> rfl
  rw [z, Int.sub_zero]; omega
theorem dp_cnE {es : List (Int × Int)} (p : Int) : ∀ {ss : List Int}, ss.Nodup → (∀ t ∈ ss, 0 ≤ t ∧ t < (es.length : Int)) → (2 : Int) ∣ dp p es (mkS es.length ss) es.length - cnE p es ss := by
  intro ss
  induction ss with
  | nil =>
    intro _ _
    obtain ⟨u, hu⟩ := EvS.nil es p
    exact ⟨u, by rw [hu]; show 2 * u - 0 = _; omega⟩
  | cons t ss ih =>
    intro hn hr
    rw [List.nodup_cons] at hn
    obtain ⟨u, hu⟩ := ih hn.2 fun z hz => hr z (List.mem_cons_of_mem _ hz)
    have ht := hr t List.mem_cons_self
    have h1 := dp_one p es t.toNat es.length (by omega)
    rw [show ((t.toNat : Nat) : Int) = t by omega] at h1
    have hl : (mkS es.length ss).length = (mkS es.length [t]).length := by rw [mkS_len, mkS_len]
    have e : mkS es.length (t :: ss) = List.zipWith (· + ·) (mkS es.length ss) (mkS es.length [t]) := by
      refine List.ext_getElem (by rw [mkS_len, List.length_zipWith, ← hl, mkS_len, Nat.min_self]) fun i h2 h3 => ?_
      rw [mkS_len] at h2
      rw [← gD_at (by rw [mkS_len]; exact h2), ← gD_at h3, getD_zip _ _ hl, mkS_at h2, mkS_at h2, mkS_at h2]
      by_cases c : (i : Int) = t
      · rw [if_pos (List.mem_cons.mpr (.inl c)), if_neg (show ¬ (i : Int) ∈ ss from fun z => hn.1 (c ▸ z)), if_pos (List.mem_singleton.mpr c)]; rfl
      · rw [if_neg (show ¬ (i : Int) ∈ [t] from fun z => c (List.mem_singleton.mp z))]
        by_cases c2 : (i : Int) ∈ ss
        · rw [if_pos (List.mem_cons_of_mem _ c2), if_pos c2]; rfl
        · rw [if_neg (fun z => (List.mem_cons.mp z).elim c c2), if_neg c2]; rfl
    have ec : cnE p es (t :: ss) = ((if (tieOf es t).1 = p then 1 else 0) + (if (tieOf es t).2 = p then (1 : Int) else 0)) + cnE p es ss := by
      unfold cnE; rw [List.map_cons, List.sum_cons]
    rw [e, dp_zip p es _ _ hl, h1, ec]
    unfold tieOf
    by_cases c1 : (es.getD t.toNat (0, 0)).1 = p
    · rw [if_pos c1]
      exact ⟨u - 1, by omega⟩
    · rw [if_neg c1]
      exact ⟨u, by omega⟩
end L2
namespace L2
open PySem
def crs (R : List Int) (e : Int × Int) : Bool := memI R e.1 != memI R e.2
theorem ac_nil {R : List Int} {es : List (Int × Int)} {fs : List Int} : ∀ n, (∀ t, t < n → fs.getD t 0 = 0 ∨ crs R (es.getD t (0, 0)) = false) → ac R es fs n = 0
  | 0, _ => rfl
  | n + 1, h => by
    have ih := ac_nil (R := R) (es := es) (fs := fs) n fun t ht => h t (by omega)
    show ac R es fs n + (if (memI R (es.getD n (0, 0)).1 && !memI R (es.getD n (0, 0)).2) = true then fs.getD n 0 else 0) - (if (memI R (es.getD n (0, 0)).2 && !memI R (es.getD n (0, 0)).1) = true then fs.getD n 0 else 0) = 0
    rw [ih]
    rcases h n (by omega) with y | y
    · rw [y]; simp
    · unfold crs at y
      have e : memI R (es.getD n (0, 0)).1 = memI R (es.getD n (0, 0)).2 := by
        cases h1 : memI R (es.getD n (0, 0)).1 <;> cases h2 : memI R (es.getD n (0, 0)).2 <;> rw [h1, h2] at y <;> first | rfl | cases y
      rw [e]; simp
def ncr (R : List Int) (es : List (Int × Int)) : Nat → Int
  | 0 => 0
  | n + 1 => ncr R es n + if crs R (es.getD n (0, 0)) = true then 1 else 0
theorem ac_ncr {R : List Int} {es : List (Int × Int)} {fs : List Int} : ∀ n, (∀ t, t < n → ((memI R (es.getD t (0, 0)).1 && !memI R (es.getD t (0, 0)).2) = true → fs.getD t 0 = 1) ∧ ((memI R (es.getD t (0, 0)).2 && !memI R (es.getD t (0, 0)).1) = true → fs.getD t 0 = -1)) → ac R es fs n = ncr R es n
  | 0, _ => rfl
  | n + 1, h => by
    have ih := ac_ncr (R := R) (es := es) (fs := fs) n fun t ht => h t (by omega)
    obtain ⟨h1, h2⟩ := h n (by omega)
    show ac R es fs n + (if (memI R (es.getD n (0, 0)).1 && !memI R (es.getD n (0, 0)).2) = true then fs.getD n 0 else 0) - (if (memI R (es.getD n (0, 0)).2 && !memI R (es.getD n (0, 0)).1) = true then fs.getD n 0 else 0) = ncr R es n + if crs R (es.getD n (0, 0)) = true then 1 else 0
    rw [ih]
    unfold crs
    cases a : memI R (es.getD n (0, 0)).1 <;> cases b : memI R (es.getD n (0, 0)).2 <;> rw [a, b] at h1 h2
    · simp
    · rw [h2 rfl]; simp
    · rw [h1 rfl]; simp
    · simp
theorem ncr_nn (R : List Int) (es : List (Int × Int)) : ∀ n, 0 ≤ ncr R es n
  | 0 => Int.le_refl _
  | n + 1 => by
    have := ncr_nn R es n
    show 0 ≤ ncr R es n + if crs R (es.getD n (0, 0)) = true then 1 else 0
    split <;> omega
theorem ncr_zero {R : List Int} {es : List (Int × Int)} : ∀ n, ncr R es n = 0 → ∀ t, t < n → crs R (es.getD t (0, 0)) = false
  | 0, _, t, ht => absurd ht (Nat.not_lt_zero _)
  | n + 1, h, t, ht => by
    have nn := ncr_nn R es n
    have h' : ncr R es n + (if crs R (es.getD n (0, 0)) = true then 1 else 0) = 0 := h
    by_cases c : crs R (es.getD n (0, 0)) = true
    · rw [if_pos c] at h'; omega
    · rw [if_neg c] at h'
      by_cases d : t = n
      · rw [d]; exact Bool.eq_false_iff.mpr c
      · exact ncr_zero n (by omega) t (by omega)
theorem ncr_one {R : List Int} {es : List (Int × Int)} : ∀ n, ncr R es n = 1 → ∃ b, b < n ∧ crs R (es.getD b (0, 0)) = true ∧ ∀ t, t < n → t ≠ b → crs R (es.getD t (0, 0)) = false
  | 0, h => absurd (show (0 : Int) = 1 from h) (by decide)
  | n + 1, h => by
    have h' : ncr R es n + (if crs R (es.getD n (0, 0)) = true then 1 else 0) = 1 := h
    by_cases c : crs R (es.getD n (0, 0)) = true
    · rw [if_pos c] at h'
      have z := ncr_zero n (show ncr R es n = 0 by omega)
      exact ⟨n, by omega, c, fun t ht hn => z t (by omega)⟩
    · rw [if_neg c] at h'
      obtain ⟨b, h1, h2, h3⟩ := ncr_one (R := R) (es := es) n (by omega)
      refine ⟨b, by omega, h2, fun t ht hn => ?_⟩
      by_cases d : t = n
      · rw [d]; exact Bool.eq_false_iff.mpr c
      · exact h3 t (by omega) hn
theorem cn_side {R : List Int} {fs : List (Int × Int)} {a b : Int} (h : ∀ e ∈ fs, crs R e = false) (c : Cn fs a b) : memI R a = memI R b := by
  have hs : ∀ e ∈ fs, memI R e.1 = memI R e.2 := fun e he => by
    have := h e he
    unfold crs at this
    cases h1 : memI R e.1 <;> cases h2 : memI R e.2 <;> rw [h1, h2] at this <;> first | rfl | cases this
  induction c with
  | refl => rfl
  | fwd _ he ih => rw [ih]; exact hs _ he
  | bwd _ he ih => rw [ih]; exact (hs _ he).symm
theorem sum_ends {F : Int → Int} {k one two : Int} : ∀ R : List Int, R.Nodup → (∀ p ∈ R, F p = k * ((if two = p then 1 else 0) - if one = p then 1 else 0)) → (R.map F).sum = k * ((if two ∈ R then 1 else 0) - if one ∈ R then 1 else 0)
  | [], _, _ => by simp
  | p :: R, hn, h => by
    rw [List.nodup_cons] at hn
    rw [List.map_cons, List.sum_cons, h p List.mem_cons_self, sum_ends R hn.2 fun q hq => h q (List.mem_cons_of_mem _ hq), ← Int.mul_add]
    congr 1
    have key : ∀ x : Int, (if x = p then (1 : Int) else 0) + (if x ∈ R then 1 else 0) = if x ∈ p :: R then 1 else 0 := fun x => by
      by_cases c : x = p
      · rw [if_pos c, if_neg (show ¬ x ∈ R from fun z => hn.1 (c ▸ z)), if_pos (List.mem_cons.mpr (.inl c))]; rfl
      · rw [if_neg c]
        by_cases d : x ∈ R
        · rw [if_pos d, if_pos (List.mem_cons_of_mem _ d)]; rfl
        · rw [if_neg d, if_neg (fun z => (List.mem_cons.mp z).elim c d)]; rfl
    have k1 := key two
    have k2 := key one
    omega
theorem sum_two {F : Int → Int} {one two : Int} : ∀ R : List Int, R.Nodup → (∀ p ∈ R, (2 : Int) ∣ F p + (if one = p then 1 else 0) + (if two = p then 1 else 0)) → (2 : Int) ∣ (R.map F).sum + (if one ∈ R then 1 else 0) + (if two ∈ R then 1 else 0)
  | [], _, _ => ⟨0, by simp⟩
  | p :: R, hn, h => by
    rw [List.nodup_cons] at hn
    obtain ⟨u, hu⟩ := h p List.mem_cons_self
    obtain ⟨v, hv⟩ := sum_two (F := F) (one := one) (two := two) R hn.2 fun q hq => h q (List.mem_cons_of_mem _ hq)
    have key : ∀ x : Int, (if x = p then (1 : Int) else 0) + (if x ∈ R then 1 else 0) = if x ∈ p :: R then 1 else 0 := fun x => by
      by_cases c : x = p
      · rw [if_pos c, if_neg (show ¬ x ∈ R from fun z => hn.1 (c ▸ z)), if_pos (List.mem_cons.mpr (.inl c))]; rfl
      · rw [if_neg c]
        by_cases d : x ∈ R
        · rw [if_pos d, if_pos (List.mem_cons_of_mem _ d)]; rfl
        · rw [if_neg d, if_neg (fun z => (List.mem_cons.mp z).elim c d)]; rfl
    have k1 := key two
    have k2 := key one
    rw [List.map_cons, List.sum_cons]
    exact ⟨u + v, by omega⟩
theorem side_of {m : Int} {es : List (Int × Int)} {S : List Int} {one : Int} (hE : ∀ e ∈ es, 0 ≤ e.1 ∧ e.1 < m ∧ 0 ≤ e.2 ∧ e.2 < m) (hr : ∀ t ∈ S, 0 ≤ t ∧ t < (es.length : Int)) (o0 : 0 ≤ one) (o1 : one < m) : ∃ R : List Int, R.Nodup ∧ one ∈ R ∧ (∀ p : Int, 0 ≤ p → p < m → (p ∈ R ↔ Cn (sub es S) one p)) ∧ ∀ t ∈ S, crs R (tieOf es t) = false := by
  have hE' := ends_sub hE hr
  obtain ⟨f, F⟩ := lab_of hE'
  have mem : ∀ p : Int, 0 ≤ p → p < m → (p ∈ grp m.toNat f (f one) ↔ Cn (sub es S) one p) := fun p p0 p1 => by
    rw [mem_grp, F.iff p0 p1 o0 o1]
    exact ⟨fun h => h.2.2.symm, fun h => ⟨p0, by omega, h.symm⟩⟩
  refine ⟨grp m.toNat f (f one), ?_, (mem one o0 o1).mpr (.refl _), mem, fun t ht => ?_⟩
  · unfold grp
    rw [List.nodup_iff_pairwise_ne, List.pairwise_map]
    exact (List.Pairwise.filter _ List.pairwise_lt_range).imp fun h z => by omega
  · have hm : tieOf es t ∈ sub es S := List.mem_map.mpr ⟨t, ht, rfl⟩
    have b := hE' _ hm
    have e : memI (grp m.toNat f (f one)) (tieOf es t).1 = memI (grp m.toNat f (f one)) (tieOf es t).2 := by
      rw [Bool.eq_iff_iff, memI_iff, memI_iff, mem _ b.1 b.2.1, mem _ b.2.2.1 b.2.2.2]
      exact ⟨fun c => c.trans (Cn.tie hm), fun c => c.trans (Cn.eit hm)⟩
    unfold crs
    rw [e]; simp
theorem two_cn {m k : Int} {es : List (Int × Int)} {as S : List Int} {one two : Int} (hE : ∀ e ∈ es, 0 ≤ e.1 ∧ e.1 < m ∧ 0 ≤ e.2 ∧ e.2 < m) (hr : ∀ t ∈ S, 0 ≤ t ∧ t < (es.length : Int)) (o0 : 0 ≤ one) (o1 : one < m) (t0 : 0 ≤ two) (t1 : two < m) (hk : k ≠ 0) (hS : ∀ t : Nat, t < es.length → as.getD t 0 ≠ 0 → (t : Int) ∈ S) (h : ∀ p : Int, dp p es as es.length = k * ((if two = p then 1 else 0) - if one = p then 1 else 0)) : Cn (sub es S) one two := by
  obtain ⟨R, hn, ho, mem, hc⟩ := side_of hE hr o0 o1
  refine Classical.byContradiction fun nc => ?_
  have h2 : ¬ two ∈ R := fun z => nc ((mem two t0 t1).mp z)
  have a0 : ac R es as es.length = 0 := ac_nil es.length fun t ht => by
    by_cases c : as.getD t 0 = 0
    · exact .inl c
    · exact .inr (by have := hc _ (hS t ht c); unfold tieOf at this; rwa [Int.toNat_natCast] at this)
  have a1 := ac_dp R hn es as es.length
  rw [sum_ends R hn fun p _ => h p, if_neg h2, if_pos ho, a0] at a1
  omega
theorem par_cn {m : Int} {es : List (Int × Int)} {S : List Int} {one two : Int} (hE : ∀ e ∈ es, 0 ≤ e.1 ∧ e.1 < m ∧ 0 ≤ e.2 ∧ e.2 < m) (hr : ∀ t ∈ S, 0 ≤ t ∧ t < (es.length : Int)) (o0 : 0 ≤ one) (o1 : one < m) (t0 : 0 ≤ two) (t1 : two < m) (h : ∀ p : Int, (2 : Int) ∣ dp p es (mkS es.length S) es.length + (if one = p then 1 else 0) + (if two = p then 1 else 0)) : Cn (sub es S) one two := by
  obtain ⟨R, hn, ho, mem, hc⟩ := side_of hE hr o0 o1
  refine Classical.byContradiction fun nc => ?_
  have h2 : ¬ two ∈ R := fun z => nc ((mem two t0 t1).mp z)
  have a0 : ac R es (mkS es.length S) es.length = 0 := ac_nil es.length fun t ht => by
    rw [mkS_at ht]
    by_cases c : (t : Int) ∈ S
    · exact .inr (by have := hc _ c; unfold tieOf at this; rwa [Int.toNat_natCast] at this)
    · exact .inl (if_neg c)
  have a1 := ac_dp R hn es (mkS es.length S) es.length
  obtain ⟨u, hu⟩ := sum_two (F := fun p => dp p es (mkS es.length S) es.length) R hn fun p _ => h p
  rw [if_neg h2, if_pos ho] at hu
  omega
theorem cut_one {m : Int} {es : List (Int × Int)} {R kept : List Int} {one two : Int} (ho : one ∈ R) (ht : ¬ two ∈ R) (h1 : ncr R es es.length = 1) (hr : ∀ t ∈ kept, 0 ≤ t ∧ t < (es.length : Int)) (hk : ∀ t ∈ kept, isB es t = false) : ¬ Cn (sub es kept) one two := fun c => by
  obtain ⟨b, b1, b2, b3⟩ := ncr_one es.length h1
  have out : ∀ t : Int, 0 ≤ t → t < (es.length : Int) → t ≠ (b : Int) → crs R (tieOf es t) = false := fun t t0 t1 hn => b3 t.toNat (by omega) (by omega)
  have br : isB es (b : Int) = true := isB_iff.mpr fun c2 => by
    have e := cn_side (R := R) (fun e he => by
      obtain ⟨t, ht2, rfl⟩ := List.mem_map.mp he
      have := mem_oth.mp ht2
      exact out t this.1.1 this.1.2 this.2) c2
    have b2' : crs R (tieOf es (b : Int)) = true := by unfold tieOf; rw [Int.toNat_natCast]; exact b2
    unfold crs at b2'
    rw [e] at b2'
    simp at b2'
  have e := cn_side (R := R) (fun e he => by
    obtain ⟨t, ht2, rfl⟩ := List.mem_map.mp he
    have := hr t ht2
    exact out t this.1 this.2 fun z => by rw [z] at ht2; have := hk _ ht2; rw [br] at this; cases this) c
  rw [memI_iff.mpr ho] at e
  exact ht (memI_iff.mp e.symm)
theorem Way.cnT {es : List (Int × Int)} {ss ts ps : List Int} {a p : Int} (h : Way es ss a ts ps p) : Cn (L2.sub es ts) a p := by
  induction h with
  | nil => exact .refl _
  | @snoc ts ps p t _ _ _ _ hp _ ih =>
    have up : ∀ {x y : Int}, Cn (L2.sub es ts) x y → Cn (L2.sub es (ts ++ [t])) x y := fun c => c.mono fun e he => by
      obtain ⟨z, hz, rfl⟩ := List.mem_map.mp he
      exact List.mem_map.mpr ⟨z, List.mem_append_left _ hz, rfl⟩
    exact (up ih).trans (far_cn (List.mem_map.mpr ⟨t, List.mem_append_right _ (List.mem_singleton.mpr rfl), rfl⟩) hp)
theorem Way.split {es : List (Int × Int)} {ss ts ps : List Int} {a p : Int} (h : Way es ss a ts ps p) : ∀ t ∈ ts, ∃ u v, (((tieOf es t).1 = u ∧ (tieOf es t).2 = v) ∨ ((tieOf es t).1 = v ∧ (tieOf es t).2 = u)) ∧ Cn (L2.sub es (ts.filter fun z => decide (z ≠ t))) a u ∧ Cn (L2.sub es (ts.filter fun z => decide (z ≠ t))) v p := by
  induction h with
  | nil => exact fun t ht => nomatch ht
  | @snoc ts ps p t h _ _ _ hp hn ih =>
    have fr : ¬ t ∈ ts := h.fresh hp hn
    intro t' ht'
    rcases List.mem_append.mp ht' with y | y
    · obtain ⟨u, v, e, c1, c2⟩ := ih t' y
      have ne : t ≠ t' := fun z => fr (z ▸ y)
      have up : ∀ {x y : Int}, Cn (L2.sub es (ts.filter fun z => decide (z ≠ t'))) x y → Cn (L2.sub es ((ts ++ [t]).filter fun z => decide (z ≠ t'))) x y := fun c => c.mono fun e he => by
        obtain ⟨z, hz, rfl⟩ := List.mem_map.mp he
        rw [List.filter_append]
        exact List.mem_map.mpr ⟨z, List.mem_append_left _ hz, rfl⟩
      refine ⟨u, v, e, up c1, (up c2).trans (far_cn (List.mem_map.mpr ⟨t, ?_, rfl⟩) hp)⟩
      rw [List.filter_append]
      exact List.mem_append_right _ (List.mem_filter.mpr ⟨List.mem_singleton.mpr rfl, decide_eq_true ne⟩)
    · rw [List.mem_singleton.mp y]
      have ef : (ts ++ [t]).filter (fun z => decide (z ≠ t)) = ts := by
        rw [List.filter_append, List.filter_cons_of_neg (by simp), List.filter_nil, List.append_nil]
        exact List.filter_eq_self.mpr fun z hz => decide_eq_true fun e => fr (e ▸ hz)
      rw [ef]
      refine ⟨p, far (tieOf es t) p, ?_, h.cnT, .refl _⟩
      unfold far
      by_cases c : (tieOf es t).1 = p
      · rw [if_pos c]; exact .inl ⟨c, rfl⟩
      · rw [if_neg c]; exact .inr ⟨rfl, hp.resolve_left c⟩
theorem Way.nobr {es : List (Int × Int)} {ss ts ps S2 : List Int} {one two : Int} (h : Way es ss one ts ps two) (hr : ∀ t ∈ S2, 0 ≤ t ∧ t < (es.length : Int)) (hd : ∀ t ∈ S2, ¬ t ∈ ts) (c : Cn (L2.sub es S2) one two) : ∀ t ∈ ts, isB es t = false := fun t ht => by
  have hb := h.sub t ht
  obtain ⟨u, v, e, c1, c2⟩ := h.split t ht
  have up1 : ∀ {x y : Int}, Cn (L2.sub es (ts.filter fun z => decide (z ≠ t))) x y → Cn (L2.sub es (oth es.length t)) x y := fun c => c.mono fun e he => by
    obtain ⟨z, hz, rfl⟩ := List.mem_map.mp he
    have h1 := List.mem_filter.mp hz
    exact List.mem_map.mpr ⟨z, mem_oth.mpr ⟨(h.sub z h1.1).2, of_decide_eq_true h1.2⟩, rfl⟩
  have up2 : Cn (L2.sub es (oth es.length t)) one two := c.mono fun e he => by
    obtain ⟨z, hz, rfl⟩ := List.mem_map.mp he
    exact List.mem_map.mpr ⟨z, mem_oth.mpr ⟨hr z hz, fun y => hd z hz (y ▸ ht)⟩, rfl⟩
  have cc : Cn (L2.sub es (oth es.length t)) u v := (up1 c1).symm.trans (up2.trans (up1 c2).symm)
  refine Bool.eq_false_iff.mpr fun z => isB_iff.mp z ?_
  rcases e with ⟨e1, e2⟩ | ⟨e1, e2⟩
  · rw [e1, e2]; exact cc
  · rw [e1, e2]; exact cc.symm
theorem shut_two {m k : Int} {es : List (Int × Int)} {as lo hi R : List Int} {one two : Int} (hE : ∀ e ∈ es, 0 ≤ e.1 ∧ e.1 < m ∧ 0 ≤ e.2 ∧ e.2 < m) (hl : as.length = es.length) (hlo : ∀ t, t < es.length → lo.getD t 0 = -1) (hhi : ∀ t, t < es.length → hi.getD t 0 = 1) (hb : ∀ t, t < es.length → -1 ≤ as.getD t 0 ∧ as.getD t 0 ≤ 1) (hd : ∀ p : Int, dp p es as es.length = k * ((if two = p then 1 else 0) - if one = p then 1 else 0)) (hn : R.Nodup) (ho : one ∈ R) (ht : ¬ two ∈ R) (hc : ∀ p ∈ R, ∀ s ∈ stN es (rmN as lo hi) p es.length, stE es s ∈ R) : ncr R es es.length = k := by
  have a1 := ac_dp R hn es as es.length
  rw [sum_ends R hn fun p _ => hd p, if_neg ht, if_pos ho] at a1
  rw [← ac_ncr (fs := as) es.length fun t h => ?_, a1]
  · omega
  · have rm := rmN_at (as := as) (lo := lo) (hi := hi) (i := t) (by omega)
    rw [hlo t h, hhi t h] at rm
    have b := hb t h
    have has := fun p : Int => stN_has (es := es) (rm := rmN as lo hi) (p := p) (i := t) (n := es.length) h
    constructor
    · intro z
      rw [Bool.and_eq_true, Bool.not_eq_true', memI_iff] at z
      refine Classical.byContradiction fun hne => ?_
      have h1 := hc _ z.1 _ ((has (es.getD t (0, 0)).1).1 rfl (by rw [rm]; show 0 < 1 - as.getD t 0; omega))
      have e : stE es ((t : Int), 1) = (es.getD t (0, 0)).2 := by unfold stE tieOf; rw [if_pos rfl, Int.toNat_natCast]
      rw [e] at h1
      rw [memI_iff.mpr h1] at z
      cases z.2
    · intro z
      rw [Bool.and_eq_true, Bool.not_eq_true', memI_iff] at z
      refine Classical.byContradiction fun hne => ?_
      have h1 := hc _ z.1 _ ((has (es.getD t (0, 0)).2).2 rfl (by rw [rm]; show 0 < as.getD t 0 - -1; omega))
      have e : stE es ((t : Int), -1) = (es.getD t (0, 0)).1 := by unfold stE tieOf; rw [if_neg (show ¬ (-1 : Int) = 1 by decide), Int.toNat_natCast]
      rw [e] at h1
      rw [memI_iff.mpr h1] at z
      cases z.2
theorem even_two {es : List (Int × Int)} {as : List Int} {one two : Int} (hb : ∀ t, t < es.length → -1 ≤ as.getD t 0 ∧ as.getD t 0 ≤ 1) (hd : ∀ p : Int, dp p es as es.length = 2 * ((if two = p then 1 else 0) - if one = p then 1 else 0)) : EvS es (nzL es.length as) := fun p => by
  obtain ⟨u, hu⟩ := dp_cong (k := 2) (p := p) (es := es) (fs := mkS es.length (nzL es.length as)) (gs := as) es.length fun t ht => by
    have b := hb t ht
    rw [mkS_at ht]
    by_cases c : as.getD t 0 = 0
    · rw [if_neg (fun z => (mem_nzL.mp z).2.2 (by rw [Int.toNat_natCast]; exact c)), c]; exact ⟨0, rfl⟩
    · rw [if_pos (mem_nzL.mpr ⟨by omega, by omega, by rw [Int.toNat_natCast]; exact c⟩)]
      by_cases d : as.getD t 0 = 1
      · rw [d]; exact ⟨0, rfl⟩
      · rw [show as.getD t 0 = -1 by omega]; exact ⟨1, rfl⟩
  rw [hd p] at hu
  exact ⟨u + ((if two = p then 1 else 0) - if one = p then 1 else 0), by omega⟩
theorem tg_cnE (p : Int) (es : List (Int × Int)) : ∀ ts : List Int, (2 : Int) ∣ cnE p es ts - (ts.map (tg p es)).sum
  | [] => ⟨0, rfl⟩
  | t :: ts => by
    obtain ⟨u, hu⟩ := tg_cnE p es ts
    have e : cnE p es (t :: ts) = ((if (tieOf es t).1 = p then 1 else 0) + (if (tieOf es t).2 = p then (1 : Int) else 0)) + cnE p es ts := by unfold cnE; rw [List.map_cons, List.sum_cons]
    rw [e, List.map_cons, List.sum_cons]
    unfold tg at *
    exact ⟨u + (if (tieOf es t).1 = p then 1 else 0), by omega⟩
theorem rest_odd {es : List (Int × Int)} {S ss ts ps : List Int} {one two : Int} (hS : EvS es S) (W : Way es ss one ts ps two) (hs : ∀ t ∈ ts, t ∈ S) (p : Int) : (2 : Int) ∣ dp p es (mkS es.length (S.filter fun t => !ts.any (· == t))) es.length + (if one = p then 1 else 0) + (if two = p then 1 else 0) := by
  have hl : (mkS es.length ts).length = (mkS es.length (S.filter fun t => !ts.any (· == t))).length := by rw [mkS_len, mkS_len]
  have mA : ∀ {X : List Int} {t : Int}, X.any (· == t) = true ↔ t ∈ X := memI_iff
  have e : mkS es.length S = List.zipWith (· + ·) (mkS es.length ts) (mkS es.length (S.filter fun t => !ts.any (· == t))) := by
    refine List.ext_getElem (by rw [mkS_len, List.length_zipWith, ← hl, mkS_len, Nat.min_self]) fun i h2 h3 => ?_
    rw [mkS_len] at h2
    rw [← gD_at (by rw [mkS_len]; exact h2), ← gD_at h3, getD_zip _ _ hl, mkS_at h2, mkS_at h2, mkS_at h2]
    by_cases c : (i : Int) ∈ ts
    · rw [if_pos (hs _ c), if_pos c, if_neg (fun z => by have := (List.mem_filter.mp z).2; rw [mA.mpr c] at this; cases this)]; rfl
    · rw [if_neg c]
      by_cases d : (i : Int) ∈ S
      · rw [if_pos d, if_pos (List.mem_filter.mpr ⟨d, by rw [Bool.eq_false_iff.mpr (fun z => c (mA.mp z))]; rfl⟩)]; rfl
      · rw [if_neg d, if_neg (fun z => d (List.mem_filter.mp z).1)]; rfl
  obtain ⟨a, ha⟩ := hS p
  rw [e, dp_zip p es _ _ hl] at ha
  obtain ⟨b, hb⟩ := dp_cnE (es := es) p W.tnd fun t ht => (W.sub t ht).2
  obtain ⟨c, hc⟩ := tg_cnE p es ts
  obtain ⟨d, hd⟩ := W.two p
  exact ⟨a - b - c - d + (if one = p then 1 else 0) + (if two = p then 1 else 0), by omega⟩
structure TwI (es : List (Int × Int)) (one two k : Int) (as : List Int) : Prop where
  len : as.length = es.length
  bd : ∀ t, t < es.length → -1 ≤ as.getD t 0 ∧ as.getD t 0 ≤ 1
  gn : ∀ p : Int, dp p es as es.length = k * ((if two = p then 1 else 0) - if one = p then 1 else 0)
theorem TwI.start (es : List (Int × Int)) (one two : Int) : TwI es one two 0 (List.replicate es.length 0) := by
  refine ⟨List.length_replicate .., fun t ht => ?_, fun p => by rw [dp_nil, Int.zero_mul]⟩
  rw [List.getD_eq_getElem?_getD, List.getElem?_replicate, if_pos ht]; decide
theorem TwI.next {es : List (Int × Int)} {one two k : Int} {as lo hi : List Int} {ss : List (Int × Int)} {ps : List Int} (I : TwI es one two k as) (hlo : ∀ t, t < es.length → lo.getD t 0 = -1) (hhi : ∀ t, t < es.length → hi.getD t 0 = 1) (W : WayS es (rmN as lo hi) one ss ps two) : TwI es one two (k + 1) (psh as ss 1) := by
  refine ⟨(psh_len ..).trans I.len, fun t ht => ?_, fun p => ?_⟩
  · have b := I.bd t ht
    by_cases c : ∃ s ∈ ss, s.1.toNat = t
    · obtain ⟨s, hs, e⟩ := c
      obtain ⟨hv, hr, _⟩ := W.step s hs
      have h1 := psh_in (z := 1) I.len (fun u hu => (W.step u hu).1) W.tnd hs
      rw [e] at h1
      rw [h1]
      unfold rmA at hr
      rw [e, rmN_at (by rw [I.len]; exact ht), hlo t ht, hhi t ht] at hr
      rcases hv.2.2 with y | y
      · rw [if_pos y] at hr
        rw [y]
        have : 0 < 1 - as.getD t 0 := hr
        omega
      · rw [if_neg (by rw [y]; decide)] at hr
        rw [y]
        have : 0 < as.getD t 0 - -1 := hr
        omega
    · rw [psh_out fun s hs z => c ⟨s, hs, z⟩]; exact b
  · rw [WayS.dp W I.len p, I.gn p, Int.add_mul, Int.one_mul]
    omega
end L2
namespace Pk
open PySem L2 PyProof.Rows
def top (i : Nat) : Stmt := PySem.Challenge.pw_busyweb_k18_whole_two_ways.main.body.getD i (.Pass ⟨0, 0, 0, 0⟩)
abbrev sN : Stmt := inClass (top 16) 0
abbrev sPl : Stmt := top 17
abbrev sRl : Stmt := top 19
abbrev sSf : Stmt := top 20
abbrev sSe : Stmt := top 21
abbrev sWw : Stmt := top 22
abbrev sPu : Stmt := top 23
abbrev sFe : Stmt := top 25
abbrev sFw : Stmt := top 26
abbrev sTf : Stmt := top 28
abbrev sTw : Stmt := top 29
abbrev sC : Stmt := top 31
abbrev sH : Stmt := top 32
abbrev sX : Stmt := top 33
abbrev sE : Stmt := top 34
abbrev sD : Stmt := top 35
abbrev sNm : Stmt := top 36
abbrev sPa : Stmt := top 37
abbrev sEa : Stmt := top 38
abbrev sLd : Stmt := top 39
abbrev sR : Stmt := top 40
abbrev sRf : Stmt := top 41
abbrev sL : Stmt := top 42
structure Cs where
  FlowError : Addr
  BadWeb : Addr
  TooMany : Addr
  BadPlace : Addr
  BadTie : Addr
  BadFlow : Addr
  BadRest : Addr
  NoFlow : Addr
  BadSet : Addr
  BadPaper : Addr
  BadText : Addr
  BadDeed : Addr
  Web : Addr
structure Alone (K : PySem.W.Frag) (c : Cs) (A : Addr) : Prop where
  ex : ExcC K A
  ks : ∃ b1 b2 b3 b4 b5 b6 b7 b8 b9 b10 b11 : Bool, PySem.W.kitOne K (.ref A) (.ref c.BadWeb) = some b1 ∧ PySem.W.kitOne K (.ref A) (.ref c.TooMany) = some b2 ∧ PySem.W.kitOne K (.ref A) (.ref c.BadPlace) = some b3 ∧ PySem.W.kitOne K (.ref A) (.ref c.BadTie) = some b4 ∧
    PySem.W.kitOne K (.ref A) (.ref c.BadFlow) = some b5 ∧ PySem.W.kitOne K (.ref A) (.ref c.BadRest) = some b6 ∧ PySem.W.kitOne K (.ref A) (.ref c.NoFlow) = some b7 ∧ PySem.W.kitOne K (.ref A) (.ref c.BadSet) = some b8 ∧
    PySem.W.kitOne K (.ref A) (.ref c.BadPaper) = some b9 ∧ PySem.W.kitOne K (.ref A) (.ref c.BadText) = some b10 ∧ PySem.W.kitOne K (.ref A) (.ref c.BadDeed) = some b11 ∧
    ([V.bl b1, .bl b2, .bl b3, .bl b4, .bl b5, .bl b6, .bl b7, .bl b8, .bl b9, .bl b10, .bl b11].countP fun z => eqV z (.bl true)) = 1
  fe : PySem.W.kitOne K (.ref A) (.ref c.FlowError) = some true
  ve : PySem.W.kitOne K (.ref A) (.type "ValueError") = some true
structure Txt (K : PySem.W.Frag) (mg : Str → Option Value) (c : Cs) : Prop where
  ValueError : mg "ValueError" = none
  abs : mg "abs" = none
  all : mg "all" = none
  bool : mg "bool" = none
  enumerate : mg "enumerate" = none
  int : mg "int" = none
  isinstance : mg "isinstance" = none
  len : mg "len" = none
  list : mg "list" = none
  min : mg "min" = none
  range : mg "range" = none
  sum : mg "sum" = none
  tuple : mg "tuple" = none
  zip : mg "zip" = none
  mFlowError : mg "FlowError" = some (.ref c.FlowError)
  mBadWeb : mg "BadWeb" = some (.ref c.BadWeb)
  mTooMany : mg "TooMany" = some (.ref c.TooMany)
  mBadPlace : mg "BadPlace" = some (.ref c.BadPlace)
  mBadTie : mg "BadTie" = some (.ref c.BadTie)
  mBadFlow : mg "BadFlow" = some (.ref c.BadFlow)
  mBadRest : mg "BadRest" = some (.ref c.BadRest)
  mNoFlow : mg "NoFlow" = some (.ref c.NoFlow)
  mBadSet : mg "BadSet" = some (.ref c.BadSet)
  mBadPaper : mg "BadPaper" = some (.ref c.BadPaper)
  mBadText : mg "BadText" = some (.ref c.BadText)
  mBadDeed : mg "BadDeed" = some (.ref c.BadDeed)
  mWeb : mg "Web" = some (.ref c.Web)
  web : WebC K c.Web
  most_places : ∃ t, mg "MOST_PLACES" = some (.int 20 t)
  most_ties : ∃ t, mg "MOST_TIES" = some (.int 40 t)
  xFlowError : IsExc K c.FlowError
  xBadPlace : IsExc K c.BadPlace
  rBadPlace : PySem.W.mroIn K c.BadPlace (.ref c.FlowError) = some true
  alBadPlace : Alone K c c.BadPlace
def spLaw (K : PySem.W.Frag) : Sp := fun vs H Q _ => ∃ (a : Addr) (ns : List Int), vs = [.ref a] ∧ SqL K H a (ns.map V.int) ∧ ns.length ≤ 63 ∧ ∀ H', Q (.bl true) H'
section
variable {P : Program} {w : World} {K : PySem.W.Frag} {mg : Str → Option Value} {base : Heap} {c : Cs}
theorem scN : FnScope ["self", "many", "ties", "start", "end"] ["self", "many", "ties"] (defScope sN) := ⟨rfl, rfl, rfl, by decide +kernel, rfl, by decide +kernel, by decide +kernel⟩
theorem putF2 (m : Int) (t : Addr) : putF "ties" (.ref t) (putF "many" (.int m) []) = wFs m t := rfl
theorem ok_N {f : Addr} {fd : FuncData} (F : Fun K "__init__" "Web.__init__" sN f fd) (T : Txt K mg c) : FnOk P w K mg base CX0 1 f fd ["self", "many", "ties"] (spInit K c.Web) := by
  refine F.ok scN (fun vs H Q E h => ?_) (fun cdv A outer s H vs Q E hr h => ?_)
  · obtain ⟨x, dx, p, m, xs, es, rfl, _⟩ := h
    rfl
  · obtain ⟨x, dx, p, m, xs, es, rfl, hx, hS, hp, m1, m2, hz, hE, k⟩ := h
    have hlen := hp.len
    refine ⟨_, pss_cons (ps_if (PW.pt (pw_or (pt_cmpR op_lt (pv 1) (pe_int) (nomark _)) (pw_or (pt_cmpR op_gt (pv 1) (pe_glob (v := .int 20) (by rfl) T.most_places.choose_spec ⟨_, rfl⟩) (nomark _)) (pw_or1 (pt_cmpR op_gt (pe_callB (cLen (K := K) rfl) (by rfl) T.len PySem.boot_len (pa_cons (pv 2) pa_nil)) (pe_glob (v := .int 40) (by rfl) T.most_ties.choose_spec ⟨_, rfl⟩) (nomark _))))))
        (pss_one (ps_never)) (pss_nil))
      (pss_cons (ps_for PassesOwn.never rfl (piSeq (K := K) rfl (pv 2)) (pgTup (K := K) (n := 2) rfl rfl (pgs_cons (pg_name (i := 3) scN.nd rfl (Or.inl rfl)) (pgs_cons (pg_name (i := 4) scN.nd rfl (Or.inl rfl)) (pgs_nil))) rfl)
        (pss_one (ps_if (pt_not (PW.pt (pw_and (pt_chain op_le op_lt (pe_int) (pv 3) (pv 1)) (pw_and1 (pt_chain op_le op_lt (pe_int) (pv 4) (pv 1))))))
        (pss_one (ps_never)) (pss_nil))))
      (pss_cons (ps_fld (pv 0) (pv 1) rfl)
      (pss_one (ps_fld (pv 0) (pe_callTy (cTuple (K := K) rfl) (by rfl) T.tuple PyProof.Rows.boot_tuple (pa_cons (pe_lc (N' := ["start", "end"]) (nl := 2) (js := []) rfl (.of (osc := defScope sN) (N := ["self", "many", "ties", "start", "end"]) (by decide +kernel) rfl rfl) (piSeq (K := K) rfl (pv 2))
        (fun _ _ _ _ => pgPair (K := K) (i := 0) (j := 1) rfl rfl (show (["start", "end"] : List Str).Nodup by decide +kernel) rfl rfl rfl rfl) (fun _ _ _ _ => pif_nil)
        (fun _ _ _ _ => pe_tup (pa_cons (pv 0) (pa_cons (pv 1) pa_nil)))) pa_nil)) rfl)))), ?_⟩
    refine ⟨_, rfl, _, _, rfl, rfl, _, rfl, ?_⟩
    rw [decide_eq_false (by lia)]
    refine iteF ⟨_, rfl, _, _, rfl, rfl, _, rfl, ?_⟩
    rw [decide_eq_false (by lia)]
    refine iteF ⟨_, rfl, p, xs, rfl, hS, _, _, rfl, rfl, _, rfl, ?_⟩
    rw [decide_eq_false (by lia)]
    refine iteF ⟨_, rfl, p, xs, rfl, hS, fun J C O hC => for_by O (fun i σ H2 => H2 = H ∧ ∃ v3 v4, σ = [some (.ref x), some (.int m), some (.ref p), v3, v4]) ⟨rfl, _, _, rfl⟩ (fun i σ H2 _ h => by rw [h.1]; exact hC _ (Same.refl _)) ?_ ?_⟩
    · rintro i σ H2 hi ⟨rfl, v3, v4, rfl⟩
      obtain ⟨r, e, er, hr2, _, he⟩ := hp.at hi
      obtain ⟨b1, b2, b3, b4⟩ := hE e he
      dsimp only
      rw [er]
      refine ⟨r, _, rfl, hr2, rfl, _, _, rfl, _, _, rfl, rfl, ?_⟩
      refine ⟨_, rfl, _, _, rfl, rfl, _, rfl, ?_⟩
      rw [decide_eq_true b1]
      refine iteT ⟨_, rfl, _, _, rfl, rfl, _, rfl, ?_⟩
      rw [decide_eq_true b2]
      refine iteT ⟨_, rfl, _, _, rfl, rfl, _, rfl, ?_⟩
      rw [decide_eq_true b3]
      refine iteT ⟨_, rfl, _, _, rfl, rfl, _, rfl, ?_⟩
      rw [decide_eq_true b4]
      exact iteF ⟨rfl, _, _, rfl⟩
    · rintro σ H2 ⟨rfl, v3, v4, rfl⟩
      refine ⟨_, rfl, _, rfl, x, c.Web, dx, _, rfl, hx, T.web.cl, T.web.nM, (by show 0 < 1000; decide), ?_⟩
      have sx : SameX x H2 (upd H2 x (.ins c.Web dx (putF "many" (.int m) []))) := sameX_upd
      have hS' := hS.imp (fun y => sx.seqI hx y) (fun y => sx.tupI hx y)
      have hp' := hp.sameI sx hx
      have hx' : (upd H2 x (.ins c.Web dx (putF "many" (.int m) []))) x = some (.ins c.Web dx (putF "many" (.int m) [])) := upd_same
      generalize upd H2 x (.ins c.Web dx (putF "many" (.int m) [])) = H3 at sx hS' hp' hx'
      refine ⟨_, rfl, p, xs, rfl, hS', fun J C O hC => lc_by O (fun i ys H4 => Same H3 H4 ∧ Pairs K H4 ys (es.take i)) (Nat.le_of_lt (small1000 (by lia))) ⟨Same.refl _, .nil⟩ ?_ ?_ ?_⟩
      · rintro i ys H4 hi ⟨s4, h4⟩
        have := h4.len
        rw [List.length_take] at this
        exact ⟨hC _ s4, by lia⟩
      · rintro i ys H4 hi ⟨s4, h4⟩
        obtain ⟨r, e, er, hr2, he, _⟩ := (hp'.same s4).at hi
        have hl4 := h4.len
        rw [List.length_take] at hl4
        try dsimp only
        rw [er]
        refine ⟨r, _, rfl, hr2, rfl, _, _, rfl, _, _, rfl, rfl, wk_set2 rfl rfl, iteT ?_⟩
        refine ⟨_, rfl, _, rfl, (by show 2 ≤ sizeLine; decide), fun t ht => ⟨small1000 (by lia), _, by lia, rfl, hi, s4.next ht, ?_⟩⟩
        rw [take_snoc he]
        exact (h4.same (Same.new ht)).snoc (SqT.of upd_same)
      · rintro ys H4 ⟨s4, h4⟩ l hl
        rw [show es.take xs.length = es from List.take_of_length_le (by lia)] at h4
        refine ⟨l, ys, rfl, .inl ⟨SqL.of upd_same, fun t ht => ?_⟩⟩
        have s5 : Same H3 (upd (upd H4 l (.lst ys)) t (.tup ys)) := (s4.next hl).next ht
        refine ⟨_, rfl, x, c.Web, dx, _, rfl, s5 _ _ hx', T.web.cl, T.web.nT, (by show 1 < 1000; decide), ?_⟩
        rw [putF2]
        have hxt : t ≠ x := (ne_of_none (((s4.next hl)) _ _ hx') ht).symm
        refine k _ t ys ((sx.trans (.of s5)).trans sameX_upd) upd_same (by rw [upd_ne hxt]; exact upd_same) ?_
        exact Pairs.sameI sameX_upd (s5 _ _ hx') ((h4.same (Same.new hl)).same (Same.new ht))
def spPl (K : PySem.W.Frag) (C cP : Addr) : Sp := fun vs H Q E => ∃ (x : Addr) (p m : Int) (es : List (Int × Int)), vs = [.ref x, .int p] ∧ WebAt K C H x m es ∧ (0 ≤ p → p < m → Q .non H) ∧ (¬ (0 ≤ p ∧ p < m) → E (.ref cP) none H)
theorem scPl : FnScope ["web", "place"] ["web", "place"] (defScope sPl) := ⟨rfl, rfl, rfl, by decide +kernel, rfl, by decide +kernel, by decide +kernel⟩
theorem ok_Pl {f : Addr} {fd : FuncData} (F : Fun K "check_place" "check_place" sPl f fd) (T : Txt K mg c) : FnOk P w K mg base (CXE P w) 1 f fd ["web", "place"] (spPl K c.Web c.BadPlace) := by
  refine F.okE scPl (fun vs H Q E h => ?_) (fun cdv A outer s H vs Q E hr h => ?_)
  · obtain ⟨x, p, m, es, rfl, _⟩ := h
    rfl
  · obtain ⟨x, p, m, es, rfl, hw, k1, k2⟩ := h
    refine ⟨_, pss_one (ps_if (pt_not (pt_chain op_le op_lt (pe_int) (pv 1) (pMany (K := K) rfl T.web (pv 0))))
        (pss_one (ps_raise rfl rfl (by rfl) T.mBadPlace T.xBadPlace (pa_cons pe_str pa_nil))) (pss_nil)), ?_⟩
    refine ⟨_, rfl, _, _, rfl, rfl, _, rfl, ite2 (fun c1 => ?_) (fun c1 => ?_)⟩
    · refine ⟨_, rfl, x, m, es, rfl, hw, _, _, rfl, rfl, _, rfl, ?_⟩
      by_cases c2 : p < m
      · rw [decide_eq_true c2]
        exact iteF (k1 (of_decide_eq_true c1) c2)
      · rw [decide_eq_false c2]
        exact iteT ⟨(by show 1 ≤ sizeLine; decide), k2 fun z => c2 z.2⟩
    · exact ⟨_, rfl, iteT ⟨(by show 1 ≤ sizeLine; decide), k2 fun z => c1 (decide_eq_true z.1)⟩⟩
def spRl (K : PySem.W.Frag) : Sp := fun vs H Q _ => ∃ (a p q : Addr) (as lo hi : List Int), vs = [.ref a, .ref p, .ref q] ∧ SqL K H a (as.map V.int) ∧ SqL K H p (lo.map V.int) ∧ SqL K H q (hi.map V.int) ∧ lo.length = as.length ∧ hi.length = as.length ∧ as.length ≤ 900 ∧
  ∀ l xs H', H l = none → Same H H' → H' l = some (.lst xs) → Pairs K H' xs (rmN as lo hi) → Q (.ref l) H'
theorem scRl : FnScope ["amounts", "lows", "highs"] ["amounts", "lows", "highs"] (defScope sRl) := ⟨rfl, rfl, rfl, by decide +kernel, rfl, by decide +kernel, by decide +kernel⟩
set_option maxHeartbeats 4000000 in
theorem ok_Rl {f : Addr} {fd : FuncData} (F : Fun K "rooms_left" "rooms_left" sRl f fd) (T : Txt K mg c) : FnOk P w K mg base CX0 1 f fd ["amounts", "lows", "highs"] (spRl K) := by
  refine F.ok scRl (fun vs H Q E h => ?_) (fun cdv A outer s H vs Q E hr h => ?_)
  · obtain ⟨a, p, q, as, lo, hi, rfl, _⟩ := h
    rfl
  · obtain ⟨a, p, q, as, lo, hi, rfl, ha, hp, hq, h1, h2, hz, k⟩ := h
    refine ⟨_, pss_one (ps_ret (pe_lc (N' := ["amount", "low", "high"]) (nl := 3) (js := []) rfl (.of (osc := defScope sRl) (N := ["amounts", "lows", "highs"]) (by decide +kernel) rfl rfl) (pi_zip3 (K := K) rfl rfl T.zip (pa_cons (pv 0) (pa_cons (pv 1) (pa_cons (pv 2) pa_nil))))
        (fun _ _ _ _ => pgTup (K := K) (n := 3) rfl rfl (pgs_cons (pg_name (i := 0) (show (["amount", "low", "high"] : List Str).Nodup by decide +kernel) rfl (Or.inl rfl) (Or.inr rfl)) (pgs_cons (pg_name (i := 1) (show (["amount", "low", "high"] : List Str).Nodup by decide +kernel) rfl (Or.inl rfl) (Or.inr rfl)) (pgs_cons (pg_name (i := 2) (show (["amount", "low", "high"] : List Str).Nodup by decide +kernel) rfl (Or.inl rfl) (Or.inr rfl)) (pgs_nil)))) rfl) (fun _ _ _ _ => pif_nil)
        (fun _ _ _ _ => pe_tup (pa_cons (pe_op op_sub (pv 2) (pv 0)) (pa_cons (pe_op op_sub (pv 0) (pv 1)) pa_nil))))), ?_⟩
    have hn : (as.map V.int).length = as.length := List.length_map ..
    refine ⟨_, rfl, _, rfl, _, rfl, a, p, q, _, _, _, rfl, ha, hp, hq, by rw [List.length_map, List.length_map, h1], by rw [List.length_map, List.length_map, h2], fun J C O hC => lc_byP O (fun i ys H2 => Same H H2 ∧ Pairs K H2 ys ((rmN as lo hi).take i)) (by rw [hn]; exact Nat.le_of_lt (small1000 (by lia))) ⟨Same.refl _, .nil⟩ ?_ ?_ ?_⟩
    · rintro i ys H2 hi' ⟨s2, hp2⟩
      exact ⟨hC _ (s2.seq ha) (s2.seq hp) (s2.seq hq), by rw [hp2.len, List.length_take]; lia⟩
    · rintro i ys H2 r hi' ⟨s2, hp2⟩ nr
      rw [hn] at hi'
      have hyl := hp2.len
      rw [List.length_take, rmN_len] at hyl
      dsimp only
      rw [getD_ints hi', getD_ints (show i < lo.length by lia), getD_ints (show i < hi.length by lia)]
      have s3 := Same.new (o := .tup [.int (as.getD i 0), .int (lo.getD i 0), .int (hi.getD i 0)]) nr
      refine ⟨r, _, rfl, SqT.of upd_same, rfl, _, _, rfl, _, _, rfl, _, _, rfl, rfl, ?_⟩
      generalize upd H2 r (.tup [.int (as.getD i 0), .int (lo.getD i 0), .int (hi.getD i 0)]) = H3 at s3
      refine ⟨(wk_set2 rfl rfl).trans (wk_set rfl), iteT ⟨_, rfl, _, rfl, _, _, rfl, rfl, _, rfl, _, rfl, _, _, rfl, rfl, (by show 2 ≤ sizeLine; decide), fun t nt => ?_⟩⟩
      have s4 := Same.new (o := .tup [.int (hi.getD i 0 - as.getD i 0), .int (as.getD i 0 - lo.getD i 0)]) nt
      refine ⟨small1000 (by lia), _, by rw [hn]; lia, rfl, by rw [hn]; lia, (s2.trans s3).trans s4, ?_⟩
      have hv : (rmN as lo hi)[i]? = some (hi.getD i 0 - as.getD i 0, as.getD i 0 - lo.getD i 0) := by
        have := rmN_at (lo := lo) (hi := hi) hi'
        rw [List.getD_eq_getElem?_getD, List.getElem?_eq_getElem (by rw [rmN_len]; exact hi')] at this
        rw [List.getElem?_eq_getElem (by rw [rmN_len]; exact hi')]
        exact congrArg some this
      rw [take_snoc hv]
      exact ((hp2.same s3).same s4).snoc (e := (hi.getD i 0 - as.getD i 0, as.getD i 0 - lo.getD i 0)) (SqT.of upd_same)
    · rintro ys H2 ⟨s2, hp2⟩ l nl
      rw [hn, List.take_of_length_le (by rw [rmN_len]; lia)] at hp2
      exact k l ys _ (none_back s2 nl) (s2.next nl) upd_same (hp2.same (Same.new nl))
def spSf (K : PySem.W.Frag) (c : Cs) : Sp := fun vs H Q _ => ∃ (x a : Addr) (m p : Int) (es rm : List (Int × Int)) (xs : List V), vs = [.ref x, .ref a, .int p] ∧ WebAt K c.Web H x m es ∧ SqL K H a xs ∧ Pairs K H xs rm ∧ rm.length = es.length ∧ es.length ≤ 40 ∧
  ∀ l zs H', H l = none → Same H H' → H' l = some (.lst zs) → Pairs K H' zs (stN es rm p es.length) → Q (.ref l) H'
theorem scSf : FnScope ["web", "rooms", "place", "steps", "tie", "ends"] ["web", "rooms", "place"] (defScope sSf) := ⟨rfl, rfl, rfl, by decide +kernel, rfl, by decide +kernel, by decide +kernel⟩
theorem stN_len (es rm : List (Int × Int)) (p : Int) : ∀ n, (stN es rm p n).length ≤ 2 * n
  | 0 => Nat.le_refl _
  | n + 1 => by
    have := stN_len es rm p n
    show ((stN es rm p n ++ _) ++ _).length ≤ _
    rw [List.length_append, List.length_append]
    split <;> split <;> simp only [List.length_cons, List.length_nil] <;> lia
set_option maxHeartbeats 4000000 in
theorem ok_Sf {f : Addr} {fd : FuncData} (F : Fun K "steps_from" "steps_from" sSf f fd) (T : Txt K mg c) : FnOk P w K mg base CX0 1 f fd ["web", "rooms", "place"] (spSf K c) := by
  refine F.ok scSf (fun vs H Q E h => ?_) (fun cdv A outer s H vs Q E hr h => ?_)
  · obtain ⟨x, a, m, p, es, rm, xs, rfl, _⟩ := h
    rfl
  · obtain ⟨x, a, m, p, es, rm, xs, rfl, hw, ha, hx, hrl, hz, k⟩ := h
    refine ⟨_, pss_cons (ps_set (i := 3) scSf.nd rfl (Or.inl rfl) (pe_lst pa_nil))
      (pss_cons (ps_for PassesOwn.never rfl (pi_enum (K := K) rfl rfl T.enumerate (pa_cons (pTies (K := K) rfl T.web (pv 0)) pa_nil)) (pgTup (K := K) (n := 2) rfl rfl (pgs_cons (pg_name (i := 4) scSf.nd rfl (Or.inl rfl)) (pgs_cons (pg_name (i := 5) scSf.nd rfl (Or.inl rfl)) (pgs_nil))) rfl)
        (pss_cons (ps_cut (ps_if (PW.pt (pw_and (pt_cmpR op_eq (pe_ix (ixT (K := K) rfl) (pv 5) (pe_int) (fun _ _ => rfl)) (pv 2) (nomark _)) (pw_and1 (pt_cmpR op_gt (pe_ix (ixT (K := K) rfl) (pe_ix (ixL (K := K) rfl) (pv 1) (pv 4) (fun _ _ => rfl)) (pe_int) (fun _ _ => rfl)) (pe_int) (nomark _)))))
        (pss_one (ps_expr (pe_bm PySem.F.plainAttrs_list PySem.F.slot_list_append PySem.F.type_list_append mt_append (pv 3) (pa_cons (pe_tup (pa_cons (pv 4) (pa_cons (pe_int) pa_nil))) pa_nil)))) (pss_nil)))
      (pss_one (ps_cut (ps_if (PW.pt (pw_and (pt_cmpR op_eq (pe_ix (ixT (K := K) rfl) (pv 5) (pe_int) (fun _ _ => rfl)) (pv 2) (nomark _)) (pw_and1 (pt_cmpR op_gt (pe_ix (ixT (K := K) rfl) (pe_ix (ixL (K := K) rfl) (pv 1) (pv 4) (fun _ _ => rfl)) (pe_int) (fun _ _ => rfl)) (pe_int) (nomark _)))))
        (pss_one (ps_expr (pe_bm PySem.F.plainAttrs_list PySem.F.slot_list_append PySem.F.type_list_append mt_append (pv 3) (pa_cons (pe_tup (pa_cons (pv 4) (pa_cons (pe_un un_neg (pe_int)) pa_nil))) pa_nil)))) (pss_nil))))))
      (pss_one (ps_ret (pv 3)))), ?_⟩
    refine ⟨by decide, fun l nl => ?_⟩
    have s1 := Same.new (o := .lst []) nl
    have e1 : (upd H l (.lst [])) l = some (.lst []) := upd_same
    generalize upd H l (.lst []) = H1 at s1 e1
    refine ⟨_, rfl, x, m, es, rfl, hw.same s1, fun t ys ht hp => ⟨true, t, ys, rfl, SqT.of ht, fun J C O hC => ?_⟩⟩
    have hpl := hp.len
    have ntl : t ≠ l := ne_of ht e1 (by intro z; cases z)
    refine for_byP O (fun i σ H2 => ∃ (zs : List V) (v4 v5 : Option V), σ = [some (.ref x), some (.ref a), some (.int p), some (.ref l), v4, v5] ∧ Same H H2 ∧ SameX l H1 H2 ∧ H2 l = some (.lst zs) ∧ Pairs K H2 zs (stN es rm p i)) ⟨[], none, none, rfl, s1, fun _ _ _ z => z, e1, .nil⟩ (fun i σ H2 _ h => ?_) ?_ ?_
    · obtain ⟨zs, v4, v5, _, _, sx, _⟩ := h
      exact hC _ (SqT.of (sx _ _ ntl ht))
    · rintro i σ H2 q hi ⟨zs, v4, v5, rfl, s2, sx2, l2, p2⟩ hq
      obtain ⟨r, e, er, hr2, ei, he⟩ := hp.at hi
      have hr1 : SqT K H2 r [.int e.1, .int e.2] := sx2.tup e1 hr2
      have hE1 : es.getD i (0, 0) = e := by rw [List.getD_eq_getElem?_getD, ei]; rfl
      obtain ⟨g, ag, hg, _⟩ := tie_get hx (show (0 : Int) ≤ (i : Int) by lia) (by lia)
      have hg1 : tieOf rm (i : Int) = rm.getD i (0, 0) := rfl
      rw [hg1] at hg
      have hsl := stN_len es rm p i
      dsimp only
      rw [er]
      have s3 := Same.new (o := .tup [.int (i : Nat), .ref r]) hq
      have t3 : (upd H2 q (.tup [.int (i : Nat), .ref r])) q = some (.tup [.int (i : Nat), .ref r]) := upd_same
      refine ⟨q, _, rfl, SqT.of t3, rfl, _, _, rfl, _, _, rfl, rfl, ?_⟩
      have l3 := s3 _ _ l2
      have p3 := p2.same s3
      have r3 := s3.tup hr1
      have s03 := s2.trans s3
      have x3 : SameX l H1 (upd H2 q (.tup [.int (i : Nat), .ref r])) := fun b o hb z => s3 _ _ (sx2 b o hb z)
      generalize upd H2 q (.tup [.int (i : Nat), .ref r]) = H3 at s3 l3 p3 r3 s03 x3
      clear t3 s3 p2 l2 hr1 s2 sx2
      have add : ∀ {H4 : Hp} {zs : List V} {ss : List (Int × Int)} {nt : Addr} {v : Int}, Same H H4 → SameX l H1 H4 → H4 l = some (.lst zs) → Pairs K H4 zs ss → H4 nt = none → (upd H4 nt (.tup [.int (i : Nat), .int v])) l = some (.lst zs) ∧ Same H (upd (upd H4 nt (.tup [.int (i : Nat), .int v])) l (.lst (zs ++ [.ref nt]))) ∧ SameX l H1 (upd (upd H4 nt (.tup [.int (i : Nat), .int v])) l (.lst (zs ++ [.ref nt]))) ∧ Pairs K (upd (upd H4 nt (.tup [.int (i : Nat), .int v])) l (.lst (zs ++ [.ref nt]))) (zs ++ [.ref nt]) (ss ++ [((i : Int), v)]) := fun {H4 zs ss nt v} sH sX e4 p4 n4 => by
        have s5 := Same.new (o := .tup [.int (i : Nat), .int v]) n4
        have l5 := s5 _ _ e4
        refine ⟨l5, (sH.trans s5).upd nl, fun b o hb z => by rw [upd_ne hb]; exact s5 _ _ (sX b o hb z), ?_⟩
        have p5 := (p4.same s5).snoc (e := ((i : Int), v)) (r := nt) (SqT.of upd_same)
        exact p5.sameX sameX_upd l5
      refine ⟨fun σ' H' => ∃ zs : List V, σ' = [some (.ref x), some (.ref a), some (.int p), some (.ref l), some (.int (i : Nat)), some (.ref r)] ∧ Same H H' ∧ SameX l H1 H' ∧ H' l = some (.lst zs) ∧ SqT K H' r [.int e.1, .int e.2] ∧ Pairs K H' zs (stN es rm p i ++ if (es.getD i (0, 0)).1 = p ∧ 0 < (rm.getD i (0, 0)).1 then [((i : Int), (1 : Int))] else []), ?_, ?_⟩
      · refine ⟨_, rfl, r, _, 0, _, rfl, rfl, r3, rfl, _, rfl, rfl, _, rfl, ite2 (fun c1 => ?_) (fun c1 => ?_)⟩
        · have c1' := of_decide_eq_true c1
          injection c1' with c1'
          refine ⟨_, rfl, _, rfl, a, _, _, _, rfl, rfl, s03.seq ha, ag, g, _, 0, _, rfl, rfl, s03.tup hg, rfl, _, _, rfl, rfl, _, rfl, ite2 (fun c2 => ?_) (fun c2 => ?_)⟩
          · rw [if_pos ⟨by rw [hE1]; exact c1', of_decide_eq_true c2⟩]
            refine ⟨_, rfl, .inl ⟨rfl, _, SqL.of l3⟩, _, rfl, (by show 2 ≤ sizeLine; decide), fun nt hnt => ?_⟩
            obtain ⟨a1, a2, a3, a4⟩ := add (v := 1) s03 x3 l3 p3 hnt
            refine ⟨l, _, _, rfl, rfl, a1, small1000 (by rw [p3.len]; lia), _, rfl, a2, a3, upd_same, ?_, a4⟩
            exact (a3.tup e1 hr2)
          · rw [if_neg (fun z => c2 (decide_eq_true z.2)), List.append_nil]
            exact ⟨zs, rfl, s03, x3, l3, r3, p3⟩
        · rw [if_neg (fun z => c1 (decide_eq_true (by rw [← hE1, z.1]))), List.append_nil]
          exact iteF ⟨zs, rfl, s03, x3, l3, r3, p3⟩
      rintro σ' H4 ⟨zs, rfl, s04, x4, l4, r4, p4⟩
      clear l3 p3 r3 s03 x3
      have hsl2 : zs.length < 800 := by
        rw [p4.len, List.length_append]
        split <;> simp only [List.length_cons, List.length_nil] <;> lia
      refine ⟨fun σ' H' => ∃ zs : List V, σ' = [some (.ref x), some (.ref a), some (.int p), some (.ref l), some (.int (i : Nat)), some (.ref r)] ∧ Same H H' ∧ SameX l H1 H' ∧ H' l = some (.lst zs) ∧ Pairs K H' zs (stN es rm p (i + 1)), ?_, ?_⟩
      · show _
        have fold : stN es rm p (i + 1) = (stN es rm p i ++ if (es.getD i (0, 0)).1 = p ∧ 0 < (rm.getD i (0, 0)).1 then [((i : Int), (1 : Int))] else []) ++ if (es.getD i (0, 0)).2 = p ∧ 0 < (rm.getD i (0, 0)).2 then [((i : Int), (-1 : Int))] else [] := rfl
        rw [fold]
        refine ⟨_, rfl, r, _, 1, _, rfl, rfl, r4, rfl, _, rfl, rfl, _, rfl, ite2 (fun c1 => ?_) (fun c1 => ?_)⟩
        · have c1' := of_decide_eq_true c1
          injection c1' with c1'
          refine ⟨_, rfl, _, rfl, a, _, _, _, rfl, rfl, s04.seq ha, ag, g, _, 1, _, rfl, rfl, s04.tup hg, rfl, _, _, rfl, rfl, _, rfl, ite2 (fun c2 => ?_) (fun c2 => ?_)⟩
          · rw [if_pos (show (es.getD i (0, 0)).2 = p ∧ 0 < (rm.getD i (0, 0)).2 from ⟨by rw [hE1]; exact c1', of_decide_eq_true c2⟩)]
            refine ⟨_, rfl, .inl ⟨rfl, _, SqL.of l4⟩, _, rfl, _, rfl, (by show 2 ≤ sizeLine; decide), fun nt hnt => ?_⟩
            obtain ⟨a1, a2, a3, a4⟩ := add (v := -1) s04 x4 l4 p4 hnt
            exact ⟨l, _, _, rfl, rfl, a1, small1000 (by lia), _, rfl, a2, a3, upd_same, a4⟩
          · rw [if_neg (show ¬ ((es.getD i (0, 0)).2 = p ∧ 0 < (rm.getD i (0, 0)).2) from fun z => c2 (decide_eq_true z.2)), List.append_nil]
            exact ⟨zs, rfl, s04, x4, l4, p4⟩
        · rw [if_neg (show ¬ ((es.getD i (0, 0)).2 = p ∧ 0 < (rm.getD i (0, 0)).2) from fun z => c1 (decide_eq_true (by rw [← hE1, z.1]))), List.append_nil]
          exact iteF ⟨zs, rfl, s04, x4, l4, p4⟩
      · rintro σ' H' ⟨zs, rfl, h'⟩
        exact ⟨zs, _, _, rfl, h'⟩
    · rintro σ H2 ⟨zs, v4, v5, rfl, s2, sx2, l2, p2⟩
      rw [hpl] at p2
      exact ⟨_, rfl, k l zs H2 nl s2 l2 p2⟩
def spSe (K : PySem.W.Frag) (c : Cs) : Sp := fun vs H Q _ => ∃ (x r : Addr) (m : Int) (es : List (Int × Int)) (s : Int × Int), vs = [.ref x, .ref r] ∧ WebAt K c.Web H x m es ∧ SqT K H r [.int s.1, .int s.2] ∧ StV es s ∧ Q (.int (stE es s)) H
theorem scSe : FnScope ["web", "step", "ends"] ["web", "step"] (defScope sSe) := ⟨rfl, rfl, rfl, by decide +kernel, rfl, by decide +kernel, by decide +kernel⟩
set_option maxHeartbeats 4000000 in
theorem ok_Se {f : Addr} {fd : FuncData} (F : Fun K "step_end" "step_end" sSe f fd) (T : Txt K mg c) : FnOk P w K mg base CX0 1 f fd ["web", "step"] (spSe K c) := by
  refine F.ok scSe (fun vs H Q E h => ?_) (fun cdv A outer s H vs Q E hr h => ?_)
  · obtain ⟨x, r, m, es, s, rfl, _⟩ := h
    rfl
  · obtain ⟨x, r, m, es, s, rfl, hw, hr2, hv, k⟩ := h
    refine ⟨_, pss_cons (ps_set (i := 2) scSe.nd rfl (Or.inl rfl) (pe_ix (ixT (K := K) rfl) (pTies (K := K) rfl T.web (pv 0)) (pe_ix (ixT (K := K) rfl) (pv 1) (pe_int) (fun _ _ => rfl)) (fun _ _ => rfl)))
      (pss_one (ps_ret (pe_ifExp (pt_cmpR op_eq (pe_ix (ixT (K := K) rfl) (pv 1) (pe_int) (fun _ _ => rfl)) (pe_int) (nomark _)) (pe_ix (ixT (K := K) rfl) (pv 2) (pe_int) (fun _ _ => rfl)) (pe_ix (ixT (K := K) rfl) (pv 2) (pe_int) (fun _ _ => rfl))))), ?_⟩
    refine ⟨_, rfl, x, m, es, rfl, hw, fun tt ys ht hp => ?_⟩
    obtain ⟨r1, ar, hr1, _⟩ := tie_get hp hv.1 hv.2.1
    unfold stE at k
    refine ⟨_, rfl, r, _, 0, _, rfl, rfl, hr2, rfl, tt, ys, s.1, .ref r1, rfl, rfl, SqT.of ht, ar, ?_⟩
    refine ⟨_, rfl, r, _, 1, _, rfl, rfl, hr2, rfl, rfl, _, rfl, ite2 (fun c1 => ?_) (fun c1 => ?_)⟩
    · have c1' := of_decide_eq_true c1
      injection c1' with c1'
      rw [if_pos c1'] at k
      exact ⟨_, rfl, r1, _, 1, _, rfl, rfl, hr1, rfl, k⟩
    · rw [if_neg (fun z => c1 (decide_eq_true (by rw [z])))] at k
      exact ⟨_, rfl, r1, _, 0, _, rfl, rfl, hr1, rfl, k⟩
structure WwI (K : PySem.W.Frag) (H : Hp) (m : Int) (es rm : List (Int × Int)) (a : Int) (d r : Addr) (H2 : Hp) (rs : List Int) (ad : Int → Addr) (wy : Int → List (Int × Int)) (pl : Int → List Int) : Prop where
  same : Same H H2
  dd : H2 d = some (.dK (rs.map fun p => ((Sum.inl p : Key), V.ref (ad p))))
  rr : H2 r = some (.lst (rs.map V.int))
  nd : rs.Nodup
  rng : ∀ p ∈ rs, 0 ≤ p ∧ p < m
  a0 : a ∈ rs
  cell : ∀ p ∈ rs, H (ad p) = none ∧ ad p ≠ r ∧ ∃ xs, H2 (ad p) = some (.lst xs) ∧ Pairs K H2 xs (wy p)
  way : ∀ p ∈ rs, WayS es rm a (wy p) (pl p) p ∧ ∀ q ∈ pl p, q ∈ rs
structure WwD (K : PySem.W.Frag) (m : Int) (es rm : List (Int × Int)) (a : Int) (d : Addr) (H2 : Hp) (rs : List Int) (wy : Int → List (Int × Int)) : Prop where
  dd : ∃ ad : Int → Addr, H2 d = some (.dK (rs.map fun p => ((Sum.inl p : Key), V.ref (ad p)))) ∧ ∀ p ∈ rs, ∃ xs, H2 (ad p) = some (.lst xs) ∧ Pairs K H2 xs (wy p)
  nd : rs.Nodup
  rng : ∀ p ∈ rs, 0 ≤ p ∧ p < m
  a0 : a ∈ rs
  way : ∀ p ∈ rs, ∃ pl, WayS es rm a (wy p) pl p
  clo : ∀ p ∈ rs, ∀ s ∈ stN es rm p es.length, stE es s ∈ rs
theorem pairs_sxD {K : PySem.W.Frag} {H H' : Hp} {d : Addr} {kvs : List (Key × V)} {xs : List V} {es : List (Int × Int)} (S : SameX d H H') (hd : H d = some (.dK kvs)) (h : Pairs K H xs es) : Pairs K H' xs es := Paired.mapP h fun _ _ ⟨r, e, q⟩ => ⟨r, e, by
  rcases q with (q | ⟨o, q⟩) | q
  · exact .inl (.inl (S _ _ (ne_of q hd (by intro z; cases z)) q))
  · exact .inl (.inr ⟨o, S _ _ (ne_of q hd (by intro z; cases z)) q⟩)
  · exact .inr q⟩
def spWw (K : PySem.W.Frag) (c : Cs) : Sp := fun vs H Q _ => ∃ (x q : Addr) (a m : Int) (es rm : List (Int × Int)) (us : List V), vs = [.ref x, .ref q, .int a] ∧ WebAt K c.Web H x m es ∧ SqL K H q us ∧ Pairs K H us rm ∧ rm.length = es.length ∧ es.length ≤ 40 ∧ 0 ≤ a ∧ a < m ∧ m ≤ 20 ∧ EndsIn es m ∧
  ∀ d rs wy H', Same H H' → WwD K m es rm a d H' rs wy → rs = (wwr es rm a m.toNat).1 → wy = (wwr es rm a m.toNat).2 → Q (.ref d) H'
theorem scWw : FnScope ["web", "rooms", "start", "ways", "reached", "at", "place", "step", "other"] ["web", "rooms", "start"] (defScope sWw) := ⟨rfl, rfl, rfl, by decide +kernel, rfl, by decide +kernel, by decide +kernel⟩
theorem st_rng {es : List (Int × Int)} {m : Int} (hE : EndsIn es m) {s : Int × Int} (hv : StV es s) : 0 ≤ stE es s ∧ stE es s < m := by
  have hte : tieOf es s.1 ∈ es := by
    unfold tieOf
    rw [List.getD_eq_getElem?_getD, List.getElem?_eq_getElem (show s.1.toNat < es.length by have := hv.1; have := hv.2.1; lia)]; exact List.getElem_mem _
  have hb := hE _ hte
  unfold stE; split
  · exact ⟨hb.2.2.1, hb.2.2.2⟩
  · exact ⟨hb.1, hb.2.1⟩
set_option maxHeartbeats 8000000 in
theorem ok_Ww {f : Addr} {fd : FuncData} (F : Fun K "ways_with_room" "ways_with_room" sWw f fd) (T : Txt K mg c) (D_Sf : Def P w K mg base 1 "steps_from" ["web", "rooms", "place"] (spSf K c)) (D_Se : Def P w K mg base 1 "step_end" ["web", "step"] (spSe K c)) : FnOk P w K mg base CX0 2 f fd ["web", "rooms", "start"] (spWw K c) := by
  refine F.ok scWw (fun vs H Q E h => ?_) (fun cdv A outer s H vs Q E hr h => ?_)
  · obtain ⟨x, q, a, m, es, rm, us, rfl, _⟩ := h
    rfl
  · obtain ⟨x, q, a, m, es, rm, us, rfl, hw, hq, hu, hrm, hz, a0, a1, m2, hE, k⟩ := h
    refine ⟨_, pss_cons (ps_set (i := 3) scWw.nd rfl (Or.inl rfl) (pe_disp (pps_cons (pv 2) (pe_lst pa_nil) (pps_nil)) rfl rfl (by simp) (by decide)))
      (pss_cons (ps_set (i := 4) scWw.nd rfl (Or.inl rfl) (pe_lst (pa_cons (pv 2) pa_nil)))
      (pss_cons (ps_set (i := 5) scWw.nd rfl (Or.inl rfl) (pe_int))
      (pss_cons (ps_while PassesOwn.never (pt_cmpR op_lt (pv 5) (pe_callB (cLen (K := K) rfl) (by rfl) T.len PySem.boot_len (pa_cons (pv 4) pa_nil)) (nomark _))
        (pss_cons (ps_set (i := 6) scWw.nd rfl (Or.inl rfl) (pe_ix (ixL (K := K) rfl) (pv 4) (pv 5) (fun _ _ => rfl)))
      (pss_cons (ps_for PassesOwn.never rfl (piSeqB (K := K) rfl (pe_defR D_Sf hr (pa_cons (pv 0) (pa_cons (pv 1) (pa_cons (pv 6) pa_nil))))) (pg_name (i := 7) scWw.nd rfl (Or.inl rfl))
        (pss_cons (ps_set (i := 8) scWw.nd rfl (Or.inl rfl) (pe_defR D_Se hr (pa_cons (pv 0) (pa_cons (pv 7) pa_nil))))
      (pss_one (ps_cut (ps_if (pt_cmp (pc_dnotin (hu_of hr) (pv 8) (pv 3)))
        (pss_cons (ps_dput (hu_of hr) (pv 3) (pv 8) (pe_op op_cat (pe_dget (hu_of hr) (pv 3) (pv 6) (fun _ _ => rfl)) (pe_lst (pa_cons (pv 7) pa_nil))) rfl)
      (pss_one (ps_expr (pe_bm PySem.F.plainAttrs_list PySem.F.slot_list_append PySem.F.type_list_append mt_append (pv 4) (pa_cons (pv 8) pa_nil))))) (pss_nil))))))
      (pss_one (ps_aug (i := 5) scWw.nd rfl (Or.inl rfl) (pe_int) ip_add)))))
      (pss_one (ps_ret (pv 3)))))), ?_⟩
    intro d nd
    have s1 : Same H (upd H d (.dK [])) := Same.new nd
    have d1 : (upd H d (.dK [])) d = some (.dK []) := upd_same
    generalize upd H d (.dK []) = H1 at s1 d1
    refine ⟨_, rfl, by decide, fun l0 nl0 => ?_⟩
    have s2 := s1.next (o := .lst []) nl0
    have d2 := Same.new (o := .lst []) nl0 _ _ d1
    have e2 : (upd H1 l0 (.lst [])) l0 = some (.lst []) := upd_same
    have l0H : H l0 = none := none_back s1 nl0
    generalize upd H1 l0 (.lst []) = H2 at s2 d2 e2
    refine ⟨d2, [(Sum.inl a, .ref l0)], rfl, (by show 1 ≤ 15; decide), ?_⟩
    have d3 : (upd H2 d (.dK (mergeK [] [((Sum.inl a : Key), V.ref l0)]))) d = some (.dK ([a].map fun p => ((Sum.inl p : Key), V.ref l0))) := upd_same
    have s3 : Same H (upd H2 d (.dK (mergeK [] [((Sum.inl a : Key), V.ref l0)]))) := s2.upd nd
    have e3 : (upd H2 d (.dK (mergeK [] [((Sum.inl a : Key), V.ref l0)]))) l0 = some (.lst []) := by rw [upd_ne (ne_of_none d1 nl0).symm]; exact e2
    generalize upd H2 d (.dK (mergeK [] [((Sum.inl a : Key), V.ref l0)])) = H3 at d3 s3 e3
    refine ⟨_, rfl, (by show 1 ≤ sizeLine; decide), fun r nr => ?_⟩
    have s4 := s3.next (o := .lst [V.int a]) nr
    have d4 := Same.new (o := .lst [V.int a]) nr _ _ d3
    have e4 := Same.new (o := .lst [V.int a]) nr _ _ e3
    have r4 : (upd H3 r (.lst [V.int a])) r = some (.lst ([a].map V.int)) := upd_same
    have rH : H r = none := none_back s3 nr
    have lr : l0 ≠ r := ne_of_none e3 nr
    generalize upd H3 r (.lst [V.int a]) = H4 at s4 d4 e4 r4
    clear s3 d3 e3 s2 d2 e2 nl0 s1 d1 nr
    have drn : d ≠ r := ne_of d4 r4 (by intro z; cases z)
    refine ⟨fun n σ H2 => ∃ (rs : List Int) (st : Nat) (ad : Int → Addr) (wy : Int → List (Int × Int)) (pl : Int → List Int) (v7 v8 v9 : Option V), n = m.toNat - st ∧ σ = [some (.ref x), some (.ref q), some (.int a), some (.ref d), some (.ref r), some (.int st), v7, v8, v9] ∧ WwI K H m es rm a d r H2 rs ad wy pl ∧ st ≤ rs.length ∧
      (∀ j, j < st → ∀ s ∈ stN es rm (rs.getD j 0) es.length, stE es s ∈ rs) ∧ runS es rm (m.toNat - st) (rs, wy) st = runS es rm m.toNat ([a], fun _ => []) 0, ⟨m.toNat - 0, [a], 0, fun _ => l0, fun _ => [], fun _ => [], none, none, none, rfl, rfl, ?_, Nat.zero_le _, (fun j hj => absurd hj (Nat.not_lt_zero _)), rfl⟩, ?_⟩
    · refine ⟨s4, d4, r4, by simp, fun p hp => ?_, List.mem_singleton.mpr rfl, fun p hp => ⟨l0H, lr, [], e4, .nil⟩, fun p hp => ?_⟩
      · rw [List.mem_singleton.mp hp]; exact ⟨a0, a1⟩
      · rw [List.mem_singleton.mp hp]; exact ⟨.nil, fun q hq => nomatch hq⟩
    rintro n σ H5 ⟨rs, st, ad, wy, pl, v7, v8, v9, rfl, rfl, I, hst, clo, hrun⟩
    have hrl := nodup_len I.nd I.rng
    have hlm : (rs.map V.int).length = rs.length := List.length_map ..
    refine ⟨_, rfl, _, rfl, r, _, rfl, .inl (SqL.of I.rr), _, _, rfl, rfl, _, rfl, ?_⟩
    by_cases hlt : st < rs.length
    · rw [decide_eq_true (show (st : Int) < ((rs.map V.int).length : Int) by lia)]
      refine iteT ⟨_, fun σ' H' h => h, ?_⟩
      have hpm : rs.getD st 0 ∈ rs := by rw [List.getD_eq_getElem?_getD, List.getElem?_eq_getElem hlt]; exact List.getElem_mem hlt
      have hat : atI (rs.map V.int) (st : Int) = some (.int (rs.getD st 0)) := at_int (ns := rs) (k := (st : Int)) (by lia) (by lia)
      refine ⟨_, rfl, _, rfl, r, _, _, _, rfl, rfl, SqL.of I.rr, hat, ?_⟩
      obtain ⟨p, ep⟩ : ∃ p, p = rs.getD st 0 := ⟨_, rfl⟩
      rw [← ep] at hpm
      refine ⟨_, rfl, _, rfl, _, rfl, x, q, m, _, es, rm, us, rfl, hw.same I.same, I.same.seq hq, hu.same I.same, hrm, hz, fun l zs H7 nl sN eN pN => ?_⟩
      rw [← ep] at pN
      obtain ⟨wy0, ewy⟩ : ∃ wy0, wy0 = wy := ⟨_, rfl⟩
      have I7 : WwI K H m es rm a d r H7 rs ad wy0 pl := by
        rw [ewy]
        refine ⟨I.same.trans sN, sN _ _ I.dd, sN _ _ I.rr, I.nd, I.rng, I.a0, fun p hp => ?_, I.way⟩
        obtain ⟨c1, c2, xs, c3, c4⟩ := I.cell p hp
        exact ⟨c1, c2, xs, sN _ _ c3, c4.same sN⟩
      have nlr : l ≠ r := (ne_of_none I.rr nl).symm
      have nld : l ≠ d := (ne_of_none I.dd nl).symm
      have nlH : H l = none := none_back I.same nl
      have hzl := pN.len
      refine ⟨false, l, _, rfl, SqL.of eN, fun J C O hC => for_by O (fun i σ H8 => ∃ (rs' : List Int) (ad : Int → Addr) (wy : Int → List (Int × Int)) (pl : Int → List Int) (v8 v9 : Option V), σ = [some (.ref x), some (.ref q), some (.int a), some (.ref d), some (.ref r), some (.int st), some (.int (rs.getD st 0)), v8, v9] ∧ WwI K H m es rm a d r H8 rs' ad wy pl ∧ (∃ more, rs' = rs ++ more) ∧
        H8 l = some (.lst zs) ∧ Pairs K H8 zs (stN es rm p es.length) ∧ (∀ s ∈ (stN es rm p es.length).take i, stE es s ∈ rs') ∧ (rs', wy) = ((stN es rm p es.length).take i).foldl (stpS es p) (rs, wy0)) ⟨rs, ad, wy0, pl, _, _, rfl, I7, ⟨[], (List.append_nil _).symm⟩, eN, pN, (fun s hs => (by simp at hs)), rfl⟩ (fun i σ H8 _ h => ?_) ?_ ?_⟩
      · obtain ⟨rs', ad, wy, pl, v8, v9, _, _, _, l8, _, _⟩ := h
        exact hC _ (SqL.of l8)
      · rintro i σ H8 hi ⟨rs', ad, wy, pl, v8, v9, rfl, I8, ⟨more, em⟩, l8, p8, hdone, hfold⟩
        obtain ⟨g, v, ev, hg, gv, hvm⟩ := p8.at hi
        obtain ⟨hv, hvb, hvr⟩ := mem_stN (Nat.le_refl _) hvm
        have hp8 : p ∈ rs' := by rw [em]; exact List.mem_append_left _ hpm
        have hor := st_rng hE hv
        try dsimp only
        rw [ev]
        refine ⟨_, rfl, _, rfl, x, g, m, es, v, rfl, hw.same I8.same, hg, hv, ?_⟩
        obtain ⟨o, eo⟩ : ∃ o, o = stE es v := ⟨_, rfl⟩
        refine ⟨fun σ' H' => ∃ (rs' : List Int) (ad : Int → Addr) (wy : Int → List (Int × Int)) (pl : Int → List Int), σ' = [some (.ref x), some (.ref q), some (.int a), some (.ref d), some (.ref r), some (.int st), some (.int (rs.getD st 0)), some (.ref g), some (.int (stE es v))] ∧ WwI K H m es rm a d r H' rs' ad wy pl ∧ (∃ more, rs' = rs ++ more) ∧
          H' l = some (.lst zs) ∧ Pairs K H' zs (stN es rm p es.length) ∧ (∀ s ∈ (stN es rm p es.length).take (i + 1), stE es s ∈ rs') ∧ (rs', wy) = ((stN es rm p es.length).take (i + 1)).foldl (stpS es p) (rs, wy0), ?_, ?_⟩
        · refine ⟨_, rfl, _, rfl, d, _, rfl, DGet.k (k := Sum.inl (stE es v)) I8.dd, _, rfl, ?_⟩
          rw [valV_key, ← eo]
          rw [← eo] at hor
          by_cases ho : o ∈ rs'
          · rw [if_pos ho]
            refine iteF ⟨rs', ad, wy, pl, rfl, I8, ⟨more, em⟩, l8, p8, fun t ht => ?_, ?_⟩
            · rw [take_snoc gv] at ht
              rcases List.mem_append.mp ht with y | y
              · exact hdone t y
              · rw [List.mem_singleton.mp y, ← eo]; exact ho
            · rw [take_snoc gv, List.foldl_append, ← hfold]
              show _ = stpS es p (rs', wy) v
              unfold stpS
              rw [← eo, if_pos ho]
          · rw [if_neg ho]
            refine iteT ?_
            obtain ⟨n1, nr1, xs1, c1, c1p⟩ := I8.cell p hp8
            obtain ⟨wp, wq⟩ := I8.way p hp8
            have hwl : (wy p).length ≤ 20 := by
              rw [wp.len]
              have := nodup_len (m := m) wp.nd fun z hz => by
                rcases List.mem_append.mp hz with y | y
                · exact I8.rng z (wq z y)
                · rw [List.mem_singleton.mp y]; exact I8.rng p hp8
              rw [List.length_append] at this
              lia
            have hrl8 := nodup_len I8.nd I8.rng
            have hx1 := c1p.len
            refine ⟨_, rfl, _, rfl, d, .ref (ad p), rfl, ?_, _, rfl, (by show 1 ≤ sizeLine; decide), fun q1 nq1 => ?_⟩
            · have := DGet.k (k := Sum.inl p) I8.dd
              rw [valV_key, if_pos hp8, ep] at this
              rw [ep]
              exact this
            have s9 := Same.new (o := .lst [V.ref g]) nq1
            have e9 : (upd H8 q1 (.lst [V.ref g])) q1 = some (.lst [V.ref g]) := upd_same
            generalize upd H8 q1 (.lst [V.ref g]) = H9 at s9 e9
            refine ⟨ad p, q1, _, _, rfl, rfl, s9 _ _ c1, e9, Nat.le_of_lt (small1000 (by show xs1.length + 1 ≤ 1000; lia)), fun q2 nq2 => ?_⟩
            have s10 := s9.next (o := .lst (xs1 ++ [V.ref g])) nq2
            have e10 : (upd H9 q2 (.lst (xs1 ++ [V.ref g]))) q2 = some (.lst (xs1 ++ [V.ref g])) := upd_same
            generalize upd H9 q2 (.lst (xs1 ++ [V.ref g])) = H10 at s10 e10
            have q2H8 : H8 q2 = none := none_back s9 nq2
            have d10 := s10 _ _ I8.dd
            have r10 := s10 _ _ I8.rr
            have w10 : Pairs K H10 (xs1 ++ [V.ref g]) (wy p ++ [v]) := (c1p.same s10).snoc (s10.tup hg)
            have pk : putK (rs'.map fun p => ((Sum.inl p : Key), V.ref (ad p))) (Sum.inl o) (V.ref q2) = (rs' ++ [o]).map fun z => ((Sum.inl z : Key), V.ref (if z = o then q2 else ad z)) := by
              rw [putK_new _ (by rw [valV_key, if_neg ho]), List.map_append]
              congr 1
              · refine List.map_congr_left fun z hz => ?_
                rw [if_neg (show ¬ z = o from fun y => ho (y ▸ hz))]
              · rw [List.map_cons, List.map_nil, if_pos rfl]
            refine ⟨_, rfl, _, rfl, d, _, rfl, DPut.k (k := Sum.inl o) d10 (small1000 (by rw [List.length_map]; lia)), ?_⟩
            rw [pk]
            have x11 : SameX d H10 (upd H10 d (.dK ((rs' ++ [o]).map fun z => ((Sum.inl z : Key), V.ref (if z = o then q2 else ad z))))) := sameX_upd
            have d11 : (upd H10 d (.dK ((rs' ++ [o]).map fun z => ((Sum.inl z : Key), V.ref (if z = o then q2 else ad z))))) d = some (.dK ((rs' ++ [o]).map fun z => ((Sum.inl z : Key), V.ref (if z = o then q2 else ad z)))) := upd_same
            have s11 : Same H (upd H10 d (.dK ((rs' ++ [o]).map fun z => ((Sum.inl z : Key), V.ref (if z = o then q2 else ad z))))) := (I8.same.trans s10).upd nd
            generalize upd H10 d (.dK ((rs' ++ [o]).map fun z => ((Sum.inl z : Key), V.ref (if z = o then q2 else ad z)))) = H11 at x11 d11 s11
            have r11 := x11 _ _ drn.symm r10
            refine ⟨_, rfl, .inl ⟨rfl, _, SqL.of r11⟩, _, rfl, r, _, _, rfl, rfl, r11, small1000 (by rw [List.length_map]; lia), ?_⟩
            have x12 : SameX r H11 (upd H11 r (.lst (rs'.map V.int ++ [V.int o]))) := sameX_upd
            have r12 : (upd H11 r (.lst (rs'.map V.int ++ [V.int o]))) r = some (.lst ((rs' ++ [o]).map V.int)) := by rw [List.map_append]; exact upd_same
            have s12 : Same H (upd H11 r (.lst (rs'.map V.int ++ [V.int o]))) := s11.upd rH
            generalize upd H11 r (.lst (rs'.map V.int ++ [V.int o])) = H12 at x12 r12 s12
            have q2r : q2 ≠ r := (ne_of_none I8.rr q2H8).symm
            have q2d : q2 ≠ d := (ne_of_none I8.dd q2H8).symm
            have lq : ∀ z ∈ rs', ad z ≠ d := fun z hz => let ⟨_, _, _, c, _⟩ := I8.cell z hz; ne_of c I8.dd (by intro y; cases y)
            have pt : ∀ {xs : List V} {ss : List (Int × Int)}, Pairs K H10 xs ss → Pairs K H12 xs ss := fun h => (pairs_sxD x11 d10 h).sameX x12 r11
            refine ⟨rs' ++ [o], fun z => if z = o then q2 else ad z, fun z => if z = o then wy p ++ [v] else wy z, fun z => if z = o then pl p ++ [p] else pl z, by rw [eo]; rfl, ⟨s12, x12 _ _ drn d11, r12, nodup_snoc I8.nd ho, fun z hz => ?_, List.mem_append_left _ I8.a0, fun z hz => ?_, fun z hz => ?_⟩, ⟨more ++ [o], by rw [em, List.append_assoc]⟩, x12 _ _ nlr (x11 _ _ nld (s10 _ _ l8)), pt (p8.same s10), fun t ht => ?_, ?_⟩
            · rcases List.mem_append.mp hz with y | y
              · exact I8.rng z y
              · rw [List.mem_singleton.mp y]; exact hor
            · try dsimp only
              rcases List.mem_append.mp hz with y | y
              · have hne : ¬ z = o := fun w => ho (w ▸ y)
                obtain ⟨n2, nr2, xs2, c2, c2p⟩ := I8.cell z y
                rw [if_neg hne, if_neg hne]
                exact ⟨n2, nr2, xs2, x12 _ _ nr2 (x11 _ _ (lq z y) (s10 _ _ c2)), pt (c2p.same s10)⟩
              · rw [if_pos (List.mem_singleton.mp y), if_pos (List.mem_singleton.mp y)]
                exact ⟨none_back I8.same q2H8, q2r, _, x12 _ _ q2r (x11 _ _ q2d e10), pt w10⟩
            · try dsimp only
              rcases List.mem_append.mp hz with y | y
              · have hne : ¬ z = o := fun w => ho (w ▸ y)
                rw [if_neg hne, if_neg hne]
                exact ⟨(I8.way z y).1, fun w hw => List.mem_append_left _ ((I8.way z y).2 w hw)⟩
              · have hzo := List.mem_singleton.mp y
                rw [if_pos hzo, if_pos hzo, hzo, eo]
                refine ⟨.snoc wp hv hvb hvr fun w => ?_, fun w hw => ?_⟩
                · rw [← eo] at w
                  rcases List.mem_append.mp w with y | y
                  · exact ho (wq _ y)
                  · exact ho (List.mem_singleton.mp y ▸ hp8)
                · rcases List.mem_append.mp hw with y | y
                  · exact List.mem_append_left _ (wq _ y)
                  · rw [List.mem_singleton.mp y]; exact List.mem_append_left _ hp8
            · rw [take_snoc gv] at ht
              rcases List.mem_append.mp ht with y | y
              · exact List.mem_append_left _ (hdone t y)
              · rw [List.mem_singleton.mp y, ← eo]; exact List.mem_append_right _ (List.mem_singleton.mpr rfl)
            · rw [take_snoc gv, List.foldl_append, ← hfold]
              show _ = stpS es p (rs', wy) v
              unfold stpS
              rw [← eo, if_neg ho]
        · rintro σ' H' ⟨rs', ad, wy, pl, rfl, I', ext, l', p', hdone', hfold'⟩
          exact ⟨rs', ad, wy, pl, _, _, rfl, I', ext, l', p', hdone', hfold'⟩
      · rintro σ H8 ⟨rs', ad, wy, pl, v8, v9, rfl, I8, ⟨more, em⟩, l8, p8, hdone, hfold⟩
        rw [hzl, List.take_length] at hdone hfold
        have hrl8 := nodup_len I8.nd I8.rng
        refine ⟨_, rfl, _, _, rfl, rfl, m.toNat - (st + 1), by lia, rs', st + 1, ad, wy, pl, _, _, _, rfl, rfl, I8, by rw [em, List.length_append]; lia, fun j hj s hs => ?_, ?_⟩
        rotate_left
        · rw [hfold, ewy, ← hrun, show m.toNat - st = (m.toNat - (st + 1)) + 1 by lia]
          show _ = if st < rs.length then runS es rm (m.toNat - (st + 1)) (rndS es rm (rs, _) st) (st + 1) else _
          rw [if_pos hlt]
          unfold rndS
          rw [ep]
        by_cases hjs : j < st
        · have ej : rs'.getD j 0 = rs.getD j 0 := by rw [em, List.getD_eq_getElem?_getD, List.getElem?_append_left (by lia), List.getD_eq_getElem?_getD]
          rw [ej] at hs
          rw [em]
          exact List.mem_append_left _ (clo j hjs s hs)
        · have hje : j = st := by lia
          have ej : rs'.getD j 0 = p := by rw [hje, ep, em, List.getD_eq_getElem?_getD, List.getElem?_append_left hlt, List.getD_eq_getElem?_getD]
          rw [ej] at hs
          exact hdone s hs
    · rw [decide_eq_false (show ¬ (st : Int) < ((rs.map V.int).length : Int) by lia)]
      refine iteF ?_
      have erun : (rs, wy) = wwr es rm a m.toNat := by
        unfold wwr
        rw [← hrun, runS_end hlt]
      refine ⟨_, rfl, k d rs wy H5 I.same ⟨⟨ad, I.dd, fun p hp => (I.cell p hp).2.2⟩, I.nd, I.rng, I.a0, fun p hp => ⟨_, (I.way p hp).1⟩, fun p hp s hs => ?_⟩ (by rw [← erun]) (by rw [← erun])⟩
      obtain ⟨j, hj, rfl⟩ := List.mem_iff_getElem.mp hp
      have ej : rs.getD j 0 = rs[j] := by rw [List.getD_eq_getElem?_getD, List.getElem?_eq_getElem hj]; rfl
      exact clo j (by lia) s (by rw [ej]; exact hs)
def spPu (K : PySem.W.Frag) : Sp := fun vs H Q _ => ∃ (a p : Addr) (ys : List V) (as : List Int) (ss : List (Int × Int)) (z : Int), vs = [.ref a, .ref p, .int z] ∧ SqL K H a (as.map V.int) ∧ SqL K H p ys ∧ Pairs K H ys ss ∧ as.length ≤ 900 ∧ (∀ s ∈ ss, 0 ≤ s.1 ∧ s.1 < (as.length : Int) ∧ (s.2 = 1 ∨ s.2 = -1)) ∧ z.natAbs < 2 ^ 200 ∧
  ∀ l H', H l = none → Same H H' → H' l = some (.lst ((psh as ss z).map V.int)) → Q (.ref l) H'
theorem scPu : FnScope ["amounts", "steps", "size", "told", "tie", "sense"] ["amounts", "steps", "size"] (defScope sPu) := ⟨rfl, rfl, rfl, by decide +kernel, rfl, by decide +kernel, by decide +kernel⟩
set_option maxHeartbeats 4000000 in
theorem ok_Pu {f : Addr} {fd : FuncData} (F : Fun K "pushed" "pushed" sPu f fd) (T : Txt K mg c) : FnOk P w K mg base CX0 1 f fd ["amounts", "steps", "size"] (spPu K) := by
  refine F.ok scPu (fun vs H Q E h => ?_) (fun cdv A outer s H vs Q E hr h => ?_)
  · obtain ⟨a, p, ys, as, ss, z, rfl, _⟩ := h
    rfl
  · obtain ⟨a, p, ys, as, ss, z, rfl, ha, hp, hy, hz, hs, hzb, k⟩ := h
    refine ⟨_, pss_cons (ps_set (i := 3) scPu.nd rfl (Or.inl rfl) (pe_callTy (cList (K := K) rfl) (by rfl) T.list PyProof.Rows.boot_list (pa_cons (pv 0) pa_nil)))
      (pss_cons (ps_for PassesOwn.never rfl (piSeqB (K := K) rfl (pv 1)) (pgTup (K := K) (n := 2) rfl rfl (pgs_cons (pg_name (i := 4) scPu.nd rfl (Or.inl rfl)) (pgs_cons (pg_name (i := 5) scPu.nd rfl (Or.inl rfl)) (pgs_nil))) rfl)
        (pss_one (ps_augS (pv 3) (pv 4) (get_list (K := K) rfl) (pe_op op_mulB (pv 5) (pv 2)) ip_add set_list)))
      (pss_one (ps_ret (pv 3)))), ?_⟩
    refine ⟨_, rfl, a, _, rfl, .inl ha, fun l nl => ?_⟩
    have s1 := Same.new (o := .lst (as.map V.int)) nl
    have e1 : (upd H l (.lst (as.map V.int))) l = some (.lst (as.map V.int)) := upd_same
    generalize upd H l (.lst (as.map V.int)) = H1 at s1 e1
    have hyl := hy.len
    refine ⟨_, rfl, false, p, _, rfl, s1.seq hp, fun J C O hC => for_by O (fun i σ H2 => ∃ (v4 v5 : Option V), σ = [some (.ref a), some (.ref p), some (.int z), some (.ref l), v4, v5] ∧ Same H H2 ∧ H2 l = some (.lst ((psh as (ss.take i) z).map V.int))) ⟨none, none, rfl, s1, e1⟩ (fun i σ H2 _ h => ?_) ?_ ?_⟩
    · obtain ⟨v4, v5, _, s2, _⟩ := h
      exact hC _ (s2.seq hp)
    · rintro i σ H2 hi ⟨v4, v5, rfl, s2, e2⟩
      obtain ⟨r, e, er, hr2, ei, he⟩ := hy.at hi
      obtain ⟨b1, b2, b3⟩ := hs e he
      have hpl := psh_len as z (ss.take i)
      try dsimp only
      rw [er]
      have hb : e.2.natAbs < 2 ^ 200 := by rcases b3 with b | b <;> rw [b] <;> decide
      refine ⟨r, _, rfl, s2.tup hr2, rfl, _, _, rfl, _, _, rfl, rfl, ?_⟩
      refine ⟨_, rfl, _, rfl, l, _, e.1, _, rfl, rfl, b1, SqL.of e2, get_ints (by lia), _, rfl, _, rfl, _, _, rfl, rfl, ⟨hb, hzb⟩, _, _, rfl, rfl, l, _, e.1, _, rfl, rfl, e2, ixN_nat b1 (by rw [List.length_map]; lia), ?_⟩
      rw [set_ints]
      refine ⟨_, _, rfl, s2.upd nl, ?_⟩
      rw [take_snoc ei, psh_snoc]
      exact upd_same
    · rintro σ H2 ⟨v4, v5, rfl, s2, e2⟩
      rw [hyl, List.take_length] at e2
      exact ⟨_, rfl, k l H2 nl s2 e2⟩
def spFe (K : PySem.W.Frag) (c : Cs) : Sp := fun vs H Q _ => ∃ (x : Addr) (t p m : Int) (es : List (Int × Int)), vs = [.ref x, .int t, .int p] ∧ WebAt K c.Web H x m es ∧ 0 ≤ t ∧ t < (es.length : Int) ∧ Q (.int (far (tieOf es t) p)) H
theorem scFe : FnScope ["web", "tie", "place", "ends"] ["web", "tie", "place"] (defScope sFe) := ⟨rfl, rfl, rfl, by decide +kernel, rfl, by decide +kernel, by decide +kernel⟩
set_option maxHeartbeats 4000000 in
theorem ok_Fe {f : Addr} {fd : FuncData} (F : Fun K "far_end" "far_end" sFe f fd) (T : Txt K mg c) : FnOk P w K mg base CX0 1 f fd ["web", "tie", "place"] (spFe K c) := by
  refine F.ok scFe (fun vs H Q E h => ?_) (fun cdv A outer s H vs Q E hr h => ?_)
  · obtain ⟨x, t, p, m, es, rfl, _⟩ := h
    rfl
  · obtain ⟨x, t, p, m, es, rfl, hw, t0, t1, k⟩ := h
    refine ⟨_, pss_cons (ps_set (i := 3) scFe.nd rfl (Or.inl rfl) (pe_ix (ixT (K := K) rfl) (pTies (K := K) rfl T.web (pv 0)) (pv 1) (fun _ _ => rfl)))
      (pss_one (ps_ret (pe_ifExp (pt_cmpR op_eq (pe_ix (ixT (K := K) rfl) (pv 3) (pe_int) (fun _ _ => rfl)) (pv 2) (nomark _)) (pe_ix (ixT (K := K) rfl) (pv 3) (pe_int) (fun _ _ => rfl)) (pe_ix (ixT (K := K) rfl) (pv 3) (pe_int) (fun _ _ => rfl))))), ?_⟩
    refine ⟨_, rfl, x, m, es, rfl, hw, fun tt ys ht hp => ?_⟩
    obtain ⟨r, ar, hr2, _⟩ := tie_get hp t0 t1
    unfold far at k
    refine ⟨_, rfl, tt, ys, t, .ref r, rfl, rfl, SqT.of ht, ar, ?_⟩
    refine ⟨_, rfl, r, _, 0, _, rfl, rfl, hr2, rfl, _, rfl, rfl, _, rfl, ite2 (fun c1 => ?_) (fun c1 => ?_)⟩
    · have c1' := of_decide_eq_true c1
      injection c1' with c1'
      rw [if_pos c1'] at k
      exact ⟨_, rfl, r, _, 1, _, rfl, rfl, hr2, rfl, k⟩
    · rw [if_neg (fun z => c1 (decide_eq_true (by rw [z])))] at k
      exact ⟨_, rfl, r, _, 0, _, rfl, rfl, hr2, rfl, k⟩
structure FwI (H : Hp) (m : Int) (es : List (Int × Int)) (ss : List Int) (a : Int) (d r : Addr) (H2 : Hp) (rs : List Int) (ad : Int → Addr) (wy pl : Int → List Int) : Prop where
  same : Same H H2
  dd : H2 d = some (.dK (rs.map fun p => ((Sum.inl p : Key), V.ref (ad p))))
  rr : H2 r = some (.lst (rs.map V.int))
  nd : rs.Nodup
  rng : ∀ p ∈ rs, 0 ≤ p ∧ p < m
  a0 : a ∈ rs
  cell : ∀ p ∈ rs, H (ad p) = none ∧ ad p ≠ r ∧ H2 (ad p) = some (.lst ((wy p).map V.int))
  way : ∀ p ∈ rs, Way es ss a (wy p) (pl p) p ∧ ∀ q ∈ pl p, q ∈ rs
def stpF (es : List (Int × Int)) (p : Int) (S : List Int × (Int → List Int)) (t : Int) : List Int × (Int → List Int) :=
  if far (tieOf es t) p ∈ S.1 then S else (S.1 ++ [far (tieOf es t) p], fun z => if z = far (tieOf es t) p then S.2 p ++ [t] else S.2 z)
def rndF (es : List (Int × Int)) (ss : List Int) (S : List Int × (Int → List Int)) (st : Nat) : List Int × (Int → List Int) := (ss.filter fun t => atP (S.1.getD st 0) (tieOf es t)).foldl (stpF es (S.1.getD st 0)) S
def runF (es : List (Int × Int)) (ss : List Int) (b : Int) : Nat → List Int × (Int → List Int) → Nat → List Int × (Int → List Int)
  | 0, S, _ => S
  | n + 1, S, st => if b ∈ S.1 ∨ ¬ st < S.1.length then S else runF es ss b n (rndF es ss S st) (st + 1)
def fwT (es : List (Int × Int)) (ss : List Int) (a b : Int) (m : Nat) : List Int := (runF es ss b m ([a], fun _ => []) 0).2 b
theorem runF_end {es : List (Int × Int)} {ss : List Int} {b : Int} {S : List Int × (Int → List Int)} {st : Nat} (h : b ∈ S.1 ∨ ¬ st < S.1.length) : ∀ n, runF es ss b n S st = S
  | 0 => rfl
  | n + 1 => if_pos h
def spFw (K : PySem.W.Frag) (c : Cs) : Sp := fun vs H Q _ => ∃ (x q : Addr) (a b m : Int) (es : List (Int × Int)) (ss : List Int), vs = [.ref x, .ref q, .int a, .int b] ∧ WebAt K c.Web H x m es ∧ SqL K H q (ss.map V.int) ∧ (∀ t ∈ ss, 0 ≤ t ∧ t < (es.length : Int)) ∧ ss.length ≤ 900 ∧ 0 ≤ a ∧ a < m ∧ m ≤ 20 ∧ EndsIn es m ∧
  (¬ Cn (sub es ss) a b → ∀ H', Same H H' → Q .non H') ∧ (∀ l ts ps H', Same H H' → H l = none → H' l = some (.lst (ts.map V.int)) → Way es ss a ts ps b → ts = fwT es ss a b m.toNat → Q (.ref l) H')
theorem scFw : FnScope ["web", "some", "start", "goal", "ways", "reached", "step", "place", "tie", "other"] ["web", "some", "start", "goal"] (defScope sFw) := ⟨rfl, rfl, rfl, by decide +kernel, rfl, by decide +kernel, by decide +kernel⟩
set_option maxHeartbeats 8000000 in
theorem ok_Fw {f : Addr} {fd : FuncData} (F : Fun K "find_way" "find_way" sFw f fd) (T : Txt K mg c) (D_Fe : Def P w K mg base 1 "far_end" ["web", "tie", "place"] (spFe K c)) : FnOk P w K mg base CX0 2 f fd ["web", "some", "start", "goal"] (spFw K c) := by
  refine F.ok scFw (fun vs H Q E h => ?_) (fun cdv A outer s H vs Q E hr h => ?_)
  · obtain ⟨x, q, a, b, m, es, ss, rfl, _⟩ := h
    rfl
  · obtain ⟨x, q, a, b, m, es, ss, rfl, hw, hq, hss, hsl, a0, a1, m2, hE, k1, k2⟩ := h
    refine ⟨_, pss_cons (ps_set (i := 4) scFw.nd rfl (Or.inl rfl) (pe_disp (pps_cons (pv 2) (pe_lst pa_nil) (pps_nil)) rfl rfl (by simp) (by decide)))
      (pss_cons (ps_set (i := 5) scFw.nd rfl (Or.inl rfl) (pe_lst (pa_cons (pv 2) pa_nil)))
      (pss_cons (ps_set (i := 6) scFw.nd rfl (Or.inl rfl) (pe_int))
      (pss_cons (ps_while PassesOwn.never (PW.pt (pw_and (pt_cmp (pc_dnotin (hu_of hr) (pv 3) (pv 4))) (pw_and1 (pt_cmpR op_lt (pv 6) (pe_callB (cLen (K := K) rfl) (by rfl) T.len PySem.boot_len (pa_cons (pv 5) pa_nil)) (nomark _)))))
        (pss_cons (ps_set (i := 7) scFw.nd rfl (Or.inr rfl) (pe_ix (ixL (K := K) rfl) (pv 5) (pv 6) (fun _ _ => rfl)))
      (pss_cons (ps_for PassesOwn.never rfl (piSeqB (K := K) rfl (pe_lc (N' := ["one", "web", "place"]) (nl := 1) (js := [0, 7]) rfl (.of (osc := defScope sFw) (N := ["web", "some", "start", "goal", "ways", "reached", "step", "place", "tie", "other"]) (by decide +kernel) rfl rfl) (piSeq (K := K) rfl (pv 1))
        (fun _ _ _ _ => pg_name (i := 0) (show (["one", "web", "place"] : List Str).Nodup by decide +kernel) rfl (Or.inl rfl)) (fun _ _ _ _ => pif_one (pt_cmpR (opIn (K := K) rfl) (pv 2) (pe_ix (ixT (K := K) rfl) (pTies (K := K) rfl T.web (pv 1)) (pv 0) (fun _ _ => rfl)) (by with_unfolding_all rfl)))
        (fun _ _ _ _ => pv 0))) (pg_name (i := 8) scFw.nd rfl (Or.inl rfl))
        (pss_cons (ps_set (i := 9) scFw.nd rfl (Or.inl rfl) (pe_defR D_Fe hr (pa_cons (pv 0) (pa_cons (pv 8) (pa_cons (pv 7) pa_nil)))))
      (pss_one (ps_cut (ps_if (pt_cmp (pc_dnotin (hu_of hr) (pv 9) (pv 4)))
        (pss_cons (ps_dput (hu_of hr) (pv 4) (pv 9) (pe_op op_cat (pe_dget (hu_of hr) (pv 4) (pv 7) (fun _ _ => rfl)) (pe_lst (pa_cons (pv 8) pa_nil))) rfl)
      (pss_one (ps_expr (pe_bm PySem.F.plainAttrs_list PySem.F.slot_list_append PySem.F.type_list_append mt_append (pv 5) (pa_cons (pv 9) pa_nil))))) (pss_nil))))))
      (pss_one (ps_aug (i := 6) scFw.nd rfl (Or.inl rfl) (pe_int) ip_add)))))
      (pss_one (ps_ret (pe_dget1 (hu_of hr) (pv 4) (pv 3) ⟨rfl, rfl, rfl, rfl⟩)))))), ?_⟩
    intro d nd
    have s1 : Same H (upd H d (.dK [])) := Same.new nd
    have d1 : (upd H d (.dK [])) d = some (.dK []) := upd_same
    generalize upd H d (.dK []) = H1 at s1 d1
    refine ⟨_, rfl, by decide, fun l0 nl0 => ?_⟩
    have s2 := s1.next (o := .lst []) nl0
    have d2 := Same.new (o := .lst []) nl0 _ _ d1
    have e2 : (upd H1 l0 (.lst [])) l0 = some (.lst []) := upd_same
    have l0H : H l0 = none := none_back s1 nl0
    generalize upd H1 l0 (.lst []) = H2 at s2 d2 e2
    refine ⟨d2, [(Sum.inl a, .ref l0)], rfl, (by show 1 ≤ 15; decide), ?_⟩
    have d3 : (upd H2 d (.dK (mergeK [] [((Sum.inl a : Key), V.ref l0)]))) d = some (.dK ([a].map fun p => ((Sum.inl p : Key), V.ref l0))) := upd_same
    have s3 : Same H (upd H2 d (.dK (mergeK [] [((Sum.inl a : Key), V.ref l0)]))) := s2.upd nd
    have e3 : (upd H2 d (.dK (mergeK [] [((Sum.inl a : Key), V.ref l0)]))) l0 = some (.lst []) := by rw [upd_ne (ne_of_none d1 nl0).symm]; exact e2
    generalize upd H2 d (.dK (mergeK [] [((Sum.inl a : Key), V.ref l0)])) = H3 at d3 s3 e3
    refine ⟨_, rfl, (by show 1 ≤ sizeLine; decide), fun r nr => ?_⟩
    have s4 := s3.next (o := .lst [V.int a]) nr
    have d4 := Same.new (o := .lst [V.int a]) nr _ _ d3
    have e4 := Same.new (o := .lst [V.int a]) nr _ _ e3
    have r4 : (upd H3 r (.lst [V.int a])) r = some (.lst ([a].map V.int)) := upd_same
    have rH : H r = none := none_back s3 nr
    have lr : l0 ≠ r := ne_of_none e3 nr
    generalize upd H3 r (.lst [V.int a]) = H4 at s4 d4 e4 r4
    clear s3 d3 e3 s2 d2 e2 nl0 s1 d1 nr
    have drn : d ≠ r := ne_of d4 r4 (by intro z; cases z)
    refine ⟨fun n σ H2 => ∃ (rs : List Int) (st : Nat) (ad : Int → Addr) (wy pl : Int → List Int) (v7 v8 v9 : Option V), n = m.toNat - st ∧ σ = [some (.ref x), some (.ref q), some (.int a), some (.int b), some (.ref d), some (.ref r), some (.int st), v7, v8, v9] ∧ FwI H m es ss a d r H2 rs ad wy pl ∧ st ≤ rs.length ∧
      (∀ j, j < st → ∀ t ∈ ss, ((tieOf es t).1 = rs.getD j 0 ∨ (tieOf es t).2 = rs.getD j 0) → far (tieOf es t) (rs.getD j 0) ∈ rs) ∧ runF es ss b (m.toNat - st) (rs, wy) st = runF es ss b m.toNat ([a], fun _ => []) 0, ⟨m.toNat - 0, [a], 0, fun _ => l0, fun _ => [], fun _ => [], none, none, none, rfl, rfl, ?_, Nat.zero_le _, (fun j hj => absurd hj (Nat.not_lt_zero _)), rfl⟩, ?_⟩
    · refine ⟨s4, d4, r4, by simp, fun p hp => ?_, List.mem_singleton.mpr rfl, fun p hp => ⟨l0H, lr, e4⟩, fun p hp => ?_⟩
      · rw [List.mem_singleton.mp hp]; exact ⟨a0, a1⟩
      · rw [List.mem_singleton.mp hp]; exact ⟨.nil, fun q hq => nomatch hq⟩
    rintro n σ H5 ⟨rs, st, ad, wy, pl, v7, v8, v9, rfl, rfl, I, hst, clo, hrun⟩
    have hrl := nodup_len I.nd I.rng
    refine ⟨_, rfl, _, rfl, d, _, rfl, DGet.k (k := Sum.inl b) I.dd, _, rfl, ?_⟩
    rw [valV_key]
    by_cases hb : b ∈ rs
    · rw [if_pos hb]
      refine iteF (iteF ?_)
      obtain ⟨n1, _, c1⟩ := I.cell b hb
      refine ⟨_, rfl, d, rfl, .inl ⟨_, .inl I.dd⟩, _, rfl, _, DGet.k (k := Sum.inl b) I.dd, ?_⟩
      rw [valV_key, if_pos hb]
      exact k2 (ad b) (wy b) (pl b) H5 I.same n1 c1 (I.way b hb).1 (by unfold fwT; rw [← hrun, runF_end (.inl hb)])
    · rw [if_neg hb]
      refine iteT ⟨_, rfl, _, rfl, r, _, rfl, .inl (SqL.of I.rr), _, _, rfl, rfl, _, rfl, ?_⟩
      have hlm : (rs.map V.int).length = rs.length := List.length_map ..
      by_cases hlt : st < rs.length
      · rw [decide_eq_true (show (st : Int) < ((rs.map V.int).length : Int) by lia)]
        refine iteT ⟨_, fun σ' H' h => h, ?_⟩
        have hpm : rs.getD st 0 ∈ rs := by rw [List.getD_eq_getElem?_getD, List.getElem?_eq_getElem hlt]; exact List.getElem_mem hlt
        have hat : atI (rs.map V.int) (st : Int) = some (.int (rs.getD st 0)) := at_int (ns := rs) (k := (st : Int)) (by lia) (by lia)
        refine ⟨_, rfl, _, rfl, r, _, _, _, rfl, rfl, SqL.of I.rr, hat, ?_⟩
        obtain ⟨p, ep⟩ : ∃ p, p = rs.getD st 0 := ⟨_, rfl⟩
        rw [← ep] at hpm
        have hw5 := hw.same I.same
        refine ⟨_, rfl, q, _, rfl, .inl (I.same.seq hq), fun J C O hC => lc_by O (fun i ys H6 => H6 = H5 ∧ ys = ((ss.take i).filter fun t => atP (rs.getD st 0) (tieOf es t)).map V.int) (by rw [List.length_map]; exact Nat.le_of_lt (small1000 (by lia))) ⟨rfl, rfl⟩ ?_ ?_ ?_⟩
        · rintro i ys H6 hi ⟨rfl, rfl⟩
          refine ⟨hC _ (Same.refl _), ?_⟩
          rw [List.length_map]
          exact Nat.le_trans (List.length_filter_le _ _) (by rw [List.length_take]; lia)
        · rintro i ys H6 hi ⟨rfl, rfl⟩
          obtain ⟨v, ev, gv⟩ := getD_map_int hi
          rw [List.length_map] at hi
          have hv := hss v (List.mem_of_getElem? gv)
          have hyl : (((ss.take i).filter fun t => atP (rs.getD st 0) (tieOf es t)).map V.int).length < sizeLine := small1000 (by
            rw [List.length_map]
            have := List.length_filter_le (fun t => atP (rs.getD st 0) (tieOf es t)) (ss.take i)
            rw [List.length_take] at this; lia)
          try dsimp only
          rw [ev]
          refine ⟨wk_set rfl, _, rfl, _, rfl, x, m, es, rfl, hw5, fun tt ys ht hp => ?_⟩
          obtain ⟨r2, ar, hr2, _⟩ := tie_get hp hv.1 hv.2
          refine ⟨_, rfl, tt, ys, v, .ref r2, rfl, rfl, SqT.of ht, ar, r2, _, rfl, .inr hr2, rfl, rfl, _, rfl, ?_⟩
          rw [if_neg Bool.false_ne_true, show inV (V.int (rs.getD st 0)) [V.int (tieOf es v).1, V.int (tieOf es v).2] = atP (rs.getD st 0) (tieOf es v) from inV_at ..]
          refine ite2 (fun c1 => ?_) (fun c1 => ?_)
          · refine ⟨_, rfl, hyl, _, by rw [List.length_map]; lia, rfl, by rw [List.length_map]; lia, rfl, ?_⟩
            rw [take_snoc gv, List.filter_append, List.map_append, List.filter_cons_of_pos (p := fun t => atP (rs.getD st 0) (tieOf es t)) c1]; rfl
          · refine ⟨_, by rw [List.length_map]; lia, rfl, by rw [List.length_map]; lia, rfl, ?_⟩
            rw [take_snoc gv, List.filter_append, List.map_append, List.filter_cons_of_neg (p := fun t => atP (rs.getD st 0) (tieOf es t)) c1]; exact (List.append_nil _).symm
        · rintro ys H6 ⟨rfl, rfl⟩ l nl
          rw [List.length_map, List.take_length, ← ep]
          have sN := Same.new (o := .lst ((ss.filter fun t => atP p (tieOf es t)).map V.int)) nl
          have eN : (upd H6 l (.lst ((ss.filter fun t => atP p (tieOf es t)).map V.int))) l = some (.lst ((ss.filter fun t => atP p (tieOf es t)).map V.int)) := upd_same
          generalize upd H6 l (.lst ((ss.filter fun t => atP p (tieOf es t)).map V.int)) = H7 at sN eN
          obtain ⟨wy0, ewy⟩ : ∃ wy0, wy0 = wy := ⟨_, rfl⟩
          have I7 : FwI H m es ss a d r H7 rs ad wy0 pl := by
           rw [ewy]
           exact ⟨I.same.trans sN, sN _ _ I.dd, sN _ _ I.rr, I.nd, I.rng, I.a0, fun p hp => ⟨(I.cell p hp).1, (I.cell p hp).2.1, sN _ _ (I.cell p hp).2.2⟩, I.way⟩
          have nlr : l ≠ r := (ne_of_none I.rr nl).symm
          have nld : l ≠ d := (ne_of_none I.dd nl).symm
          have nlH : H l = none := none_back I.same nl
          refine ⟨false, l, _, rfl, SqL.of eN, fun J C O hC => for_by O (fun i σ H8 => ∃ (rs' : List Int) (ad : Int → Addr) (wy pl : Int → List Int) (v8 v9 : Option V), σ = [some (.ref x), some (.ref q), some (.int a), some (.int b), some (.ref d), some (.ref r), some (.int st), some (.int p), v8, v9] ∧ FwI H m es ss a d r H8 rs' ad wy pl ∧ (∃ more, rs' = rs ++ more) ∧
            H8 l = some (.lst ((ss.filter fun t => atP p (tieOf es t)).map V.int)) ∧ (∀ t ∈ (ss.filter fun t => atP p (tieOf es t)).take i, far (tieOf es t) p ∈ rs') ∧ (rs', wy) = ((ss.filter fun t => atP p (tieOf es t)).take i).foldl (stpF es p) (rs, wy0)) ⟨rs, ad, wy0, pl, _, _, rfl, I7, ⟨[], (List.append_nil _).symm⟩, eN, (fun t ht => (by simp at ht)), rfl⟩ (fun i σ H8 _ h => ?_) ?_ ?_⟩
          · obtain ⟨rs', ad, wy, pl, v8, v9, _, _, _, l8, _, _⟩ := h
            exact hC _ (SqL.of l8)
          · rintro i σ H8 hi ⟨rs', ad, wy, pl, v8, v9, rfl, I8, ⟨more, em⟩, l8, hdone, hfold⟩
            obtain ⟨v, ev, gv⟩ := getD_map_int hi
            have hvF := List.mem_filter.mp (List.mem_of_getElem? gv)
            have hv := hss v hvF.1
            have hva := atP_iff.mp hvF.2
            have hp8 : p ∈ rs' := by rw [em]; exact List.mem_append_left _ hpm
            have hw8 := hw.same I8.same
            obtain ⟨_, _, _, hte⟩ : ∃ dx t xs, tieOf es v ∈ es := ⟨0, 0, 0, by
              unfold tieOf
              rw [List.getD_eq_getElem?_getD, List.getElem?_eq_getElem (show v.toNat < es.length by lia)]; exact List.getElem_mem _⟩
            have hb4 := hE _ hte
            have hor : 0 ≤ far (tieOf es v) p ∧ far (tieOf es v) p < m := by
              unfold far; split
              · exact ⟨hb4.2.2.1, hb4.2.2.2⟩
              · exact ⟨hb4.1, hb4.2.1⟩
            try dsimp only
            rw [ev]
            refine ⟨_, rfl, _, rfl, _, rfl, x, v, p, m, es, rfl, hw8, hv.1, hv.2, ?_⟩
            obtain ⟨o, eo⟩ : ∃ o, o = far (tieOf es v) p := ⟨_, rfl⟩
            refine ⟨fun σ' H' => ∃ (rs' : List Int) (ad : Int → Addr) (wy pl : Int → List Int), σ' = [some (.ref x), some (.ref q), some (.int a), some (.int b), some (.ref d), some (.ref r), some (.int st), some (.int p), some (.int v), some (.int (far (tieOf es v) p))] ∧ FwI H m es ss a d r H' rs' ad wy pl ∧ (∃ more, rs' = rs ++ more) ∧
              H' l = some (.lst ((ss.filter fun t => atP p (tieOf es t)).map V.int)) ∧ (∀ t ∈ (ss.filter fun t => atP p (tieOf es t)).take (i + 1), far (tieOf es t) p ∈ rs') ∧ (rs', wy) = ((ss.filter fun t => atP p (tieOf es t)).take (i + 1)).foldl (stpF es p) (rs, wy0), ?_, ?_⟩
            · refine ⟨_, rfl, _, rfl, d, _, rfl, DGet.k (k := Sum.inl (far (tieOf es v) p)) I8.dd, _, rfl, ?_⟩
              rw [valV_key, ← eo]
              rw [← eo] at hor
              by_cases ho : o ∈ rs'
              · rw [if_pos ho]
                refine iteF ⟨rs', ad, wy, pl, rfl, I8, ⟨more, em⟩, l8, fun t ht => ?_, ?_⟩
                · rw [take_snoc gv] at ht
                  rcases List.mem_append.mp ht with y | y
                  · exact hdone t y
                  · rw [List.mem_singleton.mp y, ← eo]; exact ho
                · rw [take_snoc gv, List.foldl_append, ← hfold]
                  show _ = stpF es p (rs', wy) v
                  unfold stpF
                  rw [← eo, if_pos ho]
              · rw [if_neg ho]
                refine iteT ?_
                obtain ⟨n1, nr1, c1⟩ := I8.cell p hp8
                obtain ⟨wp, wq⟩ := I8.way p hp8
                have hwl : (wy p).length ≤ 20 := by
                  rw [wp.len]
                  have := nodup_len (m := m) wp.nd fun z hz => by
                    rcases List.mem_append.mp hz with y | y
                    · exact I8.rng z (wq z y)
                    · rw [List.mem_singleton.mp y]; exact I8.rng p hp8
                  rw [List.length_append] at this
                  lia
                have hrl8 := nodup_len I8.nd I8.rng
                refine ⟨_, rfl, _, rfl, d, .ref (ad p), rfl, ?_, _, rfl, (by show 1 ≤ sizeLine; decide), fun q1 nq1 => ?_⟩
                · have := DGet.k (k := Sum.inl p) I8.dd
                  rw [valV_key, if_pos hp8] at this
                  exact this
                have s9 := Same.new (o := .lst [V.int v]) nq1
                have e9 : (upd H8 q1 (.lst [V.int v])) q1 = some (.lst [V.int v]) := upd_same
                generalize upd H8 q1 (.lst [V.int v]) = H9 at s9 e9
                refine ⟨ad p, q1, _, _, rfl, rfl, s9 _ _ c1, e9, Nat.le_of_lt (small1000 (by rw [List.length_map]; show (wy p).length + 1 ≤ 1000; lia)), fun q2 nq2 => ?_⟩
                rw [show (wy p).map V.int ++ [V.int v] = (wy p ++ [v]).map V.int by rw [List.map_append]; rfl]
                have s10 := s9.next (o := .lst ((wy p ++ [v]).map V.int)) nq2
                have e10 : (upd H9 q2 (.lst ((wy p ++ [v]).map V.int))) q2 = some (.lst ((wy p ++ [v]).map V.int)) := upd_same
                generalize upd H9 q2 (.lst ((wy p ++ [v]).map V.int)) = H10 at s10 e10
                have q2H8 : H8 q2 = none := none_back s9 nq2
                have d10 := s10 _ _ I8.dd
                have r10 := s10 _ _ I8.rr
                have pk : putK (rs'.map fun p => ((Sum.inl p : Key), V.ref (ad p))) (Sum.inl o) (V.ref q2) = (rs' ++ [o]).map fun z => ((Sum.inl z : Key), V.ref (if z = o then q2 else ad z)) := by
                  rw [putK_new _ (by rw [valV_key, if_neg ho]), List.map_append]
                  congr 1
                  · refine List.map_congr_left fun z hz => ?_
                    rw [if_neg (show ¬ z = o from fun y => ho (y ▸ hz))]
                  · rw [List.map_cons, List.map_nil, if_pos rfl]
                refine ⟨_, rfl, _, rfl, d, _, rfl, DPut.k (k := Sum.inl o) d10 (small1000 (by rw [List.length_map]; lia)), ?_⟩
                rw [pk]
                have r11 : (upd H10 d (.dK ((rs' ++ [o]).map fun z => ((Sum.inl z : Key), V.ref (if z = o then q2 else ad z))))) r = some (.lst (rs'.map V.int)) := by rw [upd_ne drn.symm]; exact r10
                refine ⟨_, rfl, .inl ⟨rfl, _, SqL.of r11⟩, _, rfl, r, _, _, rfl, rfl, r11, small1000 (by rw [List.length_map]; lia), ?_⟩
                have q2r : q2 ≠ r := (ne_of_none I8.rr q2H8).symm
                have q2d : q2 ≠ d := (ne_of_none I8.dd q2H8).symm
                have lq : ∀ z ∈ rs', ad z ≠ d := fun z hz => ne_of (I8.cell z hz).2.2 I8.dd (by intro y; cases y)
                refine ⟨rs' ++ [o], fun z => if z = o then q2 else ad z, fun z => if z = o then wy p ++ [v] else wy z, fun z => if z = o then pl p ++ [p] else pl z, rfl, ⟨((I8.same.trans s10).upd nd).upd rH, ?_, ?_, nodup_snoc I8.nd ho, fun z hz => ?_, List.mem_append_left _ I8.a0, fun z hz => ?_, fun z hz => ?_⟩, ⟨more ++ [o], by rw [em, List.append_assoc]⟩, ?_, fun t ht => ?_, ?_⟩
                · rw [upd_ne drn]; exact upd_same
                · rw [show (rs' ++ [o]).map V.int = rs'.map V.int ++ [V.int o] by rw [List.map_append]; rfl]; exact upd_same
                · rcases List.mem_append.mp hz with y | y
                  · exact I8.rng z y
                  · rw [List.mem_singleton.mp y]; exact hor
                · try dsimp only
                  rcases List.mem_append.mp hz with y | y
                  · have hne : ¬ z = o := fun w => ho (w ▸ y)
                    obtain ⟨n2, nr2, c2⟩ := I8.cell z y
                    rw [if_neg hne, if_neg hne]
                    exact ⟨n2, nr2, by rw [upd_ne nr2, upd_ne (lq z y)]; exact s10 _ _ c2⟩
                  · rw [if_pos (List.mem_singleton.mp y), if_pos (List.mem_singleton.mp y)]
                    exact ⟨none_back I8.same q2H8, q2r, by rw [upd_ne q2r, upd_ne q2d]; exact e10⟩
                · try dsimp only
                  rcases List.mem_append.mp hz with y | y
                  · have hne : ¬ z = o := fun w => ho (w ▸ y)
                    rw [if_neg hne, if_neg hne]
                    exact ⟨(I8.way z y).1, fun w hw => List.mem_append_left _ ((I8.way z y).2 w hw)⟩
                  · have hzo := List.mem_singleton.mp y
                    rw [if_pos hzo, if_pos hzo, hzo, eo]
                    refine ⟨.snoc wp hvF.1 hv.1 hv.2 hva fun w => ?_, fun w hw => ?_⟩
                    · rw [← eo] at w
                      rcases List.mem_append.mp w with y | y
                      · exact ho (wq _ y)
                      · exact ho (List.mem_singleton.mp y ▸ hp8)
                    · rcases List.mem_append.mp hw with y | y
                      · exact List.mem_append_left _ (wq _ y)
                      · rw [List.mem_singleton.mp y]; exact List.mem_append_left _ hp8
                · rw [upd_ne nlr, upd_ne nld]; exact s10 _ _ l8
                · rw [take_snoc gv] at ht
                  rcases List.mem_append.mp ht with y | y
                  · exact List.mem_append_left _ (hdone t y)
                  · rw [List.mem_singleton.mp y, ← eo]; exact List.mem_append_right _ (List.mem_singleton.mpr rfl)
                · rw [take_snoc gv, List.foldl_append, ← hfold]
                  show _ = stpF es p (rs', wy) v
                  unfold stpF
                  rw [← eo, if_neg ho]
            · rintro σ' H' ⟨rs', ad, wy, pl, rfl, I', ext, l', hdone', hfold'⟩
              exact ⟨rs', ad, wy, pl, _, _, rfl, I', ext, l', hdone', hfold'⟩
          · rintro σ H8 ⟨rs', ad, wy, pl, v8, v9, rfl, I8, ⟨more, em⟩, l8, hdone, hfold⟩
            rw [List.length_map, List.take_length] at hdone hfold
            have hrl8 := nodup_len I8.nd I8.rng
            refine ⟨_, rfl, _, _, rfl, rfl, m.toNat - (st + 1), by lia, rs', st + 1, ad, wy, pl, _, _, _, rfl, rfl, I8, by rw [em, List.length_append]; lia, fun j hj t ht hta => ?_, ?_⟩
            rotate_left
            · rw [hfold, ewy, ← hrun, show m.toNat - st = (m.toNat - (st + 1)) + 1 by lia]
              show _ = if b ∈ rs ∨ ¬ st < rs.length then _ else runF es ss b (m.toNat - (st + 1)) (rndF es ss (rs, _) st) (st + 1)
              rw [if_neg (fun z => z.elim hb fun y => y hlt)]
              unfold rndF
              rw [ep]
            by_cases hjs : j < st
            · have ej : rs'.getD j 0 = rs.getD j 0 := by rw [em, List.getD_eq_getElem?_getD, List.getElem?_append_left (by lia), List.getD_eq_getElem?_getD]
              rw [ej] at hta ⊢
              rw [em]
              exact List.mem_append_left _ (clo j hjs t ht hta)
            · have hje : j = st := by lia
              have ej : rs'.getD j 0 = p := by rw [hje, ep, em, List.getD_eq_getElem?_getD, List.getElem?_append_left hlt, List.getD_eq_getElem?_getD]
              rw [ej] at hta ⊢
              exact hdone t (List.mem_filter.mpr ⟨ht, atP_iff.mpr hta⟩)
      · rw [decide_eq_false (show ¬ (st : Int) < ((rs.map V.int).length : Int) by lia)]
        refine iteF ?_
        refine ⟨_, rfl, d, rfl, .inl ⟨_, .inl I.dd⟩, _, rfl, _, DGet.k (k := Sum.inl b) I.dd, ?_⟩
        rw [valV_key, if_neg hb]
        refine k1 (fun h => hb (cn_closed I.a0 (fun e he p hp hep => ?_) h)) H5 I.same
        obtain ⟨t, ht, rfl⟩ := List.mem_map.mp he
        obtain ⟨j, hj, rfl⟩ := List.mem_iff_getElem.mp hp
        have ej : rs.getD j 0 = rs[j] := by rw [List.getD_eq_getElem?_getD, List.getElem?_eq_getElem hj]; rfl
        have := clo j (by lia) t ht (by rw [ej]; exact hep)
        rwa [ej] at this
def NoTwo (es : List (Int × Int)) (one two : Int) : Prop := ∃ R : List Int, one ∈ R ∧ ¬ two ∈ R ∧ (ncr R es es.length = 0 ∨ ncr R es es.length = 1)
def twA (m : Nat) (es : List (Int × Int)) (one two : Int) : Nat → List Int
  | 0 => List.replicate es.length 0
  | i + 1 => psh (twA m es one two i) ((wwr es (rmN (twA m es one two i) (List.replicate es.length (-1)) (List.replicate es.length 1)) one m).2 two) 1
def spTf (K : PySem.W.Frag) (c : Cs) : Sp := fun vs H Q _ => ∃ (x : Addr) (one two m : Int) (es : List (Int × Int)), vs = [.ref x, .int one, .int two] ∧ WebAt K c.Web H x m es ∧ 0 ≤ one ∧ one < m ∧ 0 ≤ two ∧ two < m ∧ m ≤ 20 ∧ es.length ≤ 40 ∧ EndsIn es m ∧ (NoTwo es one two → ∀ H', Same H H' → Q .non H') ∧ (TwI es one two 2 (twA m.toNat es one two 2) → ∀ l H', H l = none → Same H H' → H' l = some (.lst ((nzL es.length (twA m.toNat es one two 2)).map V.int)) → Q (.ref l) H')
theorem scTf : FnScope ["web", "one", "two", "size", "amounts", "turn", "ways"] ["web", "one", "two"] (defScope sTf) := ⟨rfl, rfl, rfl, by decide +kernel, rfl, by decide +kernel, by decide +kernel⟩
theorem rep_at {n t : Nat} {v : Int} (h : t < n) : (List.replicate n v).getD t 0 = v := by rw [List.getD_eq_getElem?_getD, List.getElem?_replicate, if_pos h]; rfl
set_option maxHeartbeats 8000000 in
theorem ok_Tf {f : Addr} {fd : FuncData} (F : Fun K "ties_for_two_ways" "ties_for_two_ways" sTf f fd) (T : Txt K mg c) (D_Rl : Def P w K mg base 1 "rooms_left" ["amounts", "lows", "highs"] (spRl K)) (D_Ww : Def P w K mg base 2 "ways_with_room" ["web", "rooms", "start"] (spWw K c)) (D_Pu : Def P w K mg base 1 "pushed" ["amounts", "steps", "size"] (spPu K)) : FnOk P w K mg base CX0 3 f fd ["web", "one", "two"] (spTf K c) := by
  refine F.ok scTf (fun vs H Q E h => ?_) (fun cdv A outer s H vs Q E hr h => ?_)
  · obtain ⟨x, one, two, m, es, rfl, _⟩ := h
    rfl
  · obtain ⟨x, one, two, m, es, rfl, hw, o0, o1, t0, t1, m2, he, hE, k1, k2⟩ := h
    have hu : A.units + 3 + 64 < cLine := hr.units
    refine ⟨_, pss_cons (ps_set (i := 3) scTf.nd rfl (Or.inl rfl) (pe_callB (cLen (K := K) rfl) (by rfl) T.len PySem.boot_len (pa_cons (pTies (K := K) rfl T.web (pv 0)) pa_nil)))
      (pss_cons (ps_set (i := 4) scTf.nd rfl (Or.inl rfl) (pe_op op_rep (pe_lst (pa_cons (pe_int) pa_nil)) (pv 3)))
      (pss_cons (ps_for PassesOwn.never rfl (pi_range1 rfl T.range (pa_cons (pe_int) pa_nil)) (pg_name (i := 5) scTf.nd rfl (Or.inl rfl))
        (pss_cons (ps_set (i := 6) scTf.nd rfl (Or.inl rfl) (pe_defR D_Ww hr (pa_cons (pv 0) (pa_cons (pe_defR D_Rl hr (pa_cons (pv 4) (pa_cons (pe_op op_rep (pe_lst (pa_cons (pe_un un_neg (pe_int)) pa_nil)) (pv 3)) (pa_cons (pe_op op_rep (pe_lst (pa_cons (pe_int) pa_nil)) (pv 3)) pa_nil)))) (pa_cons (pv 1) pa_nil)))))
      (pss_cons (ps_if (pt_cmp (pc_dnotin (hu_of hr) (pv 2) (pv 6)))
        (pss_one (ps_ret (pe_non))) (pss_nil))
      (pss_one (ps_set (i := 4) scTf.nd rfl (Or.inl rfl) (pe_defR D_Pu hr (pa_cons (pv 4) (pa_cons (pe_dget (hu_of hr) (pv 6) (pv 2) (fun _ _ => rfl)) (pa_cons (pe_int) pa_nil)))))))))
      (pss_one (ps_ret (pe_lc (N' := ["tie", "amount"]) (nl := 2) (js := []) rfl (.of (osc := defScope sTf) (N := ["web", "one", "two", "size", "amounts", "turn", "ways"]) (by decide +kernel) rfl rfl) (pi_enum (K := K) rfl rfl T.enumerate (pa_cons (pv 4) pa_nil))
        (fun _ _ _ _ => pgPair (K := K) (i := 0) (j := 1) rfl rfl (show (["tie", "amount"] : List Str).Nodup by decide +kernel) rfl rfl rfl rfl) (fun _ _ _ _ => pif_one (pt_cmpR op_ne (pv 1) (pe_int) (nomark _)))
        (fun _ _ _ _ => pv 0)))))), ?_⟩
    clear hu
    refine ⟨_, rfl, x, m, es, rfl, hw, fun tt zs ht hp => ⟨tt, zs, rfl, .inr (SqT.of ht), ?_⟩⟩
    rw [hp.len]
    refine ⟨(by show 1 ≤ sizeLine; decide), fun q1 nq1 => ?_⟩
    have s1 := Same.new (o := .lst [V.int 0]) nq1
    have e1 : (upd H q1 (.lst [V.int 0])) q1 = some (.lst [V.int 0]) := upd_same
    generalize upd H q1 (.lst [V.int 0]) = H1 at s1 e1
    refine ⟨_, rfl, q1, (es.length : Int), _, rfl, rfl, e1, by lia, by lia, Nat.le_of_lt (small1000 (by show 1 * ((es.length : Int)).toNat ≤ 1000; lia)), fun la nla => ?_⟩
    rw [rep_ints, Int.toNat_natCast]
    have s2 := s1.next (o := .lst ((List.replicate es.length (0 : Int)).map V.int)) nla
    have e2 : (upd H1 la (.lst ((List.replicate es.length (0 : Int)).map V.int))) la = some (.lst ((List.replicate es.length (0 : Int)).map V.int)) := upd_same
    generalize upd H1 la (.lst ((List.replicate es.length (0 : Int)).map V.int)) = H2 at s2 e2
    refine ⟨2, rfl, by decide, by decide, for_by itok_range (fun i σ H3 => ∃ (la : Addr) (v5 v6 : Option V), σ = [some (.ref x), some (.int one), some (.int two), some (.int es.length), some (.ref la), v5, v6] ∧ Same H H3 ∧ H3 la = some (.lst ((twA m.toNat es one two i).map V.int)) ∧ TwI es one two i (twA m.toNat es one two i)) ⟨la, none, none, rfl, s2, e2, TwI.start es one two⟩ (fun _ _ _ _ _ => trivial) ?_ ?_⟩
    · rintro i σ H3 hi ⟨la, v5, v6, rfl, s3, e3, I⟩
      obtain ⟨as, eas⟩ : ∃ as, as = twA m.toNat es one two i := ⟨_, rfl⟩
      rw [← eas] at e3 I
      have hal := I.len
      refine ⟨_, rfl, _, rfl, 1, rfl, (by show 1 ≤ sizeLine; decide), fun q2 nq2 => ?_⟩
      have s4 := Same.new (o := .lst [V.int (-1)]) nq2
      have e4 : (upd H3 q2 (.lst [V.int (-1)])) q2 = some (.lst [V.int (-1)]) := upd_same
      generalize upd H3 q2 (.lst [V.int (-1)]) = H4 at s4 e4
      refine ⟨_, rfl, q2, (es.length : Int), _, rfl, rfl, e4, by lia, by lia, Nat.le_of_lt (small1000 (by show 1 * ((es.length : Int)).toNat ≤ 1000; lia)), fun ql nql => ?_⟩
      rw [rep_ints, Int.toNat_natCast]
      have s5 := s4.next (o := .lst ((List.replicate es.length (-1 : Int)).map V.int)) nql
      have e5 : (upd H4 ql (.lst ((List.replicate es.length (-1 : Int)).map V.int))) ql = some (.lst ((List.replicate es.length (-1 : Int)).map V.int)) := upd_same
      generalize upd H4 ql (.lst ((List.replicate es.length (-1 : Int)).map V.int)) = H5 at s5 e5
      refine ⟨(by show 1 ≤ sizeLine; decide), fun q3 nq3 => ?_⟩
      have s6 := Same.new (o := .lst [V.int 1]) nq3
      have e6 : (upd H5 q3 (.lst [V.int 1])) q3 = some (.lst [V.int 1]) := upd_same
      generalize upd H5 q3 (.lst [V.int 1]) = H6 at s6 e6
      refine ⟨_, rfl, q3, (es.length : Int), _, rfl, rfl, e6, by lia, by lia, Nat.le_of_lt (small1000 (by show 1 * ((es.length : Int)).toNat ≤ 1000; lia)), fun qh nqh => ?_⟩
      rw [rep_ints, Int.toNat_natCast]
      have s7 := s6.next (o := .lst ((List.replicate es.length (1 : Int)).map V.int)) nqh
      have e7 : (upd H6 qh (.lst ((List.replicate es.length (1 : Int)).map V.int))) qh = some (.lst ((List.replicate es.length (1 : Int)).map V.int)) := upd_same
      generalize upd H6 qh (.lst ((List.replicate es.length (1 : Int)).map V.int)) = H7 at s7 e7
      have s37 := s5.trans s7
      refine ⟨la, ql, qh, as, _, _, rfl, SqL.of (s37 _ _ e3), SqL.of (s7 _ _ e5), SqL.of e7, by rw [List.length_replicate, hal], by rw [List.length_replicate, hal], by lia, fun lr us H8 nlr s8 e8 p8 => ?_⟩
      have s38 := s37.trans s8
      have s08 := s3.trans s38
      refine ⟨_, rfl, x, lr, one, m, es, _, us, rfl, hw.same s08, SqL.of e8, p8, (rmN_len ..).trans hal, he, o0, o1, m2, hE, fun d rs wy H9 s9 D er ew => ?_⟩
      have s39 := s38.trans s9
      have s09 := s3.trans s39
      obtain ⟨ad, wd, wl⟩ := D.dd
      have hlo : ∀ t, t < es.length → (List.replicate es.length (-1 : Int)).getD t 0 = -1 := fun t h => rep_at h
      have hhi : ∀ t, t < es.length → (List.replicate es.length (1 : Int)).getD t 0 = 1 := fun t h => rep_at h
      refine ⟨_, rfl, _, rfl, d, _, rfl, DGet.k (k := Sum.inl two) wd, _, rfl, ?_⟩
      rw [valV_key]
      by_cases hg : two ∈ rs
      · rw [if_pos hg]
        refine iteF ?_
        obtain ⟨pl, W⟩ := D.way two hg
        obtain ⟨ys, c1, c2⟩ := wl two hg
        have dg : DGet H9 d (.int two) (some (.ref (ad two))) := by
          have := DGet.k (k := Sum.inl two) wd
          rwa [valV_key, if_pos hg] at this
        refine ⟨_, rfl, _, rfl, _, rfl, d, _, rfl, dg, la, ad two, ys, as, wy two, 1, rfl, SqL.of (s39 _ _ e3), SqL.of c1, c2, by lia, fun s hs => by have := (W.step s hs).1; exact ⟨this.1, by rw [hal]; exact this.2.1, this.2.2⟩, by decide, fun l' HA nl' sA eA => ?_⟩
        have ea : twA m.toNat es one two (i + 1) = psh as (wy two) 1 := by rw [eas, ew, eas]; rfl
        exact ⟨l', _, _, rfl, s09.trans sA, by rw [ea]; exact eA, by rw [ea]; exact I.next hlo hhi W⟩
      · rw [if_neg hg]
        have hi2 : i < 2 := hi
        have nc := shut_two hE I.len hlo hhi I.bd I.gn D.nd D.a0 hg D.clo
        exact iteT (k1 ⟨rs, D.a0, hg, by lia⟩ _ s09)
    · rintro σ H3 ⟨la, v5, v6, rfl, s3, e3, I⟩
      have hal := I.len
      obtain ⟨as, eas⟩ : ∃ as, as = twA m.toNat es one two 2 := ⟨_, rfl⟩
      have e3' : H3 la = some (.lst (as.map V.int)) := by rw [eas]; exact e3
      have I' : TwI es one two 2 as := by rw [eas]; exact I
      have hal' := I'.len
      have ham : (as.map V.int).length = as.length := List.length_map ..
      have flen : ∀ j, (((upto es.length).take j).filter fun t => !decide (as.getD t.toNat 0 = 0)).length ≤ j := fun j => Nat.le_trans (List.length_filter_le _ _) (by rw [List.length_take]; lia)
      refine ⟨_, rfl, false, la, _, rfl, SqL.of e3', fun J C O hC => lc_byP O (fun j zs H8 => Same H3 H8 ∧ zs = (((upto es.length).take j).filter fun t => !decide (as.getD t.toNat 0 = 0)).map V.int) (by rw [ham]; exact Nat.le_of_lt (small1000 (by lia))) ⟨Same.refl _, rfl⟩ ?_ ?_ ?_⟩
      · rintro j zs H8 hj ⟨s8, rfl⟩
        exact ⟨hC _ (SqL.of (s8 _ _ e3')), by rw [List.length_map]; exact flen j⟩
      · rintro j zs H8 pt hj ⟨s8, rfl⟩ npt
        obtain ⟨u, eu, gu⟩ := getD_map_int hj
        rw [ham] at hj
        have fl := flen j
        have hj' : j < es.length := by lia
        have eu2 : as.getD j 0 = u := by rw [List.getD_eq_getElem?_getD, gu]; rfl
        have s9 := s8.next (o := .tup [V.int (j : Nat), (as.map V.int).getD j .non]) npt
        try dsimp only
        rw [eu] at *
        refine ⟨pt, _, rfl, SqT.of upd_same, rfl, _, _, rfl, _, _, rfl, rfl, wk_set2 rfl rfl, ?_⟩
        refine ⟨_, rfl, rfl, _, rfl, ?_⟩
        by_cases c1 : u = 0
        · rw [decide_eq_true (show V.int u = V.int 0 by rw [c1])]
          refine iteF ⟨_, by lia, rfl, by lia, s9, ?_⟩
          rw [take_snoc (upto_get hj'), List.filter_append, List.map_append, List.filter_cons_of_neg (p := fun t : Int => !decide (as.getD t.toNat 0 = 0)) (by rw [Int.toNat_natCast, eu2, decide_eq_true c1]; decide)]; exact (List.append_nil _).symm
        · rw [decide_eq_false (show ¬ V.int u = V.int 0 by intro z; injection z with z; exact c1 z)]
          refine iteT ⟨_, rfl, small1000 (by rw [List.length_map]; lia), _, by lia, rfl, by lia, s9, ?_⟩
          rw [take_snoc (upto_get hj'), List.filter_append, List.map_append, List.filter_cons_of_pos (p := fun t : Int => !decide (as.getD t.toNat 0 = 0)) (by rw [Int.toNat_natCast, eu2, decide_eq_false c1]; rfl)]; rfl
      · rintro zs H8 ⟨s8, rfl⟩ l8 n8
        rw [ham, hal', List.take_of_length_le (by rw [upto_len]; exact Nat.le_refl _)]
        have s08 := s3.trans s8
        refine k2 I l8 _ (none_back s08 n8) (s08.next n8) ?_
        rw [← eas]; exact upd_same
theorem two_no {es : List (Int × Int)} {one two : Int} (h : NoTwo es one two) : ¬ Cn (sub es (kpt es es.length)) one two := by
  obtain ⟨R, ho, ht, h | h⟩ := h
  · intro c
    have hs := cn_side (R := R) (fun e he => by
      obtain ⟨t, ht2, rfl⟩ := List.mem_map.mp he
      have := mem_kpt ht2
      exact ncr_zero _ h t.toNat (by lia)) c
    rw [memI_iff.mpr ho] at hs
    exact ht (memI_iff.mp hs.symm)
  · refine cut_one (m := 0) ho ht h (fun t h2 => mem_kpt h2) (fun t h2 => ?_)
    have := (List.mem_filter.mp h2).2
    revert this
    cases isB es t
    · intro _; rfl
    · intro z; exact nomatch z
def twS (m : Nat) (es : List (Int × Int)) (one two : Int) : List Int := nzL es.length (twA m es one two 2)
def tw1 (m : Nat) (es : List (Int × Int)) (one two : Int) : List Int := fwT es (twS m es one two) one two m
def twL (m : Nat) (es : List (Int × Int)) (one two : Int) : List Int := (twS m es one two).filter fun t => !(tw1 m es one two).any (· == t)
def tw2 (m : Nat) (es : List (Int × Int)) (one two : Int) : List Int := fwT es (twL m es one two) one two m
structure TwR (es : List (Int × Int)) (one two : Int) (as bs : List Int) : Prop where
  w1 : ∃ ss ps, Way es ss one as ps two
  w2 : ∃ ss ps, Way es ss one bs ps two
  dis : ∀ t ∈ as, ¬ t ∈ bs
  cn : Cn (sub es (kpt es es.length)) one two
theorem two_yes {m : Int} {es : List (Int × Int)} {as ts ps : List Int} {one two : Int} (hE : ∀ e ∈ es, 0 ≤ e.1 ∧ e.1 < m ∧ 0 ≤ e.2 ∧ e.2 < m) (o0 : 0 ≤ one) (o1 : one < m) (t0 : 0 ≤ two) (t1 : two < m) (I : TwI es one two 2 as) : Cn (sub es (nzL es.length as)) one two ∧ (Way es (nzL es.length as) one ts ps two → Cn (sub es ((nzL es.length as).filter fun t => !ts.any (· == t))) one two ∧ Cn (sub es (kpt es es.length)) one two) := by
  have hr : ∀ t ∈ nzL es.length as, 0 ≤ t ∧ t < (es.length : Int) := fun t ht => ⟨(mem_nzL.mp ht).1, (mem_nzL.mp ht).2.1⟩
  refine ⟨two_cn (k := 2) hE hr o0 o1 t0 t1 (by decide) (fun t ht hn => mem_nzL.mpr ⟨by lia, by lia, by rw [Int.toNat_natCast]; exact hn⟩) I.gn, fun W => ?_⟩
  have hr2 : ∀ t ∈ (nzL es.length as).filter fun t => !ts.any (· == t), 0 ≤ t ∧ t < (es.length : Int) := fun t ht => hr t (List.mem_filter.mp ht).1
  have c2 := par_cn hE hr2 o0 o1 t0 t1 (rest_odd (even_two I.bd I.gn) W fun t ht => (W.sub t ht).1)
  refine ⟨c2, ?_⟩
  have nb := W.nobr hr2 (fun t ht z => by
    have := (List.mem_filter.mp ht).2
    rw [show ts.any (· == t) = true from memI_iff.mpr z] at this
    exact nomatch this) c2
  refine Cn.mono (fun e he => ?_) W.cnT
  obtain ⟨t, ht, rfl⟩ := List.mem_map.mp he
  have hs := (W.sub t ht).2
  exact List.mem_map.mpr ⟨t, List.mem_filter.mpr ⟨mem_upto.mpr hs, by rw [nb t ht]; rfl⟩, rfl⟩
def spTw (K : PySem.W.Frag) (c : Cs) : Sp := fun vs H Q E => ∃ (x : Addr) (one two m : Int) (es : List (Int × Int)), vs = [.ref x, .int one, .int two] ∧ WebAt K c.Web H x m es ∧ m ≤ 20 ∧ es.length ≤ 40 ∧ EndsIn es m ∧ (¬ (0 ≤ one ∧ one < m ∧ 0 ≤ two ∧ two < m) → E (.ref c.BadPlace) none H) ∧
  (0 ≤ one → one < m → 0 ≤ two → two < m → ¬ Cn (sub es (kpt es es.length)) one two → ∀ H', Same H H' → Q .non H') ∧
  (0 ≤ one → one < m → 0 ≤ two → two < m → ∀ t l1 l2 H', H l1 = none → H l2 = none → l1 ≠ l2 → Same H H' → H' t = some (.tup [.ref l1, .ref l2]) → H' l1 = some (.lst ((tw1 m.toNat es one two).map V.int)) → H' l2 = some (.lst ((tw2 m.toNat es one two).map V.int)) → TwR es one two (tw1 m.toNat es one two) (tw2 m.toNat es one two) → Q (.ref t) H')
theorem scTw : FnScope ["web", "one", "two", "some", "first", "second"] ["web", "one", "two"] (defScope sTw) := ⟨rfl, rfl, rfl, by decide +kernel, rfl, by decide +kernel, by decide +kernel⟩
set_option maxHeartbeats 8000000 in
theorem ok_Tw {f : Addr} {fd : FuncData} (F : Fun K "two_ways" "two_ways" sTw f fd) (T : Txt K mg c) (D_Pl : DefE P w K mg base 1 "check_place" ["web", "place"] (spPl K c.Web c.BadPlace)) (D_Tf : Def P w K mg base 3 "ties_for_two_ways" ["web", "one", "two"] (spTf K c)) (D_Fw : Def P w K mg base 2 "find_way" ["web", "some", "start", "goal"] (spFw K c)) : FnOk P w K mg base (CXE P w) 4 f fd ["web", "one", "two"] (spTw K c) := by
  refine F.okE scTw (fun vs H Q E h => ?_) (fun cdv A outer s H vs Q E hr h => ?_)
  · obtain ⟨x, one, two, m, es, rfl, _⟩ := h
    rfl
  · obtain ⟨x, one, two, m, es, rfl, hw, m2, he, hE, k1, k2, k3⟩ := h
    have hu : A.units + 3 + 64 < cLine := hr.units
    refine ⟨_, pss_cons (ps_expr (pe_defE D_Pl hr rfl rfl (pa_cons (pv 0) (pa_cons (pv 1) pa_nil))))
      (pss_cons (ps_expr (pe_defE D_Pl hr rfl rfl (pa_cons (pv 0) (pa_cons (pv 2) pa_nil))))
      (pss_cons (ps_set (i := 3) scTw.nd rfl (Or.inl rfl) (pe_defR D_Tf hr (pa_cons (pv 0) (pa_cons (pv 1) (pa_cons (pv 2) pa_nil)))))
      (pss_cons (ps_if (pt_cmpR op_isN (pv 3) (pe_non) (nomark _))
        (pss_one (ps_ret (pe_non))) (pss_nil))
      (pss_cons (ps_set (i := 4) scTw.nd rfl (Or.inr rfl) (pe_defR D_Fw hr (pa_cons (pv 0) (pa_cons (pv 3) (pa_cons (pv 1) (pa_cons (pv 2) pa_nil))))))
      (pss_cons (ps_set (i := 5) scTw.nd rfl (Or.inl rfl) (pe_defR D_Fw hr (pa_cons (pv 0) (pa_cons (pe_lc (N' := ["tie", "first"]) (nl := 1) (js := [4]) rfl (.of (osc := defScope sTw) (N := ["web", "one", "two", "some", "first", "second"]) (by decide +kernel) rfl rfl) (piSeq (K := K) rfl (pv 3))
        (fun _ _ _ _ => pg_name (i := 0) (show (["tie", "first"] : List Str).Nodup by decide +kernel) rfl (Or.inl rfl)) (fun _ _ _ _ => pif_one (pt_cmpR (opNotIn (K := K) rfl) (pv 0) (pv 1) (by with_unfolding_all rfl)))
        (fun _ _ _ _ => pv 0)) (pa_cons (pv 1) (pa_cons (pv 2) pa_nil))))))
      (pss_one (ps_ret (pe_tup (pa_cons (pv 4) (pa_cons (pv 5) pa_nil)))))))))), ?_⟩
    clear hu
    refine ⟨_, rfl, _, rfl, x, one, m, es, rfl, hw, fun o0 o1 => ?_, fun z => k1 fun y => z ⟨y.1, y.2.1⟩⟩
    refine ⟨_, rfl, _, rfl, x, two, m, es, rfl, hw, fun t0 t1 => ?_, fun z => k1 fun y => z y.2.2⟩
    refine ⟨_, rfl, _, rfl, _, rfl, x, one, two, m, es, rfl, hw, o0, o1, t0, t1, m2, he, hE, fun nt H1 s1 => ?_, fun I l H1 nl s1 e1 => ?_⟩
    · exact ⟨_, rfl, rfl, _, rfl, ite2 (fun _ => k2 o0 o1 t0 t1 (two_no nt) H1 s1) (fun z => absurd (decide_eq_true (rfl : V.non = V.non)) z)⟩
    refine ⟨_, rfl, rfl, _, rfl, ite2 (fun z => nomatch of_decide_eq_true z) (fun _ => ?_)⟩
    have e1' : H1 l = some (.lst ((twS m.toNat es one two).map V.int)) := e1
    have hr1 : ∀ t ∈ twS m.toNat es one two, 0 ≤ t ∧ t < (es.length : Int) := fun t ht => ⟨(mem_nzL.mp ht).1, (mem_nzL.mp ht).2.1⟩
    have hsl : (twS m.toNat es one two).length ≤ 40 := Nat.le_trans (List.length_filter_le _ _) (by rw [upto_len]; exact he)
    have hc1 : Cn (sub es (twS m.toNat es one two)) one two := (two_yes (ts := []) (ps := []) hE o0 o1 t0 t1 I).1
    refine ⟨_, rfl, _, rfl, _, rfl, _, rfl, x, l, one, two, m, es, _, rfl, hw.same s1, SqL.of e1', hr1, by lia, o0, o1, m2, hE, fun hn => absurd hc1 hn, fun l1 ts ps H2 s2 nl1 e2 W1 ets => ?_⟩
    have ets' : ts = tw1 m.toNat es one two := ets
    rw [ets'] at e2 W1
    have hy := (two_yes hE o0 o1 t0 t1 I).2 W1
    have hc2 : Cn (sub es (twL m.toNat es one two)) one two := hy.1
    have s12 := s1.trans s2
    obtain ⟨A1, eA⟩ : ∃ A1, A1 = tw1 m.toNat es one two := ⟨_, rfl⟩
    obtain ⟨S1, eS⟩ : ∃ S1, S1 = twS m.toNat es one two := ⟨_, rfl⟩
    have eL : twL m.toNat es one two = S1.filter fun t => !A1.any (· == t) := by rw [eA, eS]; rfl
    have e22 : H2 l1 = some (.lst (A1.map V.int)) := by rw [eA]; exact e2
    have e12 : H2 l = some (.lst (S1.map V.int)) := by rw [eS]; exact s2 _ _ e1'
    have hsl' : S1.length ≤ 40 := by rw [eS]; exact hsl
    have hom : (S1.map V.int).length = S1.length := List.length_map ..
    have fl : ∀ i, ((S1.take i).filter fun t => !A1.any (· == t)).length ≤ i := fun i => Nat.le_trans (List.length_filter_le _ _) (by rw [List.length_take]; lia)
    refine ⟨_, rfl, _, rfl, l, _, rfl, .inl (SqL.of e12), fun J C O hC => lc_by O (fun i ys H3 => H3 = H2 ∧ ys = ((S1.take i).filter fun t => !A1.any (· == t)).map V.int) (by rw [hom]; exact Nat.le_of_lt (small1000 (by lia))) ⟨rfl, rfl⟩ ?_ ?_ ?_⟩
    · rintro i ys H3 hi ⟨rfl, rfl⟩
      exact ⟨hC _ (Same.refl _), by rw [List.length_map]; exact fl i⟩
    · rintro i ys H3 hi ⟨rfl, rfl⟩
      obtain ⟨v, ev, gv⟩ := getD_map_int hi
      rw [hom] at hi
      have hl2 := fl i
      try dsimp only
      rw [ev]
      refine ⟨wk_set rfl, _, rfl, _, rfl, l1, _, rfl, .inl (SqL.of e22), rfl, flat_ints _, _, rfl, ?_⟩
      rw [if_pos rfl, inV_ints]
      refine ite2 (fun c1 => ?_) (fun c1 => ?_)
      · refine ⟨_, rfl, small1000 (by rw [List.length_map]; lia), _, by lia, rfl, by lia, rfl, ?_⟩
        rw [take_snoc gv, List.filter_append, List.map_append, List.filter_cons_of_pos (p := fun t => !A1.any (· == t)) c1]; rfl
      · refine ⟨_, by lia, rfl, by lia, rfl, ?_⟩
        rw [take_snoc gv, List.filter_append, List.map_append, List.filter_cons_of_neg (p := fun t => !A1.any (· == t)) c1]; exact (List.append_nil _).symm
    rintro ys H3 ⟨rfl, rfl⟩ lb nlb
    rw [hom, List.take_length, ← eL]
    have s3 := Same.new (o := .lst ((twL m.toNat es one two).map V.int)) nlb
    have e3 : (upd H3 lb (.lst ((twL m.toNat es one two).map V.int))) lb = some (.lst ((twL m.toNat es one two).map V.int)) := upd_same
    generalize upd H3 lb (.lst ((twL m.toNat es one two).map V.int)) = H4 at s3 e3
    have s14 := s12.trans s3
    have hll : (twL m.toNat es one two).length ≤ 40 := Nat.le_trans (List.length_filter_le _ _) hsl
    refine ⟨_, rfl, _, rfl, x, lb, one, two, m, es, _, rfl, hw.same s14, SqL.of e3, fun t ht => hr1 t (List.mem_filter.mp ht).1, by lia, o0, o1, m2, hE, fun hn => absurd hc2 hn, fun l2 ts2 ps2 H5 s5 nl2 e5 W2 ets2 => ?_⟩
    have ets2' : ts2 = tw2 m.toNat es one two := ets2
    rw [ets2'] at e5 W2
    have e15 := (s3.trans s5) _ _ e2
    have n12 : l1 ≠ l2 := ne_of_none (s3 _ _ e2) nl2
    refine ⟨_, rfl, _, rfl, (by show 2 ≤ sizeLine; decide), fun t nt => ?_⟩
    have s6 := Same.new (o := .tup [V.ref l1, V.ref l2]) nt
    refine k3 o0 o1 t0 t1 t l1 l2 _ (none_back s1 nl1) (none_back s14 nl2) n12 ((s14.trans s5).trans s6) upd_same (s6 _ _ e15) (s6 _ _ e5) ⟨⟨_, _, W1⟩, ⟨_, _, W2⟩, fun z h1 h2 => ?_, hy.2⟩
    have := (List.mem_filter.mp (W2.sub z h2).1).2
    rw [show (tw1 m.toNat es one two).any (· == z) = true from memI_iff.mpr h1] at this
    exact nomatch this
def spC (K : PySem.W.Frag) : Sp := fun vs H Q _ => ∃ (a : Addr) (ns : List Int) (k : Int), vs = [.ref a, .int k] ∧ SqL K H a (ns.map V.int) ∧ 0 ≤ k ∧ Q (.int (ns.getD k.toNat 0)) H
theorem scC : FnScope ["script", "k"] ["script", "k"] (defScope sC) := ⟨rfl, rfl, rfl, by decide +kernel, rfl, by decide +kernel, by decide +kernel⟩
theorem ok_C {f : Addr} {fd : FuncData} (F : Fun K "_law_cell" "_law_cell" sC f fd) (T : Txt K mg c) : FnOk P w K mg base CX0 1 f fd ["script", "k"] (spC K) := by
  refine F.ok scC (fun vs H Q E h => ?_) (fun cdv A outer s H vs Q E hr h => ?_)
  · obtain ⟨a, ns, k, rfl, _⟩ := h
    rfl
  · obtain ⟨a, ns, k, rfl, hS, h0, q⟩ := h
    refine ⟨_, pss_cons (ps_if (pt_cmpR op_lt (pv 1) (pe_callB (cLen (K := K) rfl) (by rfl) T.len PySem.boot_len (pa_cons (pv 0) pa_nil)) (nomark _))
        (pss_one (ps_ret (pe_ix (ixL (K := K) rfl) (pv 0) (pv 1) (fun _ _ => rfl)))) (pss_nil))
      (pss_one (ps_ret (pe_int))), ?_⟩
    refine ⟨_, rfl, _, rfl, a, _, rfl, .inl hS, _, _, rfl, rfl, _, rfl, ?_⟩
    refine ite2 (fun c => ?_) (fun c => ?_)
    · have c' := of_decide_eq_true c
      rw [List.length_map] at c'
      exact ⟨_, rfl, _, rfl, a, _, k, _, rfl, rfl, hS, at_int h0 c', q⟩
    · have c' : ¬ k < ((ns.map V.int).length : Int) := fun z => c (decide_eq_true z)
      rw [List.length_map] at c'
      have e : ns.getD k.toNat 0 = 0 := by rw [List.getD_eq_getElem?_getD, List.getElem?_eq_none (by lia)]; rfl
      rw [e] at q
      exact q
def spH (_ : PySem.W.Frag) : Sp := fun vs H Q _ => ∃ i, vs = [.int i] ∧ Q (.bl true) H
theorem scH : FnScope ["found"] ["found"] (defScope sH) := ⟨rfl, rfl, rfl, by decide +kernel, rfl, by decide +kernel, by decide +kernel⟩
theorem ok_H {f : Addr} {fd : FuncData} (F : Fun K "_law_whole" "_law_whole" sH f fd) (T : Txt K mg c) : FnOk P w K mg base CX0 1 f fd ["found"] (spH K) := by
  refine F.ok scH (fun vs H Q E h => ?_) (fun cdv A outer s H vs Q E hr h => ?_)
  · obtain ⟨i, rfl, _⟩ := h
    rfl
  · obtain ⟨i, rfl, k⟩ := h
    refine ⟨_, pss_one (ps_ret (pe_and (pe_callB (cIs (K := K) rfl) (by rfl) T.isinstance PyProof.Rows.boot_isinstance (pa_cons (pv 0) (pa_cons (pe_bltn (v := .ty "int") (by rfl) T.int PyProof.Rows.boot_int rfl) pa_nil))) (pe_one (pe_not (pe_callB (cIs (K := K) rfl) (by rfl) T.isinstance PyProof.Rows.boot_isinstance (pa_cons (pv 0) (pa_cons (pe_bltn (v := .ty "bool") (by rfl) T.bool PyProof.Rows.boot_bool rfl) pa_nil))))))), ?_⟩
    refine ⟨_, rfl, _, _, _, _, true, rfl, rfl, fun _ z => z, .of (.int i), kit_self _ _, true, rfl, iteT ?_⟩
    exact ⟨_, rfl, _, _, _, _, false, rfl, rfl, fun _ z => z, .of (.int i), kIntBool, false, rfl, k⟩
def spX (K : PySem.W.Frag) (c : Cs) : Sp := fun vs H Q _ => ∃ (a A : Addr), vs = [.ref a] ∧ H a = some (.ext (ExcO a (.ref A))) ∧ Alone K c A ∧ ∀ H', Same H H' → Q (.bl true) H'
theorem scX : FnScope ["e", "kinds"] ["e"] (defScope sX) := ⟨rfl, rfl, rfl, by decide +kernel, rfl, by decide +kernel, by decide +kernel⟩
theorem ok_X {f : Addr} {fd : FuncData} (F : Fun K "_law_alone" "_law_alone" sX f fd) (T : Txt K mg c) : FnOkC P w K mg base 1 f fd ["e"] (spX K c) := by
  refine F.okC scX (fun vs H Q E h => ?_) (fun cdv A outer s H vs Q E hr h => ?_)
  · obtain ⟨a, A, rfl, _⟩ := h
    rfl
  · obtain ⟨a, B, rfl, ha, al, k⟩ := h
    obtain ⟨b1, b2, b3, b4, b5, b6, b7, b8, b9, b10, b11, h1, h2, h3, h4, h5, h6, h7, h8, h9, h10, h11, cnt⟩ := al.ks
    refine ⟨_, pss_cons (ps_set (i := 1) scX.nd rfl (Or.inl rfl) (pe_lst (pa_cons (pe_callB (cIsE (K := K) rfl) (by rfl) T.isinstance PyProof.Rows.boot_isinstance (pa_cons (pv 0) (pa_cons (pe_glob (v := .ref c.BadWeb) (by rfl) T.mBadWeb rfl) pa_nil))) (pa_cons (pe_callB (cIsE (K := K) rfl) (by rfl) T.isinstance PyProof.Rows.boot_isinstance (pa_cons (pv 0) (pa_cons (pe_glob (v := .ref c.TooMany) (by rfl) T.mTooMany rfl) pa_nil))) (pa_cons (pe_callB (cIsE (K := K) rfl) (by rfl) T.isinstance PyProof.Rows.boot_isinstance (pa_cons (pv 0) (pa_cons (pe_glob (v := .ref c.BadPlace) (by rfl) T.mBadPlace rfl) pa_nil))) (pa_cons (pe_callB (cIsE (K := K) rfl) (by rfl) T.isinstance PyProof.Rows.boot_isinstance (pa_cons (pv 0) (pa_cons (pe_glob (v := .ref c.BadTie) (by rfl) T.mBadTie rfl) pa_nil))) pa_nil))))))
      (pss_cons (ps_set (i := 1) scX.nd rfl (Or.inl rfl) (pe_op op_cat (pv 1) (pe_lst (pa_cons (pe_callB (cIsE (K := K) rfl) (by rfl) T.isinstance PyProof.Rows.boot_isinstance (pa_cons (pv 0) (pa_cons (pe_glob (v := .ref c.BadFlow) (by rfl) T.mBadFlow rfl) pa_nil))) (pa_cons (pe_callB (cIsE (K := K) rfl) (by rfl) T.isinstance PyProof.Rows.boot_isinstance (pa_cons (pv 0) (pa_cons (pe_glob (v := .ref c.BadRest) (by rfl) T.mBadRest rfl) pa_nil))) (pa_cons (pe_callB (cIsE (K := K) rfl) (by rfl) T.isinstance PyProof.Rows.boot_isinstance (pa_cons (pv 0) (pa_cons (pe_glob (v := .ref c.NoFlow) (by rfl) T.mNoFlow rfl) pa_nil))) (pa_cons (pe_callB (cIsE (K := K) rfl) (by rfl) T.isinstance PyProof.Rows.boot_isinstance (pa_cons (pv 0) (pa_cons (pe_glob (v := .ref c.BadSet) (by rfl) T.mBadSet rfl) pa_nil))) pa_nil)))))))
      (pss_cons (ps_set (i := 1) scX.nd rfl (Or.inl rfl) (pe_op op_cat (pv 1) (pe_lst (pa_cons (pe_callB (cIsE (K := K) rfl) (by rfl) T.isinstance PyProof.Rows.boot_isinstance (pa_cons (pv 0) (pa_cons (pe_glob (v := .ref c.BadPaper) (by rfl) T.mBadPaper rfl) pa_nil))) (pa_cons (pe_callB (cIsE (K := K) rfl) (by rfl) T.isinstance PyProof.Rows.boot_isinstance (pa_cons (pv 0) (pa_cons (pe_glob (v := .ref c.BadText) (by rfl) T.mBadText rfl) pa_nil))) (pa_cons (pe_callB (cIsE (K := K) rfl) (by rfl) T.isinstance PyProof.Rows.boot_isinstance (pa_cons (pv 0) (pa_cons (pe_glob (v := .ref c.BadDeed) (by rfl) T.mBadDeed rfl) pa_nil))) pa_nil))))))
      (pss_one (ps_ret (pe_and (pe_cmpR op_eq (pe_bm PySem.F.plainAttrs_list PySem.F.slot_list_count PySem.F.type_list_count (mCount (K := K) rfl) (pv 1) (pa_cons (pe_bl) pa_nil)) (pe_int) (nomark _)) (pe_and (pe_callB (cIsE (K := K) rfl) (by rfl) T.isinstance PyProof.Rows.boot_isinstance (pa_cons (pv 0) (pa_cons (pe_glob (v := .ref c.FlowError) (by rfl) T.mFlowError rfl) pa_nil))) (pe_one (pe_callB (cIsE (K := K) rfl) (by rfl) T.isinstance PyProof.Rows.boot_isinstance (pa_cons (pv 0) (pa_cons (pe_bltn (v := .ty "ValueError") (by rfl) T.ValueError (show bootBuiltins "ValueError" = some (.type "ValueError") by decide +kernel) rfl) pa_nil)))))))))), ?_⟩
    refine ⟨_, rfl, a, B, _, _, b1, rfl, rfl, fun _ z => z, ha, al.ex, h1, _, rfl, a, B, _, _, b2, rfl, rfl, fun _ z => z, ha, al.ex, h2, _, rfl, a, B, _, _, b3, rfl, rfl, fun _ z => z, ha, al.ex, h3,
      _, rfl, a, B, _, _, b4, rfl, rfl, fun _ z => z, ha, al.ex, h4, (by show 4 ≤ sizeLine; decide), fun l1 n1 => ?_⟩
    have s1 : Same H (upd H l1 (.lst [.bl b1, .bl b2, .bl b3, .bl b4])) := Same.new n1
    have e1 : (upd H l1 (.lst [.bl b1, .bl b2, .bl b3, .bl b4])) l1 = some (.lst [.bl b1, .bl b2, .bl b3, .bl b4]) := upd_same
    generalize upd H l1 (.lst [.bl b1, .bl b2, .bl b3, .bl b4]) = H1 at s1 e1
    have ha1 := s1 _ _ ha
    refine ⟨_, rfl, _, rfl, a, B, _, _, b5, rfl, rfl, fun _ z => z, ha1, al.ex, h5, _, rfl, a, B, _, _, b6, rfl, rfl, fun _ z => z, ha1, al.ex, h6, _, rfl, a, B, _, _, b7, rfl, rfl, fun _ z => z, ha1, al.ex, h7,
      _, rfl, a, B, _, _, b8, rfl, rfl, fun _ z => z, ha1, al.ex, h8, (by show 4 ≤ sizeLine; decide), fun l2 n2 => ?_⟩
    have s2 : Same H1 (upd H1 l2 (.lst [.bl b5, .bl b6, .bl b7, .bl b8])) := Same.new n2
    refine ⟨l1, l2, _, _, rfl, rfl, s2 _ _ e1, upd_same, (by show 8 ≤ sizeLine; decide), fun l3 n3 => ?_⟩
    have s3 : Same H (upd (upd H1 l2 (.lst [.bl b5, .bl b6, .bl b7, .bl b8])) l3 (.lst ([.bl b1, .bl b2, .bl b3, .bl b4] ++ [.bl b5, .bl b6, .bl b7, .bl b8]))) := (s1.trans s2).next n3
    have e3 : (upd (upd H1 l2 (.lst [.bl b5, .bl b6, .bl b7, .bl b8])) l3 (.lst ([.bl b1, .bl b2, .bl b3, .bl b4] ++ [.bl b5, .bl b6, .bl b7, .bl b8]))) l3 = some (.lst ([.bl b1, .bl b2, .bl b3, .bl b4] ++ [.bl b5, .bl b6, .bl b7, .bl b8])) := upd_same
    generalize upd (upd H1 l2 (.lst [.bl b5, .bl b6, .bl b7, .bl b8])) l3 (.lst ([.bl b1, .bl b2, .bl b3, .bl b4] ++ [.bl b5, .bl b6, .bl b7, .bl b8])) = H3 at s3 e3
    have ha3 := s3 _ _ ha
    refine ⟨_, rfl, _, rfl, a, B, _, _, b9, rfl, rfl, fun _ z => z, ha3, al.ex, h9, _, rfl, a, B, _, _, b10, rfl, rfl, fun _ z => z, ha3, al.ex, h10, _, rfl, a, B, _, _, b11, rfl, rfl, fun _ z => z, ha3, al.ex, h11,
      (by show 3 ≤ sizeLine; decide), fun l4 n4 => ?_⟩
    have s4 : Same H3 (upd H3 l4 (.lst [.bl b9, .bl b10, .bl b11])) := Same.new n4
    refine ⟨l3, l4, _, _, rfl, rfl, s4 _ _ e3, upd_same, (by show 11 ≤ sizeLine; decide), fun l5 n5 => ?_⟩
    have s5 := (s3.trans s4).next (o := .lst (([.bl b1, .bl b2, .bl b3, .bl b4] ++ [.bl b5, .bl b6, .bl b7, .bl b8]) ++ [.bl b9, .bl b10, .bl b11])) n5
    have ha5 := s5 _ _ ha
    refine ⟨_, rfl, .inl ⟨rfl, _, SqL.of upd_same⟩, l5, _, _, rfl, rfl, SqL.of upd_same, rfl, rfl, rfl, _, rfl, ?_⟩
    rw [show (([V.bl b1, V.bl b2, V.bl b3, V.bl b4] ++ [V.bl b5, V.bl b6, V.bl b7, V.bl b8]) ++ [V.bl b9, V.bl b10, V.bl b11]).countP (fun z => eqV z (V.bl true)) = 1 from cnt]
    refine iteT ⟨_, rfl, a, B, _, _, true, rfl, rfl, fun _ z => z, ha5, al.ex, al.fe, _, rfl, iteT ⟨_, rfl, a, B, _, _, true, rfl, rfl, fun _ z => z, ha5, al.ex, al.ve, k _ s5⟩⟩
def spE (K : PySem.W.Frag) : Sp := fun vs H Q _ => ∃ (a : Addr) (ns : List Int) (m c y : Int), vs = [.ref a, .int m, .int c, .int y] ∧ SqL K H a (ns.map V.int) ∧ 1 ≤ m ∧ m ≤ 1000 ∧ 0 ≤ c ∧ c ≤ 1000 ∧
  ∀ (l : Addr) (xs : List V) (es : List (Int × Int)) (H' : Hp), H l = none → Same H H' → H' l = some (.lst xs) → Pairs K H' xs es → es.length = c.toNat → EndsIn es m → Q (.ref l) H'
theorem scE : FnScope ["script", "many", "count", "way", "rest", "found", "k", "cell", "mixed"] ["script", "many", "count", "way"] (defScope sE) := ⟨rfl, rfl, rfl, by decide +kernel, rfl, by decide +kernel, by decide +kernel⟩
set_option maxHeartbeats 4000000 in
theorem ok_E {f : Addr} {fd : FuncData} (F : Fun K "_law_ends" "_law_ends" sE f fd) (T : Txt K mg c) (D_C : Def P w K mg base 1 "_law_cell" ["script", "k"] (spC K)) : FnOk P w K mg base CX0 2 f fd ["script", "many", "count", "way"] (spE K) := by
  refine F.ok scE (fun vs H Q E h => ?_) (fun cdv A outer s H vs Q E hr h => ?_)
  · obtain ⟨a, ns, m, c, y, rfl, _⟩ := h
    rfl
  · obtain ⟨a, ns, m, c, y, rfl, hS, m1, m2, c1, c2, k⟩ := h
    refine ⟨_, pss_cons (ps_cut (ps_set (i := 4) scE.nd rfl (Or.inl rfl) (pe_callB call_abs (by rfl) T.abs PyProof.Rows.boot_abs (pa_cons (pe_defR D_C hr (pa_cons (pv 0) (pa_cons (pe_int) pa_nil))) pa_nil))))
      (pss_cons (ps_set (i := 5) scE.nd rfl (Or.inl rfl) (pe_lst pa_nil))
      (pss_cons (ps_for PassesOwn.never rfl (pi_range1 rfl T.range (pa_cons (pv 2) pa_nil)) (pg_name (i := 6) scE.nd rfl (Or.inl rfl))
        (pss_cons (ps_set (i := 7) scE.nd rfl (Or.inl rfl) (pe_defR D_C hr (pa_cons (pv 0) (pa_cons (pe_op op_add (pe_int) (pv 6)) pa_nil))))
      (pss_cons (ps_cut (ps_if (pt_cmpR op_eq (pv 3) (pe_int) (nomark _))
        (pss_cons (ps_set (i := 7) scE.nd rfl (Or.inl rfl) (pv 4))
      (pss_one (ps_set (i := 4) scE.nd rfl (Or.inl rfl) (pe_op op_fdiv (pv 4) (pe_op op_mul (pv 1) (pv 1)))))) (pss_nil)))
      (pss_cons (ps_cut (ps_if (pt_cmpR op_eq (pv 3) (pe_int) (nomark _))
        (pss_cons (ps_cut (ps_set (i := 8) scE.nd rfl (Or.inl rfl) (pe_op op_mod (pe_op op_mul (pe_op op_add (pe_op op_add (pe_op op_mod (pe_defR D_C hr (pa_cons (pv 0) (pa_cons (pe_int) pa_nil))) (pe_int)) (pe_op op_mul (pe_int) (pv 6))) (pe_int)) (pe_int)) (pe_int))))
      (pss_cons (ps_cut (ps_set (i := 8) scE.nd rfl (Or.inl rfl) (pe_op op_mod (pe_op op_mul (pv 8) (pv 8)) (pe_int))))
      (pss_one (ps_set (i := 7) scE.nd rfl (Or.inl rfl) (pe_op op_fdiv (pe_op op_mod (pe_op op_mul (pv 8) (pe_int)) (pe_int)) (pe_int)))))) (pss_nil)))
      (pss_one (ps_expr (pe_bm PySem.F.plainAttrs_list PySem.F.slot_list_append PySem.F.type_list_append mt_append (pv 5) (pa_cons (pe_tup (pa_cons (pe_op op_mod (pv 7) (pv 1)) (pa_cons (pe_op op_mod (pe_op op_fdiv (pv 7) (pv 1)) (pv 1)) pa_nil))) pa_nil))))))))
      (pss_one (ps_ret (pv 5))))), ?_⟩
    refine ⟨fun σ' H' => H' = H ∧ ∃ r, σ' = [some (.ref a), some (.int m), some (.int c), some (.int y), some (.int r), none, none, none, none], ?_, ?_⟩
    · exact ⟨_, rfl, a, ns, 1, rfl, hS, by decide, _, rfl, rfl, _, rfl⟩
    rintro σ' H ⟨rfl, r0, rfl⟩
    refine ⟨by decide, fun l hl => ?_⟩
    have s0 : Same H (upd H l (.lst [])) := Same.new hl
    refine ⟨_, rfl, c, rfl, by lia, by lia, for_by itok_range (fun i σ H2 => ∃ (r : Int) (xs : List V) (es : List (Int × Int)) (v6 v7 v8 : Option V), σ = [some (.ref a), some (.int m), some (.int c), some (.int y), some (.int r), some (.ref l), v6, v7, v8] ∧
        Same H H2 ∧ H2 l = some (.lst xs) ∧ Pairs K H2 xs es ∧ es.length = i ∧ EndsIn es m) ⟨r0, [], [], none, none, none, rfl, s0, upd_same, .nil, rfl, EndsIn.nil⟩ (fun _ _ _ _ _ => trivial) ?_ ?_⟩
    · rintro i σ H2 hi ⟨r, xs, es, v6, v7, v8, rfl, sH, hl2, hp, he, hE⟩
      refine ⟨_, rfl, _, rfl, _, _, rfl, rfl, a, ns, _, rfl, sH.seq hS, by lia, ?_⟩
      generalize ns.getD ((2 : Int) + (0 + (i : Nat))).toNat 0 = c0
      refine ⟨fun σ' H' => H' = H2 ∧ ∃ r' c', σ' = [some (.ref a), some (.int m), some (.int c), some (.int y), some (.int r'), some (.ref l), some (.int (0 + (i : Nat))), some (.int c'), v8], ?_, ?_⟩
      · refine ⟨_, rfl, rfl, _, rfl, ite2 (fun c1 => ?_) (fun c1 => ?_)⟩
        · have hmm : 0 < m * m := Int.mul_pos (by lia) (by lia)
          have hmm2 : m * m < 1073741824 := by
            have : m * m ≤ 1000 * 1000 := Int.mul_le_mul m2 m2 (by lia) (by decide)
            lia
          refine ⟨_, rfl, _, rfl, _, rfl, _, rfl, _, _, rfl, rfl, .inl ⟨by lia, by lia⟩, _, _, rfl, rfl, ⟨hmm, hmm2⟩, ?_⟩
          exact ⟨rfl, _, _, rfl⟩
        · exact ⟨rfl, _, _, rfl⟩
      · rintro σ' H2 ⟨rfl, r', c', rfl⟩
        refine ⟨fun σ' H' => H' = H2 ∧ ∃ c' v8, σ' = [some (.ref a), some (.int m), some (.int c), some (.int y), some (.int r'), some (.ref l), some (.int (0 + (i : Nat))), some (.int c'), v8], ?_, ?_⟩
        · refine ⟨_, rfl, rfl, _, rfl, ite2 (fun c1 => ?_) (fun c1 => ?_)⟩
          · refine ⟨fun σ' H' => H' = H2 ∧ ∃ q : Int, 0 ≤ q ∧ q < 2147483647 ∧ σ' = [some (.ref a), some (.int m), some (.int c), some (.int y), some (.int r'), some (.ref l), some (.int (0 + (i : Nat))), some (.int c'), some (.int q)], ?_, ?_⟩
            · refine ⟨_, rfl, a, ns, 1, rfl, sH.seq hS, by decide, _, _, rfl, rfl, (by show (0 : Int) < 1000000007; decide), _, rfl, _, _, rfl, rfl, .inl ⟨by decide, by decide⟩, _, _, rfl, rfl, _, _, rfl, rfl, _, _, rfl, rfl, .inr ⟨by decide, by decide⟩, _, _, rfl, rfl, (by show (0 : Int) < 2147483647; decide), rfl, _, Int.emod_nonneg _ (by decide), Int.emod_lt_of_pos _ (by decide), rfl⟩
            rintro σ' H2 ⟨rfl, q, q0, q1, rfl⟩
            refine ⟨fun σ' H' => H' = H2 ∧ ∃ q : Int, 0 ≤ q ∧ q < 2147483647 ∧ σ' = [some (.ref a), some (.int m), some (.int c), some (.int y), some (.int r'), some (.ref l), some (.int (0 + (i : Nat))), some (.int c'), some (.int q)], ?_, ?_⟩
            · refine ⟨_, rfl, _, rfl, _, _, rfl, rfl, .inl ⟨by lia, by lia⟩, _, _, rfl, rfl, (by show (0 : Int) < 2147483647; decide), rfl, _, Int.emod_nonneg _ (by decide), Int.emod_lt_of_pos _ (by decide), rfl⟩
            rintro σ' H2 ⟨rfl, q, q0, q1, rfl⟩
            exact ⟨_, rfl, _, _, rfl, rfl, .inl ⟨by lia, by lia⟩, _, _, rfl, rfl, (by show (0 : Int) < 2147483647; decide), _, _, rfl, rfl, ⟨by decide, by decide⟩, rfl, _, _, rfl⟩
          · exact ⟨rfl, _, _, rfl⟩
        · rintro σ' H2 ⟨rfl, c2, v8, rfl⟩
          refine ⟨_, rfl, .inl ⟨rfl, _, SqL.of hl2⟩, _, rfl, _, rfl, _, _, rfl, rfl, (by show 0 < m; lia), _, rfl, _, rfl, _, _, rfl, rfl, ⟨by lia, by lia⟩, _, rfl, _, _, rfl, rfl, (by show 0 < m; lia), (by show 2 ≤ sizeLine; decide), fun t ht => ?_⟩
          have s2 : Same H2 (upd H2 t (.tup [.int (c2 % m), .int (c2 / m % m)])) := Same.new ht
          have hlt : l ≠ t := ne_of_none hl2 ht
          have hl3 : (upd H2 t (.tup [.int (c2 % m), .int (c2 / m % m)])) l = some (.lst xs) := s2 _ _ hl2
          have hlen := hp.len
          refine ⟨l, _, _, rfl, rfl, hl3, small1000 (by lia), ?_⟩
          refine ⟨r', xs ++ [.ref t], es ++ [(c2 % m, c2 / m % m)], _, _, _, rfl, (sH.trans s2).upd hl, upd_same, ?_, by rw [List.length_append, he]; rfl, hE.snoc ⟨Int.emod_nonneg _ (by lia), Int.emod_lt_of_pos _ (by lia), Int.emod_nonneg _ (by lia), Int.emod_lt_of_pos _ (by lia)⟩⟩
          refine (Pairs.sameX sameX_upd hl3 (hp.same s2)).snoc (e := (c2 % m, c2 / m % m)) ?_
          exact SqT.of (by rw [upd_ne hlt.symm]; exact upd_same)
    · rintro σ H2 ⟨r, xs, es, v6, v7, v8, rfl, sH, hl2, hp, he, hE⟩
      exact ⟨_, rfl, k l xs es H2 hl sH hl2 hp he hE⟩
def spD (K : PySem.W.Frag) : Sp := fun vs H Q _ => ∃ (a : Addr) (ns : List Int) (mo bo : Int), vs = [.ref a, .int mo, .int bo] ∧ SqL K H a (ns.map V.int) ∧ 1 ≤ mo ∧ mo ≤ 20 ∧ 0 ≤ bo ∧ bo ≤ 40 ∧
  ∀ (t l : Addr) (m : Int) (xs : List V) (es : List (Int × Int)) (H' : Hp), H l = none → Same H H' → H' t = some (.tup [.int m, .ref l]) → H' l = some (.lst xs) → Pairs K H' xs es → 1 ≤ m → m ≤ mo → (es.length : Int) ≤ bo → EndsIn es m → Q (.ref t) H'
theorem scD : FnScope ["script", "most", "bound", "lead", "many", "count"] ["script", "most", "bound"] (defScope sD) := ⟨rfl, rfl, rfl, by decide +kernel, rfl, by decide +kernel, by decide +kernel⟩
set_option maxHeartbeats 4000000 in
theorem ok_D {f : Addr} {fd : FuncData} (F : Fun K "_law_drawn" "_law_drawn" sD f fd) (T : Txt K mg c) (D_C : Def P w K mg base 1 "_law_cell" ["script", "k"] (spC K)) (D_E : Def P w K mg base 2 "_law_ends" ["script", "many", "count", "way"] (spE K)) : FnOk P w K mg base CX0 3 f fd ["script", "most", "bound"] (spD K) := by
  refine F.ok scD (fun vs H Q E h => ?_) (fun cdv A outer s H vs Q E hr h => ?_)
  · obtain ⟨a, ns, mo, bo, rfl, _⟩ := h
    rfl
  · obtain ⟨a, ns, mo, bo, rfl, hS, o1, o2, o3, o4, k⟩ := h
    refine ⟨_, pss_cons (ps_set (i := 3) scD.nd rfl (Or.inl rfl) (pe_defR D_C hr (pa_cons (pv 0) (pa_cons (pe_int) pa_nil))))
      (pss_cons (ps_cut (ps_set (i := 4) scD.nd rfl (Or.inl rfl) (pe_op op_add (pe_int) (pe_op op_mod (pv 3) (pv 1)))))
      (pss_cons (ps_cut (ps_set (i := 5) scD.nd rfl (Or.inl rfl) (pe_op op_mod (pe_op op_add (pe_callB (cLen (K := K) rfl) (by rfl) T.len PySem.boot_len (pa_cons (pv 0) pa_nil)) (pe_op op_fdiv (pv 3) (pe_op op_mul (pe_int) (pv 1)))) (pe_op op_add (pv 2) (pe_int)))))
      (pss_one (ps_ret (pe_tup (pa_cons (pv 4) (pa_cons (pe_defR D_E hr (pa_cons (pv 0) (pa_cons (pv 4) (pa_cons (pv 5) (pa_cons (pe_op op_mod (pe_op op_fdiv (pv 3) (pv 1)) (pe_int)) pa_nil))))) pa_nil))))))), ?_⟩
    refine ⟨_, rfl, a, ns, 0, rfl, hS, by decide, ?_⟩
    generalize ns.getD (0 : Int).toNat 0 = f1
    refine ⟨fun σ' H' => H' = H ∧ ∃ m : Int, 1 ≤ m ∧ m ≤ mo ∧ σ' = [some (.ref a), some (.int mo), some (.int bo), some (.int f1), some (.int m), none], ?_, ?_⟩
    · have b1 := Int.emod_nonneg f1 (show mo ≠ 0 by lia)
      have b2 := Int.emod_lt_of_pos f1 (show (0 : Int) < mo by lia)
      exact ⟨_, rfl, _, rfl, _, _, rfl, rfl, (by show 0 < mo; lia), _, _, rfl, rfl, rfl, _, by lia, by lia, rfl⟩
    rintro σ' H ⟨rfl, m, m1, m2, rfl⟩
    refine ⟨fun σ' H' => H' = H ∧ ∃ ct : Int, 0 ≤ ct ∧ ct ≤ bo ∧ σ' = [some (.ref a), some (.int mo), some (.int bo), some (.int f1), some (.int m), some (.int ct)], ?_, ?_⟩
    · have b1 := fun z : Int => Int.emod_nonneg z (show bo + 1 ≠ 0 by lia)
      have b2 := fun z : Int => Int.emod_lt_of_pos z (show (0 : Int) < bo + 1 by lia)
      refine ⟨_, rfl, a, _, rfl, .inl hS, _, rfl, _, rfl, _, _, rfl, rfl, .inl ⟨by decide, by decide⟩, _, _, rfl, rfl, ⟨by lia, by lia⟩, _, _, rfl, rfl, _, rfl, _, _, rfl, rfl, _, _, rfl, rfl, (by show 0 < bo + 1; lia), rfl, _, b1 _, ?_, rfl⟩
      have := b2 (((ns.map V.int).length : Int) + f1 / (3 * mo))
      lia
    rintro σ' H ⟨rfl, ct, ct0, ct1, rfl⟩
    refine ⟨_, rfl, _, rfl, _, rfl, _, rfl, _, rfl, _, rfl, _, _, rfl, rfl, ⟨by lia, by lia⟩, _, _, rfl, rfl, (by show (0 : Int) < 3; decide), a, ns, m, ct, _, rfl, hS, m1, by lia, ct0, by lia, fun l xs es H1 hl sH hl1 hp he hE => ?_⟩
    refine ⟨(by show 2 ≤ sizeLine; decide), fun t ht => ?_⟩
    have s2 : Same H1 (upd H1 t (.tup [.int m, .ref l])) := Same.new ht
    exact k t l _ xs es _ hl (sH.trans s2) upd_same (s2 _ _ hl1) (hp.same s2) m1 m2 (by lia) hE
def spNm (K : PySem.W.Frag) : Sp := fun vs H Q _ => ∃ (l q : Addr) (m : Int) (xs : List V) (es : List (Int × Int)) (ss : List Int), vs = [.int m, .ref l, .ref q] ∧ SqL K H l xs ∧ Pairs K H xs es ∧ SqL K H q (ss.map V.int) ∧ (∀ t ∈ ss, 0 ≤ t ∧ t < (es.length : Int)) ∧ 1 ≤ m ∧ m ≤ 20 ∧ EndsIn es m ∧
  ∀ l2 ls H', H l2 = none → Same H H' → H' l2 = some (.lst (ls.map V.int)) → ls.length = m.toNat → Nam m (sub es ss) (lf ls) → Q (.ref l2) H'
theorem scNm : FnScope ["many", "ends", "some", "names", "number", "one", "two"] ["many", "ends", "some"] (defScope sNm) := ⟨rfl, rfl, rfl, by decide +kernel, rfl, by decide +kernel, by decide +kernel⟩
set_option maxHeartbeats 4000000 in
theorem ok_Nm {f : Addr} {fd : FuncData} (F : Fun K "_law_names" "_law_names" sNm f fd) (T : Txt K mg c) : FnOk P w K mg base CX0 1 f fd ["many", "ends", "some"] (spNm K) := by
  refine F.ok scNm (fun vs H Q E h => ?_) (fun cdv A outer s H vs Q E hr h => ?_)
  · obtain ⟨l, q, m, xs, es, ss, rfl, _⟩ := h
    rfl
  · obtain ⟨l, q, m, xs, es, ss, rfl, hl, hp, hq, hss, m1, m2, hE, k⟩ := h
    refine ⟨_, pss_cons (ps_set (i := 3) scNm.nd rfl (Or.inl rfl) (pe_listrange1 rfl rfl T.list rfl T.range (pa_cons (pv 0) pa_nil)))
      (pss_cons (ps_for PassesOwn.never rfl (piSeq (K := K) rfl (pv 2)) (pg_name (i := 4) scNm.nd rfl (Or.inl rfl))
        (pss_cons (ps_set (i := 5) scNm.nd rfl (Or.inr rfl) (pe_ix (ixL (K := K) rfl) (pv 3) (pe_ix (ixT (K := K) rfl) (pe_ix (ixL (K := K) rfl) (pv 1) (pv 4) (fun _ _ => rfl)) (pe_int) (fun _ _ => rfl)) (fun _ _ => rfl)))
      (pss_cons (ps_set (i := 6) scNm.nd rfl (Or.inr rfl) (pe_ix (ixL (K := K) rfl) (pv 3) (pe_ix (ixT (K := K) rfl) (pe_ix (ixL (K := K) rfl) (pv 1) (pv 4) (fun _ _ => rfl)) (pe_int) (fun _ _ => rfl)) (fun _ _ => rfl)))
      (pss_one (ps_cut (ps_if (pt_cmpR op_ne (pv 5) (pv 6) (nomark _))
        (pss_one (ps_setlc (i := 3) (N' := ["name", "one", "two"]) (nl := 1) (js := [5, 6]) rfl (.of (osc := defScope sNm) (N := ["many", "ends", "some", "names", "number", "one", "two"]) (by decide +kernel) rfl rfl) (piSeq (K := K) rfl (pv 3))
        (fun _ _ _ _ => pg_name (i := 0) (show (["name", "one", "two"] : List Str).Nodup by decide +kernel) rfl (Or.inl rfl)) (fun _ _ _ _ => pif_nil)
        (fun _ _ _ _ => pe_ix (ixL (K := K) rfl) (pe_lst (pa_cons (pv 0) (pa_cons (pv 1) pa_nil))) (pe_callTy call_int1 (by rfl) T.int PyProof.Rows.boot_int (pa_cons (pe_cmpR op_eq (pv 0) (pv 2) (nomark _)) pa_nil)) (fun _ _ => rfl)) scNm.nd rfl rfl)) (pss_nil)))))))
      (pss_one (ps_ret (pv 3)))), ?_⟩
    refine ⟨_, rfl, m, rfl, by lia, by lia, fun l0 nl0 => ?_⟩
    have s0 : Same H (upd H l0 (.lst (((List.range m.toNat).map fun i => 0 + ((i : Nat) : Int)).map V.int))) := Same.new nl0
    have e0 : (upd H l0 (.lst (((List.range m.toNat).map fun i => 0 + ((i : Nat) : Int)).map V.int))) l0 = some (.lst (((List.range m.toNat).map fun i => 0 + ((i : Nat) : Int)).map V.int)) := upd_same
    generalize upd H l0 (.lst (((List.range m.toNat).map fun i => 0 + ((i : Nat) : Int)).map V.int)) = H0 at s0 e0
    refine ⟨_, rfl, q, _, rfl, .inl (s0.seq hq), fun J C O hC => ?_⟩
    refine for_by O (fun i σ H2 => ∃ (lb : Addr) (ls : List Int) (v4 v5 v6 : Option V), σ = [some (.int m), some (.ref l), some (.ref q), some (.ref lb), v4, v5, v6] ∧ Same H0 H2 ∧ H lb = none ∧ H2 lb = some (.lst (ls.map V.int)) ∧ ls.length = m.toNat ∧ Nam m (sub es (ss.take i)) (lf ls)) ⟨l0, _, none, none, none, rfl, Same.refl _, nl0, e0, by rw [List.length_map, List.length_range], Nam.start _ _ rfl⟩ (fun i σ H2 _ h => ?_) ?_ ?_
    · obtain ⟨lb, ls, v4, v5, v6, _, s2, _⟩ := h
      exact hC _ s2
    · rintro i σ H2 hi ⟨lb, ls, v4, v5, v6, rfl, s2, nlb, hl2, hll, hL⟩
      obtain ⟨v, ev, gv⟩ := getD_map_int hi
      have hv := hss v (List.mem_of_getElem? gv)
      have s02 := s0.trans s2
      obtain ⟨r, ar, hr2, hm⟩ := tie_get (hp.same s02) hv.1 hv.2
      obtain ⟨b1, b2, b3, b4⟩ := hE _ hm
      have a1 : atI (ls.map V.int) (tieOf es v).1 = some (.int (lf ls (tieOf es v).1)) := at_int (ns := ls) b1 (by lia)
      have a2 : atI (ls.map V.int) (tieOf es v).2 = some (.int (lf ls (tieOf es v).2)) := at_int (ns := ls) b3 (by lia)
      try dsimp only
      rw [ev]
      refine ⟨_, rfl, _, rfl, _, rfl, l, xs, v, .ref r, rfl, rfl, s02.seq hl, ar, r, _, 0, _, rfl, rfl, hr2, rfl, lb, _, _, _, rfl, rfl, SqL.of hl2, a1, ?_⟩
      refine ⟨_, rfl, _, rfl, _, rfl, l, xs, v, .ref r, rfl, rfl, s02.seq hl, ar, r, _, 1, _, rfl, rfl, hr2, rfl, lb, _, _, _, rfl, rfl, SqL.of hl2, a2, ?_⟩
      have hsub : sub es (ss.take (i + 1)) = sub es (ss.take i) ++ [tieOf es v] := by unfold sub; rw [take_snoc gv, List.map_append]; rfl
      have hES : ∀ a ∈ sub es (ss.take i) ++ [tieOf es v], 0 ≤ a.1 ∧ a.1 < m ∧ 0 ≤ a.2 ∧ a.2 < m := fun a ha => by
        rcases List.mem_append.mp ha with y | y
        · obtain ⟨t, ht, rfl⟩ := List.mem_map.mp y
          have := hss t (List.mem_of_mem_take ht)
          obtain ⟨_, _, _, hm'⟩ := tie_get (hp.same s02) this.1 this.2
          exact hE _ hm'
        · rw [List.mem_singleton.mp y]; exact ⟨b1, b2, b3, b4⟩
      refine ⟨fun σ' H' => ∃ (lb : Addr) (ls : List Int) (v5 v6 : Option V), σ' = [some (.int m), some (.ref l), some (.ref q), some (.ref lb), some (.int v), v5, v6] ∧ Same H0 H' ∧ H lb = none ∧ H' lb = some (.lst (ls.map V.int)) ∧ ls.length = m.toNat ∧ Nam m (sub es (ss.take (i + 1))) (lf ls), ?_, ?_⟩
      · refine ⟨_, rfl, _, rfl, rfl, _, rfl, ?_⟩
        rw [hsub]
        by_cases c1 : lf ls (tieOf es v).1 = lf ls (tieOf es v).2
        · rw [decide_eq_true (show V.int (lf ls (tieOf es v).1) = V.int (lf ls (tieOf es v).2) by rw [c1])]
          exact iteF ⟨lb, ls, _, _, rfl, s2, nlb, hl2, hll, hL.skip c1⟩
        · rw [decide_eq_false (show ¬ V.int (lf ls (tieOf es v).1) = V.int (lf ls (tieOf es v).2) by intro z; injection z with z; exact c1 z)]
          refine iteT ⟨_, rfl, lb, _, rfl, .inl (SqL.of hl2), fun J C O hC => lc_by O (fun j ys H3 => Same H2 H3 ∧ ys = ((ls.map fun n => if n = lf ls (tieOf es v).2 then lf ls (tieOf es v).1 else n).take j).map V.int) (by rw [List.length_map]; exact Nat.le_of_lt (small1000 (by lia))) ⟨Same.refl _, rfl⟩ ?_ ?_ ?_⟩
          · rintro j ys H3 hj ⟨s3, rfl⟩
            exact ⟨hC _ s3, by rw [List.length_map, List.length_take]; lia⟩
          · rintro j ys H3 hj ⟨s3, rfl⟩
            obtain ⟨n, en, gn⟩ := getD_map_int hj
            rw [List.length_map] at hj
            have fin : ∀ u, u = (if n = lf ls (tieOf es v).2 then lf ls (tieOf es v).1 else n) → ((ls.map fun n => if n = lf ls (tieOf es v).2 then lf ls (tieOf es v).1 else n).take j).map V.int ++ [V.int u] = ((ls.map fun n => if n = lf ls (tieOf es v).2 then lf ls (tieOf es v).1 else n).take (j + 1)).map V.int := fun u e => by
              have hv2 : (ls.map fun n => if n = lf ls (tieOf es v).2 then lf ls (tieOf es v).1 else n)[j]? = some u := by rw [List.getElem?_map, gn, e]; rfl
              rw [take_snoc hv2, List.map_append]; rfl
            try dsimp only
            rw [en]
            refine ⟨wk_set rfl, iteT ⟨_, rfl, _, rfl, (by show 2 ≤ sizeLine; decide), fun q1 nq1 => ?_⟩⟩
            have s4 := s3.next (o := .lst [V.int n, V.int (lf ls (tieOf es v).1)]) nq1
            have e4 : (upd H3 q1 (.lst [V.int n, V.int (lf ls (tieOf es v).1)])) q1 = some (.lst [V.int n, V.int (lf ls (tieOf es v).1)]) := upd_same
            generalize upd H3 q1 (.lst [V.int n, V.int (lf ls (tieOf es v).1)]) = H4 at s4 e4
            have hyl : (((ls.map fun n => if n = lf ls (tieOf es v).2 then lf ls (tieOf es v).1 else n).take j).map V.int).length < sizeLine := small1000 (by rw [List.length_map, List.length_take]; lia)
            by_cases c2 : n = lf ls (tieOf es v).2
            · refine ⟨_, rfl, _, rfl, rfl, .inr ⟨true, by rw [decide_eq_true (by rw [c2])], ?_⟩⟩
              exact ⟨q1, _, 1, _, rfl, rfl, SqL.of e4, rfl, hyl, _, by rw [List.length_map]; lia, rfl, by rw [List.length_map]; lia, s4, fin _ (by rw [if_pos c2])⟩
            · refine ⟨_, rfl, _, rfl, rfl, .inr ⟨false, by rw [decide_eq_false (by intro z; injection z with z; exact c2 z)], ?_⟩⟩
              exact ⟨q1, _, 0, _, rfl, rfl, SqL.of e4, rfl, hyl, _, by rw [List.length_map]; lia, rfl, by rw [List.length_map]; lia, s4, fin _ (by rw [if_neg c2])⟩
          · rintro ys H3 ⟨s3, rfl⟩ l3 nl3
            rw [List.length_map, List.take_of_length_le (by rw [List.length_map]; lia)]
            have sN := s3.next (o := .lst ((ls.map fun n => if n = lf ls (tieOf es v).2 then lf ls (tieOf es v).1 else n).map V.int)) nl3
            refine ⟨l3, _, _, _, rfl, s2.trans sN, none_back (s02.trans s3) nl3, upd_same, by rw [List.length_map]; exact hll, ?_⟩
            exact (hL.put ⟨b1, b2, b3, b4⟩).congr hES fun p p0 p1 => (lf_map ls (fun n => if n = lf ls (tieOf es v).2 then lf ls (tieOf es v).1 else n) p p0 (by lia)).symm
      · rintro σ' H' ⟨lb, ls, v5, v6, rfl, h'⟩
        exact ⟨lb, ls, _, _, _, rfl, h'⟩
    · rintro σ H2 ⟨lb, ls, v4, v5, v6, rfl, s2, nlb, hl2, hll, hL⟩
      rw [List.length_map, List.take_length] at hL
      exact ⟨_, rfl, k lb ls H2 nlb (s0.trans s2) hl2 hll hL⟩
def spPa (K : PySem.W.Frag) : Sp := fun vs H Q _ => ∃ (l : Addr) (m : Int) (xs : List V) (es : List (Int × Int)), vs = [.int m, .ref l] ∧ SqL K H l xs ∧ Pairs K H xs es ∧ 1 ≤ m ∧ m ≤ 20 ∧ es.length ≤ 40 ∧ EndsIn es m ∧
  ∀ l2 ls H', H l2 = none → Same H H' → H' l2 = some (.lst (ls.map V.int)) → ls.length = m.toNat → Nam m (sub es (kpt es es.length)) (lf ls) → Q (.ref l2) H'
theorem scPa : FnScope ["many", "ends", "every", "kept", "number", "names"] ["many", "ends"] (defScope sPa) := ⟨rfl, rfl, rfl, by decide +kernel, rfl, by decide +kernel, by decide +kernel⟩
set_option maxHeartbeats 4000000 in
theorem ok_Pa {f : Addr} {fd : FuncData} (F : Fun K "_law_parts" "_law_parts" sPa f fd) (T : Txt K mg c) (D_Nm : Def P w K mg base 1 "_law_names" ["many", "ends", "some"] (spNm K)) : FnOk P w K mg base CX0 2 f fd ["many", "ends"] (spPa K) := by
  refine F.ok scPa (fun vs H Q E h => ?_) (fun cdv A outer s H vs Q E hr h => ?_)
  · obtain ⟨l, m, xs, es, rfl, _⟩ := h
    rfl
  · obtain ⟨l, m, xs, es, rfl, hl, hp, m1, m2, hz, hE, k⟩ := h
    have hxl := hp.len
    refine ⟨_, pss_cons (ps_set (i := 2) scPa.nd rfl (Or.inl rfl) (pe_listrange1 rfl rfl T.list rfl T.range (pa_cons (pe_callB (cLen (K := K) rfl) (by rfl) T.len PySem.boot_len (pa_cons (pv 1) pa_nil)) pa_nil)))
      (pss_cons (ps_set (i := 3) scPa.nd rfl (Or.inl rfl) (pe_lst pa_nil))
      (pss_cons (ps_for PassesOwn.never rfl (piSeqB (K := K) rfl (pv 2)) (pg_name (i := 4) scPa.nd rfl (Or.inr rfl))
        (pss_cons (ps_set (i := 5) scPa.nd rfl (Or.inl rfl) (pe_defR D_Nm hr (pa_cons (pv 0) (pa_cons (pv 1) (pa_cons (pe_lc (N' := ["other", "number"]) (nl := 1) (js := [4]) rfl (.of (osc := defScope sPa) (N := ["many", "ends", "every", "kept", "number", "names"]) (by decide +kernel) rfl rfl) (piSeqB (K := K) rfl (pv 2))
        (fun _ _ _ _ => pg_name (i := 0) (show (["other", "number"] : List Str).Nodup by decide +kernel) rfl (Or.inl rfl)) (fun _ _ _ _ => pif_one (pt_cmpR op_ne (pv 0) (pv 1) (nomark _)))
        (fun _ _ _ _ => pv 0)) pa_nil)))))
      (pss_one (ps_cut (ps_if (pt_cmpR op_eq (pe_ix (ixL (K := K) rfl) (pv 5) (pe_ix (ixT (K := K) rfl) (pe_ix (ixL (K := K) rfl) (pv 1) (pv 4) (fun _ _ => rfl)) (pe_int) (fun _ _ => rfl)) (fun _ _ => rfl)) (pe_ix (ixL (K := K) rfl) (pv 5) (pe_ix (ixT (K := K) rfl) (pe_ix (ixL (K := K) rfl) (pv 1) (pv 4) (fun _ _ => rfl)) (pe_int) (fun _ _ => rfl)) (fun _ _ => rfl)) (nomark _))
        (pss_one (ps_expr (pe_bm PySem.F.plainAttrs_list PySem.F.slot_list_append PySem.F.type_list_append mt_append (pv 3) (pa_cons (pv 4) pa_nil)))) (pss_nil))))))
      (pss_one (ps_ret (pe_defR D_Nm hr (pa_cons (pv 0) (pa_cons (pv 1) (pa_cons (pv 3) pa_nil)))))))), ?_⟩
    refine ⟨_, rfl, l, xs, rfl, .inl hl, (xs.length : Int), rfl, by lia, by lia, fun le nle => ?_⟩
    rw [show ((xs.length : Int)).toNat = es.length from hxl, upto0]
    have s1 := Same.new (o := .lst ((upto es.length).map V.int)) nle
    have e1 : (upd H le (.lst ((upto es.length).map V.int))) le = some (.lst ((upto es.length).map V.int)) := upd_same
    generalize upd H le (.lst ((upto es.length).map V.int)) = H1 at s1 e1
    refine ⟨by decide, fun lk nlk => ?_⟩
    have s2 := s1.next (o := .lst []) nlk
    have e2 := Same.new (o := .lst []) nlk _ _ e1
    have k2 : (upd H1 lk (.lst [])) lk = some (.lst []) := upd_same
    have lkH : H lk = none := none_back s1 nlk
    have nek : le ≠ lk := ne_of_none e1 nlk
    generalize upd H1 lk (.lst []) = H2 at s2 e2 k2
    refine ⟨_, rfl, false, le, _, rfl, SqL.of e2, fun J C O hC => ?_⟩
    refine for_by O (fun i σ H3 => ∃ (v4 v5 : Option V), σ = [some (.int m), some (.ref l), some (.ref le), some (.ref lk), v4, v5] ∧ Same H H3 ∧ H3 le = some (.lst ((upto es.length).map V.int)) ∧ H3 lk = some (.lst ((kpt es i).map V.int))) ⟨none, none, rfl, s2, e2, k2⟩ (fun i σ H3 _ h => ?_) ?_ ?_
    · obtain ⟨v4, v5, _, _, e3, _⟩ := h
      exact hC _ (SqL.of e3)
    · rintro i σ H5 hi ⟨v4, v5, rfl, s5, e5, k5⟩
      rw [List.length_map, upto_len] at hi
      have ev : ((upto es.length).map V.int).getD i .non = .int (i : Int) := by rw [List.getD_eq_getElem?_getD, List.getElem?_map, upto_get hi]; rfl
      have fl : ∀ j, (((upto es.length).take j).filter fun z => decide (z ≠ (i : Int))).length ≤ j := fun j => Nat.le_trans (List.length_filter_le _ _) (by rw [List.length_take]; lia)
      have hkl := kpt_len es i
      try dsimp only
      rw [ev]
      refine ⟨_, rfl, _, rfl, _, rfl, false, le, _, rfl, SqL.of e5, fun J C O hC => lc_by O (fun j ys H6 => H6 = H5 ∧ ys = (((upto es.length).take j).filter fun z => decide (z ≠ (i : Int))).map V.int) (by rw [List.length_map, upto_len]; exact Nat.le_of_lt (small1000 (by lia))) ⟨rfl, rfl⟩ ?_ ?_ ?_⟩
      · rintro j ys H6 hj ⟨rfl, rfl⟩
        exact ⟨hC _ (SqL.of e5), by rw [List.length_map]; exact fl j⟩
      · rintro j ys H6 hj ⟨rfl, rfl⟩
        rw [List.length_map, upto_len] at hj
        have hg := upto_get hj
        have hl2 := fl j
        have hn : ((upto es.length).map V.int).length = es.length := by rw [List.length_map, upto_len]
        try dsimp only
        rw [show ((upto es.length).map V.int).getD j .non = .int (j : Int) by rw [List.getD_eq_getElem?_getD, List.getElem?_map, hg]; rfl]
        refine ⟨wk_set rfl, _, rfl, _, rfl, rfl, _, rfl, ?_⟩
        have hd : (!decide (V.int (j : Int) = V.int (i : Int))) = decide ((j : Int) ≠ (i : Int)) := by
          by_cases e : (j : Int) = (i : Int)
          · rw [decide_eq_true (show V.int (j : Int) = V.int (i : Int) by rw [e]), decide_eq_false (fun z => z e)]; rfl
          · rw [decide_eq_false (show ¬ V.int (j : Int) = V.int (i : Int) by intro z; injection z with z; exact e z), decide_eq_true e]; rfl
        rw [hd]
        refine ite2 (fun c1 => ?_) (fun c1 => ?_)
        · refine ⟨_, rfl, small1000 (by rw [List.length_map]; lia), _, by lia, rfl, by lia, rfl, ?_⟩
          rw [take_snoc hg, List.filter_append, List.map_append, List.filter_cons_of_pos (p := fun z => decide (z ≠ (i : Int))) c1]; rfl
        · refine ⟨_, by lia, rfl, by lia, rfl, ?_⟩
          rw [take_snoc hg, List.filter_append, List.map_append, List.filter_cons_of_neg (p := fun z => decide (z ≠ (i : Int))) c1]; exact (List.append_nil _).symm
      · rintro ys H6 ⟨rfl, rfl⟩ lo nlo
        rw [List.length_map, List.take_length, show ((upto es.length).filter fun z => decide (z ≠ (i : Int))) = oth es.length (i : Int) from rfl]
        have s6 := s5.next (o := .lst ((oth es.length (i : Int)).map V.int)) nlo
        have o6 : (upd H6 lo (.lst ((oth es.length (i : Int)).map V.int))) lo = some (.lst ((oth es.length (i : Int)).map V.int)) := upd_same
        have c6 := Same.new (o := .lst ((oth es.length (i : Int)).map V.int)) nlo _ _ k5
        have e6 := Same.new (o := .lst ((oth es.length (i : Int)).map V.int)) nlo _ _ e5
        generalize upd H6 lo (.lst ((oth es.length (i : Int)).map V.int)) = H7 at s6 o6 c6 e6
        refine ⟨l, lo, m, xs, es, _, rfl, s6.seq hl, hp.same s6, SqL.of o6, fun t ht => (mem_oth.mp ht).1, m1, m2, hE, fun ln ls H8 nln s8 n8 hll hN => ?_⟩
        have s68 := s6.trans s8
        have c8 := s8 _ _ c6
        have e8 := s8 _ _ e6
        obtain ⟨r, ar, hr2, hm⟩ := tie_get (hp.same s68) (show (0 : Int) ≤ (i : Int) by lia) (show (i : Int) < (es.length : Int) by lia)
        obtain ⟨b1, b2, b3, b4⟩ := hE _ hm
        have a1 : atI (ls.map V.int) (tieOf es (i : Int)).1 = some (.int (lf ls (tieOf es (i : Int)).1)) := at_int (ns := ls) b1 (by lia)
        have a2 : atI (ls.map V.int) (tieOf es (i : Int)).2 = some (.int (lf ls (tieOf es (i : Int)).2)) := at_int (ns := ls) b3 (by lia)
        have hiff := hN.iff b1 b2 b3 b4
        refine ⟨fun σ' H' => σ' = [some (.int m), some (.ref l), some (.ref le), some (.ref lk), some (.int (i : Int)), some (.ref ln)] ∧ Same H H' ∧ H' le = some (.lst ((upto es.length).map V.int)) ∧ H' lk = some (.lst ((kpt es (i + 1)).map V.int)), ?_, ?_⟩
        · refine ⟨_, rfl, _, rfl, _, rfl, l, xs, _, .ref r, rfl, rfl, s68.seq hl, ar, r, _, 0, _, rfl, rfl, hr2, rfl, ln, _, _, _, rfl, rfl, SqL.of n8, a1, ?_⟩
          refine ⟨_, rfl, _, rfl, _, rfl, l, xs, _, .ref r, rfl, rfl, s68.seq hl, ar, r, _, 1, _, rfl, rfl, hr2, rfl, ln, _, _, _, rfl, rfl, SqL.of n8, a2, rfl, _, rfl, ?_⟩
          rw [kpt_succ]
          by_cases c1 : lf ls (tieOf es (i : Int)).1 = lf ls (tieOf es (i : Int)).2
          · rw [decide_eq_true (show V.int (lf ls (tieOf es (i : Int)).1) = V.int (lf ls (tieOf es (i : Int)).2) by rw [c1]), if_neg (fun z => isB_iff.mp z (hiff.mp c1))]
            refine iteT ⟨_, rfl, .inl ⟨rfl, _, SqL.of c8⟩, _, rfl, lk, _, _, rfl, rfl, c8, small1000 (by rw [List.length_map]; lia), rfl, s68.upd lkH, by rw [upd_ne nek]; exact e8, ?_⟩
            rw [List.map_append]; exact upd_same
          · rw [decide_eq_false (show ¬ V.int (lf ls (tieOf es (i : Int)).1) = V.int (lf ls (tieOf es (i : Int)).2) by intro z; injection z with z; exact c1 z), if_pos (isB_iff.mpr fun z => c1 (hiff.mpr z)), List.append_nil]
            exact iteF ⟨rfl, s68, e8, c8⟩
        · rintro σ' H' ⟨rfl, h'⟩
          exact ⟨_, _, rfl, h'⟩
    · rintro σ H5 ⟨v4, v5, rfl, s5, e5, k5⟩
      rw [List.length_map, upto_len] at k5
      exact ⟨_, rfl, _, rfl, _, rfl, l, lk, m, xs, es, _, rfl, s5.seq hl, hp.same s5, SqL.of k5, fun t ht => mem_kpt ht, m1, m2, hE, fun l2 ls H6 nl2 s6 e6 hll hN => k l2 ls H6 (none_back s5 nl2) (s5.trans s6) e6 hll hN⟩
structure TlE (K : PySem.W.Frag) (H : Hp) (l : Addr) (xs : List V) (es : List (Int × Int)) (H2 : Hp) : Prop where
  s : Same H H2
  l : H2 l = some (.lst xs)
  p : Pairs K H2 xs es
theorem TlE.same {K : PySem.W.Frag} {H H2 H3 : Hp} {l : Addr} {xs : List V} {es : List (Int × Int)} (t : TlE K H l xs es H2) (S : Same H2 H3) : TlE K H l xs es H3 := ⟨t.s.trans S, S _ _ t.l, t.p.same S⟩
theorem ends_le {es : List (Int × Int)} {m n : Int} (h : EndsIn es m) (hm : m ≤ n) : EndsIn es n := fun e he => by have := h e he; lia
theorem in_all {P : Int → Prop} {ws : List Int} (h : ∀ v ∈ ws, P v) {i : Nat} (hi : i < ws.length) : P (ws.getD i 0) := by rw [gD_at hi]; exact h _ (List.getElem_mem hi)
def spEa (K : PySem.W.Frag) : Sp := fun vs H Q _ => ∃ (a : Addr) (ns : List Int) (at_ mo bo : Int), vs = [.ref a, .int at_, .int mo, .int bo] ∧ SqL K H a (ns.map V.int) ∧ ns.length ≤ 63 ∧ 0 ≤ at_ ∧ at_ ≤ 1000 ∧ 1 ≤ mo ∧ mo ≤ 20 ∧ 1 ≤ bo ∧ bo ≤ 40 ∧
  ∀ (t l : Addr) (m : Int) (xs : List V) (es : List (Int × Int)) (H' : Hp), H l = none → Same H H' → H' t = some (.tup [.int m, .ref l]) → H' l = some (.lst xs) → Pairs K H' xs es → 1 ≤ m → m ≤ mo → (es.length : Int) ≤ bo → EndsIn es m → Q (.ref t) H'
theorem scEa : FnScope ["script", "at", "most", "bound", "ends", "places", "k", "cell", "one", "two", "fresh", "row", "order", "mixed", "found", "pair"] ["script", "at", "most", "bound"] (defScope sEa) := ⟨rfl, rfl, rfl, by decide +kernel, rfl, by decide +kernel, by decide +kernel⟩
set_option maxHeartbeats 8000000 in
theorem ok_Ea {f : Addr} {fd : FuncData} (F : Fun K "_law_ears" "_law_ears" sEa f fd) (T : Txt K mg c) (D_C : Def P w K mg base 1 "_law_cell" ["script", "k"] (spC K)) : FnOk P w K mg base CX0 2 f fd ["script", "at", "most", "bound"] (spEa K) := by
  refine F.ok scEa (fun vs H Q E h => ?_) (fun cdv A outer s H vs Q E hr h => ?_)
  · obtain ⟨a, ns, at_, mo, bo, rfl, _⟩ := h
    rfl
  · obtain ⟨a, ns, at_, mo, bo, rfl, hS, hlen, t0, t1, o1, o2, b1, b2, k⟩ := h
    refine ⟨_, pss_cons (ps_set (i := 4) scEa.nd rfl (Or.inl rfl) (pe_lst pa_nil))
      (pss_cons (ps_set (i := 5) scEa.nd rfl (Or.inl rfl) (pe_int))
      (pss_cons (ps_for PassesOwn.never rfl (pi_range2 rfl T.range (pa_cons (pv 1) (pa_cons (pe_callB (cLen (K := K) rfl) (by rfl) T.len PySem.boot_len (pa_cons (pv 0) pa_nil)) pa_nil))) (pg_name (i := 6) scEa.nd rfl (Or.inl rfl))
        (pss_cons (ps_set (i := 7) scEa.nd rfl (Or.inl rfl) (pe_ix (ixL (K := K) rfl) (pv 0) (pv 6) (fun _ _ => rfl)))
      (pss_cons (ps_cut (ps_set (i := 8) scEa.nd rfl (Or.inl rfl) (pe_op op_mod (pv 7) (pv 5))))
      (pss_cons (ps_cut (ps_set (i := 9) scEa.nd rfl (Or.inl rfl) (pe_op op_mod (pe_op op_fdiv (pv 7) (pe_int)) (pv 5))))
      (pss_cons (ps_cut (ps_set (i := 10) scEa.nd rfl (Or.inl rfl) (pe_callB (call_min3 rfl) (by rfl) T.min PyProof.Rows.boot_min (pa_cons (pe_op op_mod (pe_op op_fdiv (pv 7) (pe_int)) (pe_int)) (pa_cons (pe_op op_sub (pv 2) (pv 5)) (pa_cons (pe_op op_sub (pe_op op_sub (pv 3) (pe_int)) (pe_callB (cLen (K := K) rfl) (by rfl) T.len PySem.boot_len (pa_cons (pv 4) pa_nil))) pa_nil))))))
      (pss_one (ps_cut (ps_if (pt_cmpR op_ge (pv 10) (pe_int) (nomark _))
        (pss_cons (ps_set (i := 11) scEa.nd rfl (Or.inr rfl) (pe_op op_cat (pe_op op_cat (pe_lst (pa_cons (pv 8) pa_nil)) (pe_listrange2 rfl rfl T.list rfl T.range (pa_cons (pv 5) (pa_cons (pe_op op_add (pv 5) (pv 10)) pa_nil)))) (pe_lst (pa_cons (pv 9) pa_nil))))
      (pss_cons (ps_expr (pe_bm PySem.F.plainAttrs_list PySem.F.slot_list_extend PySem.F.type_list_extend mt_extend (pv 4) (pa_cons (pe_lc (N' := ["j", "row"]) (nl := 1) (js := [11]) rfl (.of (osc := defScope sEa) (N := ["script", "at", "most", "bound", "ends", "places", "k", "cell", "one", "two", "fresh", "row", "order", "mixed", "found", "pair"]) (by decide +kernel) rfl rfl) (pi_range1 rfl T.range (pa_cons (pe_op op_sub (pe_callB (cLen (K := K) rfl) (by rfl) T.len PySem.boot_len (pa_cons (pv 11) pa_nil)) (pe_int)) pa_nil))
        (fun _ _ _ _ => pg_name (i := 0) (show (["j", "row"] : List Str).Nodup by decide +kernel) rfl (Or.inl rfl)) (fun _ _ _ _ => pif_nil)
        (fun _ _ _ _ => pe_tup (pa_cons (pe_ix (ixL (K := K) rfl) (pv 1) (pv 0) (fun _ _ => rfl)) (pa_cons (pe_ix (ixL (K := K) rfl) (pv 1) (pe_op op_add (pv 0) (pe_int)) (fun _ _ => rfl)) pa_nil)))) pa_nil)))
      (pss_one (ps_set (i := 5) scEa.nd rfl (Or.inl rfl) (pe_op op_add (pv 5) (pv 10)))))) (pss_nil)))))))))
      (pss_cons (ps_set (i := 12) scEa.nd rfl (Or.inl rfl) (pe_lst pa_nil))
      (pss_cons (ps_cut (ps_set (i := 13) scEa.nd rfl (Or.inl rfl) (pe_op op_add (pe_int) (pe_op op_mod (pe_defR D_C hr (pa_cons (pv 0) (pa_cons (pe_int) pa_nil))) (pe_int)))))
      (pss_cons (ps_for PassesOwn.never rfl (pi_range1 rfl T.range (pa_cons (pe_callB (cLen (K := K) rfl) (by rfl) T.len PySem.boot_len (pa_cons (pv 4) pa_nil)) pa_nil)) (pg_name (i := 6) scEa.nd rfl (Or.inl rfl))
        (pss_cons (ps_cut (ps_set (i := 13) scEa.nd rfl (Or.inl rfl) (pe_op op_mod (pe_op op_mulB (pv 13) (pe_int)) (pe_int))))
      (pss_cons (ps_cut (ps_set (i := 13) scEa.nd rfl (Or.inl rfl) (pe_op op_mod (pe_op op_add (pe_op op_mulB (pv 13) (pv 13)) (pe_op op_mulB (pe_int) (pv 6))) (pe_int))))
      (pss_one (ps_expr (pe_bm PySem.F.plainAttrs_list PySem.F.slot_list_insert PySem.F.type_list_insert mt_insI (pv 12) (pa_cons (pe_op op_mod (pe_op op_fdiv (pv 13) (pe_int)) (pe_op op_add (pv 6) (pe_int))) (pa_cons (pv 6) pa_nil))))))))
      (pss_cons (ps_set (i := 14) scEa.nd rfl (Or.inl rfl) (pe_lst pa_nil))
      (pss_cons (ps_for PassesOwn.never rfl (piSeqB (K := K) rfl (pv 12)) (pg_name (i := 6) scEa.nd rfl (Or.inl rfl))
        (pss_cons (ps_set (i := 15) scEa.nd rfl (Or.inl rfl) (pe_ix (ixL (K := K) rfl) (pv 4) (pv 6) (fun _ _ => rfl)))
      (pss_cons (ps_cut (ps_if (pt_cmpR op_eq (pe_op op_mod (pe_op op_fdiv (pv 13) (pe_op op_add (pv 6) (pe_int))) (pe_int)) (pe_int) (nomark _))
        (pss_one (ps_set (i := 15) scEa.nd rfl (Or.inl rfl) (pe_tup (pa_cons (pe_ix (ixT (K := K) rfl) (pv 15) (pe_int) (fun _ _ => rfl)) (pa_cons (pe_ix (ixT (K := K) rfl) (pv 15) (pe_int) (fun _ _ => rfl)) pa_nil))))) (pss_nil)))
      (pss_one (ps_expr (pe_bm PySem.F.plainAttrs_list PySem.F.slot_list_append PySem.F.type_list_append mt_append (pv 14) (pa_cons (pv 15) pa_nil)))))))
      (pss_one (ps_ret (pe_tup (pa_cons (pv 5) (pa_cons (pv 14) pa_nil)))))))))))), ?_⟩
    have hsm : (ns.map V.int).length = ns.length := List.length_map ..
    refine ⟨by decide, fun le nle => ?_⟩
    have T0 : TlE K H le [] [] (upd H le (.lst [])) := ⟨Same.new nle, upd_same, .nil⟩
    generalize upd H le (.lst []) = H1 at T0
    refine ⟨_, rfl, _, rfl, a, _, rfl, .inl (T0.s.seq hS), at_, ((ns.map V.int).length : Int), rfl, ⟨by lia, by lia, by lia, by lia⟩, ?_⟩
    refine for_by itok_range (fun i σ H2 => ∃ (pl : Int) (xs : List V) (es : List (Int × Int)) (v6 v7 v8 v9 v10 v11 : Option V), σ = [some (.ref a), some (.int at_), some (.int mo), some (.int bo), some (.ref le), some (.int pl), v6, v7, v8, v9, v10, v11, none, none, none, none] ∧ TlE K H le xs es H2 ∧ 1 ≤ pl ∧ pl ≤ mo ∧ (es.length : Int) ≤ bo ∧ EndsIn es pl) ⟨1, [], [], none, none, none, none, none, none, rfl, T0, Int.le_refl _, o1, (by show (0 : Int) ≤ bo; lia), EndsIn.nil⟩ (fun _ _ _ _ _ => trivial) ?_ ?_
    · rintro i σ H2 hi ⟨pl, xs, es, v6, v7, v8, v9, v10, v11, rfl, t, p1, p2, hz, hE⟩
      have hxl := t.p.len
      have hi' : i < (((ns.map V.int).length : Int) - at_).toNat := hi
      have hat : atI (ns.map V.int) (at_ + (i : Nat)) = some (.int (ns.getD (at_ + (i : Nat)).toNat 0)) := at_int (ns := ns) (by lia) (by lia)
      refine ⟨_, rfl, _, rfl, a, _, _, _, rfl, rfl, t.s.seq hS, hat, ?_⟩
      generalize ns.getD (at_ + (i : Nat)).toNat 0 = v
      refine ⟨fun σ' H' => H' = H2 ∧ ∃ o : Int, 0 ≤ o ∧ o < pl ∧ σ' = [some (.ref a), some (.int at_), some (.int mo), some (.int bo), some (.ref le), some (.int pl), some (.int (at_ + (i : Nat))), some (.int v), some (.int o), v9, v10, v11, none, none, none, none], ?_, ?_⟩
      · exact ⟨_, rfl, _, rfl, _, _, rfl, rfl, (by show 0 < pl; lia), rfl, _, Int.emod_nonneg _ (by lia), Int.emod_lt_of_pos _ (by lia), rfl⟩
      rintro σ' H' ⟨rfl, o, oa, ob, rfl⟩
      refine ⟨fun σ' H2 => H2 = H' ∧ ∃ u : Int, 0 ≤ u ∧ u < pl ∧ σ' = [some (.ref a), some (.int at_), some (.int mo), some (.int bo), some (.ref le), some (.int pl), some (.int (at_ + (i : Nat))), some (.int v), some (.int o), some (.int u), v10, v11, none, none, none, none], ?_, ?_⟩
      · exact ⟨_, rfl, _, _, rfl, rfl, ⟨by decide, by decide⟩, _, rfl, _, _, rfl, rfl, (by show 0 < pl; lia), rfl, _, Int.emod_nonneg _ (by lia), Int.emod_lt_of_pos _ (by lia), rfl⟩
      rintro σ' H2 ⟨rfl, u, ua, ub, rfl⟩
      refine ⟨fun σ' H3 => H3 = H2 ∧ ∃ fr : Int, fr ≤ 3 ∧ fr ≤ mo - pl ∧ fr ≤ bo - 1 - xs.length ∧ σ' = [some (.ref a), some (.int at_), some (.int mo), some (.int bo), some (.ref le), some (.int pl), some (.int (at_ + (i : Nat))), some (.int v), some (.int o), some (.int u), some (.int fr), v11, none, none, none, none], ?_, ?_⟩
      · have r1 := Int.emod_lt_of_pos (v / 400) (show (0 : Int) < 4 by decide)
        refine ⟨_, rfl, _, _, rfl, rfl, ⟨by decide, by decide⟩, _, _, rfl, rfl, (by show (0 : Int) < 4; decide), _, rfl, _, rfl, _, _, rfl, rfl, _, rfl, _, _, rfl, rfl, _, rfl, le, xs, rfl, .inl (SqL.of t.l), _, _, rfl, rfl, _, _, _, rfl, rfl, (if bo - 1 - xs.length < (if mo - pl < v / 400 % 4 then mo - pl else v / 400 % 4) then bo - 1 - xs.length else if mo - pl < v / 400 % 4 then mo - pl else v / 400 % 4), ?_, ?_, ?_, rfl⟩
        · split <;> (try split) <;> lia
        · split <;> (try split) <;> lia
        · split <;> (try split) <;> lia
      rintro σ' H3 ⟨rfl, fr, f1, f2, f3, rfl⟩
      refine ⟨fun σ' H4 => ∃ (pl : Int) (xs : List V) (es : List (Int × Int)) (v11 : Option V), σ' = [some (.ref a), some (.int at_), some (.int mo), some (.int bo), some (.ref le), some (.int pl), some (.int (at_ + (i : Nat))), some (.int v), some (.int o), some (.int u), some (.int fr), v11, none, none, none, none] ∧ TlE K H le xs es H4 ∧ 1 ≤ pl ∧ pl ≤ mo ∧ (es.length : Int) ≤ bo ∧ EndsIn es pl, ?_, ?_⟩
      · refine ⟨_, rfl, _, _, rfl, rfl, _, rfl, ite2 (fun c1 => ?_) (fun c1 => ?_)⟩
        · have c1' : fr ≥ 0 := of_decide_eq_true c1
          refine ⟨_, rfl, (by show 1 ≤ sizeLine; decide), fun w1 n1 => ?_⟩
          have s1 : Same H3 (upd H3 w1 (.lst [.int o])) := Same.new n1
          have e1 : (upd H3 w1 (.lst [.int o])) w1 = some (.lst [.int o]) := upd_same
          generalize upd H3 w1 (.lst [.int o]) = G1 at s1 e1
          refine ⟨_, rfl, _, rfl, _, rfl, _, _, rfl, rfl, _, _, rfl, by lia, by lia, by lia, by lia, fun w2 n2 => ?_⟩
          have s2 := Same.new (o := .lst (((List.range (pl + fr - pl).toNat).map fun k => pl + ((k : Nat) : Int)).map V.int)) n2
          have e2 : (upd G1 w2 (.lst (((List.range (pl + fr - pl).toNat).map fun k => pl + ((k : Nat) : Int)).map V.int))) w2 = some (.lst (((List.range (pl + fr - pl).toNat).map fun k => pl + ((k : Nat) : Int)).map V.int)) := upd_same
          generalize upd G1 w2 (.lst (((List.range (pl + fr - pl).toNat).map fun k => pl + ((k : Nat) : Int)).map V.int)) = G2 at s2 e2
          refine ⟨w1, w2, _, _, rfl, rfl, s2 _ _ e1, e2, Nat.le_of_lt (small1000 (by rw [List.length_map, List.length_map, List.length_range]; show 1 + _ ≤ 1000; lia)), fun w3 n3 => ?_⟩
          have s3 := Same.new (o := .lst ([V.int o] ++ ((List.range (pl + fr - pl).toNat).map fun k => pl + ((k : Nat) : Int)).map V.int)) n3
          have e3 : (upd G2 w3 (.lst ([V.int o] ++ ((List.range (pl + fr - pl).toNat).map fun k => pl + ((k : Nat) : Int)).map V.int))) w3 = some (.lst ([V.int o] ++ ((List.range (pl + fr - pl).toNat).map fun k => pl + ((k : Nat) : Int)).map V.int)) := upd_same
          generalize upd G2 w3 (.lst ([V.int o] ++ ((List.range (pl + fr - pl).toNat).map fun k => pl + ((k : Nat) : Int)).map V.int)) = G3 at s3 e3
          refine ⟨_, rfl, (by show 1 ≤ sizeLine; decide), fun w4 n4 => ?_⟩
          have s4 : Same G3 (upd G3 w4 (.lst [.int u])) := Same.new n4
          have e4 : (upd G3 w4 (.lst [.int u])) w4 = some (.lst [.int u]) := upd_same
          generalize upd G3 w4 (.lst [.int u]) = G4 at s4 e4
          refine ⟨w3, w4, _, _, rfl, rfl, s4 _ _ e3, e4, Nat.le_of_lt (small1000 (by rw [List.length_append, List.length_map, List.length_map, List.length_range]; show 1 + _ + 1 ≤ 1000; lia)), fun w5 n5 => ?_⟩
          have s04 := ((s1.trans s2).trans s3).trans s4
          obtain ⟨ws, ews⟩ : ∃ ws, ws = o :: (((List.range (pl + fr - pl).toNat).map fun k => pl + ((k : Nat) : Int)) ++ [u]) := ⟨_, rfl⟩
          have ewm : ([V.int o] ++ ((List.range (pl + fr - pl).toNat).map fun k => pl + ((k : Nat) : Int)).map V.int) ++ [V.int u] = ws.map V.int := by
            rw [ews, List.map_cons, List.map_append]; rfl
          have hwl : ws.length = fr.toNat + 2 := by
            rw [ews, List.length_cons, List.length_append, List.length_map, List.length_range]; show _ + 1 + 1 = _; lia
          have hwb : ∀ x ∈ ws, 0 ≤ x ∧ x < pl + fr := by
            rw [ews]
            intro x hx
            rcases List.mem_cons.mp hx with rfl | hx
            · lia
            · rcases List.mem_append.mp hx with hx | hx
              · obtain ⟨j, hj, rfl⟩ := List.mem_map.mp hx
                have := List.mem_range.mp hj
                lia
              · rw [List.mem_singleton.mp hx]; lia
          clear ews
          rw [ewm]
          have t5 := t.same (s04.trans (Same.new (o := .lst (ws.map V.int)) n5))
          have e5 : (upd G4 w5 (.lst (ws.map V.int))) w5 = some (.lst (ws.map V.int)) := upd_same
          have w5l : w5 ≠ le := (ne_of_none (s04 _ _ t.l) n5).symm
          generalize upd G4 w5 (.lst (ws.map V.int)) = G5 at t5 e5
          clear s04 s4 s3 s2 s1 e1 e2 e3 e4
          have hwm : (ws.map V.int).length = ws.length := List.length_map ..
          refine ⟨_, rfl, .inl ⟨rfl, _, SqL.of t5.l⟩, _, rfl, w5, _, rfl, .inl (SqL.of e5), _, _, rfl, rfl, ((ws.map V.int).length : Int) - 1, rfl, by lia, by lia, lc_by itok_range (fun j ys G => Same G5 G ∧ ∃ es2, Pairs K G ys es2 ∧ es2.length = j ∧ EndsIn es2 (pl + fr)) (Nat.le_of_lt (small1000 (by lia))) ⟨Same.refl _, [], .nil, rfl, EndsIn.nil⟩ ?_ ?_ ?_⟩
          · rintro j ys G hj ⟨sG, es2, pG, hl2, _⟩
            exact ⟨trivial, by rw [pG.len]; lia⟩
          · rintro j ys G hj ⟨sG, es2, pG, hl2, hE2⟩
            have hj' : j < (((ws.map V.int).length : Int) - 1).toNat := hj
            have hyl := pG.len
            have aj : atI (ws.map V.int) ((0 : Int) + (j : Nat)) = some (.int (ws.getD j 0)) := by
              have := at_int (ns := ws) (k := (0 + (j : Nat) : Int)) (by lia) (by lia)
              rwa [show ((0 : Int) + (j : Nat)).toNat = j by lia] at this
            have aj1 : atI (ws.map V.int) ((0 : Int) + (j : Nat) + 1) = some (.int (ws.getD (j + 1) 0)) := by
              have := at_int (ns := ws) (k := (0 + (j : Nat) + 1 : Int)) (by lia) (by lia)
              rwa [show ((0 : Int) + (j : Nat) + 1).toNat = j + 1 by lia] at this
            have q1 := in_all hwb (i := j) (by lia)
            have q2 := in_all hwb (i := j + 1) (by lia)
            have eG := sG _ _ e5
            refine ⟨wk_set rfl, iteT ⟨_, rfl, _, rfl, w5, _, _, _, rfl, rfl, SqL.of eG, aj, _, rfl, _, rfl, _, _, rfl, rfl, w5, _, _, _, rfl, rfl, SqL.of eG, aj1, (by show 2 ≤ sizeLine; decide), fun z nz => ?_⟩⟩
            have sz := Same.new (o := .tup [.int (ws.getD j 0), .int (ws.getD (j + 1) 0)]) nz
            refine ⟨small1000 (by lia), _, by lia, rfl, by lia, sG.trans sz, es2 ++ [(ws.getD j 0, ws.getD (j + 1) 0)], (pG.same sz).snoc (e := (ws.getD j 0, ws.getD (j + 1) 0)) (SqT.of upd_same), by rw [List.length_append, hl2]; rfl, hE2.snoc ⟨q1.1, q1.2, q2.1, q2.2⟩⟩
          rintro ys G ⟨sG, es2, pG, hl2, hE2⟩ lz nlz
          have sz := Same.new (o := .lst ys) nlz
          have ez : (upd G lz (.lst ys)) lz = some (.lst ys) := upd_same
          have t6 := (t5.same sG).same sz
          have pz := pG.same sz
          generalize upd G lz (.lst ys) = G6 at sz ez t6 pz
          have hyl := pz.len
          have hl2' : es2.length = fr.toNat + 1 := by lia
          refine ⟨le, lz, xs, ys, rfl, rfl, t6.l, ez, Nat.le_of_lt (small1000 (by lia)), ?_⟩
          refine ⟨_, rfl, _, rfl, _, _, rfl, rfl, pl + fr, xs ++ ys, es ++ es2, _, rfl, ⟨t6.s.upd nle, upd_same, (t6.p.append pz).sameX sameX_upd t6.l⟩, by lia, by lia, by rw [List.length_append]; lia, ?_⟩
          intro e he
          rcases List.mem_append.mp he with y | y
          · exact ends_le hE (by lia) e y
          · exact hE2 e y
        · exact ⟨pl, xs, es, _, rfl, t, p1, p2, hz, hE⟩
      · rintro σ' H4 ⟨pl, xs, es, v11, rfl, h'⟩
        exact ⟨pl, xs, es, _, _, _, _, _, _, rfl, h'⟩
    rintro σ H2 ⟨pl, xs, es, v6, v7, v8, v9, v10, v11, rfl, t, p1, p2, hz, hE⟩
    have hxl := t.p.len
    refine ⟨by decide, fun lo nlo => ?_⟩
    have t3 := t.same (Same.new (o := .lst []) nlo)
    have o3 : (upd H2 lo (.lst [])) lo = some (.lst []) := upd_same
    have nloH : H lo = none := none_back t.s nlo
    have loe : lo ≠ le := (ne_of_none t.l nlo).symm
    generalize upd H2 lo (.lst []) = H3 at t3 o3
    refine ⟨fun σ' H' => H' = H3 ∧ ∃ mi : Int, 0 ≤ mi ∧ mi < 2 ^ 40 ∧ σ' = [some (.ref a), some (.int at_), some (.int mo), some (.int bo), some (.ref le), some (.int pl), v6, v7, v8, v9, v10, v11, some (.ref lo), some (.int mi), none, none], ?_, ?_⟩
    · refine ⟨_, rfl, a, ns, 1, rfl, t3.s.seq hS, by decide, _, _, rfl, rfl, (by show (0 : Int) < 1000000007; decide), _, _, rfl, rfl, rfl, _, ?_, ?_, rfl⟩
      · have := Int.emod_nonneg (ns.getD (1 : Int).toNat 0) (show (1000000007 : Int) ≠ 0 by decide); lia
      · have := Int.emod_lt_of_pos (ns.getD (1 : Int).toNat 0) (show (0 : Int) < 1000000007 by decide); lia
    rintro σ' H' ⟨rfl, mi, mi0, mi1, rfl⟩
    refine ⟨_, rfl, le, xs, rfl, .inl (SqL.of t3.l), (xs.length : Int), rfl, by lia, by lia, ?_⟩
    refine for_by itok_range (fun i σ H4 => ∃ (os : List Int) (mi : Int) (v6 : Option V), σ = [some (.ref a), some (.int at_), some (.int mo), some (.int bo), some (.ref le), some (.int pl), v6, v7, v8, v9, v10, v11, some (.ref lo), some (.int mi), none, none] ∧ TlE K H le xs es H4 ∧ H4 lo = some (.lst (os.map V.int)) ∧ os.length = i ∧ (∀ o ∈ os, 0 ≤ o ∧ o < (i : Int)) ∧ 0 ≤ mi ∧ mi < 2 ^ 40) ⟨[], mi, _, rfl, t3, o3, rfl, fun o ho => (nomatch ho), mi0, mi1⟩ (fun _ _ _ _ _ => trivial) ?_ ?_
    · clear t3 o3 mi0 mi1
      rintro i σ H4 hi ⟨os, mi, v6, rfl, t4, o4, hol, hob, mi0, mi1⟩
      have hi' : i < xs.length := hi
      refine ⟨fun σ' H' => H' = H4 ∧ ∃ mi : Int, 0 ≤ mi ∧ mi < 2 ^ 40 ∧ σ' = [some (.ref a), some (.int at_), some (.int mo), some (.int bo), some (.ref le), some (.int pl), some (.int (0 + (i : Nat))), v7, v8, v9, v10, v11, some (.ref lo), some (.int mi), none, none], ?_, ?_⟩
      · refine ⟨_, rfl, _, _, rfl, rfl, ⟨by lia, by decide⟩, _, _, rfl, rfl, (by show (0 : Int) < 2147483647; decide), rfl, _, Int.emod_nonneg _ (by decide), ?_, rfl⟩
        have := Int.emod_lt_of_pos (mi * 48271) (show (0 : Int) < 2147483647 by decide); lia
      rintro σ' H' ⟨rfl, mj, mj0, mj1, rfl⟩
      refine ⟨fun σ' H4 => H4 = H' ∧ ∃ mi : Int, 0 ≤ mi ∧ mi < 2 ^ 40 ∧ σ' = [some (.ref a), some (.int at_), some (.int mo), some (.int bo), some (.ref le), some (.int pl), some (.int (0 + (i : Nat))), v7, v8, v9, v10, v11, some (.ref lo), some (.int mi), none, none], ?_, ?_⟩
      · refine ⟨_, rfl, _, rfl, _, _, rfl, rfl, ⟨by lia, by lia⟩, _, rfl, _, _, rfl, rfl, ⟨by decide, by lia⟩, _, _, rfl, rfl, _, _, rfl, rfl, (by show (0 : Int) < 2147483629; decide), rfl, _, Int.emod_nonneg _ (by decide), ?_, rfl⟩
        have := Int.emod_lt_of_pos (mj * mj + 11 * (0 + (i : Nat))) (show (0 : Int) < 2147483629 by decide); lia
      rintro σ' H4 ⟨rfl, mk, mk0, mk1, rfl⟩
      have hom : (os.map V.int).length = os.length := List.length_map ..
      have d0 := Int.emod_nonneg (mk / 8) (show (0 + (i : Nat) + 1 : Int) ≠ 0 by lia)
      have d1 := Int.emod_lt_of_pos (mk / 8) (show (0 : Int) < 0 + (i : Nat) + 1 by lia)
      refine ⟨_, rfl, .inl ⟨rfl, _, SqL.of o4⟩, _, rfl, _, _, rfl, rfl, ⟨by decide, by decide⟩, _, rfl, _, _, rfl, rfl, _, _, rfl, rfl, (by show (0 : Int) < 0 + (i : Nat) + 1; lia), _, rfl, ?_⟩
      refine ⟨lo, _, _, _, rfl, rfl, o4, d0, by lia, by lia, ?_⟩
      refine ⟨os.take (mk / 8 % (0 + (i : Nat) + 1)).toNat ++ (0 + ((i : Nat) : Int)) :: os.drop (mk / 8 % (0 + (i : Nat) + 1)).toNat, mk, _, rfl, ⟨t4.s.upd nloH, by rw [upd_ne loe.symm]; exact t4.l, t4.p.sameX sameX_upd o4⟩, ?_, ?_, fun o ho => ?_, mk0, mk1⟩
      · rw [upd_same, List.map_append, List.map_cons, List.map_take, List.map_drop]
      · rw [List.length_append, List.length_cons, List.length_take, List.length_drop]; lia
      · rcases List.mem_append.mp ho with y | y
        · have := hob o (List.mem_of_mem_take y); lia
        · rcases List.mem_cons.mp y with y | y
          · lia
          · have := hob o (List.mem_of_mem_drop y); lia
    clear t3 o3 mi0 mi1
    rintro σ H4 ⟨os, mi, v6, rfl, t4, o4, hol, hob, mi0, mi1⟩
    have exl : ((xs.length : Int)).toNat = xs.length := Int.toNat_natCast _
    rw [exl] at hol hob
    refine ⟨by decide, fun lf nlf => ?_⟩
    have t5 := t4.same (Same.new (o := .lst []) nlf)
    have o5 := Same.new (o := .lst []) nlf _ _ o4
    have f5 : (upd H4 lf (.lst [])) lf = some (.lst []) := upd_same
    have nlfH : H lf = none := none_back t4.s nlf
    have lfe : lf ≠ le := (ne_of_none t4.l nlf).symm
    have lfo : lf ≠ lo := (ne_of_none o4 nlf).symm
    generalize upd H4 lf (.lst []) = H5 at t5 o5 f5
    have hom : (os.map V.int).length = os.length := List.length_map ..
    refine ⟨_, rfl, false, lo, _, rfl, SqL.of o5, fun J C O hC => for_by O (fun i σ H6 => ∃ (ys : List V) (es2 : List (Int × Int)) (v6 v15 : Option V), σ = [some (.ref a), some (.int at_), some (.int mo), some (.int bo), some (.ref le), some (.int pl), v6, v7, v8, v9, v10, v11, some (.ref lo), some (.int mi), some (.ref lf), v15] ∧ TlE K H le xs es H6 ∧ H6 lo = some (.lst (os.map V.int)) ∧ H6 lf = some (.lst ys) ∧ Pairs K H6 ys es2 ∧ es2.length = i ∧ EndsIn es2 pl) ⟨[], [], _, none, rfl, t5, o5, f5, .nil, rfl, EndsIn.nil⟩ (fun i σ H6 _ h => ?_) ?_ ?_⟩
    · obtain ⟨ys, es2, v6, v15, _, _, o6, _⟩ := h
      exact hC _ (SqL.of o6)
    · rintro i σ H6 hi ⟨ys, es2, v6', v15, rfl, t6, o6, f6, p6, hl6, hE6⟩
      obtain ⟨v, ev, gv⟩ := getD_map_int hi
      rw [hom] at hi
      have hv := hob v (List.mem_of_getElem? gv)
      obtain ⟨r, ar, hr2, hm⟩ := tie_get t6.p hv.1 (by lia)
      have hb := hE _ hm
      try dsimp only
      rw [ev]
      refine ⟨_, rfl, _, rfl, le, _, _, _, rfl, rfl, SqL.of t6.l, ar, ?_⟩
      refine ⟨fun σ' H7 => ∃ (tt : Addr) (e : Int × Int), (0 ≤ e.1 ∧ e.1 < pl ∧ 0 ≤ e.2 ∧ e.2 < pl) ∧ σ' = [some (.ref a), some (.int at_), some (.int mo), some (.int bo), some (.ref le), some (.int pl), some (.int v), v7, v8, v9, v10, v11, some (.ref lo), some (.int mi), some (.ref lf), some (.ref tt)] ∧ Same H6 H7 ∧ SqT K H7 tt [.int e.1, .int e.2], ?_, ?_⟩
      · refine ⟨_, rfl, _, rfl, _, _, rfl, rfl, _, _, rfl, rfl, ⟨by lia, by lia⟩, _, _, rfl, rfl, (by show (0 : Int) < 2; decide), rfl, _, rfl, ite2 (fun _ => ?_) (fun _ => ?_)⟩
        · refine ⟨_, rfl, r, _, 1, _, rfl, rfl, hr2, rfl, _, rfl, r, _, 0, _, rfl, rfl, hr2, rfl, (by show 2 ≤ sizeLine; decide), fun z nz => ?_⟩
          exact ⟨z, ((tieOf es v).2, (tieOf es v).1), ⟨hb.2.2.1, hb.2.2.2, hb.1, hb.2.1⟩, rfl, Same.new nz, SqT.of upd_same⟩
        · exact ⟨r, tieOf es v, hb, rfl, Same.refl _, hr2⟩
      rintro σ' H7 ⟨tt, e, he, rfl, s7, ht⟩
      have f7 := s7 _ _ f6
      have t7 := t6.same s7
      have o7 := s7 _ _ o6
      have p7 := (p6.same s7).snoc ht
      have hyl := p6.len
      refine ⟨_, rfl, .inl ⟨rfl, _, SqL.of f7⟩, _, rfl, lf, _, _, rfl, rfl, f7, small1000 (by lia), ?_⟩
      exact ⟨_, _, _, _, rfl, ⟨t7.s.upd nlfH, by rw [upd_ne lfe.symm]; exact t7.l, t7.p.sameX sameX_upd f7⟩, by rw [upd_ne lfo.symm]; exact o7, upd_same, p7.sameX sameX_upd f7, by rw [List.length_append, hl6]; rfl, hE6.snoc he⟩
    · rintro σ H6 ⟨ys, es2, v6', v15, rfl, t6, o6, f6, p6, hl6, hE6⟩
      rw [hom] at hl6
      refine ⟨_, rfl, _, rfl, (by show 2 ≤ sizeLine; decide), fun tu ntu => ?_⟩
      exact k tu lf pl ys es2 _ nlfH (t6.s.next ntu) upd_same (Same.new ntu _ _ f6) (p6.same (Same.new ntu)) p1 p2 (by lia) hE6
theorem way_at {es : List (Int × Int)} {ss ts ps : List Int} {a p : Int} (h : Way es ss a ts ps p) : (ps ++ [p]).getD 0 0 = a ∧ (ps ++ [p]).getD ts.length 0 = p ∧ ∀ i, i < ts.length → ((tieOf es (ts.getD i 0)).1 = (ps ++ [p]).getD i 0 ∨ (tieOf es (ts.getD i 0)).2 = (ps ++ [p]).getD i 0) ∧ (ps ++ [p]).getD (i + 1) 0 = far (tieOf es (ts.getD i 0)) ((ps ++ [p]).getD i 0) := by
  induction h with
  | nil => exact ⟨rfl, rfl, fun i hi => absurd hi (Nat.not_lt_zero _)⟩
  | @snoc ts ps p t W ht h0 h1 he hn ih =>
    have hl := W.len
    obtain ⟨i1, i2, i3⟩ := ih
    have gl : ∀ (us : List Int) (z : Int) (i : Nat), i < us.length → (us ++ [z]).getD i 0 = us.getD i 0 := fun us z i hi => by
      rw [List.getD_eq_getElem?_getD, List.getD_eq_getElem?_getD, List.getElem?_append_left hi]
    have ge : ∀ (us : List Int) (z : Int) (i : Nat), i = us.length → (us ++ [z]).getD i 0 = z := fun us z i hi => by
      rw [List.getD_eq_getElem?_getD, hi, List.getElem?_append_right (Nat.le_refl _), Nat.sub_self]; rfl
    have hpl : (ps ++ [p]).length = ps.length + 1 := by rw [List.length_append]; rfl
    have htl : (ts ++ [t]).length = ts.length + 1 := by rw [List.length_append]; rfl
    refine ⟨?_, ?_, fun i hi => ?_⟩
    · rw [gl _ _ _ (by lia)]; exact i1
    · exact ge _ _ _ (by lia)
    · rw [htl] at hi
      by_cases c : i < ts.length
      · rw [gl ts t i c, gl _ _ i (by lia), gl _ _ (i + 1) (by lia)]
        exact i3 i c
      · have ei : i = ts.length := by lia
        rw [ge ts t i ei, gl _ _ i (by lia), ge (ps ++ [p]) _ (i + 1) (by lia), ge ps p i (by lia)]
        exact ⟨he, rfl⟩
theorem far_sum {e : Int × Int} {p : Int} (h : e.1 = p ∨ e.2 = p) : e.1 + e.2 - p = far e p := by
  unfold far
  split
  · lia
  · lia
theorem nodup_take {l : List Int} {i : Nat} {x : Int} (h : l.Nodup) (g : l[i]? = some x) : ¬ x ∈ l.take i := fun hx => by
  obtain ⟨j, hj, e⟩ := List.mem_iff_getElem.mp hx
  rw [List.length_take] at hj
  obtain ⟨hi, e2⟩ := List.getElem?_eq_some_iff.mp g
  rw [List.getElem_take] at e
  have := List.pairwise_iff_getElem.mp h j i (by lia) hi (by lia)
  exact this (e.trans e2.symm)
def spLd (K : PySem.W.Frag) : Sp := fun vs H Q _ => ∃ (l q : Addr) (one two : Int) (xs : List V) (es : List (Int × Int)) (ss ts ps : List Int), vs = [.ref l, .ref q, .int one, .int two] ∧ SqL K H l xs ∧ Pairs K H xs es ∧ es.length ≤ 40 ∧ H q = some (.lst (ts.map V.int)) ∧ Way es ss one ts ps two ∧ ∀ H', Same H H' → Q (.bl true) H'
theorem scLd : FnScope ["ends", "way", "one", "two", "place", "seen", "tie"] ["ends", "way", "one", "two"] (defScope sLd) := ⟨rfl, rfl, rfl, by decide +kernel, rfl, by decide +kernel, by decide +kernel⟩
set_option maxHeartbeats 8000000 in
theorem ok_Ld {f : Addr} {fd : FuncData} (F : Fun K "_law_leads" "_law_leads" sLd f fd) (T : Txt K mg c) (D_H : Def P w K mg base 1 "_law_whole" ["found"] (spH K)) : FnOk P w K mg base CX0 2 f fd ["ends", "way", "one", "two"] (spLd K) := by
  refine F.ok scLd (fun vs H Q E h => ?_) (fun cdv A outer s H vs Q E hr h => ?_)
  · obtain ⟨l, q, one, two, xs, es, ss, ts, ps, rfl, _⟩ := h
    rfl
  · obtain ⟨l, q, one, two, xs, es, ss, ts, ps, rfl, hl, hp, hz, hq, W, k⟩ := h
    have hu : A.units + 3 + 64 < cLine := hr.units
    refine ⟨_, pss_cons (ps_if (pt_not (pt_val (pe_callB (cIs (K := K) rfl) (by rfl) T.isinstance PyProof.Rows.boot_isinstance (pa_cons (pv 1) (pa_cons (pe_bltn (v := .ty "list") (by rfl) T.list PyProof.Rows.boot_list rfl) pa_nil)))))
        (pss_one (ps_ret (pe_bl))) (pss_nil))
      (pss_cons (ps_set (i := 4) scLd.nd rfl (Or.inl rfl) (pv 2))
      (pss_cons (ps_set (i := 5) scLd.nd rfl (Or.inl rfl) (pe_lst (pa_cons (pv 2) pa_nil)))
      (pss_cons (ps_for PassesOwn.never rfl (piSeqB (K := K) rfl (pv 1)) (pg_name (i := 6) scLd.nd rfl (Or.inl rfl))
        (pss_cons (ps_if (PW.pt (pw_or (pt_not (pt_val (pe_defR D_H hr (pa_cons (pv 6) pa_nil)))) (pw_or (pt_cmpR op_lt (pv 6) (pe_int) (nomark _)) (pw_or (pt_cmpR op_ge (pv 6) (pe_callB (cLen (K := K) rfl) (by rfl) T.len PySem.boot_len (pa_cons (pv 0) pa_nil)) (nomark _)) (pw_or1 (pt_cmpR (opNotIn (K := K) rfl) (pv 4) (pe_ix (ixL (K := K) rfl) (pv 0) (pv 6) (fun _ _ => rfl)) (by with_unfolding_all rfl)))))))
        (pss_one (ps_ret (pe_bl))) (pss_nil))
      (pss_cons (ps_set (i := 4) scLd.nd rfl (Or.inl rfl) (pe_op op_sub (pe_op op_add (pe_ix (ixT (K := K) rfl) (pe_ix (ixL (K := K) rfl) (pv 0) (pv 6) (fun _ _ => rfl)) (pe_int) (fun _ _ => rfl)) (pe_ix (ixT (K := K) rfl) (pe_ix (ixL (K := K) rfl) (pv 0) (pv 6) (fun _ _ => rfl)) (pe_int) (fun _ _ => rfl))) (pv 4)))
      (pss_cons (ps_if (pt_cmpR (opIn (K := K) rfl) (pv 4) (pv 5) (by with_unfolding_all rfl))
        (pss_one (ps_ret (pe_bl))) (pss_nil))
      (pss_one (ps_expr (pe_bm PySem.F.plainAttrs_list PySem.F.slot_list_append PySem.F.type_list_append mt_append (pv 5) (pa_cons (pv 4) pa_nil))))))))
      (pss_one (ps_ret (pe_cmpR op_eq (pv 4) (pv 3) (nomark _))))))), ?_⟩
    clear hu
    have hxl := hp.len
    have htl := nodup_len (m := (es.length : Int)) W.tnd fun z hz => (W.sub z hz).2
    obtain ⟨w1, w2, w3⟩ := way_at W
    have hnd := W.nd
    have hpl := W.len
    obtain ⟨pl, epl⟩ : ∃ pl, pl = ps ++ [two] := ⟨_, rfl⟩
    have hpn : pl.length = ts.length + 1 := by rw [epl, List.length_append, hpl]; rfl
    rw [← epl] at w1 w2 w3 hnd
    refine ⟨_, rfl, _, _, _, _, true, rfl, rfl, fun _ z => z, .of (.lst hq), kit_self _ _, _, rfl, iteF ?_⟩
    refine ⟨_, rfl, _, rfl, (by show 1 ≤ sizeLine; decide), fun se nse => ?_⟩
    have s1 := Same.new (o := .lst [V.int one]) nse
    have g0 : pl[0]? = some one := by
      have : pl[0]? = some (pl[0]'(by lia)) := List.getElem?_eq_getElem (by lia)
      rw [List.getD_eq_getElem?_getD, this] at w1
      rw [this, ← w1]; rfl
    have e1 : (upd H se (.lst [V.int one])) se = some (.lst ((pl.take (0 + 1)).map V.int)) := by
      rw [upd_same, take_snoc g0]; rfl
    generalize upd H se (.lst [V.int one]) = H1 at s1 e1
    refine ⟨_, rfl, false, q, _, rfl, SqL.of (s1 _ _ hq), fun J C O hC => for_by O (fun i σ H2 => ∃ v6 : Option V, σ = [some (.ref l), some (.ref q), some (.int one), some (.int two), some (.int (pl.getD i 0)), some (.ref se), v6] ∧ Same H H2 ∧ H2 se = some (.lst ((pl.take (i + 1)).map V.int))) ⟨none, by rw [w1]; rfl, s1, e1⟩ (fun i σ H2 _ h => ?_) ?_ ?_⟩
    · obtain ⟨v6, _, s2, _⟩ := h
      exact hC _ (SqL.of (s2 _ _ hq))
    · rintro i σ H2 hi ⟨v6, rfl, s2, e2⟩
      obtain ⟨v, ev, gv⟩ := getD_map_int hi
      rw [List.length_map] at hi
      have hv := (W.sub v (List.mem_of_getElem? gv)).2
      have egv : ts.getD i 0 = v := by rw [List.getD_eq_getElem?_getD, gv]; rfl
      obtain ⟨a1, a2⟩ := w3 i hi
      rw [egv] at a1 a2
      obtain ⟨r, ar, hr2, hm⟩ := tie_get (hp.same s2) hv.1 hv.2
      try dsimp only
      rw [ev]
      have hl2 := s2.seq hl
      refine ⟨_, rfl, _, rfl, _, rfl, iteF ?_⟩
      refine ⟨_, rfl, _, _, rfl, rfl, _, rfl, ?_⟩
      rw [decide_eq_false (show ¬ v < 0 by lia)]
      refine iteF ⟨_, rfl, _, rfl, l, xs, rfl, .inl hl2, _, _, rfl, rfl, _, rfl, ?_⟩
      rw [decide_eq_false (show ¬ v ≥ (xs.length : Int) by lia)]
      refine iteF ⟨_, rfl, _, rfl, _, rfl, l, xs, v, .ref r, rfl, rfl, hl2, ar, r, _, rfl, .inr hr2, rfl, rfl, _, rfl, ?_⟩
      rw [if_pos rfl, show inV (V.int (pl.getD i 0)) [V.int (tieOf es v).1, V.int (tieOf es v).2] = atP (pl.getD i 0) (tieOf es v) from inV_at .., atP_iff.mpr a1]
      refine iteF ?_
      refine ⟨_, rfl, _, rfl, l, xs, v, .ref r, rfl, rfl, hl2, ar, r, _, 0, _, rfl, rfl, hr2, rfl, _, rfl, _, rfl, l, xs, v, .ref r, rfl, rfl, hl2, ar, r, _, 1, _, rfl, rfl, hr2, rfl, _, _, rfl, rfl, _, rfl, _, _, rfl, rfl, ?_⟩
      dsimp only
      rw [far_sum a1, ← a2]
      have gn : pl[i + 1]? = some (pl.getD (i + 1) 0) := by
        rw [List.getD_eq_getElem?_getD, List.getElem?_eq_getElem (show i + 1 < pl.length by lia)]; rfl
      refine ⟨_, rfl, _, rfl, se, _, rfl, .inl (SqL.of e2), rfl, flat_ints _, _, rfl, ?_⟩
      rw [if_neg Bool.false_ne_true, inV_ints, show ((pl.take (i + 1)).any (· == pl.getD (i + 1) 0)) = false from Bool.eq_false_iff.mpr fun z => nodup_take hnd gn (memI_iff.mp z)]
      refine iteF ⟨_, rfl, .inl ⟨rfl, _, SqL.of e2⟩, _, rfl, se, _, _, rfl, rfl, e2, small1000 (by rw [List.length_map, List.length_take]; lia), ?_⟩
      refine ⟨_, rfl, s2.upd nse, ?_⟩
      rw [take_snoc gn, List.map_append]; exact upd_same
    · rintro σ H2 ⟨v6, rfl, s2, e2⟩
      rw [List.length_map, w2]
      refine ⟨_, rfl, _, rfl, rfl, ?_⟩
      rw [decide_eq_true rfl]
      exact k _ s2
theorem rep_tv : ∀ n : Nat, (List.replicate n (V.bl true)).all tv = true ∧ (List.replicate n (V.bl true)).all isBI = true
  | 0 => ⟨rfl, rfl⟩
  | n + 1 => by rw [List.replicate_succ, List.all_cons, List.all_cons, (rep_tv n).1, (rep_tv n).2]; exact ⟨rfl, rfl⟩
def spR (K : PySem.W.Frag) : Sp := fun vs H Q _ => ∃ (l ln : Addr) (vf : V) (one two : Int) (xs : List V) (es : List (Int × Int)) (ls : List Int), vs = [.ref l, vf, .ref ln, .int one, .int two] ∧ SqL K H l xs ∧ Pairs K H xs es ∧ es.length ≤ 40 ∧ SqL K H ln (ls.map V.int) ∧ 0 ≤ one ∧ one < (ls.length : Int) ∧ 0 ≤ two ∧ two < (ls.length : Int) ∧
  ((vf = .non ∧ lf ls one ≠ lf ls two) ∨ (lf ls one = lf ls two ∧ ∃ (t l1 l2 : Addr) (as bs : List Int), vf = .ref t ∧ H t = some (.tup [.ref l1, .ref l2]) ∧ H l1 = some (.lst (as.map V.int)) ∧ H l2 = some (.lst (bs.map V.int)) ∧ TwR es one two as bs)) ∧ ∀ H', Same H H' → Q (.bl true) H'
theorem scR : FnScope ["ends", "found", "names", "one", "two"] ["ends", "found", "names", "one", "two"] (defScope sR) := ⟨rfl, rfl, rfl, by decide +kernel, rfl, by decide +kernel, by decide +kernel⟩
set_option maxHeartbeats 8000000 in
theorem ok_R {f : Addr} {fd : FuncData} (F : Fun K "_law_right" "_law_right" sR f fd) (T : Txt K mg c) (D_Ld : Def P w K mg base 2 "_law_leads" ["ends", "way", "one", "two"] (spLd K)) : FnOk P w K mg base CX0 3 f fd ["ends", "found", "names", "one", "two"] (spR K) := by
  refine F.ok scR (fun vs H Q E h => ?_) (fun cdv A outer s H vs Q E hr h => ?_)
  · obtain ⟨l, ln, vf, one, two, xs, es, ls, rfl, _⟩ := h
    rfl
  · obtain ⟨l, ln, vf, one, two, xs, es, ls, rfl, hl, hp, hz, hn, o0, o1, t0, t1, hd, k⟩ := h
    have hu : A.units + 3 + 64 < cLine := hr.units
    refine ⟨_, pss_cons (ps_if (pt_cmpR op_ne (pe_ix (ixL (K := K) rfl) (pv 2) (pv 3) (fun _ _ => rfl)) (pe_ix (ixL (K := K) rfl) (pv 2) (pv 4) (fun _ _ => rfl)) (nomark _))
        (pss_one (ps_ret (pe_cmpR op_isN (pv 1) (pe_non) (nomark _)))) (pss_nil))
      (pss_cons (ps_if (PW.pt (pw_or (pt_not (pt_val (pe_callB (cIs (K := K) rfl) (by rfl) T.isinstance PyProof.Rows.boot_isinstance (pa_cons (pv 1) (pa_cons (pe_bltn (v := .ty "tuple") (by rfl) T.tuple PyProof.Rows.boot_tuple rfl) pa_nil))))) (pw_or1 (pt_cmpR op_ne (pe_callB (cLen (K := K) rfl) (by rfl) T.len PySem.boot_len (pa_cons (pv 1) pa_nil)) (pe_int) (nomark _)))))
        (pss_one (ps_ret (pe_bl))) (pss_nil))
      (pss_cons (ps_if (PW.pt (pw_or (pt_not (pt_val (pe_defR D_Ld hr (pa_cons (pv 0) (pa_cons (pe_ix (ixT (K := K) rfl) (pv 1) (pe_int) (fun _ _ => rfl)) (pa_cons (pv 3) (pa_cons (pv 4) pa_nil))))))) (pw_or1 (pt_not (pt_val (pe_defR D_Ld hr (pa_cons (pv 0) (pa_cons (pe_ix (ixT (K := K) rfl) (pv 1) (pe_int) (fun _ _ => rfl)) (pa_cons (pv 3) (pa_cons (pv 4) pa_nil))))))))))
        (pss_one (ps_ret (pe_bl))) (pss_nil))
      (pss_one (ps_ret (pe_callB (cAll (K := K) rfl rfl) (by rfl) T.all PyProof.Rows.boot_all (pa_cons (pe_lc (N' := ["tie", "found"]) (nl := 1) (js := [1]) rfl (.of (osc := defScope sR) (N := ["ends", "found", "names", "one", "two"]) (by decide +kernel) rfl rfl) (piSeq (K := K) rfl (pe_ix (ixT (K := K) rfl) (pv 1) (pe_int) (fun _ _ => rfl)))
        (fun _ _ _ _ => pg_name (i := 0) (show (["tie", "found"] : List Str).Nodup by decide +kernel) rfl (Or.inl rfl)) (fun _ _ _ _ => pif_nil)
        (fun _ _ _ _ => pe_cmpR (opNotIn (K := K) rfl) (pv 0) (pe_ix (ixT (K := K) rfl) (pv 1) (pe_int) (fun _ _ => rfl)) (by with_unfolding_all rfl))) pa_nil)))))), ?_⟩
    clear hu
    have a1 : atI (ls.map V.int) one = some (.int (lf ls one)) := at_int (ns := ls) o0 o1
    have a2 : atI (ls.map V.int) two = some (.int (lf ls two)) := at_int (ns := ls) t0 t1
    refine ⟨_, rfl, _, rfl, ln, _, _, _, rfl, rfl, hn, a1, _, rfl, _, rfl, ln, _, _, _, rfl, rfl, hn, a2, rfl, _, rfl, ?_⟩
    rcases hd with ⟨rfl, ne⟩ | ⟨eq, t, l1, l2, as, bs, rfl, ht, h1, h2, R⟩
    · rw [decide_eq_false (show ¬ V.int (lf ls one) = V.int (lf ls two) by intro z; injection z with z; exact ne z)]
      refine iteT ⟨_, rfl, rfl, ?_⟩
      rw [decide_eq_true (rfl : V.non = V.non)]
      exact k _ (Same.refl _)
    rw [decide_eq_true (show V.int (lf ls one) = V.int (lf ls two) by rw [eq])]
    obtain ⟨⟨s1', p1, W1⟩, ⟨s2', p2, W2⟩, dis, _⟩ := R
    refine iteF ⟨_, rfl, _, _, _, _, true, rfl, rfl, fun _ z => z, .of (.tup ht), kit_self _ _, _, rfl, iteF ?_⟩
    refine ⟨_, rfl, t, _, rfl, .inr (SqT.of ht), rfl, _, rfl, ?_⟩
    rw [decide_eq_true (show V.int (([V.ref l1, V.ref l2] : List V).length : Int) = V.int 2 from rfl)]
    refine iteF ?_
    refine ⟨_, rfl, _, rfl, t, _, 0, _, rfl, rfl, SqT.of ht, rfl, _, rfl, _, rfl, l, l1, one, two, xs, es, _, as, _, rfl, hl, hp, hz, h1, W1, fun H1 s1 => ⟨true, rfl, iteF ?_⟩⟩
    refine ⟨_, rfl, _, rfl, t, _, 1, _, rfl, rfl, SqT.of (s1 _ _ ht), rfl, _, rfl, _, rfl, l, l2, one, two, xs, es, _, bs, _, rfl, s1.seq hl, hp.same s1, hz, s1 _ _ h2, W2, fun H2 s2 => ⟨true, rfl, iteF ?_⟩⟩
    have s12 := s1.trans s2
    have ht2 := s12 _ _ ht
    have hb2 := s12 _ _ h2
    have hla := nodup_len (m := (es.length : Int)) W1.tnd fun z hz => (W1.sub z hz).2
    have ham : (as.map V.int).length = as.length := List.length_map ..
    refine ⟨_, rfl, t, _, 0, _, rfl, rfl, SqT.of ht2, rfl, l1, _, rfl, .inl (SqL.of (s12 _ _ h1)), fun J C O hC => lc_by O (fun i ys H3 => H3 = H2 ∧ ys = List.replicate i (V.bl true)) (by rw [ham]; exact Nat.le_of_lt (small1000 (by lia))) ⟨rfl, rfl⟩ ?_ ?_ ?_⟩
    · rintro i ys H3 hi ⟨rfl, rfl⟩
      exact ⟨hC _ (Same.refl _), by rw [List.length_replicate]; exact Nat.le_refl _⟩
    · rintro i ys H3 hi ⟨rfl, rfl⟩
      obtain ⟨v, ev, gv⟩ := getD_map_int hi
      rw [ham] at hi
      try dsimp only
      rw [ev]
      refine ⟨wk_set rfl, iteT ⟨_, rfl, _, rfl, t, _, 1, _, rfl, rfl, SqT.of ht2, rfl, l2, _, rfl, .inl (SqL.of hb2), rfl, flat_ints _, ?_⟩⟩
      rw [if_pos rfl, inV_ints, show (bs.any (· == v)) = false from Bool.eq_false_iff.mpr fun z => dis v (List.mem_of_getElem? gv) (memI_iff.mp z)]
      refine ⟨small1000 (by rw [List.length_replicate]; lia), _, by lia, rfl, by lia, rfl, ?_⟩
      rw [List.replicate_succ']; rfl
    · rintro ys H3 ⟨rfl, rfl⟩ lz nlz
      refine ⟨lz, _, rfl, .inl (SqL.of upd_same), (rep_tv _).2, ?_⟩
      rw [(rep_tv _).1]
      exact k _ (s12.next nlz)
def spRf (K : PySem.W.Frag) (c : Cs) : Sp := fun vs H Q _ => ∃ (x : Addr) (one two m : Int) (es : List (Int × Int)), vs = [.ref x, .int one, .int two] ∧ WebAt K c.Web H x m es ∧ m ≤ 20 ∧ es.length ≤ 40 ∧ EndsIn es m ∧ ¬ (0 ≤ one ∧ one < m ∧ 0 ≤ two ∧ two < m) ∧ ∀ H', Same H H' → Q (.bl true) H'
theorem scRf : FnScope ["web", "one", "two", "found", "e"] ["web", "one", "two"] (defScope sRf) := ⟨rfl, rfl, rfl, by decide +kernel, rfl, by decide +kernel, by decide +kernel⟩
set_option maxHeartbeats 4000000 in
theorem ok_Rf {f : Addr} {fd : FuncData} (F : Fun K "_law_refused" "_law_refused" sRf f fd) (T : Txt K mg c) (D_Tw : DefE P w K mg base 4 "two_ways" ["web", "one", "two"] (spTw K c)) (D_X : DefC P w K mg base 1 "_law_alone" ["e"] (spX K c)) : FnOk P w K mg base CX0 5 f fd ["web", "one", "two"] (spRf K c) := by
  refine F.ok scRf (fun vs H Q E h => ?_) (fun cdv A outer s H vs Q E hr h => ?_)
  · obtain ⟨x, one, two, m, es, rfl, _⟩ := h
    rfl
  · obtain ⟨x, one, two, m, es, rfl, hw, m2, hz, hE, h1, k⟩ := h
    have hu : A.units + 3 + 64 < cLine := hr.units
    refine ⟨_, pss_cons (ps_set (i := 3) scRf.nd rfl (Or.inl rfl) (pe_non))
      (pss_cons (ps_cut (ps_tryE (i := 4) ⟨rfl, rfl, rfl⟩ scRf.nd rfl rfl (by rfl) T.mFlowError T.xFlowError (fun pn Ex => pss_one (ps_expr (pe_defE D_Tw hr rfl rfl (pa_cons (pv 0) (pa_cons (pv 1) (pa_cons (pv 2) pa_nil)))))) (fun x => pss_one (ps_set (i := 3) scRf.nd rfl (Or.inl rfl) (pe_lst (pa_cons (pe_callB (cIsE (K := K) rfl) (by rfl) T.isinstance PyProof.Rows.boot_isinstance (pa_cons (pv 4) (pa_cons (pe_glob (v := .ref c.BadPlace) (by rfl) T.mBadPlace rfl) pa_nil))) (pa_cons (pe_defC D_X hr.held (pa_cons (pv 4) pa_nil)) pa_nil)))))))
      (pss_one (ps_ret (pe_cmpR (opEqD (K := K) rfl hu) (pv 3) (pe_lst (pa_cons (pe_bl) (pa_cons (pe_bl) pa_nil))) (nomark _))))), ?_⟩
    clear hu
    refine ⟨fun σ' H' => ∃ l, σ' = [some (.ref x), some (.int one), some (.int two), some (.ref l), none] ∧ Same H H' ∧ H' l = some (.lst [V.bl true, V.bl true]), ?_, ?_⟩
    · refine ⟨fun σ' C H' => σ' = [some (.ref x), some (.int one), some (.int two), some .non, none] ∧ Same H H' ∧ C = .ref c.BadPlace, ?_, ?_⟩
      · exact ⟨_, rfl, _, rfl, _, rfl, x, one, two, m, es, rfl, hw, m2, hz, hE, fun _ => ⟨rfl, Same.refl _, rfl⟩, fun a b c d => absurd ⟨a, b, c, d⟩ h1, fun a b c d => absurd ⟨a, b, c, d⟩ h1⟩
      · rintro σ' C H' ⟨rfl, s1, rfl⟩
        refine ⟨_, rfl, T.xBadPlace, T.rBadPlace, fun y ny => ?_⟩
        have s2 := s1.next (o := .ext (ExcO y (.ref c.BadPlace))) ny
        have y2 : (upd H' y (.ext (ExcO y (.ref c.BadPlace)))) y = some (.ext (ExcO y (.ref c.BadPlace))) := upd_same
        generalize upd H' y (.ext (ExcO y (.ref c.BadPlace))) = H2 at s2 y2
        exact ⟨_, rfl, y, _, _, _, true, rfl, rfl, fun _ z => z, y2, T.alBadPlace.ex, kit_self _ _, _, rfl, y, _, rfl, y2, T.alBadPlace, fun H3 s3 => ⟨(by show 2 ≤ sizeLine; decide), fun l nl => ⟨l, rfl, (s2.trans s3).next nl, upd_same⟩⟩⟩
    · rintro σ' H2 ⟨l, rfl, s2, e2⟩
      refine ⟨_, rfl, (by show 2 ≤ sizeLine; decide), fun l2 nl2 => ?_⟩
      exact ⟨.list [.bool true, .bool true], .list [.bool true, .bool true], .lst (SqL.of (Same.new nl2 _ _ e2)) (.cons (.bl _) (.cons (.bl _) .nil)), .lst (SqL.of upd_same) (.cons (.bl _) (.cons (.bl _) .nil)), rfl, rfl, k _ (s2.next nl2)⟩
theorem eqv_t2 (as bs cs ds : List Int) : PyData.eqv (.tuple [dI as, dI bs]) (.tuple [dI cs, dI ds]) = (decide (as = cs) && decide (bs = ds)) := by
  show PyData.eqvAll [dI as, dI bs] [dI cs, dI ds] = _
  simp only [PyData.eqvAll, eqv_dI, Bool.and_true]
theorem shaped_t2 (as bs : List Int) : SeqAt.shaped (.tuple [dI as, dI bs]) = true := by
  obtain ⟨h1, h2⟩ := dI_lay as
  obtain ⟨h3, h4⟩ := dI_lay bs
  unfold SeqAt.shaped dI
  simp only [PyData.canLay0, PyData.canLayAll0, PyData.depth, PyData.depthAll, h1, h2, h3, h4]
  rfl
theorem dat_t2 {K : PySem.W.Frag} {H : Hp} {t l1 l2 : Addr} {as bs : List Int} (ht : H t = some (.tup [.ref l1, .ref l2])) (h1 : H l1 = some (.lst (as.map V.int))) (h2 : H l2 = some (.lst (bs.map V.int))) : DatV K H (.ref t) (.tuple [dI as, dI bs]) := .tup (SqT.of ht) (.cons (dat_ints (SqL.of h1)) (.cons (dat_ints (SqL.of h2)) .nil))
theorem fwT_self (es : List (Int × Int)) (ss : List Int) (a : Int) (m : Nat) : fwT es ss a a m = [] := by
  unfold fwT
  rw [runF_end (.inl (List.mem_singleton.mpr rfl))]
theorem scL : FnScope ["script", "many", "ends", "names", "web", "k", "cell", "one", "two", "found", "kept", "place", "same", "bad"] ["script"] (defScope sL) := ⟨rfl, rfl, rfl, by decide +kernel, rfl, by decide +kernel, by decide +kernel⟩
set_option maxHeartbeats 16000000 in
theorem ok_L {f : Addr} {fd : FuncData} (F : Fun K "law" "law" sL f fd) (T : Txt K mg c) (D_C : Def P w K mg base 1 "_law_cell" ["script", "k"] (spC K)) (D_D : Def P w K mg base 3 "_law_drawn" ["script", "most", "bound"] (spD K)) (D_Ea : Def P w K mg base 2 "_law_ears" ["script", "at", "most", "bound"] (spEa K)) (D_Pa : Def P w K mg base 2 "_law_parts" ["many", "ends"] (spPa K)) (D_Tw : DefE P w K mg base 4 "two_ways" ["web", "one", "two"] (spTw K c)) (D_R : Def P w K mg base 3 "_law_right" ["ends", "found", "names", "one", "two"] (spR K)) (D_Rf : Def P w K mg base 5 "_law_refused" ["web", "one", "two"] (spRf K c)) (D_N : MkDef P w K mg base 1 "Web" c.Web ["self", "many", "ties"] (spInit K c.Web)) : FnOk P w K mg base CX0 6 f fd ["script"] (spLaw K) := by
  refine F.ok scL (fun vs H Q E h => ?_) (fun cdv A outer s H vs Q E hr h => ?_)
  · obtain ⟨a, ns, rfl, _⟩ := h
    rfl
  · obtain ⟨a, ns, rfl, hS, hlen, k⟩ := h
    have hu : A.units + 3 + 64 < cLine := hr.units
    refine ⟨_, pss_cons (ps_asg (pe_defR D_D hr (pa_cons (pv 0) (pa_cons (pe_int) (pa_cons (pe_int) pa_nil)))) (pgTup (K := K) (n := 2) rfl rfl (pgs_cons (pg_name (i := 1) scL.nd rfl (Or.inl rfl)) (pgs_cons (pg_name (i := 2) scL.nd rfl (Or.inl rfl)) (pgs_nil))) rfl))
      (pss_cons (ps_cut (ps_if (pt_cmpR op_eq (pe_op op_mod (pe_defR D_C hr (pa_cons (pv 0) (pa_cons (pe_int) pa_nil))) (pe_int)) (pe_int) (nomark _))
        (pss_one (ps_asg (pe_defR D_Ea hr (pa_cons (pv 0) (pa_cons (pe_int) (pa_cons (pe_int) (pa_cons (pe_int) pa_nil))))) (pgTup (K := K) (n := 2) rfl rfl (pgs_cons (pg_name (i := 1) scL.nd rfl (Or.inl rfl)) (pgs_cons (pg_name (i := 2) scL.nd rfl (Or.inl rfl)) (pgs_nil))) rfl))) (pss_nil)))
      (pss_cons (ps_set (i := 3) scL.nd rfl (Or.inl rfl) (pe_defR D_Pa hr (pa_cons (pv 1) (pa_cons (pv 2) pa_nil))))
      (pss_cons (ps_set (i := 4) scL.nd rfl (Or.inl rfl) (pe_web D_N hr (pa_cons (pv 1) (pa_cons (pe_callTy (cList (K := K) rfl) (by rfl) T.list PyProof.Rows.boot_list (pa_cons (pv 2) pa_nil)) pa_nil))))
      (pss_cons (ps_for PassesOwn.never rfl (pi_range1 rfl T.range (pa_cons (pe_callB (call_min2 rfl) (by rfl) T.min PyProof.Rows.boot_min (pa_cons (pe_int) (pa_cons (pe_op op_add (pe_callB (cLen (K := K) rfl) (by rfl) T.len PySem.boot_len (pa_cons (pv 0) pa_nil)) (pe_int)) pa_nil))) pa_nil)) (pg_name (i := 5) scL.nd rfl (Or.inl rfl))
        (pss_cons (ps_cut (ps_set (i := 6) scL.nd rfl (Or.inl rfl) (pe_op op_add (pe_defR D_C hr (pa_cons (pv 0) (pa_cons (pv 5) pa_nil))) (pe_op op_mul (pe_int) (pv 5)))))
      (pss_cons (ps_cut (ps_set (i := 7) scL.nd rfl (Or.inl rfl) (pe_op op_mod (pv 6) (pv 1))))
      (pss_cons (ps_cut (ps_set (i := 8) scL.nd rfl (Or.inl rfl) (pe_op op_mod (pe_op op_fdiv (pv 6) (pv 1)) (pv 1))))
      (pss_cons (ps_set (i := 9) scL.nd rfl (Or.inl rfl) (pe_defR D_Tw.calm hr (pa_cons (pv 4) (pa_cons (pv 7) (pa_cons (pv 8) pa_nil)))))
      (pss_cons (ps_if (pt_not (pt_val (pe_defR D_R hr (pa_cons (pv 2) (pa_cons (pv 9) (pa_cons (pv 3) (pa_cons (pv 7) (pa_cons (pv 8) pa_nil))))))))
        (pss_one (ps_ret (pe_bl))) (pss_nil))
      (pss_one (ps_cut (ps_if (PW.pt (pw_and (pt_cmpR op_notN (pv 9) (pe_non) (nomark _)) (pw_and1 (pt_cmpR op_eq (pe_op op_mod (pv 5) (pe_int)) (pe_int) (nomark _)))))
        (pss_cons (ps_set (i := 10) scL.nd rfl (Or.inl rfl) (pe_tup (pa_cons (pe_callTy (cList (K := K) rfl) (by rfl) T.list PyProof.Rows.boot_list (pa_cons (pe_ix (ixT (K := K) rfl) (pv 9) (pe_int) (fun _ _ => rfl)) pa_nil)) (pa_cons (pe_callTy (cList (K := K) rfl) (by rfl) T.list PyProof.Rows.boot_list (pa_cons (pe_ix (ixT (K := K) rfl) (pv 9) (pe_int) (fun _ _ => rfl)) pa_nil)) pa_nil))))
      (pss_cons (ps_expr (pe_bm PySem.F.plainAttrs_list PySem.F.slot_list_append PySem.F.type_list_append mt_append (pe_ix (ixT (K := K) rfl) (pv 9) (pe_int) (fun _ _ => rfl)) (pa_cons (pe_int) pa_nil)))
      (pss_cons (ps_expr (pe_bm0 PySem.F.plainAttrs_list PySem.F.slot_list_clear PySem.F.type_list_clear mt_clear (pe_ix (ixT (K := K) rfl) (pv 9) (pe_int) (fun _ _ => rfl))))
      (pss_one (ps_if (pt_cmpR (opNeD (K := K) rfl hu) (pe_defR D_Tw.calm hr (pa_cons (pv 4) (pa_cons (pv 7) (pa_cons (pv 8) pa_nil)))) (pv 10) (nomark _))
        (pss_one (ps_ret (pe_bl))) (pss_nil)))))) (pss_nil))))))))))
      (pss_cons (ps_cut (ps_set (i := 11) scL.nd rfl (Or.inl rfl) (pe_op op_mod (pe_callB (cSum (K := K) rfl rfl) (by rfl) T.sum PyProof.Rows.boot_sum (pa_cons (pv 0) pa_nil)) (pv 1))))
      (pss_cons (ps_set (i := 12) scL.nd rfl (Or.inl rfl) (pe_defR D_Tw.calm hr (pa_cons (pv 4) (pa_cons (pv 11) (pa_cons (pv 11) pa_nil)))))
      (pss_cons (ps_expr (pe_bm PySem.F.plainAttrs_list PySem.F.slot_list_append PySem.F.type_list_append mt_append (pe_ix (ixT (K := K) rfl) (pv 12) (pe_int) (fun _ _ => rfl)) (pa_cons (pe_int) pa_nil)))
      (pss_cons (ps_if (PW.pt (pw_or (pt_cmpR (opNeD (K := K) rfl hu) (pv 12) (pe_tup (pa_cons (pe_lst (pa_cons (pe_int) pa_nil)) (pa_cons (pe_lst pa_nil) pa_nil))) (nomark _)) (pw_or1 (pt_cmpR (opNeD (K := K) rfl hu) (pe_defR D_Tw.calm hr (pa_cons (pv 4) (pa_cons (pv 11) (pa_cons (pv 11) pa_nil)))) (pe_tup (pa_cons (pe_lst pa_nil) (pa_cons (pe_lst pa_nil) pa_nil))) (nomark _)))))
        (pss_one (ps_ret (pe_bl))) (pss_nil))
      (pss_cons (ps_for PassesOwn.never rfl (piSeq (K := K) rfl (pe_lst (pa_cons (pe_un un_neg (pe_int)) (pa_cons (pv 1) (pa_cons (pe_op op_add (pv 1) (pe_op op_mod (pe_callB (cSum (K := K) rfl rfl) (by rfl) T.sum PyProof.Rows.boot_sum (pa_cons (pv 0) pa_nil)) (pe_op op_pow (pe_int) (pe_int)))) (pa_cons (pe_op op_sub (pe_un un_neg (pe_int)) (pe_op op_mod (pe_callB (cSum (K := K) rfl rfl) (by rfl) T.sum PyProof.Rows.boot_sum (pa_cons (pv 0) pa_nil)) (pe_op op_pow (pe_int) (pe_int)))) pa_nil)))))) (pg_name (i := 13) scL.nd rfl (Or.inl rfl))
        (pss_one (ps_if (PW.pt (pw_or (pt_not (pt_val (pe_defR D_Rf hr (pa_cons (pv 4) (pa_cons (pv 13) (pa_cons (pv 11) pa_nil)))))) (pw_or1 (pt_not (pt_val (pe_defR D_Rf hr (pa_cons (pv 4) (pa_cons (pv 11) (pa_cons (pv 13) pa_nil)))))))))
        (pss_one (ps_ret (pe_bl))) (pss_nil))))
      (pss_one (ps_ret (pe_bl)))))))))))), ?_⟩
    clear hu
    refine ⟨_, rfl, a, ns, 20, 40, rfl, hS, by decide, by decide, by decide, by decide, fun t l m xs es H1 hl sH ht hl1 hp m1 m20 hz hE => ?_⟩
    refine ⟨t, _, rfl, SqT.of ht, rfl, _, _, rfl, _, _, rfl, rfl, ?_⟩
    refine ⟨fun σ' H' => ∃ (l : Addr) (m : Int) (xs : List V) (es : List (Int × Int)), σ' = [some (.ref a), some (.int m), some (.ref l), none, none, none, none, none, none, none, none, none, none, none] ∧ Same H H' ∧ H' l = some (.lst xs) ∧ Pairs K H' xs es ∧ 1 ≤ m ∧ m ≤ 20 ∧ (es.length : Int) ≤ 40 ∧ EndsIn es m, ?_, ?_⟩
    · refine ⟨_, rfl, a, ns, 0, rfl, sH.seq hS, by decide, _, _, rfl, rfl, (by show (0 : Int) < 2; decide), rfl, _, rfl, ite2 (fun _ => ?_) (fun _ => ?_)⟩
      · refine ⟨_, rfl, a, ns, 2, 20, 40, rfl, sH.seq hS, hlen, by decide, by decide, by decide, by decide, by decide, by decide, fun t' l' m' xs' es' H2 hl' s2 ht' hl2 hp' m1' m2' hz' hE' => ?_⟩
        exact ⟨t', _, rfl, SqT.of ht', rfl, _, _, rfl, _, _, rfl, rfl, l', m', xs', es', rfl, sH.trans s2, hl2, hp', m1', m2', hz', hE'⟩
      · exact ⟨l, m, xs, es, rfl, sH, hl1, hp, m1, m20, hz, hE⟩
    clear hE hz m20 m1 hp hl1 ht sH hl
    rintro σ' HX ⟨l, m, xs, es, rfl, sX, lX, pX, m1, m20, hz, hE⟩
    have hxl := pX.len
    have hz' : es.length ≤ 40 := by lia
    have SX := sX.seq hS
    refine ⟨_, rfl, _, rfl, l, m, xs, es, rfl, SqL.of lX, pX, m1, m20, hz', hE, fun ln ls H2 nln s2 e2 hll hN => ?_⟩
    refine ⟨_, rfl, _, rfl, l, _, rfl, .inl (SqL.of (s2 _ _ lX)), fun l3 n3 => ?_⟩
    have s3 := s2.next (o := .lst xs) n3
    have e3 : (upd H2 l3 (.lst xs)) l3 = some (.lst xs) := upd_same
    have n3' := Same.new (o := .lst xs) n3 _ _ e2
    have p3 := pX.same s3
    generalize upd H2 l3 (.lst xs) = H3 at s3 e3 p3 n3'
    refine ⟨l3, m, xs, es, rfl, .inl (SqL.of e3), p3, m1, m20, hz', hE, fun x HW nx sW hw => ?_⟩
    have s1W := s3.trans sW
    have lW := s1W _ _ lX
    have pW := pX.same s1W
    have nW := sW _ _ n3'
    have SW := s1W.seq SX
    clear s3 e3 p3 sW s1W lX pX SX sX hS n3' s2 e2
    have mE : ((m.toNat : Nat) : Int) = m := by lia
    have hN' : ∀ p q : Int, 0 ≤ p → p < m → 0 ≤ q → q < m → (lf ls p = lf ls q ↔ Cn (sub es (kpt es es.length)) p q) := fun p q p0 p1 q0 q1 => hN.iff p0 p1 q0 q1
    have hll' : (ls.length : Int) = m := by lia
    refine ⟨_, rfl, a, _, rfl, .inl SW, _, _, rfl, rfl, _, _, rfl, _, rfl, by split <;> lia, by split <;> lia, for_by itok_range (fun i σ H6 => Same HW H6 ∧ ∃ v5 v6 v7 v8 v9 v10, σ = [some (.ref a), some (.int m), some (.ref l), some (.ref ln), some (.ref x), v5, v6, v7, v8, v9, v10, none, none, none]) ⟨Same.refl _, _, _, _, _, _, _, rfl⟩ (fun _ _ _ _ _ => trivial) ?_ ?_⟩
    · rintro i σ H6 hi ⟨s6, v5, v6, v7, v8, v9, v10, rfl⟩
      have S6 := s6.seq SW
      have w6 := hw.same s6
      have l6 := s6 _ _ lW
      have n6 := s6 _ _ nW
      obtain ⟨kk, ek⟩ : ∃ kk : Int, kk = 0 + (i : Nat) := ⟨_, rfl⟩
      rw [← ek]
      have k0 : 0 ≤ kk := by lia
      refine ⟨fun σ' H' => H' = H6 ∧ ∃ ce : Int, σ' = [some (.ref a), some (.int m), some (.ref l), some (.ref ln), some (.ref x), some (.int kk), some (.int ce), v7, v8, v9, v10, none, none, none], ?_, ?_⟩
      · exact ⟨_, rfl, _, rfl, a, ns, kk, rfl, S6, k0, _, rfl, _, _, rfl, rfl, .inl ⟨by decide, by decide⟩, _, _, rfl, rfl, rfl, _, rfl⟩
      rintro σ' H6' ⟨rfl, ce, rfl⟩
      refine ⟨fun σ' H' => H' = H6' ∧ ∃ one : Int, 0 ≤ one ∧ one < m ∧ σ' = [some (.ref a), some (.int m), some (.ref l), some (.ref ln), some (.ref x), some (.int kk), some (.int ce), some (.int one), v8, v9, v10, none, none, none], ?_, ?_⟩
      · exact ⟨_, rfl, _, rfl, _, _, rfl, rfl, (by show 0 < m; lia), rfl, _, Int.emod_nonneg _ (by lia), Int.emod_lt_of_pos _ (by lia), rfl⟩
      rintro σ' H6' ⟨rfl, one, o0, o1, rfl⟩
      refine ⟨fun σ' H' => H' = H6' ∧ ∃ two : Int, 0 ≤ two ∧ two < m ∧ σ' = [some (.ref a), some (.int m), some (.ref l), some (.ref ln), some (.ref x), some (.int kk), some (.int ce), some (.int one), some (.int two), v9, v10, none, none, none], ?_, ?_⟩
      · exact ⟨_, rfl, _, rfl, _, _, rfl, rfl, ⟨by lia, by lia⟩, _, rfl, _, _, rfl, rfl, (by show 0 < m; lia), rfl, _, Int.emod_nonneg _ (by lia), Int.emod_lt_of_pos _ (by lia), rfl⟩
      rintro σ' H6' ⟨rfl, two, t0, t1, rfl⟩
      refine ⟨_, rfl, _, rfl, _, rfl, x, one, two, m, es, rfl, w6, m20, hz', hE, fun z => absurd ⟨o0, o1, t0, t1⟩ z, fun _ _ _ _ hn H9 s9 => ?_, fun _ _ _ _ t l1 l2 H9 n1 n2 n12 s9 et e1 e2 R => ?_⟩
      · have s69 := s6.trans s9
        refine ⟨_, rfl, _, rfl, _, rfl, _, rfl, _, rfl, l, ln, .non, one, two, xs, es, ls, rfl, SqL.of (s69 _ _ lW), pW.same s69, hz', SqL.of (s69 _ _ nW), o0, by lia, t0, by lia, .inl ⟨rfl, fun z => hn ((hN' one two o0 o1 t0 t1).mp z)⟩, fun HA sA => ⟨true, rfl, iteF ?_⟩⟩
        have s6A := s69.trans sA
        refine ⟨fun σ' H' => Same HW H' ∧ ∃ v5 v6 v7 v8 v9 v10, σ' = [some (.ref a), some (.int m), some (.ref l), some (.ref ln), some (.ref x), v5, v6, v7, v8, v9, v10, none, none, none], ?_, fun _ _ z => z⟩
        refine ⟨_, rfl, rfl, _, rfl, ?_⟩
        rw [decide_eq_true (rfl : V.non = V.non)]
        exact iteF ⟨s6A, _, _, _, _, _, _, rfl⟩
      · have s69 := s6.trans s9
        refine ⟨_, rfl, _, rfl, _, rfl, _, rfl, _, rfl, l, ln, .ref t, one, two, xs, es, ls, rfl, SqL.of (s69 _ _ lW), pW.same s69, hz', SqL.of (s69 _ _ nW), o0, by lia, t0, by lia, .inr ⟨(hN' one two o0 o1 t0 t1).mpr R.cn, t, l1, l2, _, _, rfl, et, e1, e2, R⟩, fun HA sA => ⟨true, rfl, iteF ?_⟩⟩
        have s6A := s69.trans sA
        have tA := sA _ _ et
        have e1A := sA _ _ e1
        have e2A := sA _ _ e2
        refine ⟨fun σ' H' => Same HW H' ∧ ∃ v5 v6 v7 v8 v9 v10, σ' = [some (.ref a), some (.int m), some (.ref l), some (.ref ln), some (.ref x), v5, v6, v7, v8, v9, v10, none, none, none], ?_, fun _ _ z => z⟩
        refine ⟨_, rfl, rfl, _, rfl, ?_⟩
        rw [decide_eq_false (show ¬ V.ref t = V.non from fun z => nomatch z)]
        refine iteT ⟨_, rfl, _, _, rfl, rfl, (by show (0 : Int) < 8; decide), rfl, _, rfl, ite2 (fun c1 => ?_) (fun c1 => ⟨s6A, _, _, _, _, _, _, rfl⟩)⟩
        generalize eA : tw1 m.toNat es one two = A1 at *
        generalize eB : tw2 m.toNat es one two = B1 at *
        refine ⟨_, rfl, t, _, 0, _, rfl, rfl, SqT.of tA, rfl, l1, _, rfl, .inl (SqL.of e1A), fun k1 nk1 => ?_⟩
        have sB := s6A.next (o := .lst (A1.map V.int)) nk1
        have sAB := Same.new (o := .lst (A1.map V.int)) nk1
        have kB : (upd HA k1 (.lst (A1.map V.int))) k1 = some (.lst (A1.map V.int)) := upd_same
        generalize upd HA k1 (.lst (A1.map V.int)) = HB at sB sAB kB
        refine ⟨_, rfl, t, _, 1, _, rfl, rfl, SqT.of (sAB _ _ tA), rfl, l2, _, rfl, .inl (SqL.of (sAB _ _ e2A)), fun k2 nk2 => ?_⟩
        have sC := sB.next (o := .lst (B1.map V.int)) nk2
        have sBC := Same.new (o := .lst (B1.map V.int)) nk2
        have kC : (upd HB k2 (.lst (B1.map V.int))) k2 = some (.lst (B1.map V.int)) := upd_same
        generalize upd HB k2 (.lst (B1.map V.int)) = HC at sC sBC kC
        refine ⟨(by show 2 ≤ sizeLine; decide), fun kt nkt => ?_⟩
        have sD := sC.next (o := .tup [V.ref k1, V.ref k2]) nkt
        have sCD := Same.new (o := .tup [V.ref k1, V.ref k2]) nkt
        have kD : (upd HC kt (.tup [V.ref k1, V.ref k2])) kt = some (.tup [V.ref k1, V.ref k2]) := upd_same
        generalize upd HC kt (.tup [V.ref k1, V.ref k2]) = HD at sD sCD kD
        have sAD := (sAB.trans sBC).trans sCD
        have k1D := sCD _ _ (sBC _ _ kB)
        have k2D := sCD _ _ kC
        have tD := sAD _ _ tA
        have e1D := sAD _ _ e1A
        have e2D := sAD _ _ e2A
        have d1 : HW l1 = none := none_back s6 n1
        have d2 : HW l2 = none := none_back s6 n2
        have ntl : kt ≠ l1 ∧ kt ≠ l2 := ⟨(ne_of_none (sBC _ _ (sAB _ _ e1A)) nkt).symm, (ne_of_none (sBC _ _ (sAB _ _ e2A)) nkt).symm⟩
        have nk1l : k1 ≠ l1 ∧ k1 ≠ l2 := ⟨(ne_of_none e1A nk1).symm, (ne_of_none e2A nk1).symm⟩
        have nk2l : k2 ≠ l1 ∧ k2 ≠ l2 := ⟨(ne_of_none (sAB _ _ e1A) nk2).symm, (ne_of_none (sAB _ _ e2A) nk2).symm⟩
        have tl : t ≠ l1 := ne_of tD e1D (by intro z; cases z)
        have ha40 : A1.length ≤ 40 := by
          obtain ⟨ss, ps, W1⟩ := R.w1
          have := nodup_len (m := (es.length : Int)) W1.tnd fun z hz => (W1.sub z hz).2
          lia
        refine ⟨_, rfl, t, _, 0, _, rfl, rfl, SqT.of tD, rfl, .inl ⟨rfl, _, SqL.of e1D⟩, l1, _, _, rfl, rfl, e1D, small1000 (by rw [List.length_map]; lia), ?_⟩
        have sE := sD.upd (o := .lst (A1.map V.int ++ [V.int 0])) d1
        have tE : (upd HD l1 (.lst (A1.map V.int ++ [V.int 0]))) t = some (.tup [.ref l1, .ref l2]) := by rw [upd_ne tl]; exact tD
        have kE : (upd HD l1 (.lst (A1.map V.int ++ [V.int 0]))) kt = some (.tup [.ref k1, .ref k2]) := by rw [upd_ne ntl.1]; exact kD
        have k1E : (upd HD l1 (.lst (A1.map V.int ++ [V.int 0]))) k1 = some (.lst (A1.map V.int)) := by rw [upd_ne nk1l.1]; exact k1D
        have k2E : (upd HD l1 (.lst (A1.map V.int ++ [V.int 0]))) k2 = some (.lst (B1.map V.int)) := by rw [upd_ne nk2l.1]; exact k2D
        have e2E : (upd HD l1 (.lst (A1.map V.int ++ [V.int 0]))) l2 = some (.lst (B1.map V.int)) := by rw [upd_ne n12.symm]; exact e2D
        generalize upd HD l1 (.lst (A1.map V.int ++ [V.int 0])) = HE at sE tE kE k1E k2E e2E
        refine ⟨_, rfl, t, _, 1, _, rfl, rfl, SqT.of tE, rfl, .inl ⟨rfl, _, SqL.of e2E⟩, l2, _, rfl, rfl, e2E, ?_⟩
        have sF := sE.upd (o := .lst []) d2
        have kF : (upd HE l2 (.lst [])) kt = some (.tup [.ref k1, .ref k2]) := by rw [upd_ne ntl.2]; exact kE
        have k1F : (upd HE l2 (.lst [])) k1 = some (.lst (A1.map V.int)) := by rw [upd_ne nk1l.2]; exact k1E
        have k2F : (upd HE l2 (.lst [])) k2 = some (.lst (B1.map V.int)) := by rw [upd_ne nk2l.2]; exact k2E
        generalize upd HE l2 (.lst []) = HF at sF kF k1F k2F
        refine ⟨_, rfl, _, rfl, _, rfl, x, one, two, m, es, rfl, hw.same sF, m20, hz', hE, fun z => absurd ⟨o0, o1, t0, t1⟩ z, fun _ _ _ _ hn => absurd R.cn hn, fun _ _ _ _ t' l1' l2' HG n1' n2' n12' sG et' e1' e2' R' => ?_⟩
        rw [eA] at e1'
        rw [eB] at e2'
        refine ⟨_, rfl, _, _, dat_t2 et' e1' e2', dat_t2 (sG _ _ kF) (sG _ _ k1F) (sG _ _ k2F), shaped_t2 _ _, shaped_t2 _ _, _, rfl, ?_⟩
        rw [eqv_t2, decide_eq_true rfl, decide_eq_true rfl]
        exact iteF ⟨sF.trans sG, _, _, _, _, _, _, rfl⟩
    · rintro σ H6 ⟨s6, v5, v6, v7, v8, v9, v10, rfl⟩
      have S6 := s6.seq SW
      have w6 := hw.same s6
      refine ⟨fun σ' H' => H' = H6 ∧ ∃ pl : Int, 0 ≤ pl ∧ pl < m ∧ σ' = [some (.ref a), some (.int m), some (.ref l), some (.ref ln), some (.ref x), v5, v6, v7, v8, v9, v10, some (.int pl), none, none], ?_, ?_⟩
      · exact ⟨_, rfl, a, ns, rfl, .inl S6, _, rfl, _, _, rfl, rfl, (by show 0 < m; lia), rfl, _, Int.emod_nonneg _ (by lia), Int.emod_lt_of_pos _ (by lia), rfl⟩
      rintro σ' H6' ⟨rfl, pl, p0, p1, rfl⟩
      have z1 : tw1 m.toNat es pl pl = [] := fwT_self ..
      have z2 : tw2 m.toNat es pl pl = [] := fwT_self ..
      refine ⟨_, rfl, _, rfl, _, rfl, x, pl, pl, m, es, rfl, w6, m20, hz', hE, fun z => absurd ⟨p0, p1, p0, p1⟩ z, fun _ _ _ _ hn => absurd (Cn.refl _) hn, fun _ _ _ _ t l1 l2 H7 n1 n2 n12 s7 et e1 e2 R => ?_⟩
      rw [z1] at e1
      rw [z2] at e2
      have tl : t ≠ l1 := ne_of et e1 (by intro z; cases z)
      refine ⟨_, rfl, t, _, 0, _, rfl, rfl, SqT.of et, rfl, .inl ⟨rfl, _, SqL.of e1⟩, l1, _, _, rfl, rfl, e1, small1000 (by show 0 ≤ 1000; decide), ?_⟩
      have s8 := s7.upd (o := .lst (([] : List Int).map V.int ++ [V.int 0])) n1
      have t8 : (upd H7 l1 (.lst (([] : List Int).map V.int ++ [V.int 0]))) t = some (.tup [.ref l1, .ref l2]) := by rw [upd_ne tl]; exact et
      have f8 : (upd H7 l1 (.lst (([] : List Int).map V.int ++ [V.int 0]))) l1 = some (.lst (([0] : List Int).map V.int)) := upd_same
      have g8 : (upd H7 l1 (.lst (([] : List Int).map V.int ++ [V.int 0]))) l2 = some (.lst (([] : List Int).map V.int)) := by rw [upd_ne n12.symm]; exact e2
      generalize upd H7 l1 (.lst (([] : List Int).map V.int ++ [V.int 0])) = H8 at s8 t8 f8 g8
      refine ⟨_, rfl, (by show 1 ≤ sizeLine; decide), fun q1 nq1 => ?_⟩
      have s9 := Same.new (o := .lst [V.int 0]) nq1
      have q9 : (upd H8 q1 (.lst [V.int 0])) q1 = some (.lst (([0] : List Int).map V.int)) := upd_same
      generalize upd H8 q1 (.lst [V.int 0]) = H9 at s9 q9
      refine ⟨by decide, fun q2 nq2 => ?_⟩
      have sA := Same.new (o := .lst []) nq2
      have qA : (upd H9 q2 (.lst [])) q2 = some (.lst (([] : List Int).map V.int)) := upd_same
      generalize upd H9 q2 (.lst []) = HA at sA qA
      refine ⟨(by show 2 ≤ sizeLine; decide), fun q3 nq3 => ?_⟩
      have sB := Same.new (o := .tup [V.ref q1, V.ref q2]) nq3
      have qB : (upd HA q3 (.tup [V.ref q1, V.ref q2])) q3 = some (.tup [V.ref q1, V.ref q2]) := upd_same
      generalize upd HA q3 (.tup [V.ref q1, V.ref q2]) = HB at sB qB
      have sAB := sA.trans sB
      have s8B := s9.trans sAB
      refine ⟨_, _, dat_t2 (s8B _ _ t8) (s8B _ _ f8) (s8B _ _ g8), dat_t2 qB (sAB _ _ q9) (sB _ _ qA), shaped_t2 _ _, shaped_t2 _ _, _, rfl, ?_⟩
      rw [eqv_t2, decide_eq_true rfl, decide_eq_true rfl]
      have s0B := s8.trans s8B
      refine iteF ⟨_, rfl, _, rfl, _, rfl, x, pl, pl, m, es, rfl, w6.same s0B, m20, hz', hE, fun z => absurd ⟨p0, p1, p0, p1⟩ z, fun _ _ _ _ hn => absurd (Cn.refl _) hn, fun _ _ _ _ t' l1' l2' HC n1' n2' n12' sC et' e1' e2' R' => ?_⟩
      rw [z1] at e1'
      rw [z2] at e2'
      refine ⟨by decide, fun r1 nr1 => ?_⟩
      have sD := Same.new (o := .lst []) nr1
      have rD : (upd HC r1 (.lst [])) r1 = some (.lst (([] : List Int).map V.int)) := upd_same
      generalize upd HC r1 (.lst []) = HD at sD rD
      refine ⟨by decide, fun r2 nr2 => ?_⟩
      have sE := Same.new (o := .lst []) nr2
      have rE : (upd HD r2 (.lst [])) r2 = some (.lst (([] : List Int).map V.int)) := upd_same
      generalize upd HD r2 (.lst []) = HE at sE rE
      refine ⟨(by show 2 ≤ sizeLine; decide), fun r3 nr3 => ?_⟩
      have sF := Same.new (o := .tup [V.ref r1, V.ref r2]) nr3
      have rF : (upd HE r3 (.tup [V.ref r1, V.ref r2])) r3 = some (.tup [V.ref r1, V.ref r2]) := upd_same
      generalize upd HE r3 (.tup [V.ref r1, V.ref r2]) = HF at sF rF
      have sEF := sE.trans sF
      have sCF := sD.trans sEF
      refine ⟨_, _, dat_t2 (sCF _ _ et') (sCF _ _ e1') (sCF _ _ e2'), dat_t2 rF (sEF _ _ rD) (sF _ _ rE), shaped_t2 _ _, shaped_t2 _ _, _, rfl, ?_⟩
      rw [eqv_t2, decide_eq_true rfl]
      have s6F := (s0B.trans sC).trans sCF
      have wF := w6.same s6F
      have SF := s6F.seq S6
      have hdz : 0 ≤ ns.sum % (10 : Int) ^ (40 : Int).toNat := Int.emod_nonneg _ (by decide)
      refine iteF ?_
      refine ⟨_, rfl, _, rfl, _, rfl, _, rfl, a, ns, rfl, .inl SF, _, _, rfl, rfl, ⟨by decide, by decide, by decide⟩, _, _, rfl, rfl, (by show (0 : Int) < 10 ^ 40; decide), _, _, rfl, rfl, ?_⟩
      refine ⟨_, rfl, _, rfl, a, ns, rfl, .inl SF, _, _, rfl, rfl, ⟨by decide, by decide, by decide⟩, _, _, rfl, rfl, (by show (0 : Int) < 10 ^ 40; decide), _, _, rfl, rfl, (by show 4 ≤ sizeLine; decide), fun q nq => ?_⟩
      obtain ⟨vs, ev⟩ : ∃ vs : List V, vs = [V.int (-1), V.int m, V.int (m + ns.sum % (10 : Int) ^ (40 : Int).toNat), V.int (-1 - ns.sum % (10 : Int) ^ (40 : Int).toNat)] := ⟨_, rfl⟩
      rw [show upd HF q (.lst [V.int (-1), V.int m, V.int (m + ns.sum % (10 : Int) ^ (40 : Int).toNat), V.int (-1 - ns.sum % (10 : Int) ^ (40 : Int).toNat)]) = upd HF q (.lst vs) by rw [ev]]
      generalize ns.sum % (10 : Int) ^ (40 : Int).toNat = wz at hdz ev
      have hvl : vs.length = 4 := by rw [ev]; rfl
      have hvs : ∀ i, i < vs.length → ∃ z : Int, vs.getD i .non = .int z ∧ ¬ (0 ≤ z ∧ z < m) := fun i hi => by
        rw [ev] at hi ⊢
        have : i = 0 ∨ i = 1 ∨ i = 2 ∨ i = 3 := by
          have : i < 4 := hi
          lia
        rcases this with e | e | e | e <;> subst e
        · exact ⟨_, rfl, by lia⟩
        · exact ⟨_, rfl, by lia⟩
        · exact ⟨_, rfl, by lia⟩
        · exact ⟨_, rfl, by lia⟩
      have sq := Same.new (o := .lst vs) nq
      have q7 : (upd HF q (.lst vs)) q = some (.lst vs) := upd_same
      generalize upd HF q (.lst vs) = HG at sq q7
      refine ⟨q, vs, rfl, .inl (SqL.of q7), fun J C O hC => for_by O (fun i σ H8 => Same HG H8 ∧ ∃ v13 : Option V, σ = [some (.ref a), some (.int m), some (.ref l), some (.ref ln), some (.ref x), v5, v6, v7, v8, v9, v10, some (.int pl), some (.ref t), v13]) ⟨Same.refl _, _, rfl⟩ (fun i σ H8 _ h => hC _ h.1) ?_ ?_⟩
      · rintro i σ H8 hi ⟨s8', v13, rfl⟩
        obtain ⟨z, ez, hz2⟩ := hvs i hi
        try dsimp only
        rw [ez]
        have w8 := (wF.same sq).same s8'
        refine ⟨_, rfl, _, rfl, _, rfl, x, z, pl, m, es, rfl, w8, m20, hz', hE, fun y => hz2 ⟨y.1, y.2.1⟩, fun H9 s9' => ⟨true, rfl, iteF ?_⟩⟩
        refine ⟨_, rfl, _, rfl, _, rfl, x, pl, z, m, es, rfl, w8.same s9', m20, hz', hE, fun y => hz2 y.2.2, fun HX sX => ⟨true, rfl, iteF ?_⟩⟩
        exact ⟨(s8'.trans s9').trans sX, _, rfl⟩
      · rintro σ H8 ⟨s8', v13, rfl⟩
        exact k _
end
theorem len_1 {us : List Value} (h : us.length = 1) : ∃ a, us = [a] := List.length_eq_one_iff.mp h
theorem len_s {us : List Value} {n : Nat} (h : us.length = n + 1) : ∃ a r, us = a :: r ∧ r.length = n := by
  cases us with
  | nil => cases h
  | cons a r => exact ⟨a, r, rfl, Nat.succ.inj h⟩
theorem len_2 {us : List Value} (h : us.length = 2) : ∃ a b, us = [a, b] := by
  obtain ⟨a, r, rfl, h1⟩ := len_s h
  obtain ⟨b, rfl⟩ := len_1 h1
  exact ⟨a, b, rfl⟩
theorem len_3 {us : List Value} (h : us.length = 3) : ∃ a b c, us = [a, b, c] := by
  obtain ⟨a, r, rfl, h1⟩ := len_s h
  obtain ⟨b, c, rfl⟩ := len_2 h1
  exact ⟨a, b, c, rfl⟩
theorem len_4 {us : List Value} (h : us.length = 4) : ∃ a b c d, us = [a, b, c, d] := by
  obtain ⟨a, r, rfl, h1⟩ := len_s h
  obtain ⟨b, c, d, rfl⟩ := len_3 h1
  exact ⟨a, b, c, d, rfl⟩
theorem len_5 {us : List Value} (h : us.length = 5) : ∃ a b c d e, us = [a, b, c, d, e] := by
  obtain ⟨a, r, rfl, h1⟩ := len_s h
  obtain ⟨b, c, d, e, rfl⟩ := len_4 h1
  exact ⟨a, b, c, d, e, rfl⟩
theorem all_mk {l : PySem.W.OpenLaw} {w : World} {K : PySem.W.Frag} {h : Heap} {mg : Str → Option Value} {fa f1 f2 f3 f4 f5 f6 f7 f8 f9 f10 f11 f12 f13 f14 f15 f16 f17 f18 f19 f20 f21 f22 f23 qFlowError qBadWeb qTooMany qBadPlace qBadTie qBadFlow qBadRest qNoFlow qBadSet qBadPaper qBadText qBadDeed qWeb : Addr} (X : K.In h) (G : h.Ns mainGlobals mg) (hfa : mg "law" = some (.ref fa))
    {tk1 tk2 : Tok} {od1 an1 od2 an2 od3 an3 od4 an4 od5 an5 od6 an6 od7 an7 od8 an8 od9 an9 od10 an10 od11 an11 od12 an12 od13 an13 od14 an14 od15 an15 od16 an16 od17 an17 od18 an18 od19 an19 od20 an20 od21 an21 od22 an22 od23 an23 : Option Addr} {sl1 sl2 sl3 sl4 sl5 sl6 sl7 sl8 sl9 sl10 sl11 sl12 sl13 sl14 sl15 sl16 sl17 sl18 sl19 sl20 sl21 sl22 sl23 : Array (Option Value)} {oc1 kV1 dc1 pm1 cd1 ct1 oc2 kV2 dc2 pm2 cd2 ct2 oc3 kV3 dc3 pm3 cd3 ct3 oc4 kV4 dc4 pm4 cd4 ct4 oc5 kV5 dc5 pm5 cd5 ct5 oc6 kV6 dc6 pm6 cd6 ct6 oc7 kV7 dc7 pm7 cd7 ct7 oc8 kV8 dc8 pm8 cd8 ct8 oc9 kV9 dc9 pm9 cd9 ct9 oc10 kV10 dc10 pm10 cd10 ct10 oc11 kV11 dc11 pm11 cd11 ct11 oc12 kV12 dc12 pm12 cd12 ct12 oc13 kV13 dc13 pm13 cd13 ct13 oc14 kV14 dc14 pm14 cd14 ct14 oc15 kV15 dc15 pm15 cd15 ct15 oc16 kV16 dc16 pm16 cd16 ct16 oc17 kV17 dc17 pm17 cd17 ct17 oc18 kV18 dc18 pm18 cd18 ct18 oc19 kV19 dc19 pm19 cd19 ct19 oc20 kV20 dc20 pm20 cd20 ct20 oc21 kV21 dc21 pm21 cd21 ct21 oc22 kV22 dc22 pm22 cd22 ct22 oc23 kV23 dc23 pm23 cd23 ct23 : Value}
    (aCFlowError : PySem.W.nsIn K mainGlobals "FlowError" = some (some (.ref qFlowError)))
    (aCBadWeb : PySem.W.nsIn K mainGlobals "BadWeb" = some (some (.ref qBadWeb)))
    (aCTooMany : PySem.W.nsIn K mainGlobals "TooMany" = some (some (.ref qTooMany)))
    (aCBadPlace : PySem.W.nsIn K mainGlobals "BadPlace" = some (some (.ref qBadPlace)))
    (aCBadTie : PySem.W.nsIn K mainGlobals "BadTie" = some (some (.ref qBadTie)))
    (aCBadFlow : PySem.W.nsIn K mainGlobals "BadFlow" = some (some (.ref qBadFlow)))
    (aCBadRest : PySem.W.nsIn K mainGlobals "BadRest" = some (some (.ref qBadRest)))
    (aCNoFlow : PySem.W.nsIn K mainGlobals "NoFlow" = some (some (.ref qNoFlow)))
    (aCBadSet : PySem.W.nsIn K mainGlobals "BadSet" = some (some (.ref qBadSet)))
    (aCBadPaper : PySem.W.nsIn K mainGlobals "BadPaper" = some (some (.ref qBadPaper)))
    (aCBadText : PySem.W.nsIn K mainGlobals "BadText" = some (some (.ref qBadText)))
    (aCBadDeed : PySem.W.nsIn K mainGlobals "BadDeed" = some (some (.ref qBadDeed)))
    (aCWeb : PySem.W.nsIn K mainGlobals "Web" = some (some (.ref qWeb)))
    (a1 : PySem.W.findIn K (.ref qWeb) "__init__" = some (some (.ref f1)))
    (i1 : PySem.W.isFn K (.ref f1) = true)
    (l1 : K.lookup f1 = some ⟨oc1, od1, .func (PySem.W.fnOf "__init__" "Web.__init__" (defArgs sN) (defBody sN) (defScope sN) .none kV1 dc1 pm1 an1 cd1 ct1), sl1⟩)
    (c1 : PySem.W.codeIn K cd1 "Web.__init__" = true)
    (k1 : PySem.W.keepIn K (.ref f1) = true)
    (a2 : PySem.W.nsIn K mainGlobals "check_place" = some (some (.ref f2)))
    (l2 : K.lookup f2 = some ⟨oc2, od2, .func (PySem.W.fnOf "check_place" "check_place" (defArgs sPl) (defBody sPl) (defScope sPl) .none kV2 dc2 pm2 an2 cd2 ct2), sl2⟩)
    (c2 : PySem.W.codeIn K cd2 "check_place" = true)
    (k2 : PySem.W.keepIn K (.ref f2) = true)
    (a3 : PySem.W.nsIn K mainGlobals "rooms_left" = some (some (.ref f3)))
    (l3 : K.lookup f3 = some ⟨oc3, od3, .func (PySem.W.fnOf "rooms_left" "rooms_left" (defArgs sRl) (defBody sRl) (defScope sRl) .none kV3 dc3 pm3 an3 cd3 ct3), sl3⟩)
    (c3 : PySem.W.codeIn K cd3 "rooms_left" = true)
    (k3 : PySem.W.keepIn K (.ref f3) = true)
    (a4 : PySem.W.nsIn K mainGlobals "steps_from" = some (some (.ref f4)))
    (l4 : K.lookup f4 = some ⟨oc4, od4, .func (PySem.W.fnOf "steps_from" "steps_from" (defArgs sSf) (defBody sSf) (defScope sSf) .none kV4 dc4 pm4 an4 cd4 ct4), sl4⟩)
    (c4 : PySem.W.codeIn K cd4 "steps_from" = true)
    (k4 : PySem.W.keepIn K (.ref f4) = true)
    (a5 : PySem.W.nsIn K mainGlobals "step_end" = some (some (.ref f5)))
    (l5 : K.lookup f5 = some ⟨oc5, od5, .func (PySem.W.fnOf "step_end" "step_end" (defArgs sSe) (defBody sSe) (defScope sSe) .none kV5 dc5 pm5 an5 cd5 ct5), sl5⟩)
    (c5 : PySem.W.codeIn K cd5 "step_end" = true)
    (k5 : PySem.W.keepIn K (.ref f5) = true)
    (a6 : PySem.W.nsIn K mainGlobals "ways_with_room" = some (some (.ref f6)))
    (l6 : K.lookup f6 = some ⟨oc6, od6, .func (PySem.W.fnOf "ways_with_room" "ways_with_room" (defArgs sWw) (defBody sWw) (defScope sWw) .none kV6 dc6 pm6 an6 cd6 ct6), sl6⟩)
    (c6 : PySem.W.codeIn K cd6 "ways_with_room" = true)
    (k6 : PySem.W.keepIn K (.ref f6) = true)
    (a7 : PySem.W.nsIn K mainGlobals "pushed" = some (some (.ref f7)))
    (l7 : K.lookup f7 = some ⟨oc7, od7, .func (PySem.W.fnOf "pushed" "pushed" (defArgs sPu) (defBody sPu) (defScope sPu) .none kV7 dc7 pm7 an7 cd7 ct7), sl7⟩)
    (c7 : PySem.W.codeIn K cd7 "pushed" = true)
    (k7 : PySem.W.keepIn K (.ref f7) = true)
    (a8 : PySem.W.nsIn K mainGlobals "far_end" = some (some (.ref f8)))
    (l8 : K.lookup f8 = some ⟨oc8, od8, .func (PySem.W.fnOf "far_end" "far_end" (defArgs sFe) (defBody sFe) (defScope sFe) .none kV8 dc8 pm8 an8 cd8 ct8), sl8⟩)
    (c8 : PySem.W.codeIn K cd8 "far_end" = true)
    (k8 : PySem.W.keepIn K (.ref f8) = true)
    (a9 : PySem.W.nsIn K mainGlobals "find_way" = some (some (.ref f9)))
    (l9 : K.lookup f9 = some ⟨oc9, od9, .func (PySem.W.fnOf "find_way" "find_way" (defArgs sFw) (defBody sFw) (defScope sFw) .none kV9 dc9 pm9 an9 cd9 ct9), sl9⟩)
    (c9 : PySem.W.codeIn K cd9 "find_way" = true)
    (k9 : PySem.W.keepIn K (.ref f9) = true)
    (a10 : PySem.W.nsIn K mainGlobals "ties_for_two_ways" = some (some (.ref f10)))
    (l10 : K.lookup f10 = some ⟨oc10, od10, .func (PySem.W.fnOf "ties_for_two_ways" "ties_for_two_ways" (defArgs sTf) (defBody sTf) (defScope sTf) .none kV10 dc10 pm10 an10 cd10 ct10), sl10⟩)
    (c10 : PySem.W.codeIn K cd10 "ties_for_two_ways" = true)
    (k10 : PySem.W.keepIn K (.ref f10) = true)
    (a11 : PySem.W.nsIn K mainGlobals "two_ways" = some (some (.ref f11)))
    (l11 : K.lookup f11 = some ⟨oc11, od11, .func (PySem.W.fnOf "two_ways" "two_ways" (defArgs sTw) (defBody sTw) (defScope sTw) .none kV11 dc11 pm11 an11 cd11 ct11), sl11⟩)
    (c11 : PySem.W.codeIn K cd11 "two_ways" = true)
    (k11 : PySem.W.keepIn K (.ref f11) = true)
    (a12 : PySem.W.nsIn K mainGlobals "_law_cell" = some (some (.ref f12)))
    (l12 : K.lookup f12 = some ⟨oc12, od12, .func (PySem.W.fnOf "_law_cell" "_law_cell" (defArgs sC) (defBody sC) (defScope sC) .none kV12 dc12 pm12 an12 cd12 ct12), sl12⟩)
    (c12 : PySem.W.codeIn K cd12 "_law_cell" = true)
    (k12 : PySem.W.keepIn K (.ref f12) = true)
    (a13 : PySem.W.nsIn K mainGlobals "_law_whole" = some (some (.ref f13)))
    (l13 : K.lookup f13 = some ⟨oc13, od13, .func (PySem.W.fnOf "_law_whole" "_law_whole" (defArgs sH) (defBody sH) (defScope sH) .none kV13 dc13 pm13 an13 cd13 ct13), sl13⟩)
    (c13 : PySem.W.codeIn K cd13 "_law_whole" = true)
    (k13 : PySem.W.keepIn K (.ref f13) = true)
    (a14 : PySem.W.nsIn K mainGlobals "_law_alone" = some (some (.ref f14)))
    (l14 : K.lookup f14 = some ⟨oc14, od14, .func (PySem.W.fnOf "_law_alone" "_law_alone" (defArgs sX) (defBody sX) (defScope sX) .none kV14 dc14 pm14 an14 cd14 ct14), sl14⟩)
    (c14 : PySem.W.codeIn K cd14 "_law_alone" = true)
    (k14 : PySem.W.keepIn K (.ref f14) = true)
    (a15 : PySem.W.nsIn K mainGlobals "_law_ends" = some (some (.ref f15)))
    (l15 : K.lookup f15 = some ⟨oc15, od15, .func (PySem.W.fnOf "_law_ends" "_law_ends" (defArgs sE) (defBody sE) (defScope sE) .none kV15 dc15 pm15 an15 cd15 ct15), sl15⟩)
    (c15 : PySem.W.codeIn K cd15 "_law_ends" = true)
    (k15 : PySem.W.keepIn K (.ref f15) = true)
    (a16 : PySem.W.nsIn K mainGlobals "_law_drawn" = some (some (.ref f16)))
    (l16 : K.lookup f16 = some ⟨oc16, od16, .func (PySem.W.fnOf "_law_drawn" "_law_drawn" (defArgs sD) (defBody sD) (defScope sD) .none kV16 dc16 pm16 an16 cd16 ct16), sl16⟩)
    (c16 : PySem.W.codeIn K cd16 "_law_drawn" = true)
    (k16 : PySem.W.keepIn K (.ref f16) = true)
    (a17 : PySem.W.nsIn K mainGlobals "_law_names" = some (some (.ref f17)))
    (l17 : K.lookup f17 = some ⟨oc17, od17, .func (PySem.W.fnOf "_law_names" "_law_names" (defArgs sNm) (defBody sNm) (defScope sNm) .none kV17 dc17 pm17 an17 cd17 ct17), sl17⟩)
    (c17 : PySem.W.codeIn K cd17 "_law_names" = true)
    (k17 : PySem.W.keepIn K (.ref f17) = true)
    (a18 : PySem.W.nsIn K mainGlobals "_law_parts" = some (some (.ref f18)))
    (l18 : K.lookup f18 = some ⟨oc18, od18, .func (PySem.W.fnOf "_law_parts" "_law_parts" (defArgs sPa) (defBody sPa) (defScope sPa) .none kV18 dc18 pm18 an18 cd18 ct18), sl18⟩)
    (c18 : PySem.W.codeIn K cd18 "_law_parts" = true)
    (k18 : PySem.W.keepIn K (.ref f18) = true)
    (a19 : PySem.W.nsIn K mainGlobals "_law_ears" = some (some (.ref f19)))
    (l19 : K.lookup f19 = some ⟨oc19, od19, .func (PySem.W.fnOf "_law_ears" "_law_ears" (defArgs sEa) (defBody sEa) (defScope sEa) .none kV19 dc19 pm19 an19 cd19 ct19), sl19⟩)
    (c19 : PySem.W.codeIn K cd19 "_law_ears" = true)
    (k19 : PySem.W.keepIn K (.ref f19) = true)
    (a20 : PySem.W.nsIn K mainGlobals "_law_leads" = some (some (.ref f20)))
    (l20 : K.lookup f20 = some ⟨oc20, od20, .func (PySem.W.fnOf "_law_leads" "_law_leads" (defArgs sLd) (defBody sLd) (defScope sLd) .none kV20 dc20 pm20 an20 cd20 ct20), sl20⟩)
    (c20 : PySem.W.codeIn K cd20 "_law_leads" = true)
    (k20 : PySem.W.keepIn K (.ref f20) = true)
    (a21 : PySem.W.nsIn K mainGlobals "_law_right" = some (some (.ref f21)))
    (l21 : K.lookup f21 = some ⟨oc21, od21, .func (PySem.W.fnOf "_law_right" "_law_right" (defArgs sR) (defBody sR) (defScope sR) .none kV21 dc21 pm21 an21 cd21 ct21), sl21⟩)
    (c21 : PySem.W.codeIn K cd21 "_law_right" = true)
    (k21 : PySem.W.keepIn K (.ref f21) = true)
    (a22 : PySem.W.nsIn K mainGlobals "_law_refused" = some (some (.ref f22)))
    (l22 : K.lookup f22 = some ⟨oc22, od22, .func (PySem.W.fnOf "_law_refused" "_law_refused" (defArgs sRf) (defBody sRf) (defScope sRf) .none kV22 dc22 pm22 an22 cd22 ct22), sl22⟩)
    (c22 : PySem.W.codeIn K cd22 "_law_refused" = true)
    (k22 : PySem.W.keepIn K (.ref f22) = true)
    (a23 : PySem.W.nsIn K mainGlobals "law" = some (some (.ref f23)))
    (l23 : K.lookup f23 = some ⟨oc23, od23, .func (PySem.W.fnOf "law" "law" (defArgs sL) (defBody sL) (defScope sL) .none kV23 dc23 pm23 an23 cd23 ct23), sl23⟩)
    (c23 : PySem.W.codeIn K cd23 "law" = true)
    (k23 : PySem.W.keepIn K (.ref f23) = true)
    (pg : PySem.W.plainGet K qWeb Str.empty = true)
    (hd : PySem.W.hasDictIn K qWeb = true)
    (po : PySem.W.plainOver K qWeb = true)
    (sa : PySem.W.findIn K (.ref qWeb) "__setattr__" = some (some (.builtin "object.__setattr__")))
    (nM : PySem.W.findIn K (.ref qWeb) "many" = some none)
    (nT : PySem.W.findIn K (.ref qWeb) "ties" = some none)
    (ca : PySem.W.findIn K (.ref qWeb) "__class__" = some (some (.builtin "object.__class__")))
    (cg : PySem.W.specialIn K (.builtin "object.__class__") "__get__" = some (some (.builtin "getset_descriptor.__get__")))
    (ck : PySem.W.takesIn K (.builtin "object.__class__") = some true)
    (co : PySem.W.mroIn K qWeb (.type "object") = some true)
    (mk : PySem.W.makesIn K qWeb = true)
    (kc : PySem.W.keepIn K (.ref qWeb) = true)
    (mp : PySem.W.nsIn K mainGlobals "MOST_PLACES" = some (some (.int 20 tk1)))
    (mt : PySem.W.nsIn K mainGlobals "MOST_TIES" = some (some (.int 40 tk2)))
    (x_ie_FlowError : PySem.W.excIn K qFlowError vErr "ValueError.__new__" = true)
    (x_ie_BadPlace : PySem.W.excIn K qBadPlace vErr "ValueError.__new__" = true)
    (x_mr_BadPlace : PySem.W.mroIn K qBadPlace (.ref qFlowError) = some true)
    (x_ga_BadPlace : PySem.W.findIn K (.ref qBadPlace) "__getattribute__" = some (some (.builtin "BaseException.__getattribute__")))
    (x_gn_BadPlace : PySem.W.findIn K (.ref qBadPlace) "__getattr__" = some none)
    (x_cl_BadPlace : PySem.W.findIn K (.ref qBadPlace) "__class__" = some (some (.builtin "object.__class__")))
    (x_co_BadPlace : PySem.W.mroIn K qBadPlace (.type "object") = some true)
    (x_cb_BadPlace : PySem.W.mroIn K qBadPlace (.type "BaseException") = some true)
    (x_is_BadPlace : PySem.W.isClsIn K qBadPlace = true)
    (x_k_BadPlace_BadWeb : PySem.W.kitOne K (.ref qBadPlace) (.ref qBadWeb) = some false)
    (x_k_BadPlace_TooMany : PySem.W.kitOne K (.ref qBadPlace) (.ref qTooMany) = some false)
    (x_k_BadPlace_BadPlace : PySem.W.kitOne K (.ref qBadPlace) (.ref qBadPlace) = some true)
    (x_k_BadPlace_BadTie : PySem.W.kitOne K (.ref qBadPlace) (.ref qBadTie) = some false)
    (x_k_BadPlace_BadFlow : PySem.W.kitOne K (.ref qBadPlace) (.ref qBadFlow) = some false)
    (x_k_BadPlace_BadRest : PySem.W.kitOne K (.ref qBadPlace) (.ref qBadRest) = some false)
    (x_k_BadPlace_NoFlow : PySem.W.kitOne K (.ref qBadPlace) (.ref qNoFlow) = some false)
    (x_k_BadPlace_BadSet : PySem.W.kitOne K (.ref qBadPlace) (.ref qBadSet) = some false)
    (x_k_BadPlace_BadPaper : PySem.W.kitOne K (.ref qBadPlace) (.ref qBadPaper) = some false)
    (x_k_BadPlace_BadText : PySem.W.kitOne K (.ref qBadPlace) (.ref qBadText) = some false)
    (x_k_BadPlace_BadDeed : PySem.W.kitOne K (.ref qBadPlace) (.ref qBadDeed) = some false)
    (x_kf_BadPlace : PySem.W.kitOne K (.ref qBadPlace) (.ref qFlowError) = some true)
    (x_kv_BadPlace : PySem.W.kitOne K (.ref qBadPlace) (.type "ValueError") = some true)
    (z0 : PySem.W.nsIn K mainGlobals "ValueError" = some none)
    (z1 : PySem.W.nsIn K mainGlobals "abs" = some none)
    (z2 : PySem.W.nsIn K mainGlobals "all" = some none)
    (z3 : PySem.W.nsIn K mainGlobals "bool" = some none)
    (z4 : PySem.W.nsIn K mainGlobals "enumerate" = some none)
    (z5 : PySem.W.nsIn K mainGlobals "int" = some none)
    (z6 : PySem.W.nsIn K mainGlobals "isinstance" = some none)
    (z7 : PySem.W.nsIn K mainGlobals "len" = some none)
    (z8 : PySem.W.nsIn K mainGlobals "list" = some none)
    (z9 : PySem.W.nsIn K mainGlobals "min" = some none)
    (z10 : PySem.W.nsIn K mainGlobals "range" = some none)
    (z11 : PySem.W.nsIn K mainGlobals "sum" = some none)
    (z12 : PySem.W.nsIn K mainGlobals "tuple" = some none)
    (z13 : PySem.W.nsIn K mainGlobals "zip" = some none) :
    ∃ fd : FuncData, (∀ (s : Shared) (v : Value), BindsTo s fd ⟨[v], []⟩ [("script", v)]) ∧ ∀ base : Heap, K.In base → base.Ns mainGlobals mg → FnOk l.prog w K mg base CX0 6 fa fd ["script"] (spLaw K) := by
  have e := hfa.symm.trans (PySem.W.mg_of X G a23)
  cases e
  have T : Txt K mg (⟨qFlowError, qBadWeb, qTooMany, qBadPlace, qBadTie, qBadFlow, qBadRest, qNoFlow, qBadSet, qBadPaper, qBadText, qBadDeed, qWeb⟩ : Cs) := ⟨PySem.W.mg_none_of X G z0, PySem.W.mg_none_of X G z1, PySem.W.mg_none_of X G z2, PySem.W.mg_none_of X G z3, PySem.W.mg_none_of X G z4, PySem.W.mg_none_of X G z5, PySem.W.mg_none_of X G z6, PySem.W.mg_none_of X G z7, PySem.W.mg_none_of X G z8, PySem.W.mg_none_of X G z9, PySem.W.mg_none_of X G z10, PySem.W.mg_none_of X G z11, PySem.W.mg_none_of X G z12, PySem.W.mg_none_of X G z13, PySem.W.mg_of X G aCFlowError, PySem.W.mg_of X G aCBadWeb, PySem.W.mg_of X G aCTooMany, PySem.W.mg_of X G aCBadPlace, PySem.W.mg_of X G aCBadTie, PySem.W.mg_of X G aCBadFlow, PySem.W.mg_of X G aCBadRest, PySem.W.mg_of X G aCNoFlow, PySem.W.mg_of X G aCBadSet, PySem.W.mg_of X G aCBadPaper, PySem.W.mg_of X G aCBadText, PySem.W.mg_of X G aCBadDeed, PySem.W.mg_of X G aCWeb, ⟨⟨pg, hd, po, sa⟩, nM, nT, ca, cg, ck, co⟩, ⟨_, PySem.W.mg_of X G mp⟩, ⟨_, PySem.W.mg_of X G mt⟩, x_ie_FlowError, x_ie_BadPlace, x_mr_BadPlace, ⟨⟨x_ga_BadPlace, x_gn_BadPlace, x_cl_BadPlace, cg, ck, x_co_BadPlace, x_cb_BadPlace, x_is_BadPlace⟩, ⟨_, _, _, _, _, _, _, _, _, _, _, x_k_BadPlace_BadWeb, x_k_BadPlace_TooMany, x_k_BadPlace_BadPlace, x_k_BadPlace_BadTie, x_k_BadPlace_BadFlow, x_k_BadPlace_BadRest, x_k_BadPlace_NoFlow, x_k_BadPlace_BadSet, x_k_BadPlace_BadPaper, x_k_BadPlace_BadText, x_k_BadPlace_BadDeed, rfl⟩, x_kf_BadPlace, x_kv_BadPlace⟩⟩
  have F1 := fun_mk (st := sN) l1 c1 k1
  have F2 := fun_mk (st := sPl) l2 c2 k2
  have F3 := fun_mk (st := sRl) l3 c3 k3
  have F4 := fun_mk (st := sSf) l4 c4 k4
  have F5 := fun_mk (st := sSe) l5 c5 k5
  have F6 := fun_mk (st := sWw) l6 c6 k6
  have F7 := fun_mk (st := sPu) l7 c7 k7
  have F8 := fun_mk (st := sFe) l8 c8 k8
  have F9 := fun_mk (st := sFw) l9 c9 k9
  have F10 := fun_mk (st := sTf) l10 c10 k10
  have F11 := fun_mk (st := sTw) l11 c11 k11
  have F12 := fun_mk (st := sC) l12 c12 k12
  have F13 := fun_mk (st := sH) l13 c13 k13
  have F14 := fun_mk (st := sX) l14 c14 k14
  have F15 := fun_mk (st := sE) l15 c15 k15
  have F16 := fun_mk (st := sD) l16 c16 k16
  have F17 := fun_mk (st := sNm) l17 c17 k17
  have F18 := fun_mk (st := sPa) l18 c18 k18
  have F19 := fun_mk (st := sEa) l19 c19 k19
  have F20 := fun_mk (st := sLd) l20 c20 k20
  have F21 := fun_mk (st := sR) l21 c21 k21
  have F22 := fun_mk (st := sRf) l22 c22 k22
  have F23 := fun_mk (st := sL) l23 c23 k23
  have b1 := F1.binds (ps := ["self", "many", "ties"]) fun _ _ _ _ _ _ us hl => by obtain ⟨_, _, _, rfl⟩ := len_3 hl; rfl
  have b2 := F2.binds (ps := ["web", "place"]) fun _ _ _ _ _ _ us hl => by obtain ⟨_, _, rfl⟩ := len_2 hl; rfl
  have b3 := F3.binds (ps := ["amounts", "lows", "highs"]) fun _ _ _ _ _ _ us hl => by obtain ⟨_, _, _, rfl⟩ := len_3 hl; rfl
  have b4 := F4.binds (ps := ["web", "rooms", "place"]) fun _ _ _ _ _ _ us hl => by obtain ⟨_, _, _, rfl⟩ := len_3 hl; rfl
  have b5 := F5.binds (ps := ["web", "step"]) fun _ _ _ _ _ _ us hl => by obtain ⟨_, _, rfl⟩ := len_2 hl; rfl
  have b6 := F6.binds (ps := ["web", "rooms", "start"]) fun _ _ _ _ _ _ us hl => by obtain ⟨_, _, _, rfl⟩ := len_3 hl; rfl
  have b7 := F7.binds (ps := ["amounts", "steps", "size"]) fun _ _ _ _ _ _ us hl => by obtain ⟨_, _, _, rfl⟩ := len_3 hl; rfl
  have b8 := F8.binds (ps := ["web", "tie", "place"]) fun _ _ _ _ _ _ us hl => by obtain ⟨_, _, _, rfl⟩ := len_3 hl; rfl
  have b9 := F9.binds (ps := ["web", "some", "start", "goal"]) fun _ _ _ _ _ _ us hl => by obtain ⟨_, _, _, _, rfl⟩ := len_4 hl; rfl
  have b10 := F10.binds (ps := ["web", "one", "two"]) fun _ _ _ _ _ _ us hl => by obtain ⟨_, _, _, rfl⟩ := len_3 hl; rfl
  have b11 := F11.binds (ps := ["web", "one", "two"]) fun _ _ _ _ _ _ us hl => by obtain ⟨_, _, _, rfl⟩ := len_3 hl; rfl
  have b12 := F12.binds (ps := ["script", "k"]) fun _ _ _ _ _ _ us hl => by obtain ⟨_, _, rfl⟩ := len_2 hl; rfl
  have b13 := F13.binds (ps := ["found"]) fun _ _ _ _ _ _ us hl => by obtain ⟨_, rfl⟩ := len_1 hl; rfl
  have b14 := F14.binds (ps := ["e"]) fun _ _ _ _ _ _ us hl => by obtain ⟨_, rfl⟩ := len_1 hl; rfl
  have b15 := F15.binds (ps := ["script", "many", "count", "way"]) fun _ _ _ _ _ _ us hl => by obtain ⟨_, _, _, _, rfl⟩ := len_4 hl; rfl
  have b16 := F16.binds (ps := ["script", "most", "bound"]) fun _ _ _ _ _ _ us hl => by obtain ⟨_, _, _, rfl⟩ := len_3 hl; rfl
  have b17 := F17.binds (ps := ["many", "ends", "some"]) fun _ _ _ _ _ _ us hl => by obtain ⟨_, _, _, rfl⟩ := len_3 hl; rfl
  have b18 := F18.binds (ps := ["many", "ends"]) fun _ _ _ _ _ _ us hl => by obtain ⟨_, _, rfl⟩ := len_2 hl; rfl
  have b19 := F19.binds (ps := ["script", "at", "most", "bound"]) fun _ _ _ _ _ _ us hl => by obtain ⟨_, _, _, _, rfl⟩ := len_4 hl; rfl
  have b20 := F20.binds (ps := ["ends", "way", "one", "two"]) fun _ _ _ _ _ _ us hl => by obtain ⟨_, _, _, _, rfl⟩ := len_4 hl; rfl
  have b21 := F21.binds (ps := ["ends", "found", "names", "one", "two"]) fun _ _ _ _ _ _ us hl => by obtain ⟨_, _, _, _, _, rfl⟩ := len_5 hl; rfl
  have b22 := F22.binds (ps := ["web", "one", "two"]) fun _ _ _ _ _ _ us hl => by obtain ⟨_, _, _, rfl⟩ := len_3 hl; rfl
  refine ⟨PySem.W.fnOf "law" "law" (defArgs sL) (defBody sL) (defScope sL) .none kV23 dc23 pm23 an23 cd23 ct23, fun s v => .of_eq rfl, fun base _ _ => ?_⟩
  have D_N : MkDef l.prog w K mg base 1 "Web" qWeb ["self", "many", "ties"] (spInit K qWeb) := ⟨f1, _, ⟨mk, a1, i1, kc⟩, ok_N F1 T, b1, PySem.W.mg_of X G aCWeb⟩
  have D_Pl : DefE l.prog w K mg base 1 "check_place" ["web", "place"] (spPl K qWeb qBadPlace) := .of F2 (PySem.W.mg_of X G a2) b2 (ok_Pl F2 T )
  have D_Rl : Def l.prog w K mg base 1 "rooms_left" ["amounts", "lows", "highs"] (spRl K) := .of F3 (PySem.W.mg_of X G a3) b3 (ok_Rl F3 T )
  have D_Sf : Def l.prog w K mg base 1 "steps_from" ["web", "rooms", "place"] (spSf K (⟨qFlowError, qBadWeb, qTooMany, qBadPlace, qBadTie, qBadFlow, qBadRest, qNoFlow, qBadSet, qBadPaper, qBadText, qBadDeed, qWeb⟩ : Cs)) := .of F4 (PySem.W.mg_of X G a4) b4 (ok_Sf F4 T )
  have D_Se : Def l.prog w K mg base 1 "step_end" ["web", "step"] (spSe K (⟨qFlowError, qBadWeb, qTooMany, qBadPlace, qBadTie, qBadFlow, qBadRest, qNoFlow, qBadSet, qBadPaper, qBadText, qBadDeed, qWeb⟩ : Cs)) := .of F5 (PySem.W.mg_of X G a5) b5 (ok_Se F5 T )
  have D_Ww : Def l.prog w K mg base 2 "ways_with_room" ["web", "rooms", "start"] (spWw K (⟨qFlowError, qBadWeb, qTooMany, qBadPlace, qBadTie, qBadFlow, qBadRest, qNoFlow, qBadSet, qBadPaper, qBadText, qBadDeed, qWeb⟩ : Cs)) := .of F6 (PySem.W.mg_of X G a6) b6 (ok_Ww F6 T D_Sf D_Se)
  have D_Pu : Def l.prog w K mg base 1 "pushed" ["amounts", "steps", "size"] (spPu K) := .of F7 (PySem.W.mg_of X G a7) b7 (ok_Pu F7 T )
  have D_Fe : Def l.prog w K mg base 1 "far_end" ["web", "tie", "place"] (spFe K (⟨qFlowError, qBadWeb, qTooMany, qBadPlace, qBadTie, qBadFlow, qBadRest, qNoFlow, qBadSet, qBadPaper, qBadText, qBadDeed, qWeb⟩ : Cs)) := .of F8 (PySem.W.mg_of X G a8) b8 (ok_Fe F8 T )
  have D_Fw : Def l.prog w K mg base 2 "find_way" ["web", "some", "start", "goal"] (spFw K (⟨qFlowError, qBadWeb, qTooMany, qBadPlace, qBadTie, qBadFlow, qBadRest, qNoFlow, qBadSet, qBadPaper, qBadText, qBadDeed, qWeb⟩ : Cs)) := .of F9 (PySem.W.mg_of X G a9) b9 (ok_Fw F9 T D_Fe)
  have D_Tf : Def l.prog w K mg base 3 "ties_for_two_ways" ["web", "one", "two"] (spTf K (⟨qFlowError, qBadWeb, qTooMany, qBadPlace, qBadTie, qBadFlow, qBadRest, qNoFlow, qBadSet, qBadPaper, qBadText, qBadDeed, qWeb⟩ : Cs)) := .of F10 (PySem.W.mg_of X G a10) b10 (ok_Tf F10 T D_Rl D_Ww D_Pu)
  have D_Tw : DefE l.prog w K mg base 4 "two_ways" ["web", "one", "two"] (spTw K (⟨qFlowError, qBadWeb, qTooMany, qBadPlace, qBadTie, qBadFlow, qBadRest, qNoFlow, qBadSet, qBadPaper, qBadText, qBadDeed, qWeb⟩ : Cs)) := .of F11 (PySem.W.mg_of X G a11) b11 (ok_Tw F11 T D_Pl D_Tf D_Fw)
  have D_C : Def l.prog w K mg base 1 "_law_cell" ["script", "k"] (spC K) := .of F12 (PySem.W.mg_of X G a12) b12 (ok_C F12 T )
  have D_H : Def l.prog w K mg base 1 "_law_whole" ["found"] (spH K) := .of F13 (PySem.W.mg_of X G a13) b13 (ok_H F13 T )
  have D_X : DefC l.prog w K mg base 1 "_law_alone" ["e"] (spX K (⟨qFlowError, qBadWeb, qTooMany, qBadPlace, qBadTie, qBadFlow, qBadRest, qNoFlow, qBadSet, qBadPaper, qBadText, qBadDeed, qWeb⟩ : Cs)) := .of F14 (PySem.W.mg_of X G a14) b14 (ok_X F14 T )
  have D_E : Def l.prog w K mg base 2 "_law_ends" ["script", "many", "count", "way"] (spE K) := .of F15 (PySem.W.mg_of X G a15) b15 (ok_E F15 T D_C)
  have D_D : Def l.prog w K mg base 3 "_law_drawn" ["script", "most", "bound"] (spD K) := .of F16 (PySem.W.mg_of X G a16) b16 (ok_D F16 T D_C D_E)
  have D_Nm : Def l.prog w K mg base 1 "_law_names" ["many", "ends", "some"] (spNm K) := .of F17 (PySem.W.mg_of X G a17) b17 (ok_Nm F17 T )
  have D_Pa : Def l.prog w K mg base 2 "_law_parts" ["many", "ends"] (spPa K) := .of F18 (PySem.W.mg_of X G a18) b18 (ok_Pa F18 T D_Nm)
  have D_Ea : Def l.prog w K mg base 2 "_law_ears" ["script", "at", "most", "bound"] (spEa K) := .of F19 (PySem.W.mg_of X G a19) b19 (ok_Ea F19 T D_C)
  have D_Ld : Def l.prog w K mg base 2 "_law_leads" ["ends", "way", "one", "two"] (spLd K) := .of F20 (PySem.W.mg_of X G a20) b20 (ok_Ld F20 T D_H)
  have D_R : Def l.prog w K mg base 3 "_law_right" ["ends", "found", "names", "one", "two"] (spR K) := .of F21 (PySem.W.mg_of X G a21) b21 (ok_R F21 T D_Ld)
  have D_Rf : Def l.prog w K mg base 5 "_law_refused" ["web", "one", "two"] (spRf K (⟨qFlowError, qBadWeb, qTooMany, qBadPlace, qBadTie, qBadFlow, qBadRest, qNoFlow, qBadSet, qBadPaper, qBadText, qBadDeed, qWeb⟩ : Cs)) := .of F22 (PySem.W.mg_of X G a22) b22 (ok_Rf F22 T D_Tw D_X)
  exact ok_L F23 T D_C D_D D_Ea D_Pa D_Tw D_R D_Rf D_N
theorem walk {l : PySem.W.OpenLaw} {q : Program} {loose : List Str} {XP : (Str → Option Value) → Heap → Prop} {YP : World → Heap → Prop} {d : DefRec} {K : Params → PySem.W.Frag} (hn : l.most = some 63) (hdf : d.params.defaults = [])
    (hY : ∀ (w : World) (h : Heap), YP w h → (K w.params).In h)
    (F : ∀ (w : World) (mg : Str → Option Value) (fa : Addr) (h : Heap), (K w.params).In h → h.Ns mainGlobals mg → mg d.name = some (.ref fa) →
      ∃ fd : FuncData, (∀ (s : Shared) (u : Value), BindsTo s fd ⟨[u], []⟩ [("script", u)]) ∧ ∀ base : Heap, (K w.params).In base → base.Ns mainGlobals mg → FnOk l.prog w (K w.params) mg base CX0 6 fa fd ["script"] (spLaw (K w.params))) :
    PySem.W.WalkO q loose XP YP l.row.toRowW d [] (fun f vs => PySem.call f vs) :=
  L2.walk_of (n := 63) (k := 6) (x := "script") (CX := fun _ => CX0) (sp := fun w => spLaw (K w.params)) hn (by decide) hdf ⟨rfl, by decide, by decide⟩ hY F (fun _ _ a ns hl _ hS => ⟨a, ns, rfl, hS, hl, fun _ => rfl⟩) fun _ _ _ _ _ z => z
end Pk
namespace PySem.W.Fast
theorem tw5116624841969269469 : True := ⟨⟩
theorem tw14469537467180031150 : True := ⟨⟩
theorem tw14776100435624825498 : True := ⟨⟩
theorem tw2009680548942588393 : True := ⟨⟩
theorem tw7841525136480132040 : True := ⟨⟩
theorem tw4231309560277156998 : True := ⟨⟩
theorem tw17790090270057398594 : True := ⟨⟩
theorem tw4056632029533738510 : True := ⟨⟩
theorem tw1416289520199952249 : True := ⟨⟩
theorem tw11107264618737376413 : True := ⟨⟩
theorem tw14473107039711178985 : True := ⟨⟩
theorem tw17593774013544260573 : True := ⟨⟩
theorem tw4074666034317520464 : True := ⟨⟩
theorem tw9894241020619902718 : True := ⟨⟩
theorem tw3570324421247299231 : True := ⟨⟩
theorem tw16099921858912327708 : True := ⟨⟩
theorem tw5755772679381033001 : True := ⟨⟩
theorem tw1321456558530552786 : True := ⟨⟩
theorem tw6202794043734840595 : True := ⟨⟩
theorem tw13901854357808864528 : True := ⟨⟩
theorem tw9617480664003142576 : True := ⟨⟩
theorem tw15968720767131973130 : True := ⟨⟩
theorem tw5247454403171431858 : True := ⟨⟩
theorem tw10339928246123425550 : True := ⟨⟩
theorem tw6565104782402386694 : True := ⟨⟩
theorem tw11771785923843627684 : True := ⟨⟩
theorem tw2332372327433914074 : True := ⟨⟩
theorem tw15336695168360875837 : True := ⟨⟩
theorem tw6942443820410508873 : True := ⟨⟩
theorem tw10151477031845064732 : True := ⟨⟩
theorem tw3788482290418639740 : True := ⟨⟩
theorem tw16127020857566114459 : True := ⟨⟩
theorem tw6888704769396774022 : True := ⟨⟩
theorem tw4068148575410559851 : True := ⟨⟩
theorem tw12940744681498672021 : True := ⟨⟩
theorem tw4095133022370147651 : True := ⟨⟩
theorem tw9446082110605189641 : True := ⟨⟩
theorem tw18283280188525918693 : True := ⟨⟩
theorem tw4663533733717266487 : True := ⟨⟩
theorem tw13450936440250107786 : True := ⟨⟩
theorem tw4234261083058833981 : True := ⟨⟩
theorem tw16878126499714881401 : True := ⟨⟩
theorem tw6019588889776090164 : True := ⟨⟩
theorem tw1467073970726212806 : True := ⟨⟩
theorem tw8031162607420975107 : True := ⟨⟩
theorem tw15870846024491865599 : True := ⟨⟩
theorem tw17013071694727284077 : True := ⟨⟩
theorem tw1420825492407404682 : True := ⟨⟩
theorem tw8959729819627014014 : True := ⟨⟩
theorem tw1938888596680732922 : True := ⟨⟩
theorem tw6858376163036992727 : True := ⟨⟩
theorem tw4289212052332335921 : True := ⟨⟩
theorem tw17721983538279071312 : True := ⟨⟩
theorem tw821961670063456666 : True := ⟨⟩
theorem tw13521463982143283413 : True := ⟨⟩
theorem tw558521088031314520 : True := ⟨⟩
theorem tw7480992021501388875 : True := ⟨⟩
theorem tw8985002412444931984 : True := ⟨⟩
theorem tw2488002622553456040 : True := ⟨⟩
theorem tw17941006709757618100 : True := ⟨⟩
theorem tw11960011339554263860 : True := ⟨⟩
theorem tw15376750313199106928 : True := ⟨⟩
theorem tw7482898238153033980 : True := ⟨⟩
theorem tw18281372405466266430 : True := ⟨⟩
theorem tw14870632423803020831 : True := ⟨⟩
theorem tw10232363989825289383 : True := ⟨⟩
theorem tw3681017516205811716 : True := ⟨⟩
theorem tw10297866585769209195 : True := ⟨⟩
theorem tw7600821781881450168 : True := ⟨⟩
theorem tw4186752767002588902 : True := ⟨⟩
theorem tw14287483791691391442 : True := ⟨⟩
theorem tw18168303317129539784 : True := ⟨⟩
theorem tw8000785394067156066 : True := ⟨⟩
theorem tw14609619434703655312 : True := ⟨⟩
theorem tw6103921824171812116 : True := ⟨⟩
theorem tw13956318938000146066 : True := ⟨⟩
theorem tw6433755052222562224 : True := ⟨⟩
theorem tw17864611134560120441 : True := ⟨⟩
theorem tw13130147794154917225 : True := ⟨⟩
theorem tw10756611150375523945 : True := ⟨⟩
theorem tw13380979947147700860 : True := ⟨⟩
theorem tw3418220101708871131 : True := ⟨⟩
theorem tw12772112648883955240 : True := ⟨⟩
theorem tw1482473656999772414 : True := ⟨⟩
theorem tw9038843856543392618 : True := ⟨⟩
theorem tw2435203032942122429 : True := ⟨⟩
theorem tw3238084947770085930 : True := ⟨⟩
theorem tw9954212218178419019 : True := ⟨⟩
theorem tw12253067458821077089 : True := ⟨⟩
theorem tw142300893610336758 : True := ⟨⟩
theorem tw11672632217137341951 : True := ⟨⟩
theorem tw6064707901295948094 : True := ⟨⟩
theorem tw15476244872185469897 : True := ⟨⟩
theorem tw9494102733889806822 : True := ⟨⟩
theorem tw9584805712103846231 : True := ⟨⟩
theorem tw8832862917849097420 : True := ⟨⟩
theorem tw15358637302358528575 : True := ⟨⟩
theorem tw8011879171382266450 : True := ⟨⟩
theorem tw18072972831429219398 : True := ⟨⟩
theorem tw9349277440923951709 : True := ⟨⟩
theorem tw9410725217745258959 : True := ⟨⟩
theorem tw2669030251130565333 : True := ⟨⟩
theorem tw10001495983087682183 : True := ⟨⟩
theorem tw10963265248817261553 : True := ⟨⟩
theorem tw4767004869667244459 : True := ⟨⟩
theorem tw5036253387080580313 : True := ⟨⟩
theorem tw3838935395514397525 : True := ⟨⟩
theorem tw7703960397421267528 : True := ⟨⟩
theorem tw16094103969016969083 : True := ⟨⟩
theorem tw14411242017123085890 : True := ⟨⟩
theorem tw12249413602508075264 : True := ⟨⟩
theorem tw11942667754445194379 : True := ⟨⟩
theorem tw2123267954525451621 : True := ⟨⟩
theorem tw18154828469496549393 : True := ⟨⟩
theorem tw90690611495557793 : True := ⟨⟩
theorem tw1308834449315246172 : True := ⟨⟩
theorem tw7677053980811960957 : True := ⟨⟩
theorem tw660785081783801133 : True := ⟨⟩
theorem tw5046434894470847297 : True := ⟨⟩
theorem tw3090378367422294323 : True := ⟨⟩
theorem tw40282568181376623 : True := ⟨⟩
theorem tw7234855032692432962 : True := ⟨⟩
theorem tw4089834220577426029 : True := ⟨⟩
theorem tw7176823749629165815 : True := ⟨⟩
theorem tw10419638798757262118 : True := ⟨⟩
theorem tw9701096635528415715 : True := ⟨⟩
theorem tw13126325779103874257 : True := ⟨⟩
theorem tw1903822919331655741 : True := ⟨⟩
theorem tw9595690631471383447 : True := ⟨⟩
theorem tw15515827262183008836 : True := ⟨⟩
theorem tw18219967239184423726 : True := ⟨⟩
theorem tw12809422555777907189 : True := ⟨⟩
theorem tw8390225023230278327 : True := ⟨⟩
theorem tw15572434640346614165 : True := ⟨⟩
theorem tw11651596783070867587 : True := ⟨⟩
theorem tw5511028776986222902 : True := ⟨⟩
theorem tw4369824351808525450 : True := ⟨⟩
theorem tw11579401863954558012 : True := ⟨⟩
theorem tw8997424094501886435 : True := ⟨⟩
theorem tw1055677792887901243 : True := ⟨⟩
theorem tw15234726511932554414 : True := ⟨⟩
theorem tw10934201138372140256 : True := ⟨⟩
theorem tw9477492678683198993 : True := ⟨⟩
theorem tw17394808137992832188 : True := ⟨⟩
theorem tw14451405123342373698 : True := ⟨⟩
theorem tw15188150006577612192 : True := ⟨⟩
theorem tw9227574730772488375 : True := ⟨⟩
theorem tw13311510827904624384 : True := ⟨⟩
theorem tw2745847629747102832 : True := ⟨⟩
theorem tw11333043924616730354 : True := ⟨⟩
theorem tw10717194476504218743 : True := ⟨⟩
theorem tw2888988841518413573 : True := ⟨⟩
theorem tw13012466983012550766 : True := ⟨⟩
theorem tw7242565723039957225 : True := ⟨⟩
theorem tw2063336638166933747 : True := ⟨⟩
theorem tw3716450043225523774 : True := ⟨⟩
theorem tw9418246046352560090 : True := ⟨⟩
theorem tw2456395627565260244 : True := ⟨⟩
theorem tw7318547499919897465 : True := ⟨⟩
theorem tw14028009601438787608 : True := ⟨⟩
theorem tw7015274014726664347 : True := ⟨⟩
theorem tw8507276378367774847 : True := ⟨⟩
theorem tw17817073006451585718 : True := ⟨⟩
theorem tw6975079481863446076 : True := ⟨⟩
theorem tw15974337551042573479 : True := ⟨⟩
theorem tw13224351621066997821 : True := ⟨⟩
theorem tw16955489034857609899 : True := ⟨⟩
theorem tw10441121687014637495 : True := ⟨⟩
theorem tw15239765159838100511 : True := ⟨⟩
theorem tw18199441009695117008 : True := ⟨⟩
theorem tw7731741807730401652 : True := ⟨⟩
theorem tw1808989347295172811 : True := ⟨⟩
theorem tw6566315213767704177 : True := ⟨⟩
theorem tw17616959427299804426 : True := ⟨⟩
theorem tw12018064206102301227 : True := ⟨⟩
theorem tw10104121045339760010 : True := ⟨⟩
theorem tw6784422708348826749 : True := ⟨⟩
theorem tw8148614185302160439 : True := ⟨⟩
theorem tw13182834387416082723 : True := ⟨⟩
theorem tw13405607465459900157 : True := ⟨⟩
theorem tw13273136119169505871 : True := ⟨⟩
theorem tw6794627756841399231 : True := ⟨⟩
theorem tw7417140791895321789 : True := ⟨⟩
theorem tw17829710250802892431 : True := ⟨⟩
theorem tw13421986155412128171 : True := ⟨⟩
theorem tw14347287563566619475 : True := ⟨⟩
theorem tw8294095341958584782 : True := ⟨⟩
theorem tw13846057091514473100 : True := ⟨⟩
theorem tw470215664674739901 : True := ⟨⟩
theorem tw16136740718438533682 : True := ⟨⟩
theorem tw16341911400789165677 : True := ⟨⟩
theorem tw12787040247601471710 : True := ⟨⟩
theorem tw4605664245896327147 : True := ⟨⟩
theorem tw4216470314121260792 : True := ⟨⟩
theorem tw1310321009671789366 : True := ⟨⟩
theorem tw4912422676976647269 : True := ⟨⟩
theorem tw17216885635791895286 : True := ⟨⟩
theorem tw17095776531393701314 : True := ⟨⟩
theorem tw791643473504860413 : True := ⟨⟩
theorem tw9826519200803635561 : True := ⟨⟩
theorem tw18373805351022046660 : True := ⟨⟩
theorem tw18427657001399995870 : True := ⟨⟩
theorem tw8870963737004463529 : True := ⟨⟩
theorem tw4311007947064564806 : True := ⟨⟩
theorem tw1340613068168572107 : True := ⟨⟩
theorem tw6114486990397682103 : True := ⟨⟩
theorem tw7222475472356964586 : True := ⟨⟩
theorem tw17369176985108086011 : True := ⟨⟩
theorem tw3764804485488158402 : True := ⟨⟩
theorem tw17512883158159148630 : True := ⟨⟩
theorem tw18144092287433073524 : True := ⟨⟩
theorem tw12028343771241696885 : True := ⟨⟩
theorem tw9289239557952774485 : True := ⟨⟩
theorem tw273871909578611796 : True := ⟨⟩
theorem tw6558890541568875000 : True := ⟨⟩
theorem tw4107362576395112732 : True := ⟨⟩
theorem tw10720396990852415542 : True := ⟨⟩
theorem tw8609009049499414648 : True := ⟨⟩
theorem tw12728710180396130334 : True := ⟨⟩
theorem tw381012785836336599 : True := ⟨⟩
theorem tw8727742690780082778 : True := ⟨⟩
theorem tw3219943604405844769 : True := ⟨⟩
theorem tw15505920259419608888 : True := ⟨⟩
theorem tw6826630311236412237 : True := ⟨⟩
theorem tw6979715013559353274 : True := ⟨⟩
theorem tw647068750651934752 : True := ⟨⟩
theorem tw10045512250146768036 : True := ⟨⟩
theorem tw14479144636161225491 : True := ⟨⟩
theorem tw5432008095443573603 : True := ⟨⟩
theorem tw14716852830550633404 : True := ⟨⟩
theorem tw330726532795018993 : True := ⟨⟩
theorem tw5091004068936812507 : True := ⟨⟩
theorem tw2873414444168244854 : True := ⟨⟩
theorem tw13562004777341879704 : True := ⟨⟩
theorem tw8251839895893585171 : True := ⟨⟩
theorem tw11958852321788198196 : True := ⟨⟩
theorem tw11688708777379795035 : True := ⟨⟩
theorem tw17819472181575109565 : True := ⟨⟩
theorem tw14816456966712068519 : True := ⟨⟩
theorem tw9931895608212558764 : True := ⟨⟩
theorem tw4452245758576260211 : True := ⟨⟩
theorem tw9933002605069169494 : True := ⟨⟩
theorem tw5075520870247680898 : True := ⟨⟩
theorem tw2848665585693582775 : True := ⟨⟩
theorem tw15704128977401075941 : True := ⟨⟩
theorem tw13128112230719484675 : True := ⟨⟩
theorem tw1514863582962533426 : True := ⟨⟩
theorem tw8688058084854944778 : True := ⟨⟩
theorem tw1748334481636285107 : True := ⟨⟩
theorem tw17172698713241118371 : True := ⟨⟩
theorem tw17753289082305815963 : True := ⟨⟩
theorem tw17492231871922111101 : True := ⟨⟩
theorem tw12845661729232974660 : True := ⟨⟩
theorem tw16926929172886367369 : True := ⟨⟩
theorem tw13669956876908126970 : True := ⟨⟩
theorem tw5269969974130402616 : True := ⟨⟩
theorem tw14137538662509215869 : True := ⟨⟩
theorem tw15002153489884550529 : True := ⟨⟩
theorem tw6023178066841773549 : True := ⟨⟩
theorem tw16701082157871663152 : True := ⟨⟩
theorem tw1457638208909450210 : True := ⟨⟩
theorem tw1315827828073957623 : True := ⟨⟩
theorem tw6942822711106203853 : True := ⟨⟩
theorem tw11939012628669018632 : True := ⟨⟩
theorem tw2805294189868123179 : True := ⟨⟩
theorem tw9490217051512576653 : True := ⟨⟩
theorem tw9994815691780881862 : True := ⟨⟩
theorem tw18352457367011430785 : True := ⟨⟩
theorem tw17665154595535827864 : True := ⟨⟩
theorem tw11094324403489090649 : True := ⟨⟩
theorem tw2115590904381783412 : True := ⟨⟩
theorem tw15070341769039857304 : True := ⟨⟩
theorem tw10731144539809269894 : True := ⟨⟩
theorem tw9413548072277046677 : True := ⟨⟩
theorem tw3215870043329906996 : True := ⟨⟩
theorem tw6008412225075372779 : True := ⟨⟩
theorem tw11893525313048659160 : True := ⟨⟩
theorem tw10713717110920679067 : True := ⟨⟩
theorem tw14506672238600110098 : True := ⟨⟩
theorem tw1108891861652286020 : True := ⟨⟩
theorem tw661943269716040290 : True := ⟨⟩
theorem tw8413934319458859253 : True := ⟨⟩
theorem tw8894413024545293632 : True := ⟨⟩
theorem tw4504731104538980502 : True := ⟨⟩
theorem tw8057881437563314322 : True := ⟨⟩
theorem tw17518231741032443283 : True := ⟨⟩
theorem tw13448985183258951456 : True := ⟨⟩
theorem tw11803726640655657715 : True := ⟨⟩
theorem tw7932312014753148817 : True := ⟨⟩
theorem tw17660894140623844544 : True := ⟨⟩
theorem tw18421763365414588495 : True := ⟨⟩
theorem tw12202902297792028689 : True := ⟨⟩
theorem tw4090272206826622971 : True := ⟨⟩
theorem tw14790908182350043576 : True := ⟨⟩
theorem tw6007376355970197811 : True := ⟨⟩
theorem tw16253093636155583557 : True := ⟨⟩
theorem tw1236815348033203789 : True := ⟨⟩
theorem tw6625568153965001910 : True := ⟨⟩
theorem tw14427896152354911864 : True := ⟨⟩
theorem tw8240031371183823571 : True := ⟨⟩
theorem tw7636441546986157442 : True := ⟨⟩
theorem tw18023051240208521205 : True := ⟨⟩
theorem tw9783928932119033584 : True := ⟨⟩
theorem tw8833071052505490723 : True := ⟨⟩
theorem tw5568864384651580076 : True := ⟨⟩
theorem tw8151534047787511709 : True := ⟨⟩
theorem tw9092293073816808106 : True := ⟨⟩
theorem tw10604144692876215938 : True := ⟨⟩
theorem tw16998644603467802810 : True := ⟨⟩
theorem tw13306395946912477754 : True := ⟨⟩
theorem tw6247312862272466922 : True := ⟨⟩
theorem tw940002619974420913 : True := ⟨⟩
theorem tw1020340906463277875 : True := ⟨⟩
theorem tw6044371067131277323 : True := ⟨⟩
theorem tw7898005064128946766 : True := ⟨⟩
theorem tw7519298008638859261 : True := ⟨⟩
theorem tw16428236593048996092 : True := ⟨⟩
theorem tw8450108174379244169 : True := ⟨⟩
theorem tw8585073511414870888 : True := ⟨⟩
theorem tw11255576763335930326 : True := ⟨⟩
theorem tw9532145993219375938 : True := ⟨⟩
theorem tw1486427653939780683 : True := ⟨⟩
theorem tw2703039835367546972 : True := ⟨⟩
theorem tw9225962702648837346 : True := ⟨⟩
theorem tw836211300641669867 : True := ⟨⟩
theorem tw2685656801065357727 : True := ⟨⟩
theorem tw9593722266648079881 : True := ⟨⟩
theorem tw17502988495318083386 : True := ⟨⟩
theorem tw2026921363508890843 : True := ⟨⟩
theorem tw18056691345309433803 : True := ⟨⟩
theorem tw18382124328916713879 : True := ⟨⟩
theorem tw11214146677845544581 : True := ⟨⟩
theorem tw6856084150089938763 : True := ⟨⟩
theorem tw11352286469525971453 : True := ⟨⟩
theorem tw4870570988253600471 : True := ⟨⟩
theorem tw14885927585076304979 : True := ⟨⟩
theorem tw17805280435677814645 : True := ⟨⟩
theorem tw5606197119347054733 : True := ⟨⟩
theorem tw13169140496112214418 : True := ⟨⟩
theorem tw4990961439579548967 : True := ⟨⟩
theorem tw31839277235160419 : True := ⟨⟩
theorem tw880331776092825645 : True := ⟨⟩
theorem tw17191913669990394470 : True := ⟨⟩
theorem tw6832690397231905386 : True := ⟨⟩
theorem tw5246153033987111015 : True := ⟨⟩
theorem tw17456671789697049964 : True := ⟨⟩
theorem tw8582514977971890539 : True := ⟨⟩
theorem tw3211838554667444809 : True := ⟨⟩
theorem tw10445551207955186636 : True := ⟨⟩
theorem tw1866900462779123193 : True := ⟨⟩
theorem tw12813195428505434648 : True := ⟨⟩
end PySem.W.Fast
open PySem PySem.W PyProof.Rows
set_option maxRecDepth 100000 in
set_option maxHeartbeats 0 in
theorem PySem.Challenge.cw_busyweb_k18_whole_two_ways_holds : PySem.Challenge.rw_busyweb_k18_whole_two_ways.Holds := by
  w_on; o_law; k_head; (case hw => w_witness2)
  k_fill
  refine Pk.walk (l := PySem.Challenge.rw_busyweb_k18_whole_two_ways) rfl rfl (fun w h Y => PySem.W.kIn_of Y) ?F
  case F =>
    intro w mg fa h KX G hmg
    refine' Pk.all_mk KX G hmg ?aCFlowError ?aCBadWeb ?aCTooMany ?aCBadPlace ?aCBadTie ?aCBadFlow ?aCBadRest ?aCNoFlow ?aCBadSet ?aCBadPaper ?aCBadText ?aCBadDeed ?aCWeb ?a1 ?i1 ?l1 ?c1 ?k1 ?a2 ?l2 ?c2 ?k2 ?a3 ?l3 ?c3 ?k3 ?a4 ?l4 ?c4 ?k4 ?a5 ?l5 ?c5 ?k5 ?a6 ?l6 ?c6 ?k6 ?a7 ?l7 ?c7 ?k7 ?a8 ?l8 ?c8 ?k8 ?a9 ?l9 ?c9 ?k9 ?a10 ?l10 ?c10 ?k10 ?a11 ?l11 ?c11 ?k11 ?a12 ?l12 ?c12 ?k12 ?a13 ?l13 ?c13 ?k13 ?a14 ?l14 ?c14 ?k14 ?a15 ?l15 ?c15 ?k15 ?a16 ?l16 ?c16 ?k16 ?a17 ?l17 ?c17 ?k17 ?a18 ?l18 ?c18 ?k18 ?a19 ?l19 ?c19 ?k19 ?a20 ?l20 ?c20 ?k20 ?a21 ?l21 ?c21 ?k21 ?a22 ?l22 ?c22 ?k22 ?a23 ?l23 ?c23 ?k23 ?pg ?hd ?po ?sa ?nM ?nT ?ca ?cg ?ck ?co ?mk ?kc ?mp ?mt ?x_ie_FlowError ?x_ie_BadPlace ?x_mr_BadPlace ?x_ga_BadPlace ?x_gn_BadPlace ?x_cl_BadPlace ?x_co_BadPlace ?x_cb_BadPlace ?x_is_BadPlace ?x_k_BadPlace_BadWeb ?x_k_BadPlace_TooMany ?x_k_BadPlace_BadPlace ?x_k_BadPlace_BadTie ?x_k_BadPlace_BadFlow ?x_k_BadPlace_BadRest ?x_k_BadPlace_NoFlow ?x_k_BadPlace_BadSet ?x_k_BadPlace_BadPaper ?x_k_BadPlace_BadText ?x_k_BadPlace_BadDeed ?x_kf_BadPlace ?x_kv_BadPlace ?z0 ?z1 ?z2 ?z3 ?z4 ?z5 ?z6 ?z7 ?z8 ?z9 ?z10 ?z11 ?z12 ?z13
    (case aCFlowError => k_is)
    (case aCBadWeb => k_is)
    (case aCTooMany => k_is)
    (case aCBadPlace => k_is)
    (case aCBadTie => k_is)
    (case aCBadFlow => k_is)
    (case aCBadRest => k_is)
    (case aCNoFlow => k_is)
    (case aCBadSet => k_is)
    (case aCBadPaper => k_is)
    (case aCBadText => k_is)
    (case aCBadDeed => k_is)
    (case aCWeb => k_is)
    (case a1 => k_is)
    (case i1 => k_is)
    (case l1 => k_is)
    (case c1 => k_is)
    (case k1 => k_is)
    (case a2 => k_is)
    (case l2 => k_is)
    (case c2 => k_is)
    (case k2 => k_is)
    (case a3 => k_is)
    (case l3 => k_is)
    (case c3 => k_is)
    (case k3 => k_is)
    (case a4 => k_is)
    (case l4 => k_is)
    (case c4 => k_is)
    (case k4 => k_is)
    (case a5 => k_is)
    (case l5 => k_is)
    (case c5 => k_is)
    (case k5 => k_is)
    (case a6 => k_is)
    (case l6 => k_is)
    (case c6 => k_is)
    (case k6 => k_is)
    (case a7 => k_is)
    (case l7 => k_is)
    (case c7 => k_is)
    (case k7 => k_is)
    (case a8 => k_is)
    (case l8 => k_is)
    (case c8 => k_is)
    (case k8 => k_is)
    (case a9 => k_is)
    (case l9 => k_is)
    (case c9 => k_is)
    (case k9 => k_is)
    (case a10 => k_is)
    (case l10 => k_is)
    (case c10 => k_is)
    (case k10 => k_is)
    (case a11 => k_is)
    (case l11 => k_is)
    (case c11 => k_is)
    (case k11 => k_is)
    (case a12 => k_is)
    (case l12 => k_is)
    (case c12 => k_is)
    (case k12 => k_is)
    (case a13 => k_is)
    (case l13 => k_is)
    (case c13 => k_is)
    (case k13 => k_is)
    (case a14 => k_is)
    (case l14 => k_is)
    (case c14 => k_is)
    (case k14 => k_is)
    (case a15 => k_is)
    (case l15 => k_is)
    (case c15 => k_is)
    (case k15 => k_is)
    (case a16 => k_is)
    (case l16 => k_is)
    (case c16 => k_is)
    (case k16 => k_is)
    (case a17 => k_is)
    (case l17 => k_is)
    (case c17 => k_is)
    (case k17 => k_is)
    (case a18 => k_is)
    (case l18 => k_is)
    (case c18 => k_is)
    (case k18 => k_is)
    (case a19 => k_is)
    (case l19 => k_is)
    (case c19 => k_is)
    (case k19 => k_is)
    (case a20 => k_is)
    (case l20 => k_is)
    (case c20 => k_is)
    (case k20 => k_is)
    (case a21 => k_is)
    (case l21 => k_is)
    (case c21 => k_is)
    (case k21 => k_is)
    (case a22 => k_is)
    (case l22 => k_is)
    (case c22 => k_is)
    (case k22 => k_is)
    (case a23 => k_is)
    (case l23 => k_is)
    (case c23 => k_is)
    (case k23 => k_is)
    (case pg => k_is)
    (case hd => k_is)
    (case po => k_is)
    (case sa => k_is)
    (case nM => k_is)
    (case nT => k_is)
    (case ca => k_is)
    (case cg => k_is)
    (case ck => k_is)
    (case co => k_is)
    (case mk => k_is)
    (case kc => k_is)
    (case mp => k_is)
    (case mt => k_is)
    (case x_ie_FlowError => k_exc)
    (case x_ie_BadPlace => k_exc)
    (case x_mr_BadPlace => k_is)
    (case x_ga_BadPlace => k_is)
    (case x_gn_BadPlace => k_is)
    (case x_cl_BadPlace => k_is)
    (case x_co_BadPlace => k_is)
    (case x_cb_BadPlace => k_is)
    (case x_is_BadPlace => k_is)
    (case x_k_BadPlace_BadWeb => kit_is)
    (case x_k_BadPlace_TooMany => kit_is)
    (case x_k_BadPlace_BadPlace => kit_is)
    (case x_k_BadPlace_BadTie => kit_is)
    (case x_k_BadPlace_BadFlow => kit_is)
    (case x_k_BadPlace_BadRest => kit_is)
    (case x_k_BadPlace_NoFlow => kit_is)
    (case x_k_BadPlace_BadSet => kit_is)
    (case x_k_BadPlace_BadPaper => kit_is)
    (case x_k_BadPlace_BadText => kit_is)
    (case x_k_BadPlace_BadDeed => kit_is)
    (case x_kf_BadPlace => kit_is)
    (case x_kv_BadPlace => kit_is)
    (case z0 => k_is)
    (case z1 => k_is)
    (case z2 => k_is)
    (case z3 => k_is)
    (case z4 => k_is)
    (case z5 => k_is)
    (case z6 => k_is)
    (case z7 => k_is)
    (case z8 => k_is)
    (case z9 => k_is)
    (case z10 => k_is)
    (case z11 => k_is)
    (case z12 => k_is)
    (case z13 => k_is)
