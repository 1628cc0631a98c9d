import PyProof.Rows.All
import Wide.All
import OpenK.AllK
import Wide.FinOn
import Lean
import PyProof.EqAt
import PyProof.EqKinds
import PyProof.TupleCall
import KE.KRevIter
import KE.KDictList
import KE.KDictLaws
import PyProof.Rows.SetFrom
import PyProof.SetRoads
import PyProof.SetNew
import PyProof.FactsAll.set
import PyProof.CollectWalk
import PyProof.Rows.SortShell
import PySem.Challenge.RW_busyweb_k25_between_bounds
set_option Elab.async false
set_option linter.all false
set_option maxRecDepth 100000
namespace L2
open PySem PySem.Spec PyProof.Rows
abbrev Key := Sum Int Str
def keyIs : Key → Value → Bool
  | .inl k, v => Value.isInt k v
  | .inr x, v => Value.isStrOf x v
def keyH (w : World) : Key → Int
  | .inl k => hashInt k
  | .inr x => hashStr w x
theorem keyIs_shape : ∀ {k : Key} {v : Value}, keyIs k v = true → (∃ i t, k = Sum.inl i ∧ v = Value.int i t) ∨ (∃ x t, k = Sum.inr x ∧ v = Value.str x t)
  | .inl i, v, h => by
    obtain ⟨t, e⟩ := Value.isInt_shape (k := i) (v := v) h
    exact .inl ⟨i, t, rfl, e⟩
  | .inr x, v, h => by
    obtain ⟨t, e⟩ := Value.isStrOf_shape (x := x) (v := v) h
    exact .inr ⟨x, t, rfl, e⟩
theorem keyIs_int (i : Int) (t : Tok) : keyIs (.inl i) (.int i t) = true := by simp [keyIs, Value.isInt]
theorem keyIs_str (x : Str) (t : Tok) : keyIs (.inr x) (.str x t) = true := by simp [keyIs, Value.isStrOf]
theorem key_ll (a b : Int) : decide ((Sum.inl a : Key) = Sum.inl b) = (a == b) := by
  by_cases e : a = b
  · subst e; simp
  · have h : ¬ (Sum.inl a : Key) = Sum.inl b := fun q => e (Sum.inl.inj q)
    rw [decide_eq_false h]
    exact (beq_eq_false_iff_ne.mpr e).symm
theorem key_rr (a b : Str) : decide ((Sum.inr a : Key) = Sum.inr b) = decide (a = b) := by
  by_cases e : a = b
  · subst e; simp
  · have h : ¬ (Sum.inr a : Key) = Sum.inr b := fun q => e (Sum.inr.inj q)
    rw [decide_eq_false h, decide_eq_false e]
theorem key_lr (a : Int) (b : Str) : decide ((Sum.inl a : Key) = Sum.inr b) = false := decide_eq_false (fun q => nomatch q)
theorem key_rl (a : Str) (b : Int) : decide ((Sum.inr a : Key) = Sum.inl b) = false := decide_eq_false (fun q => nomatch q)
def mixKind (prog : Program) (w : World) : PySem.KeyKind prog w Key where
  is := keyIs
  hash := keyH w
  inj := fun v a b ha hb => by
    rcases keyIs_shape ha with ⟨i, t, rfl, rfl⟩ | ⟨x, t, rfl, rfl⟩
    · rcases keyIs_shape hb with ⟨j, u, rfl, e⟩ | ⟨y, u, rfl, e⟩
      · injection e with e1 _; rw [e1]
      · exact nomatch e
    · rcases keyIs_shape hb with ⟨j, u, rfl, e⟩ | ⟨y, u, rfl, e⟩
      · exact nomatch e
      · injection e with e1 _; rw [e1]
  byValue := fun k v h => by
    rcases keyIs_shape h with ⟨i, t, rfl, rfl⟩ | ⟨x, t, rfl, rfl⟩ <;> rfl
  pyHash := fun hv h => by
    rcases keyIs_shape hv with ⟨i, t, rfl, rfl⟩ | ⟨x, t, rfl, rfl⟩
    · exact wpAny_pyHash_int h
    · exact wpAny_pyHash_str h
  eqBool := fun hu hv h => by
    rcases keyIs_shape hu with ⟨i, t, rfl, rfl⟩ | ⟨x, t, rfl, rfl⟩
    · rcases keyIs_shape hv with ⟨j, u, rfl, rfl⟩ | ⟨y, u, rfl, rfl⟩
      · rw [key_ll] at h; exact wpAny_eqBool_int h
      · rw [key_lr] at h; exact SeqAt.EqAt.int_str i t y u _ _ _ _ h
    · rcases keyIs_shape hv with ⟨j, u, rfl, rfl⟩ | ⟨y, u, rfl, rfl⟩
      · rw [key_rl] at h; exact SeqAt.EqAt.str_int x t j u _ _ _ _ h
      · rw [key_rr] at h; exact wpAny_eqBool_str h
  «strs» := fun k x t v h => by
    rcases keyIs_shape h with ⟨i, u, rfl, e⟩ | ⟨y, u, rfl, e⟩
    · exact nomatch e
    · injection e with e1 _
      subst e1
      cases v <;> rfl
theorem mixKind_int (prog : Program) (w : World) (i : Int) (t : Tok) : (mixKind prog w).is (.inl i) (.int i t) = true := keyIs_int i t
theorem mixKind_str (prog : Program) (w : World) (x : Str) (t : Tok) : (mixKind prog w).is (.inr x) (.str x t) = true := keyIs_str x t
end L2
namespace L2
open PySem PySem.Spec PyProof.Rows
inductive V where
  | non | bl (b : Bool) | int (i : Int) | str (x : Str) | byt (b : Array UInt8) | flt (b : UInt64) | ref (a : Addr) | ty (n : String)
  deriving DecidableEq
def RelV : V → Value → Prop
  | .non, u => u = Value.none
  | .bl b, u => u = Value.bool b
  | .int i, u => ∃ t, u = Value.int i t
  | .str x, u => ∃ t, u = Value.str x t
  | .byt b, u => ∃ t, u = Value.bytes b t
  | .flt b, u => ∃ t, u = Value.float b t
  | .ref a, u => u = Value.ref a
  | .ty n, u => u = Value.type n
abbrev Vals : List V → List Value → Prop := Paired RelV
theorem Vals.length {xs : List V} {us : List Value} (r : Vals xs us) : xs.length = us.length := Paired.length r
theorem Vals.get : ∀ {xs : List V} {us : List Value} {i : Nat} {x : V}, Vals xs us → xs[i]? = some x → ∃ u, us[i]? = some u ∧ RelV x u
  | _, _, _, _, .nil, e => by simp at e
  | _, _, 0, _, .cons r _, e => by simp at e; subst e; exact ⟨_, rfl, r⟩
  | _, _, i + 1, x, .cons _ t, e => by
    obtain ⟨u, h1, h2⟩ := Vals.get (i := i) (x := x) t (by simpa using e)
    exact ⟨u, by simpa using h1, h2⟩
theorem Vals.set {x : V} {u : Value} (r : RelV x u) : ∀ {xs : List V} {us : List Value} (i : Nat), Vals xs us → Vals (xs.set i x) (us.set i u)
  | _, _, _, .nil => .nil
  | _, _, 0, .cons _ t => .cons r t
  | _, _, i + 1, .cons q t => .cons q (Vals.set r i t)
theorem Vals.append : ∀ {xs ys : List V} {us ws : List Value}, Vals xs us → Vals ys ws → Vals (xs ++ ys) (us ++ ws)
  | _, _, _, _, .nil, s => s
  | _, _, _, _, .cons r t, s => .cons r (Vals.append t s)
theorem Vals.take : ∀ {xs : List V} {us : List Value} (n : Nat), Vals xs us → Vals (xs.take n) (us.take n)
  | _, _, 0, _ => .nil
  | _, _, _ + 1, .nil => .nil
  | _, _, n + 1, .cons r t => .cons r (Vals.take n t)
theorem Vals.drop : ∀ {xs : List V} {us : List Value} (n : Nat), Vals xs us → Vals (xs.drop n) (us.drop n)
  | _, _, 0, r => r
  | _, _, _ + 1, .nil => .nil
  | _, _, n + 1, .cons _ t => Vals.drop n t
def RelO : Option V → Option Value → Prop
  | some v, some u => RelV v u
  | none, none => True
  | _, _ => False
def KV {κ : Type} : List (κ × V) → List (κ × Value) → Prop := Paired fun (p : κ × V) (q : κ × Value) => p.1 = q.1 ∧ RelV p.2 q.2
def kV : Key → V
  | .inl i => .int i
  | .inr x => .str x
inductive HO where
  | lst (xs : List V)
  | tup (xs : List V)
  | dK (kvs : List (Key × V)) | dT (kvs : List (List Key × V))
  | set (S : Int → Bool) (n : Nat)
  | ins (C dx : Addr) (fs : List (Str × V))
  | own (x : Addr)
  | xd (fs : List (Str × V))
  | met (f x : Addr)
  | rng (lo hi : Int)
  | frz (o : Obj) (u : HO)
  | tbl (ps : Array Value)
  | ext (φ : Heap → Prop)
abbrev Hp := Addr → Option HO
def upd (H : Hp) (a : Addr) (o : HO) : Hp := fun b => if b = a then some o else H b
theorem upd_same {H : Hp} {a : Addr} {o : HO} : upd H a o a = some o := by unfold upd; rw [if_pos rfl]
theorem upd_ne {H : Hp} {a b : Addr} {o : HO} (h : b ≠ a) : upd H a o b = H b := by unfold upd; rw [if_neg h]
theorem ne_of {H : Hp} {a b : Addr} {o u : HO} (h : H a = some o) (h' : H b = some u) (d : o ≠ u) : a ≠ b := by
  intro e; subst e; rw [h] at h'; exact d (Option.some.inj h')
theorem ne_of_none {H : Hp} {a b : Addr} {o : HO} (h : H a = some o) (h' : H b = none) : a ≠ b := by
  intro e; subst e; rw [h] at h'; cases h'
section
variable (P : Program) (w : World)
def ObjOk (H : Hp) (h : Heap) (a : Addr) : HO → Prop
  | .lst xs => xs.length ≤ sizeLine ∧ ∃ (its : List Value) (n : Nat), Vals xs its ∧ h.get? a = some { cls := .type "list", data := .seq its.toArray n }
  | .tup xs => xs.length ≤ sizeLine ∧ ∃ its : List Value, Vals xs its ∧ IsTup h a its.toArray
  | .dK kvs => kvs.length ≤ sizeLine ∧ (a == sysModules) = false ∧ ∃ vs, KV kvs vs ∧ h.DictOf (mixKind P w) a vs
  | .dT kvs => kvs.length ≤ sizeLine ∧ (a == sysModules) = false ∧ ∃ xs : List (List Key × Addr × Value),
      Paired (fun (p : List Key × V) (q : List Key × Addr × Value) => p.1 = q.1 ∧ H q.2.1 = some (.tup (p.1.map kV)) ∧ RelV p.2 q.2.2) kvs xs ∧
      ∃ o es ep, h.get? a = some o ∧ o.ExactDict ∧ o.data = .dict es ep ∧ es.toList = xs.map (entryOfKey (tupleKind (mixKind P w))) ∧ (xs.map (·.1)).Nodup
  | .set S n => h.SetOf (intKind P w) a S n
  | .ins C dx fs => H dx = some (.own a) ∧ fs.length ≤ 1000 ∧ dx ≠ a ∧ h.get? a = some (PySem.W.instObj C dx) ∧
      ∃ mA, h.Ns1 dx mA ∧ (∀ f, RelO (fs.lookup f) (mA f)) ∧ PySem.Within mA (fs.map (·.1))
  | .own _ => ∃ o, h.get? a = some o
  | .xd fs => ∃ mA, h.Ns1 a mA ∧ ∀ f, RelO (fs.lookup f) (mA f)
  | .rng lo hi => ∃ t u v, h.get? a = some { cls := .type "range", data := .fields #[.int lo t, .int hi u, .int 1 v] }
  | .frz o u => h.get? a = some o ∧ ObjOk H h a u
  | .tbl ps => h.get? a = some { cls := .none, data := .fields ps }
  | .met f x => h.get? a = some (PySem.W.methodObj (.ref f) (.ref x))
  | .ext φ => φ h ∧ (∃ o, h.get? a = some o) ∧ ∀ h1 h2 : Heap, φ h1 → (∀ o, h1.get? a = some o → h2.get? a = some o) → φ h2
def HOk (H : Hp) (h : Heap) : Prop := ∀ a o, H a = some o → ObjOk P w H h a o
end
section
variable {P : Program} {w : World} {H H' : Hp} {h h' : Heap} {a : Addr} {o : HO}
theorem ObjOk.lt (x : ObjOk P w H h a o) : a < h.objs.size := by
  cases o with
  | lst xs => obtain ⟨_, _, _, _, e⟩ := x; exact Heap.lt_size e
  | tup xs => obtain ⟨_, _, _, p⟩ := x; exact p.lt
  | dK kvs => obtain ⟨_, _, _, _, o, _, _, e, _⟩ := x; exact Heap.lt_size e
  | dT kvs => obtain ⟨_, _, _, _, o, _, _, e, _⟩ := x; exact Heap.lt_size e
  | set S n => obtain ⟨o, _, _, _, e, _⟩ := x; exact Heap.lt_size e
  | ins C dx fs => obtain ⟨_, _, _, e, _⟩ := x; exact Heap.lt_size e
  | own y => obtain ⟨_, e⟩ := x; exact Heap.lt_size e
  | xd fs => obtain ⟨_, ⟨_, _, _, e, _⟩, _⟩ := x; exact Heap.lt_size e
  | rng lo hi => obtain ⟨_, _, _, e⟩ := x; exact Heap.lt_size e
  | frz ob u => obtain ⟨e, _⟩ := x; exact Heap.lt_size e
  | tbl ps => exact Heap.lt_size (show h.get? a = some _ from x)
  | met f y => exact Heap.lt_size (show h.get? a = some _ from x)
  | ext φ => obtain ⟨_, ⟨_, e⟩, _⟩ := x; exact Heap.lt_size e
theorem Paired.mapP {α β : Type} {F G : α → β → Prop} : ∀ {l₁ : List α} {l₂ : List β}, Paired F l₁ l₂ → (∀ a b, F a b → G a b) → Paired G l₁ l₂
  | _, _, .nil, _ => .nil
  | _, _, .cons r t, f => .cons (f _ _ r) (Paired.mapP t f)
theorem Paired.imp' {α β : Type} {F G : α → β → Prop} (f : ∀ a b, F a b → G a b) {l₁ : List α} {l₂ : List β} (r : Paired F l₁ l₂) : Paired G l₁ l₂ := Paired.mapP r f
theorem ObjOk.stay (x : ObjOk P w H h a o) (k : ∀ b u, (b = a ∨ H b = some (.own a)) → h.get? b = some u → h'.get? b = some u)
    (ho : ∀ b, H b = some (.own a) → H' b = some (.own a)) (ht : ∀ b xs, H b = some (.tup xs) → H' b = some (.tup xs)) : ObjOk P w H' h' a o := by
  induction o with
  | lst xs => obtain ⟨z, its, n, r, e⟩ := x; exact ⟨z, its, n, r, k _ _ (.inl rfl) e⟩
  | tup xs => obtain ⟨z, its, r, ob, e, c⟩ := x; exact ⟨z, its, r, ob, k _ _ (.inl rfl) e, c⟩
  | dK kvs => obtain ⟨z, y, vs, r, ob, es, ep, e, c⟩ := x; exact ⟨z, y, vs, r, ob, es, ep, k _ _ (.inl rfl) e, c⟩
  | dT kvs =>
    obtain ⟨z, y, xs, r, ob, es, ep, e, c⟩ := x
    exact ⟨z, y, xs, Paired.mapP r fun p q z => ⟨z.1, ht _ _ z.2.1, z.2.2⟩, ob, es, ep, k _ _ (.inl rfl) e, c⟩
  | set S n => obtain ⟨ob, es, ep, t, e, c⟩ := x; exact ⟨ob, es, ep, t, k _ _ (.inl rfl) e, c⟩
  | ins C dx fs =>
    obtain ⟨d, z, ne, e, mA, ⟨od, es, ep, e2, c⟩, r⟩ := x
    exact ⟨ho _ d, z, ne, k _ _ (.inl rfl) e, mA, ⟨od, es, ep, k _ _ (.inr d) e2, c⟩, r⟩
  | own y => obtain ⟨ob, e⟩ := x; exact ⟨ob, k _ _ (.inl rfl) e⟩
  | xd fs => obtain ⟨mA, ⟨od, es, ep, e, c⟩, r⟩ := x; exact ⟨mA, ⟨od, es, ep, k _ _ (.inl rfl) e, c⟩, r⟩
  | rng lo hi => obtain ⟨t, u, v, e⟩ := x; exact ⟨t, u, v, k _ _ (.inl rfl) e⟩
  | frz ob u ih => obtain ⟨e, q⟩ := x; exact ⟨k _ _ (.inl rfl) e, ih q⟩
  | tbl ps =>
    have e : h.get? a = some { cls := .none, data := .fields ps } := x
    show h'.get? a = some { cls := .none, data := .fields ps }
    exact k a _ (.inl rfl) e
  | met f y =>
    have e : h.get? a = some (PySem.W.methodObj (.ref f) (.ref y)) := x
    show h'.get? a = some (PySem.W.methodObj (.ref f) (.ref y))
    exact k a _ (.inl rfl) e
  | ext φ => obtain ⟨p, ⟨o, e⟩, st⟩ := x; exact ⟨st _ _ p fun o q => k _ _ (.inl rfl) q, ⟨o, k _ _ (.inl rfl) e⟩, st⟩
theorem HOk.lt (x : HOk P w H h) (e : H a = some o) : a < h.objs.size := (x a o e).lt
theorem HOk.fresh (x : HOk P w H h) (e : h.objs.size ≤ a) : H a = none := by
  cases q : H a with
  | none => rfl
  | some u => exact absurd (Nat.lt_of_lt_of_le (x.lt q) e) (Nat.lt_irrefl _)
theorem HOk.kept (x : HOk P w H h) (k : ∀ b u, h.get? b = some u → h'.get? b = some u) : HOk P w H h' := fun a o e =>
  (x a o e).stay (fun b u _ q => k b u q) (fun _ q => q) fun _ _ q => q
theorem HOk.laid (x : HOk P w H h) (k : ∀ b u, h.get? b = some u → h'.get? b = some u) (hp : h.objs.size ≤ a) (new : ObjOk P w (upd H a o) h' a o) : HOk P w (upd H a o) h' := fun b u e => by
  have hn := x.fresh hp
  by_cases hb : b = a
  · subst hb; rw [upd_same] at e; cases e; exact new
  · rw [upd_ne hb] at e
    exact (x b u e).stay (fun c v _ q => k c v q) (fun c q => by rw [upd_ne (ne_of_none q hn)]; exact q) fun c xs q => by rw [upd_ne (ne_of_none q hn)]; exact q
end
def Rd (H : Hp) (a : Addr) (u : HO) : Prop := H a = some u ∨ ∃ o, H a = some (.frz o u)
theorem Rd.of {H : Hp} {a : Addr} {u : HO} (h : H a = some u) : Rd H a u := .inl h
theorem Rd.ok {P : Program} {w : World} {H : Hp} {h : Heap} {a : Addr} {u : HO} (r : Rd H a u) (x : HOk P w H h) : ObjOk P w H h a u := by
  rcases r with r | ⟨o, r⟩
  · exact x a u r
  · obtain ⟨_, q⟩ := x a _ r
    exact q
def Mut : Option HO → Prop
  | some (.lst _) => True
  | some (.dK _) => True
  | some (.dT _) => True
  | some (.set _ _) => True
  | some (.ins _ _ _) => True
  | some (.ext _) => True
  | _ => False
section
variable {P : Program} {w : World} {H : Hp} {h h' : Heap} {x e : Addr} {o' : HO}
theorem HOk.write (ok : HOk P w H h) (mu : Mut (H x)) (he : e = x ∨ H e = some (.own x)) (k : ∀ b u, b ≠ e → h.get? b = some u → h'.get? b = some u) (heo : ∃ u, h'.get? e = some u)
    (new : ObjOk P w (upd H x o') h' x o') : HOk P w (upd H x o') h' := fun b u q => by
  have nown : ∀ c y, H c = some (.own y) → c ≠ x := fun c y r z => by subst z; rw [r] at mu; exact mu
  have ntup : ∀ c xs, H c = some (.tup xs) → c ≠ x := fun c xs r z => by subst z; rw [r] at mu; exact mu
  by_cases hb : b = x
  · subst hb; rw [upd_same] at q; cases q; exact new
  · rw [upd_ne hb] at q
    by_cases hbe : b = e
    · have q' : H b = some (.own x) := by
        rcases he with z | z
        · exact absurd (hbe.trans z) hb
        · rw [hbe]; exact z
      rw [q] at q'; cases q'
      obtain ⟨v, hv⟩ := heo
      exact ⟨v, by rw [hbe]; exact hv⟩
    · refine (ok b u q).stay (fun c v hc r => k c v ?_ r) (fun c r => by rw [upd_ne (nown c b r)]; exact r) fun c xs r => by rw [upd_ne (ntup c xs r)]; exact r
      rcases hc with rfl | hc
      · exact hbe
      · rintro rfl
        rcases he with z | z
        · exact nown c b hc z
        · rw [hc] at z; cases z; exact hb rfl
end
structure Un (fs ex : List Addr) (H H' : Hp) (h h' : Heap) : Prop where
  keep : ∀ b o, h.get? b = some o → H b = none → b ∉ fs → b ∉ ex → h'.get? b = some o
  slot : ∀ b o, h.get? b = some o → H b = none → b ∈ fs → b ∉ ex → ∃ sl, h'.get? b = some { o with slots := sl }
  free : ∀ b o, h.get? b = some o → H b = none → b ∉ ex → H' b = none
  there : ∀ b o, h.get? b = some o → b ∉ ex → ∃ o', h'.get? b = some o'
  tups : ∀ b xs, H b = some (.tup xs) → H' b = some (.tup xs)
  frzs : ∀ b o u, H b = some (.frz o u) → H' b = some (.frz o u)
  tbls : ∀ b ps, H b = some (.tbl ps) → ∃ more, H' b = some (.tbl (ps ++ more))
section
variable {fs fs' ex ex' : List Addr} {H H1 H2 : Hp} {h h1 h2 h' : Heap} {a x e : Addr} {o : HO}
theorem Un.any (u : Un fs ex H H1 h h1) {b : Addr} {ob : Obj} (q : h.get? b = some ob) (n : H b = none) (hx : b ∉ ex) : ∃ sl, h1.get? b = some { ob with slots := sl } := by
  by_cases hb : b ∈ fs
  · exact u.slot b ob q n hb hx
  · exact ⟨ob.slots, u.keep b ob q n hb hx⟩
theorem Un.trans (a : Un fs ex H H1 h h1) (b : Un fs ex H1 H2 h1 h2) : Un fs ex H H2 h h2 where
  keep := fun c ob q n hc hx => b.keep c ob (a.keep c ob q n hc hx) (a.free c ob q n hx) hc hx
  slot := fun c ob q n hc hx => by
    obtain ⟨sl, e1⟩ := a.slot c ob q n hc hx
    obtain ⟨sl', e2⟩ := b.slot c _ e1 (a.free c ob q n hx) hc hx
    exact ⟨sl', e2⟩
  free := fun c ob q n hx => by
    obtain ⟨o', e1⟩ := a.there c ob q hx
    exact b.free c o' e1 (a.free c ob q n hx) hx
  there := fun c ob q hx => by
    obtain ⟨o', e1⟩ := a.there c ob q hx
    exact b.there c o' e1 hx
  tups := fun c xs q => b.tups c xs (a.tups c xs q)
  frzs := fun c ob xs q => b.frzs c ob xs (a.frzs c ob xs q)
  tbls := fun c ps q => by
    obtain ⟨m1, e1⟩ := a.tbls c ps q
    obtain ⟨m2, e2⟩ := b.tbls c _ e1
    exact ⟨m1 ++ m2, by rw [e2, Array.append_assoc]⟩
theorem Un.kept (k : ∀ b u, h.get? b = some u → h'.get? b = some u) : Un fs ex H H h h' :=
  ⟨fun b ob q _ _ _ => k b ob q, fun b ob q _ _ _ => ⟨ob.slots, k b ob q⟩, fun _ _ _ n _ => n, fun b ob q _ => ⟨ob, k b ob q⟩, fun _ _ q => q, fun _ _ _ q => q, fun _ ps q => ⟨#[], by rw [q]; simp⟩⟩
theorem Un.refl : Un fs ex H H h h := Un.kept fun _ _ q => q
theorem Un.laid (k : ∀ b u, h.get? b = some u → h'.get? b = some u) (hp : h.objs.size ≤ a) (hn : H a = none) : Un fs ex H (upd H a o) h h' where
  keep := fun b u q _ _ _ => k b u q
  slot := fun b u q _ _ _ => ⟨u.slots, k b u q⟩
  free := fun b u q n _ => by rw [upd_ne (Nat.ne_of_lt (Nat.lt_of_lt_of_le (Heap.lt_size q) hp))]; exact n
  there := fun b u q _ => ⟨u, k b u q⟩
  tups := fun b xs q => by rw [upd_ne (ne_of_none q hn)]; exact q
  frzs := fun b u xs q => by rw [upd_ne (ne_of_none q hn)]; exact q
  tbls := fun b ps q => ⟨#[], by rw [upd_ne (ne_of_none q hn), q]; simp⟩
theorem Un.write (mu : Mut (H x)) (he : e = x ∨ H e = some (.own x)) (k : ∀ b u, b ≠ e → h.get? b = some u → h'.get? b = some u) (heo : ∃ u, h'.get? e = some u) : Un fs ex H (upd H x o) h h' := by
  have hx : ∀ b, H b = none → b ≠ x := fun b n z => by subst z; rw [n] at mu; exact mu
  have hb : ∀ b, H b = none → b ≠ e := fun b n z => by
    subst z
    rcases he with r | r
    · exact hx b n r
    · rw [n] at r; cases r
  have hm : ∀ b u, H b = some u → ¬ Mut (some u) → b ≠ x := fun b u q nm z => by subst z; rw [q] at mu; exact nm mu
  refine ⟨fun b u q n _ _ => k b u (hb b n) q, fun b u q n _ _ => ⟨u.slots, k b u (hb b n) q⟩, fun b u q n _ => by rw [upd_ne (hx b n)]; exact n, fun b u q _ => ?_,
    fun b xs q => by rw [upd_ne (hm b _ q fun z => z)]; exact q, fun b u xs q => by rw [upd_ne (hm b _ q fun z => z)]; exact q, fun b ps q => ⟨#[], by rw [upd_ne (hm b _ q fun z => z), q]; simp⟩⟩
  by_cases hbe : b = e
  · subst hbe; exact heo
  · exact ⟨u, k b u hbe q⟩
theorem Un.mono (u : Un fs ex H H1 h h1) (hs : ∀ b ∈ fs, b ∈ fs') (hx : ∀ b ∈ ex, b ∈ ex') : Un fs' ex' H H1 h h1 :=
  ⟨fun b ob q n hb he => u.keep b ob q n (fun z => hb (hs b z)) fun z => he (hx b z), fun _ _ q n _ he => u.any q n fun z => he (hx _ z), fun b ob q n he => u.free b ob q n fun z => he (hx b z), fun b ob q he => u.there b ob q fun z => he (hx b z), u.tups, u.frzs, u.tbls⟩
end
def trk (h : Heap) (H : Hp) : List Addr := (List.range h.objs.size).filter fun a => (H a).isSome
def hidT (h : Heap) (H : Hp) : Heap := PySem.W.hideAll h (trk h H)
theorem hidT_size (h : Heap) (H : Hp) : (hidT h H).objs.size = h.objs.size := PySem.W.hideAll_size _ _
theorem hidT_get {h : Heap} {H : Hp} {b : Addr} {o : Obj} (e : h.get? b = some o) (n : H b = none) : (hidT h H).get? b = some o :=
  PySem.W.hideAll_get _ e fun hm => by
    have q : (H b).isSome = true := (List.mem_filter.mp hm).2
    rw [n] at q; simp at q
theorem of_hidT {h : Heap} {H : Hp} {b : Addr} {o : Obj} (e : (hidT h H).get? b = some o) : h.get? b = some o ∧ H b = none := by
  have e' : h.get? b = some o := PySem.W.of_hideAll (trk h H) e
  refine ⟨e', ?_⟩
  cases q : H b with
  | none => rfl
  | some x =>
    have hm : b ∈ trk h H := List.mem_filter.mpr ⟨List.mem_range.mpr (Heap.lt_size e'), by simp [q]⟩
    have z : (hidT h H).get? b = none := PySem.W.hideAll_none (trk h H) hm
    rw [z] at e; cases e
def allNews (g h : Heap) (L : Addr) : List (Addr × Obj) := (List.range h.objs.size).filterMap fun a => if a = L ∨ (g.get? a).isSome = true then none else (h.get? a).map fun o => (a, o)
def rest (g h : Heap) (L d : Addr) : List (Addr × Obj) := (allNews g h L).filter fun p => decide (p.1 ≠ d)
end L2
namespace L2
open PySem PySem.Spec PyProof.Rows
structure Mod (K : PySem.W.Frag) (mg : Str → Option Value) (base : Heap) : Prop where
  kin : K.In base
  glob : base.Ns mainGlobals mg
  blt : ∃ mb, base.Ns builtinsNs mb ∧ ∀ x : Str, x ≠ "__name__" → mb x = bootBuiltins x
  nolimit : base.NoLimit
structure Cx where
  prog : Program
  w : World
  K : PySem.W.Frag
  mg : Str → Option Value
  base : Heap
  A : Around
  N : List Str
  s₀ : Shared
  H₀ : Hp
  env : Env
  outer : List Env
  stack : List Env
  ex : List Addr
  fn : Str → Bool
  calm : Bool
  pn : List (Addr × Obj)
  xe : Value → Shared → Prop
def frs (l : List Env) : List Addr := l.filterMap (·.frame)
abbrev Cx.fs (X : Cx) : List Addr := frs X.outer
def Vis (sc : Scope) (x : Str) : Prop := sc.names.lookup x = some .local ∨ sc.names.lookup x = some .cell ∨ sc.names.lookup x = some .free
def Loc (sc : Scope) (x : Str) : Prop := sc.names.lookup x = some .local ∨ sc.names.lookup x = some .cell
def Look (env : Env) (h : Heap) (m : Str → Option Value) (x : Str) (u : Value) : Prop :=
  (env.kindOf x = some .local ∧ m x = some u) ∨ ((env.kindOf x = some .cell ∨ env.kindOf x = some .free) ∧ ∃ c, env.cells.lookup x = some c ∧ h.IsCell c (some u))
structure Cx.Ok (X : Cx) : Prop where
  mod : Mod X.K X.mg X.base
  kind : X.env.scope.kind = .function
  glob : X.env.globals = mainGlobals
  blt : X.env.builtins = builtinsNs
  above : X.s₀.heap.objs.size ≤ X.env.locals
  inj : ∀ x y c, X.env.cells.lookup x = some c → X.env.cells.lookup y = some c → x = y
  has : ∀ x, (X.env.kindOf x = some .cell ∨ X.env.kindOf x = some .free) → ∃ c, X.env.cells.lookup x = some c
  cab : ∀ x c, X.fn x = true → X.env.cells.lookup x = some c → X.s₀.heap.objs.size ≤ c
  hd : X.calm = true → X.A.handled = none
  frames : X.A.frames = some X.stack
  stk : X.stack = X.outer ∨ (X.stack = X.env :: X.outer ∧ X.env.frame = some X.env.locals)
  exf : ∀ b ∈ X.ex, b ≠ X.env.locals ∧ ∀ x c, X.env.cells.lookup x = some c → c ≠ b
  bs : ∀ b o, X.base.get? b = some o → X.s₀.heap.get? b = some o ∧ X.H₀ b = none
  bsz : X.base.objs.size ≤ X.s₀.heap.objs.size
  noex : ∀ b o, X.base.get? b = some o → b ∉ X.ex
  exfs : ∀ b ∈ X.ex, b ∉ X.fs
  funs : X.s₀.heap.FunFrames X.base X.outer
  frf : ∀ b ∈ X.fs, X.H₀ b = none
structure Inv (X : Cx) (pins : List (Addr × Obj)) (σ : List (Option V)) (H : Hp) (s : Shared) : Prop where
  ok : X.Ok
  os : s.os = X.s₀.os
  bare : AllBare s.gens
  base : Un X.fs X.ex X.H₀ H X.s₀.heap s.heap
  loc : ∃ m, s.heap.Ns X.env.locals m ∧ ∀ (i : Nat) (x : Str) (v : V), X.N[i]? = some x → σ[i]? = some (some v) → Vis X.env.scope x → ∃ u, RelV v u ∧ Look X.env s.heap m x u
  cell : ∀ x c, X.env.cells.lookup x = some c → ∃ v, s.heap.IsCell c v
  free : H X.env.locals = none
  freeC : ∀ x c, X.env.cells.lookup x = some c → H c = none
  pin : ∀ p ∈ X.pn ++ pins, s.heap.get? p.1 = some p.2 ∧ H p.1 = none ∧ p.1 ≠ X.env.locals ∧ p.1 ∉ X.fs ∧ ∀ v, p.2.data ≠ .cell v
  hok : HOk X.prog X.w H s.heap
  len : σ.length = X.N.length
section
variable {X : Cx} {pins : List (Addr × Obj)} {σ : List (Option V)} {H H' : Hp} {s : Shared} {h' : Heap}
theorem Cx.Ok.nofr (ok : X.Ok) {b : Addr} {o : Obj} (e : X.base.get? b = some o) : b ∉ X.fs := fun hb => by
  have := (ok.funs.mem hb).1
  rw [e] at this; cases this
theorem Inv.bs (I : Inv X pins σ H s) : ∀ b o, X.base.get? b = some o → s.heap.get? b = some o ∧ H b = none := fun b o e =>
  ⟨I.base.keep b o (I.ok.bs b o e).1 (I.ok.bs b o e).2 (I.ok.nofr e) (I.ok.noex b o e), I.base.free b o (I.ok.bs b o e).1 (I.ok.bs b o e).2 (I.ok.noex b o e)⟩
theorem Inv.bk (I : Inv X pins σ H s) : ∀ b o, X.base.get? b = some o → s.heap.get? b = some o := fun b o e => (I.bs b o e).1
theorem Inv.mod (I : Inv X pins σ H s) : Mod X.K X.mg X.base := I.ok.mod
theorem Inv.kIn (I : Inv X pins σ H s) : X.K.In s.heap := I.ok.mod.kin.keeps I.bk
theorem Inv.nolimit (I : Inv X pins σ H s) : s.heap.NoLimit := I.ok.mod.nolimit.keeps I.bk
theorem Inv.fr (I : Inv X pins σ H s) : ∃ m, Fr X.base X.env.locals s.heap m :=
  let ⟨m, hn, _⟩ := I.loc
  ⟨m, hn, I.bk, Nat.le_trans I.ok.bsz I.ok.above⟩
theorem Inv.lt (I : Inv X pins σ H s) : X.env.locals < s.heap.objs.size := let ⟨_, hn, _⟩ := I.loc; hn.lt
theorem Inv.sz (I : Inv X pins σ H s) : X.s₀.heap.objs.size ≤ s.heap.objs.size := Nat.le_trans I.ok.above (Nat.le_of_lt I.lt)
theorem Inv.nofs (I : Inv X pins σ H s) {a : Addr} (h : s.heap.objs.size ≤ a) : a ∉ X.fs := fun hb => by
  obtain ⟨_, o, ho, _⟩ := I.ok.funs.mem hb
  exact absurd (Nat.lt_of_lt_of_le (Heap.lt_size ho) (Nat.le_trans I.sz h)) (Nat.lt_irrefl _)
theorem Inv.cne (I : Inv X pins σ H s) : ∀ x c, X.env.cells.lookup x = some c → c ≠ X.env.locals := fun x c e z => by
  obtain ⟨v, o, ho, hd⟩ := I.cell x c e
  obtain ⟨m, ⟨o', es, ep, ho', hd', _⟩, _⟩ := I.loc
  rw [z, ho'] at ho; cases ho; rw [hd'] at hd; cases hd
theorem Inv.funs (I : Inv X pins σ H s) : s.heap.FunFrames X.base X.outer := by
  have all : ∀ (l : List Env), (∀ b ∈ frs l, b ∈ X.fs) → X.s₀.heap.FunFrames X.base l → s.heap.FunFrames X.base l := by
    intro l
    induction l with
    | nil => intro _ _; trivial
    | cons env r ih =>
      intro hs hl
      obtain ⟨hk, ⟨L, o, hf, hn, ho, hd⟩, hr⟩ := hl
      have hL : L ∈ X.fs := hs L (by unfold frs; rw [List.filterMap_cons, hf]; exact List.mem_cons_self)
      obtain ⟨sl, e⟩ := I.base.slot L o ho (I.ok.frf L hL) hL fun z => I.ok.exfs L z hL
      exact ⟨hk, ⟨L, _, hf, hn, e, hd⟩, ih (fun b hb => hs b (by unfold frs; rw [List.filterMap_cons, hf]; exact List.mem_cons_of_mem _ hb)) hr⟩
  exact all X.outer (fun _ hb => hb) I.ok.funs
theorem Inv.stack (I : Inv X pins σ H s) : s.heap.FunFrames X.base X.stack := by
  rcases I.ok.stk with e | ⟨e, hf⟩
  · rw [e]; exact I.funs
  · rw [e]
    obtain ⟨m, hn, _⟩ := I.loc
    refine .cons (by rw [I.ok.kind]; decide) hf hn ?_ I.funs
    exact Heap.get?_none_of_le (Nat.le_trans I.ok.bsz I.ok.above)
theorem Inv.stkSub (I : Inv X pins σ H s) : ∀ b ∈ frs X.stack, b ∈ X.env.locals :: X.fs := fun b hb => by
  rcases I.ok.stk with e | ⟨e, hf⟩
  · rw [e] at hb; exact List.mem_cons_of_mem _ hb
  · rw [e] at hb
    unfold frs at hb
    rw [List.filterMap_cons, hf] at hb
    exact hb
theorem Inv.stkFree (I : Inv X pins σ H s) : ∀ b ∈ frs X.stack, H b = none := fun b hb => by
  rcases List.mem_cons.mp (I.stkSub b hb) with e | hb
  · rw [e]; exact I.free
  · obtain ⟨_, o, ho, _⟩ := I.ok.funs.mem hb
    exact I.base.free b o ho (I.ok.frf b hb) fun z => I.ok.exfs b z hb
theorem Inv.step {g' : Array GenState} {t' : Nat} {d' : Drawn} {ch : List Addr} (I : Inv X pins σ H s)
    (hch : ∀ b ∈ ch, (b ∈ X.ex ∨ X.s₀.heap.objs.size ≤ b) ∧ b ≠ X.env.locals ∧ (∀ x c, X.env.cells.lookup x = some c → c ≠ b) ∧ ∀ p ∈ X.pn ++ pins, p.1 ≠ b)
    (keep : ∀ b o, b ≠ X.env.locals → b ∉ X.fs → b ∉ ch → s.heap.get? b = some o → H b = none → h'.get? b = some o)
    (slot : ∀ b o, b ≠ X.env.locals → b ∈ X.fs → b ∉ ch → s.heap.get? b = some o → H b = none → ∃ sl, h'.get? b = some { o with slots := sl }) (free : ∀ b o, b ∉ ch → s.heap.get? b = some o → H b = none → H' b = none)
    (there : ∀ b o, b ∉ ch → s.heap.get? b = some o → ∃ o', h'.get? b = some o')
    (tups : ∀ b xs, H b = some (.tup xs) → H' b = some (.tup xs)) (frzs : ∀ b o u, H b = some (.frz o u) → H' b = some (.frz o u)) (tbls : ∀ b ps, H b = some (.tbl ps) → ∃ more, H' b = some (.tbl (ps ++ more)))
    (ns : ∀ m, s.heap.Ns X.env.locals m → h'.Ns X.env.locals m) (hok : HOk X.prog X.w H' h') (hg : AllBare g') :
    Inv X pins σ H' { s with heap := h', gens := g', drawn := d', toks := t' } := by
  have neL : ∀ b o, X.s₀.heap.get? b = some o → b ≠ X.env.locals := fun b o e => Nat.ne_of_lt (Nat.lt_of_lt_of_le (Heap.lt_size e) I.ok.above)
  have neC : ∀ b o, X.s₀.heap.get? b = some o → b ∉ X.ex → b ∉ ch := fun b o e hx hb => by
    rcases (hch b hb).1 with z | z
    · exact hx z
    · exact absurd (Nat.lt_of_lt_of_le (Heap.lt_size e) z) (Nat.lt_irrefl _)
  have cellK : ∀ x c, X.env.cells.lookup x = some c → ∀ v, s.heap.IsCell c v → h'.IsCell c v := fun x c e v ⟨o, ho, hd⟩ => by
    have nch : c ∉ ch := fun z => (hch c z).2.2.1 x c e rfl
    by_cases hc : c ∈ X.fs
    · obtain ⟨sl, q⟩ := slot c o (I.cne x c e) hc nch ho (I.freeC x c e)
      exact ⟨_, q, hd⟩
    · exact ⟨o, keep c o (I.cne x c e) hc nch ho (I.freeC x c e), hd⟩
  refine ⟨I.ok, I.os, hg, ⟨fun b o e n hb hx => ?_, fun b o e n hb hx => ?_, fun b o e n hx => ?_, fun b o e hx => ?_, fun b xs e => tups b xs (I.base.tups b xs e), fun b o xs e => frzs b o xs (I.base.frzs b o xs e), fun b ps e => ?_⟩, ?_, fun x c e => ?_, ?_, fun x c e => ?_, fun p hp => ?_, hok, I.len⟩
  · exact keep b o (neL b o e) hb (neC b o e hx) (I.base.keep b o e n hb hx) (I.base.free b o e n hx)
  · obtain ⟨sl, e1⟩ := I.base.slot b o e n hb hx
    obtain ⟨sl', e2⟩ := slot b _ (neL b o e) hb (neC b o e hx) e1 (I.base.free b o e n hx)
    exact ⟨sl', e2⟩
  · obtain ⟨o', e1⟩ := I.base.there b o e hx
    exact free b o' (neC b o e hx) e1 (I.base.free b o e n hx)
  · obtain ⟨o', e1⟩ := I.base.there b o e hx
    exact there b o' (neC b o e hx) e1
  · obtain ⟨m1, e1⟩ := I.base.tbls b ps e
    obtain ⟨m2, e2⟩ := tbls b _ e1
    exact ⟨m1 ++ m2, by rw [e2, Array.append_assoc]⟩
  · obtain ⟨m, hn, hl⟩ := I.loc
    refine ⟨m, ns m hn, fun i x v e1 e2 e3 => ?_⟩
    obtain ⟨u, r, l⟩ := hl i x v e1 e2 e3
    refine ⟨u, r, ?_⟩
    rcases l with l | ⟨k, c, e, z⟩
    · exact .inl l
    · exact .inr ⟨k, c, e, cellK x c e _ z⟩
  · obtain ⟨v, z⟩ := I.cell x c e
    exact ⟨v, cellK x c e v z⟩
  · obtain ⟨m, ⟨o, _, _, ho, _⟩, _⟩ := I.loc
    exact free _ o (fun z => (hch _ z).2.1 rfl) ho I.free
  · obtain ⟨v, o, ho, hd⟩ := I.cell x c e
    exact free c o (fun z => (hch c z).2.2.1 x c e rfl) ho (I.freeC x c e)
  · obtain ⟨e, n, ne, nf, d⟩ := I.pin p hp
    have nch : p.1 ∉ ch := fun z => (hch p.1 z).2.2.2 p hp rfl
    exact ⟨keep p.1 p.2 ne nf nch e n, free p.1 p.2 nch e n, ne, nf, d⟩
theorem Inv.un {t' : Nat} (I : Inv X pins σ H s) (u : Un X.fs [] H H' s.heap h') (hok : HOk X.prog X.w H' h') : Inv X pins σ H' { s with heap := h', toks := t' } := by
  obtain ⟨m, ⟨o, es, ep, ho, r⟩, _⟩ := id I.loc
  obtain ⟨sl, hL⟩ := u.any ho I.free (by simp)
  exact I.step (g' := s.gens) (d' := s.drawn) (ch := []) (fun _ z => nomatch z) (fun b o _ hb _ e n => u.keep b o e n hb (by simp)) (fun b o _ hb _ e n => u.slot b o e n hb (by simp)) (fun b o _ e n => u.free b o e n (by simp)) (fun b o _ e => u.there b o e (by simp)) u.tups u.frzs u.tbls (fun m' hm => by
    obtain ⟨o', es', ep', ho', r'⟩ := hm
    rw [ho] at ho'; cases ho'
    exact ⟨_, es', ep', hL, r'⟩) hok I.bare
theorem Inv.call {g' : Array GenState} {t' : Nat} {d' : Drawn} {ch : List Addr} (I : Inv X pins σ H s) (u : Un (frs X.stack) ch H H' s.heap h') (hok : HOk X.prog X.w H' h') (hg : AllBare g')
    (hch : ∀ b ∈ ch, (b ∈ X.ex ∨ X.s₀.heap.objs.size ≤ b) ∧ b ≠ X.env.locals ∧ (∀ x c, X.env.cells.lookup x = some c → c ≠ b) ∧ ∀ p ∈ X.pn ++ pins, p.1 ≠ b) :
    Inv X pins σ H' { s with heap := h', gens := g', drawn := d', toks := t' } := by
  obtain ⟨m, ⟨o, es, ep, ho, r⟩, _⟩ := id I.loc
  obtain ⟨sl, hL⟩ := u.any ho I.free fun z => (hch _ z).2.1 rfl
  exact I.step (ch := ch) hch (fun b o hL hb hc e n => u.keep b o e n (fun z => (List.mem_cons.mp (I.stkSub b z)).elim hL hb) hc) (fun b o _ _ hc e n => u.any e n hc) (fun b o hc e n => u.free b o e n hc) (fun b o hc e => u.there b o e hc) u.tups u.frzs u.tbls (fun m' hm => by
    obtain ⟨o', es', ep', ho', r'⟩ := hm
    rw [ho] at ho'; cases ho'
    exact ⟨_, es', ep', hL, r'⟩) hok hg
theorem Inv.turned {t' : Nat} {it : Addr} (I : Inv X pins σ H s) (k : ∀ b o, b ≠ it → s.heap.get? b = some o → h'.get? b = some o) (hn : H it = none) (hL : it ≠ X.env.locals)
    (h1 : it ∈ X.ex ∨ X.s₀.heap.objs.size ≤ it) (h2 : ∀ x c, X.env.cells.lookup x = some c → c ≠ it) (h3 : ∀ p ∈ X.pn ++ pins, p.1 ≠ it) : Inv X pins σ H { s with heap := h', toks := t' } := by
  have nit : ∀ b u, H b = some u → b ≠ it := fun b u e z => by rw [z, hn] at e; cases e
  refine I.step (g' := s.gens) (d' := s.drawn) (ch := [it]) (fun b hb => ?_) (fun b o _ _ hc e _ => k b o (fun z => hc (by simp [z])) e) (fun b o _ _ hc e _ => ⟨o.slots, k b o (fun z => hc (by simp [z])) e⟩) (fun _ _ _ _ n => n)
    (fun b o hc e => ⟨o, k b o (fun z => hc (by simp [z])) e⟩) (fun _ _ e => e) (fun _ _ _ e => e) (fun b ps e => ⟨#[], by rw [e]; simp⟩) (fun m hm => ?_) (fun b u e => ?_) I.bare
  · have e : b = it := by simpa using hb
    subst e
    exact ⟨h1, hL, h2, h3⟩
  · obtain ⟨o, es, ep, ho, r⟩ := hm
    exact ⟨o, es, ep, k _ o (Ne.symm hL) ho, r⟩
  · refine (I.hok b u e).stay (fun c v hc q => k c v ?_ q) (fun _ q => q) fun _ _ q => q
    rcases hc with z | z
    · rw [z]; exact nit b u e
    · exact nit c _ z
theorem Inv.tok (I : Inv X pins σ H s) (t : Nat) : Inv X pins σ H { s with toks := t } := I.un (h' := s.heap) (t' := t) Un.refl I.hok
theorem Inv.kept {t' : Nat} (I : Inv X pins σ H s) (k : ∀ b u, s.heap.get? b = some u → h'.get? b = some u) : Inv X pins σ H { s with heap := h', toks := t' } := I.un (Un.kept k) (I.hok.kept k)
theorem Inv.laid {a : Addr} {o : HO} {t' : Nat} (I : Inv X pins σ H s) (k : ∀ b u, s.heap.get? b = some u → h'.get? b = some u) (hp : s.heap.objs.size ≤ a) (new : ObjOk X.prog X.w (upd H a o) h' a o) :
    Inv X pins σ (upd H a o) { s with heap := h', toks := t' } := I.un (Un.laid k hp (I.hok.fresh hp)) (I.hok.laid k hp new)
theorem Inv.write {x e : Addr} {o : HO} {t' : Nat} (I : Inv X pins σ H s) (mu : Mut (H x)) (he : e = x ∨ H e = some (.own x)) (k : ∀ b u, b ≠ e → s.heap.get? b = some u → h'.get? b = some u) (heo : ∃ u, h'.get? e = some u)
    (new : ObjOk X.prog X.w (upd H x o) h' x o) : Inv X pins σ (upd H x o) { s with heap := h', toks := t' } := I.un (Un.write mu he k heo) (I.hok.write mu he k heo new)
theorem Inv.weak {σ' : List (Option V)} (I : Inv X pins σ H s) (hl : σ'.length = σ.length) (w : ∀ (i : Nat) v, σ'[i]? = some (some v) → σ[i]? = some (some v)) : Inv X pins σ' H s :=
  ⟨I.ok, I.os, I.bare, I.base, let ⟨m, hn, hl'⟩ := I.loc; ⟨m, hn, fun i x v e1 e2 e3 => hl' i x v e1 (w i v e2) e3⟩, I.cell, I.free, I.freeC, I.pin, I.hok, hl.trans I.len⟩
theorem Inv.pins_of {pins' : List (Addr × Obj)} (I : Inv X pins σ H s) (h : ∀ p ∈ pins', s.heap.get? p.1 = some p.2 ∧ H p.1 = none ∧ p.1 ≠ X.env.locals ∧ p.1 ∉ X.fs ∧ ∀ v, p.2.data ≠ .cell v) : Inv X pins' σ H s :=
  ⟨I.ok, I.os, I.bare, I.base, I.loc, I.cell, I.free, I.freeC, fun p hp => (List.mem_append.mp hp).elim (fun z => I.pin p (List.mem_append_left _ z)) (h p), I.hok, I.len⟩
theorem nodup_ix {N : List Str} (hN : N.Nodup) {i j : Nat} {x : Str} (a : N[i]? = some x) (b : N[j]? = some x) : i = j := by
  obtain ⟨h1, e1⟩ := List.getElem?_eq_some_iff.mp a
  obtain ⟨h2, e2⟩ := List.getElem?_eq_some_iff.mp b
  exact (List.getElem_inj hN).mp (e1.trans e2.symm)
theorem store_ok2 {M : Model} {A : Around} {E : Value → Shared → Prop} {i : Nat} {x : Str} {v : V} {u : Value} {Q : Unit → Shared → Prop} (I : Inv X pins σ H s) (hN : X.N.Nodup) (hi : X.N[i]? = some x) (hx : Loc X.env.scope x) (r : RelV v u)
    (h : ∀ s', Inv X pins (σ.set i (some v)) H s' → (∃ a, Heap.SameBut a s.heap s'.heap ∧ (a = X.env.locals ∨ X.env.cells.lookup x = some a)) → Q () s') (hf : X.fn x = true ∨ X.env.scope.names.lookup x = some .local := by first | exact .inl rfl | exact .inr rfl | assumption) : wpAny M A (storeName X.env x u) Q E s := by
  obtain ⟨m, hn, hl⟩ := id I.loc
  have hcls : (X.env.scope.kind == .class || (X.env.scope.kind == .module && X.env.locals != X.env.globals)) = false := by rw [I.ok.kind]; rfl
  have hiσ : i < σ.length := by rw [I.len]; exact (List.getElem?_eq_some_iff.mp hi).1
  have cne := I.cne
  have tracked : ∀ {a : Addr} {h' : Heap}, (∃ o, s.heap.get? a = some o ∧ H a = none) → Heap.SameBut a s.heap h' → HOk X.prog X.w H h' := fun {a h'} ha hs b ob e => by
    obtain ⟨_, _, hfree⟩ := ha
    refine (I.hok b ob e).stay (fun c w' hc q => (hs.2 c ?_).trans q) (fun _ q => q) fun _ _ q => q
    rintro rfl
    rcases hc with rfl | hc
    · rw [hfree] at e; cases e
    · rw [hfree] at hc; cases hc
  rcases hx with hk | hk
  · refine wpAny_storeName_local hk hn (fun h' hn' hs => ?_) hcls
    obtain ⟨oL, _, _, hoL, _⟩ := id hn
    refine h _ ⟨I.ok, I.os, I.bare, ⟨fun b o e n hb hx => ?_, fun b o e n hb hx => ?_, I.base.free, fun b o e hx => ?_, I.base.tups, I.base.frzs, I.base.tbls⟩, ⟨_, hn', fun j y v' e1 e2 e3 => ?_⟩, fun y c e => ?_, I.free, I.freeC, fun p hp => ?_, tracked ⟨oL, hoL, I.free⟩ hs, by simpa using I.len⟩ ⟨_, hs, .inl rfl⟩
    · exact (hs.2 b (Nat.ne_of_lt (Nat.lt_of_lt_of_le (Heap.lt_size e) I.ok.above))).trans (I.base.keep b o e n hb hx)
    · obtain ⟨sl, e1⟩ := I.base.slot b o e n hb hx
      exact ⟨sl, (hs.2 b (Nat.ne_of_lt (Nat.lt_of_lt_of_le (Heap.lt_size e) I.ok.above))).trans e1⟩
    · obtain ⟨o', e1⟩ := I.base.there b o e hx
      exact ⟨o', (hs.2 b (Nat.ne_of_lt (Nat.lt_of_lt_of_le (Heap.lt_size e) I.ok.above))).trans e1⟩
    · by_cases hj : j = i
      · subst hj
        rw [hi] at e1; cases e1
        rw [List.getElem?_set_self hiσ] at e2
        cases e2
        exact ⟨u, r, .inl ⟨hk, by simp⟩⟩
      · rw [List.getElem?_set_ne (Ne.symm hj)] at e2
        obtain ⟨u', r', q⟩ := hl j y v' e1 e2 e3
        refine ⟨u', r', ?_⟩
        rcases q with ⟨k, e⟩ | ⟨k, c, e, z⟩
        · refine .inl ⟨k, ?_⟩
          have : y ≠ x := fun e => hj (nodup_ix hN e1 (e ▸ hi))
          simp [this, e]
        · exact .inr ⟨k, c, e, z.sameBut hs (cne y c e)⟩
    · obtain ⟨w', z⟩ := I.cell y c e
      exact ⟨w', z.sameBut hs (cne y c e)⟩
    · obtain ⟨e, n, ne, nf, d⟩ := I.pin p hp
      exact ⟨(hs.2 p.1 ne).trans e, n, ne, nf, d⟩
  · have hfn : X.fn x = true := by
      rcases hf with z | z
      · exact z
      · rw [z] at hk; cases hk
    obtain ⟨c, hc⟩ := I.ok.has x (.inl hk)
    obtain ⟨w', z⟩ := I.cell x c hc
    refine wpAny_storeName_cell I.ok.kind hk hc z (fun h' hc' hs => ?_)
    obtain ⟨oc, hoc, hocd⟩ := id z
    refine h { s with heap := h' } ⟨I.ok, I.os, I.bare, ⟨fun b o e n hb hx => ?_, fun b o e n hb hx => ?_, I.base.free, fun b o e hx => ?_, I.base.tups, I.base.frzs, I.base.tbls⟩, ⟨m, hn.sameBut hs (Ne.symm (cne x c hc)), fun j y v' e1 e2 e3 => ?_⟩, fun y c' e => ?_, I.free, I.freeC, fun p hp => ?_, tracked ⟨oc, hoc, I.freeC x c hc⟩ hs, by simpa using I.len⟩ ⟨c, hs, .inr hc⟩
    · exact (hs.2 b (Nat.ne_of_lt (Nat.lt_of_lt_of_le (Heap.lt_size e) (I.ok.cab x c hfn hc)))).trans (I.base.keep b o e n hb hx)
    · obtain ⟨sl, e1⟩ := I.base.slot b o e n hb hx
      exact ⟨sl, (hs.2 b (Nat.ne_of_lt (Nat.lt_of_lt_of_le (Heap.lt_size e) (I.ok.cab x c hfn hc)))).trans e1⟩
    · obtain ⟨o', e1⟩ := I.base.there b o e hx
      exact ⟨o', (hs.2 b (Nat.ne_of_lt (Nat.lt_of_lt_of_le (Heap.lt_size e) (I.ok.cab x c hfn hc)))).trans e1⟩
    · by_cases hj : j = i
      · subst hj
        rw [hi] at e1; cases e1
        rw [List.getElem?_set_self hiσ] at e2
        cases e2
        exact ⟨u, r, .inr ⟨.inl hk, c, hc, hc'⟩⟩
      · rw [List.getElem?_set_ne (Ne.symm hj)] at e2
        obtain ⟨u', r', q⟩ := hl j y v' e1 e2 e3
        refine ⟨u', r', ?_⟩
        rcases q with q | ⟨k, c', e, z'⟩
        · exact .inl q
        · refine .inr ⟨k, c', e, z'.sameBut hs ?_⟩
          rintro rfl
          exact hj (nodup_ix hN e1 (I.ok.inj _ _ _ e hc ▸ hi))
    · by_cases hcc : c' = c
      · subst hcc; exact ⟨_, hc'⟩
      · obtain ⟨w2, z2⟩ := I.cell y c' e
        exact ⟨w2, z2.sameBut hs hcc⟩
    · obtain ⟨e, n, ne, nf, d⟩ := I.pin p hp
      refine ⟨(hs.2 p.1 ?_).trans e, n, ne, nf, d⟩
      intro q
      rw [q, hoc] at e
      have q' : oc = p.2 := Option.some.inj e
      exact d w' (by rw [← q']; exact hocd)
theorem store_ok {M : Model} {A : Around} {E : Value → Shared → Prop} {i : Nat} {x : Str} {v : V} {u : Value} {Q : Unit → Shared → Prop} (I : Inv X pins σ H s) (hN : X.N.Nodup) (hi : X.N[i]? = some x) (hx : Loc X.env.scope x) (r : RelV v u)
    (h : ∀ s', Inv X pins (σ.set i (some v)) H s' → Q () s') (hf : X.fn x = true ∨ X.env.scope.names.lookup x = some .local := by first | exact .inl rfl | exact .inr rfl | assumption) : wpAny M A (storeName X.env x u) Q E s :=
  store_ok2 I hN hi hx r (fun s' I' _ => h s' I') hf
theorem Inv.call' {s' : Shared} {ch : List Addr} (I : Inv X pins σ H s) (ho : s'.os = s.os) (u : Un (frs X.stack) ch H H' s.heap s'.heap) (hok : HOk X.prog X.w H' s'.heap) (hg : AllBare s'.gens)
    (hch : ∀ b ∈ ch, (b ∈ X.ex ∨ X.s₀.heap.objs.size ≤ b) ∧ b ≠ X.env.locals ∧ (∀ x c, X.env.cells.lookup x = some c → c ≠ b) ∧ ∀ p ∈ X.pn ++ pins, p.1 ≠ b) : Inv X pins σ H' s' := by
  obtain ⟨h', g', d', t', o'⟩ := s'
  have e : o' = s.os := ho
  subst e
  exact I.call (g' := g') (t' := t') (d' := d') u hok hg hch
end
abbrev XK := Value → Option Addr → Hp → Prop
abbrev St := List (Option V)
abbrev VK := V → Hp → Prop
abbrev TE := St → Hp → VK → Prop
abbrev TT := St → Hp → (Bool → Hp → Prop) → Prop
abbrev TA := St → Hp → (List V → Hp → Prop) → Prop
structure Ends where
  nx : St → Hp → Prop
  rt : VK
  bk : St → Hp → Prop := fun _ _ => False
  ct : St → Hp → Prop := fun _ _ => False
abbrev TS := Ends → St → Hp → Prop
def EP (X : Cx) (pins : List (Addr × Obj)) (σ : St) (Q : VK) (u : Value) (s' : Shared) : Prop := ∃ v H', Inv X pins σ H' s' ∧ RelV v u ∧ Q v H'
def TP (X : Cx) (pins : List (Addr × Obj)) (σ : St) (Q : Bool → Hp → Prop) (b : Bool) (s' : Shared) : Prop := ∃ H', Inv X pins σ H' s' ∧ Q b H'
def AP (X : Cx) (pins : List (Addr × Obj)) (σ : St) (Q : List V → Hp → Prop) (us : List Value) (s' : Shared) : Prop := ∃ vs H', Inv X pins σ H' s' ∧ Vals vs us ∧ Q vs H'
def SP (X : Cx) (pins : List (Addr × Obj)) (D : Ends) (f : Flow) (s' : Shared) : Prop :=
  match f with
  | .next => ∃ σ' H', Inv X pins σ' H' s' ∧ D.nx σ' H'
  | .brk => ∃ σ' H', Inv X pins σ' H' s' ∧ D.bk σ' H'
  | .cont => ∃ σ' H', Inv X pins σ' H' s' ∧ D.ct σ' H'
  | .ret u => ∃ v σ' H', Inv X pins σ' H' s' ∧ RelV v u ∧ D.rt v H'
def PE (X : Cx) (e : Expr) (t : TE) : Prop :=
  ∀ (pins : List (Addr × Obj)) (s : Shared) (σ : St) (H : Hp) (Q : VK), Inv X pins σ H s → t σ H Q → wpAny (model X.prog X.w) X.A (eval e X.env) (EP X pins σ Q) X.xe s
def PT (X : Cx) (e : Expr) (t : TT) : Prop :=
  ∀ (pins : List (Addr × Obj)) (s : Shared) (σ : St) (H : Hp) (Q : Bool → Hp → Prop), Inv X pins σ H s → t σ H Q → wpAny (model X.prog X.w) X.A (isTrue e X.env (eval e X.env)) (TP X pins σ Q) X.xe s
def PW (X : Cx) (e : Expr) (t : TT) : Prop :=
  ∀ (whole : Sem Value) (pins : List (Addr × Obj)) (s : Shared) (σ : St) (H : Hp) (Q : Bool → Hp → Prop), Inv X pins σ H s → t σ H Q → wpAny (model X.prog X.w) X.A (isTrue e X.env whole) (TP X pins σ Q) X.xe s
theorem PW.pt {X : Cx} {e : Expr} {t : TT} (h : PW X e t) : PT X e t := h _
def PA (X : Cx) (es : List Expr) (t : TA) : Prop :=
  ∀ (pos : Pos) (pins : List (Addr × Obj)) (s : Shared) (σ : St) (H : Hp) (Q : List V → Hp → Prop), Inv X pins σ H s → t σ H Q → wpAny (model X.prog X.w) X.A (spliced (backTo pos (starEach es X.env))) (AP X pins σ Q) X.xe s
def PS (X : Cx) (st : Stmt) (t : TS) : Prop :=
  ∀ (pins : List (Addr × Obj)) (s : Shared) (σ : St) (H : Hp) (D : Ends), Inv X pins σ H s → t D σ H → wpAny (model X.prog X.w) X.A (exec st X.env) (SP X pins D) X.xe s
def PSs (X : Cx) (st : List Stmt) (t : TS) : Prop :=
  ∀ (pins : List (Addr × Obj)) (s : Shared) (σ : St) (H : Hp) (D : Ends), Inv X pins σ H s → t D σ H → wpAny (model X.prog X.w) X.A (execs st X.env) (SP X pins D) X.xe s
theorem thn {α : Type} {t : Sem α} {Q Q' : α → Shared → Prop} {M : Model} {A : Around} {E : Value → Shared → Prop} {s : Shared} (h : wpAny M A t Q E s) (hQ : ∀ a s, Q a s → Q' a s) : wpAny M A t Q' E s := wpAny_mono h hQ fun _ _ x => x
end L2
namespace L2
open PySem PySem.Spec PyProof.Rows
section
variable {X : Cx}
def tVar (i : Nat) : TE := fun σ H Q => ∃ v, σ[i]? = some (some v) ∧ Q v H
def tC (v : V) : TE := fun _ H Q => Q v H
theorem pe_var {i : Nat} {x : Str} {pos : Pos} (hN : X.N[i]? = some x) (hv : Vis X.env.scope x) (hd : (x == ("__debug__" : Str)) = false := by decide) (hcd : (x == ("__classdict__" : Str)) = false := by decide) : PE X (.Name x pos) (tVar i) := by
  intro pins s σ H Q I h
  obtain ⟨v, e, h⟩ := h
  obtain ⟨m, hn, hl⟩ := I.loc
  obtain ⟨u, r, l⟩ := hl i x v hN e hv
  have fin : EP X pins σ Q u s := ⟨v, H, I, r, h⟩
  rcases l with ⟨hk, hm⟩ | ⟨hk, c, hc, hcell⟩
  · exact wpAny_Name (wpAny_loadName_local I.ok.kind hk hn hm fin) hd
  · rcases hk with hk | hk
    · exact wpAny_Name (wpAny_loadName_cell I.ok.kind hk hc hcell fin) hd
    · exact wpAny_Name (wpAny_loadName_free I.ok.kind hk hc hcell fin hcd) hd
theorem pe_int {i j pos} : PE X (.Constant (.int i) j pos) (tC (.int i)) := fun _ _ _ H _ I h => wpAny_Constant_int ⟨.int i, H, I.tok _, ⟨_, rfl⟩, h⟩
theorem pe_bl {b j pos} : PE X (.Constant (.bool b) j pos) (tC (.bl b)) := fun _ _ _ H _ I h => Constant_bool ⟨.bl b, H, I, rfl, h⟩
theorem pe_str {x j pos} : PE X (.Constant (.str x) j pos) (tC (.str x)) := fun _ _ _ H _ I h => Calls.Constant_str ⟨.str x, H, I.tok _, ⟨_, rfl⟩, h⟩
def Gl (X : Cx) (x : Str) : Prop := X.env.kindOf x = some .globalImplicit
theorem ld_glob {E : Value → Shared → Prop} {pins : List (Addr × Obj)} {s : Shared} {σ : St} {H : Hp} {x : Str} {u : Value} {pos : Pos} {Q : Value → Shared → Prop} (I : Inv X pins σ H s) (hg : Gl X x) (hm : X.mg x = some u) (h : Q u s)
    (hd : (x == ("__debug__" : Str)) = false := by decide) : wpAny (model X.prog X.w) X.A (eval (.Name x pos) X.env) Q E s :=
  Calls.Name_function_global I.ok.kind hg (Calls.loadGlobal_global (by rw [I.ok.glob]; exact I.mod.glob.keeps I.bk) hm h) hd
theorem ld_blt {E : Value → Shared → Prop} {pins : List (Addr × Obj)} {s : Shared} {σ : St} {H : Hp} {x : Str} {u : Value} {pos : Pos} {Q : Value → Shared → Prop} (I : Inv X pins σ H s) (hg : Gl X x) (hm : X.mg x = none) (hv : bootBuiltins x = some u) (h : Q u s)
    (hn : x ≠ "__name__" := by decide) (hd : (x == ("__debug__" : Str)) = false := by decide) : wpAny (model X.prog X.w) X.A (eval (.Name x pos) X.env) Q E s := by
  obtain ⟨mb, h1, h2⟩ := I.mod.blt
  exact Calls.Name_function_global I.ok.kind hg (Calls.loadGlobal_builtin (by rw [I.ok.glob]; exact I.mod.glob.keeps I.bk) hm (by rw [I.ok.blt]; exact h1.keeps I.bk) ((h2 x hn).trans hv) h) hd
theorem pe_glob {x : Str} {v : V} {u : Value} {pos : Pos} (hg : Gl X x) (hm : X.mg x = some u) (r : RelV v u) (hd : (x == ("__debug__" : Str)) = false := by decide) : PE X (.Name x pos) (tC v) :=
  fun _ _ _ H _ I h => ld_glob I hg hm ⟨v, H, I, r, h⟩ hd
theorem pe_bltn {x : Str} {v : V} {u : Value} {pos : Pos} (hg : Gl X x) (hm : X.mg x = none) (hv : bootBuiltins x = some u) (r : RelV v u) (hn : x ≠ "__name__" := by decide) (hd : (x == ("__debug__" : Str)) = false := by decide) : PE X (.Name x pos) (tC v) :=
  fun _ _ _ H _ I h => ld_blt I hg hm hv ⟨v, H, I, r, h⟩ hn hd
variable {a b : Expr} {ta tb : TE} {pos : Pos}
def PC (X : Cx) (op : CmpOp) (a b : Expr) (t : TE) : Prop :=
  ∀ (pins : List (Addr × Obj)) (s : Shared) (σ : St) (H : Hp) (Q : VK), Inv X pins σ H s → t σ H Q →
    wpAny (model X.prog X.w) X.A (eval a X.env) (fun v s₁ => wpAny (model X.prog X.w) X.A (eval b X.env) (fun u s₂ => wpAny (model X.prog X.w) X.A (compareOp op v u) (EP X pins σ Q) X.xe s₂) X.xe s₁) X.xe s
theorem nobehind (b : Expr) {op : CmpOp} (h : op ≠ .In) (h2 : op ≠ .NotIn) : behindInMarks op b = false := by
  have e1 : (op == CmpOp.In) = false := by cases op <;> first | rfl | exact absurd rfl h
  have e2 : (op == CmpOp.NotIn) = false := by cases op <;> first | rfl | exact absurd rfl h2
  cases b <;> simp [behindInMarks, e1, e2]
def tB (t : TE) : TT := fun σ H Q => t σ H fun x H1 => ∃ c, x = .bl c ∧ Q c H1
theorem pt_cmp {op : CmpOp} {t : TE} (h : PC X op a b t) (h1 : behindInMarks op b = false := by first | exact nobehind _ (by decide) (by decide) | rfl) : PT X (.Compare a [op] [b] pos) (tB t) := by
  intro pins s σ H Q I hw
  refine wpAny_isTrue_Compare1 (thn (h pins s σ H _ I hw) fun v s1 h1 => thn h1 fun u s2 h2 => thn h2 fun c s3 ⟨x, H1, I1, r1, q1⟩ => ?_) h1
  obtain ⟨d, rfl, q⟩ := q1
  cases r1
  exact wpAny_truthy_bool ⟨H1, I1, q⟩
theorem pt_val {e : Expr} {t : TE} (h : PE X e t) (he : ∀ whole, isTrue e X.env whole = (do let v ← whole; standAt e.pos; holding [v] (truthy v)) := by intro _; rfl) : PT X e (tB t) := by
  intro pins s σ H Q I hw
  refine isTrue_plain (thn (h pins s σ H _ I hw) fun v s1 ⟨x, H1, I1, r1, q1⟩ => ?_) (he _)
  obtain ⟨d, rfl, q⟩ := q1
  cases r1
  exact wpAny_truthy_bool ⟨H1, I1, q⟩
variable {tA tB' : TT} {rest : List Expr}
def tAnd (t u : TT) : TT := fun σ H Q => t σ H fun c H1 => if c = true then u σ H1 Q else Q false H1
def tOr (t u : TT) : TT := fun σ H Q => t σ H fun c H1 => if c = true then Q true H1 else u σ H1 Q
def tNot (t : TT) : TT := fun σ H Q => t σ H fun c H1 => Q (!c) H1
theorem pw_and1 (ha : PT X a tA) : PW X (.BoolOp .And [a] pos) tA := by
  intro wh pins s σ H Q I h
  refine isTrue_and (thn (ha pins s σ H Q I h) fun c s1 e => ?_)
  cases c with
  | true => exact isTrue_and_nil e
  | false => exact e
theorem pw_or1 (ha : PT X a tA) : PW X (.BoolOp .Or [a] pos) tA := by
  intro wh pins s σ H Q I h
  refine isTrue_or (thn (ha pins s σ H Q I h) fun c s1 e => ?_)
  cases c with
  | false => exact isTrue_or_nil e
  | true => exact e
theorem pw_and (ha : PT X a tA) (hb : PW X (.BoolOp .And (b :: rest) pos) tB') : PW X (.BoolOp .And (a :: b :: rest) pos) (tAnd tA tB') := by
  intro wh pins s σ H Q I h
  refine isTrue_and (thn (ha pins s σ H _ I h) fun c s1 ⟨H1, I1, q1⟩ => ?_)
  cases c with
  | true => exact hb wh pins s1 σ H1 Q I1 q1
  | false => exact ⟨H1, I1, q1⟩
theorem pw_or (ha : PT X a tA) (hb : PW X (.BoolOp .Or (b :: rest) pos) tB') : PW X (.BoolOp .Or (a :: b :: rest) pos) (tOr tA tB') := by
  intro wh pins s σ H Q I h
  refine isTrue_or (thn (ha pins s σ H _ I h) fun c s1 ⟨H1, I1, q1⟩ => ?_)
  cases c with
  | true => exact ⟨H1, I1, q1⟩
  | false => exact hb wh pins s1 σ H1 Q I1 q1
theorem pt_not (ha : PT X a tA) : PT X (.UnaryOp .Not a pos) (tNot tA) := by
  intro pins s σ H Q I h
  exact isTrue_not (ha pins s σ H (fun c H1 => Q (!c) H1) I h)
def tAndV (ta tb : TE) : TE := fun σ H Q => ta σ H fun x H1 => ∃ c, x = .bl c ∧ if c = true then tb σ H1 Q else Q (.bl false) H1
def tNotV (ta : TE) : TE := fun σ H Q => ta σ H fun x H1 => ∃ c, x = .bl c ∧ Q (.bl (!c)) H1
theorem pe_one {op} {t : TE} (h : PE X a t) : PE X (.BoolOp op [a] pos) t := fun pins s σ H Q I hw => BoolOp_one (h pins s σ H Q I hw)
theorem pe_and (ha : PE X a ta) (hb : PE X (.BoolOp .And (b :: rest) pos) tb) : PE X (.BoolOp .And (a :: b :: rest) pos) (tAndV ta tb) := by
  intro pins s σ H Q I h
  refine BoolOp_and (thn (ha pins s σ H _ I h) fun v s1 ⟨x, H1, I1, r1, q1⟩ => ?_)
  obtain ⟨c, rfl, q1⟩ := q1
  cases r1
  refine wpAny_truthy_bool ?_
  cases c with
  | true => exact hb pins s1 σ H1 Q I1 q1
  | false => exact ⟨.bl false, H1, I1, rfl, q1⟩
theorem pe_not (ha : PE X a ta) : PE X (.UnaryOp .Not a pos) (tNotV ta) := by
  intro pins s σ H Q I h
  refine UnaryOp_ (thn (ha pins s σ H _ I h) fun v s1 ⟨x, H1, I1, r1, q1⟩ => ?_)
  obtain ⟨c, rfl, q1⟩ := q1
  cases r1
  exact not_of (wpAny_truthy_bool ⟨.bl (!c), H1, I1, rfl, q1⟩)
def tIf (t : TT) (ta tb : TE) : TE := fun σ H Q => t σ H fun c H1 => if c = true then ta σ H1 Q else tb σ H1 Q
theorem pe_ifExp {c : Expr} (hc : PT X c tA) (ha : PE X a ta) (hb : PE X b tb) : PE X (.IfExp c a b pos) (tIf tA ta tb) := by
  intro pins s σ H Q I h
  refine wpAny_IfExp (thn (hc pins s σ H _ I h) fun d s1 ⟨H1, I1, q1⟩ => ?_)
  cases d with
  | true => exact ha pins s1 σ H1 Q I1 q1
  | false => exact hb pins s1 σ H1 Q I1 q1
end
end L2
namespace L2
open PySem PySem.Spec PyProof.Rows
def SqL (K : PySem.W.Frag) (H : Hp) (a : Addr) (xs : List V) : Prop :=
  Rd H a (.lst xs) ∨
    ∃ (o : Obj) (its : Array Value) (n : Nat), K.lookup a = some o ∧ o.cls = .type "list" ∧ o.dict = none ∧ o.data = .seq its n ∧ its.size ≤ sizeLine ∧ Vals xs its.toList
def SqT (K : PySem.W.Frag) (H : Hp) (a : Addr) (xs : List V) : Prop :=
  Rd H a (.tup xs) ∨
    ∃ (o : Obj) (its : Array Value) (n : Nat), K.lookup a = some o ∧ o.cls = .type "tuple" ∧ o.data = .seq its n ∧ its.size ≤ sizeLine ∧ Vals xs its.toList
def absV : Value → Option V
  | .none => some .non
  | .bool b => some (.bl b)
  | .int i _ => some (.int i)
  | .str x _ => some (.str x)
  | .bytes b _ => some (.byt b)
  | .float b _ => some (.flt b)
  | .ref a => some (.ref a)
  | .type n => some (.ty n)
  | _ => none
theorem RelV.abs {x : V} {u : Value} (r : RelV x u) : absV u = some x := by
  cases x with
  | non => cases r; rfl
  | bl _ => cases r; rfl
  | int _ => obtain ⟨t, rfl⟩ := r; rfl
  | str _ => obtain ⟨t, rfl⟩ := r; rfl
  | byt _ => obtain ⟨t, rfl⟩ := r; rfl
  | flt _ => obtain ⟨t, rfl⟩ := r; rfl
  | ref _ => cases r; rfl
  | ty _ => cases r; rfl
theorem RelV.inj {x y : V} {u : Value} (r : RelV x u) (q : RelV y u) : x = y := Option.some.inj (r.abs.symm.trans q.abs)
theorem Vals.inj : ∀ {xs ys : List V} {us : List Value}, Vals xs us → Vals ys us → xs = ys
  | _, _, _, .nil, .nil => rfl
  | _, _, _, .cons r t, .cons r' t' => by rw [r.inj r', Vals.inj t t']
section
variable {X : Cx} {pins : List (Addr × Obj)} {σ : St} {H : Hp} {s : Shared} {a : Addr} {xs ys : List V}
theorem SqL.of {K : PySem.W.Frag} (h : H a = some (.lst xs)) : SqL K H a xs := .inl (.inl h)
theorem SqT.of {K : PySem.W.Frag} (h : H a = some (.tup xs)) : SqT K H a xs := .inl (.inl h)
theorem Inv.list (I : Inv X pins σ H s) (h : SqL X.K H a xs) : ∃ its : List Value, Vals xs its ∧ PlainL s.heap a its.toArray ∧ xs.length ≤ sizeLine := by
  rcases h with h | ⟨o, its, n, hk, hc, hd, hs, hz, r⟩
  · obtain ⟨z, its, n, r, e⟩ := h.ok I.hok
    exact ⟨its, r, ⟨_, n, e, rfl, rfl, rfl⟩, z⟩
  · refine ⟨its.toList, r, ⟨o, n, I.kIn a o hk, hc, hd, by simpa using hs⟩, ?_⟩
    have e := r.length
    simp only [Array.length_toList] at e
    omega
theorem Inv.tuple (I : Inv X pins σ H s) (h : SqT X.K H a xs) : ∃ its : List Value, Vals xs its ∧ IsTup s.heap a its.toArray ∧ xs.length ≤ sizeLine := by
  rcases h with h | ⟨o, its, n, hk, hc, hs, hz, r⟩
  · obtain ⟨z, its, r, p⟩ := h.ok I.hok
    exact ⟨its, r, p, z⟩
  · refine ⟨its.toList, r, ⟨o, I.kIn a o hk, hc, n, by simpa using hs⟩, ?_⟩
    have e := r.length
    simp only [Array.length_toList] at e
    omega
theorem Inv.list_inj (I : Inv X pins σ H s) (h : SqL X.K H a xs) (h' : SqL X.K H a ys) : xs = ys := by
  obtain ⟨its, r, ⟨o, n, e, _, _, d⟩, _⟩ := I.list h
  obtain ⟨its', r', ⟨o', n', e', _, _, d'⟩, _⟩ := I.list h'
  rw [e] at e'; cases e'
  rw [d] at d'
  injection d' with d1 _
  have : its = its' := by simpa using congrArg Array.toList d1
  subst this
  exact r.inj r'
theorem Inv.tuple_inj (I : Inv X pins σ H s) (h : SqT X.K H a xs) (h' : SqT X.K H a ys) : xs = ys := by
  obtain ⟨its, r, ⟨o, e, _, n, d⟩, _⟩ := I.tuple h
  obtain ⟨its', r', ⟨o', e', _, n', d'⟩, _⟩ := I.tuple h'
  rw [e] at e'; cases e'
  rw [d] at d'
  injection d' with d1 _
  have : its = its' := by simpa using congrArg Array.toList d1
  subst this
  exact r.inj r'
end
abbrev Cx.wish (X : Cx) (E : Value → Shared → Prop) : Cx := { X with xe := E }
abbrev Cx.nox (X : Cx) : Cx := X.wish fun _ _ => False
theorem Cx.Ok.wish {X : Cx} (ok : X.Ok) (E : Value → Shared → Prop) : (X.wish E).Ok :=
  ⟨ok.mod, ok.kind, ok.glob, ok.blt, ok.above, ok.inj, ok.has, ok.cab, ok.hd, ok.frames, ok.stk, ok.exf, ok.bs, ok.bsz, ok.noex, ok.exfs, ok.funs, ok.frf⟩
theorem Cx.Ok.unwish {X : Cx} {E : Value → Shared → Prop} (ok : (X.wish E).Ok) : X.Ok :=
  ⟨ok.mod, ok.kind, ok.glob, ok.blt, ok.above, ok.inj, ok.has, ok.cab, ok.hd, ok.frames, ok.stk, ok.exf, ok.bs, ok.bsz, ok.noex, ok.exfs, ok.funs, ok.frf⟩
section
variable {X : Cx} {pins : List (Addr × Obj)} {σ : St} {H : Hp} {s : Shared} {E : Value → Shared → Prop}
theorem Inv.wish (I : Inv X pins σ H s) (E : Value → Shared → Prop) : Inv (X.wish E) pins σ H s := ⟨I.ok.wish E, I.os, I.bare, I.base, I.loc, I.cell, I.free, I.freeC, I.pin, I.hok, I.len⟩
theorem Inv.unwish (I : Inv (X.wish E) pins σ H s) : Inv X pins σ H s := ⟨I.ok.unwish, I.os, I.bare, I.base, I.loc, I.cell, I.free, I.freeC, I.pin, I.hok, I.len⟩
theorem SP.unwish {D : Ends} {f : Flow} {s' : Shared} (h : SP (X.wish E) pins D f s') : SP X pins D f s' := by
  cases f with
  | next => obtain ⟨σ', H', I, q⟩ := h; exact ⟨σ', H', I.unwish, q⟩
  | brk => obtain ⟨σ', H', I, q⟩ := h; exact ⟨σ', H', I.unwish, q⟩
  | cont => obtain ⟨σ', H', I, q⟩ := h; exact ⟨σ', H', I.unwish, q⟩
  | ret u => obtain ⟨v, σ', H', I, r, q⟩ := h; exact ⟨v, σ', H', I.unwish, r, q⟩
theorem PE.nox {e : Expr} {t : TE} (h : PE X.nox e t) : PE X e t := fun pins s σ H Q I hw =>
  wpAny_mono (h pins s σ H Q (I.wish _) hw) (fun _ _ ⟨v, H', I', r, q⟩ => ⟨v, H', I'.unwish, r, q⟩) fun _ _ z => False.elim z
theorem PT.nox {e : Expr} {t : TT} (h : PT X.nox e t) : PT X e t := fun pins s σ H Q I hw =>
  wpAny_mono (h pins s σ H Q (I.wish _) hw) (fun _ _ ⟨H', I', q⟩ => ⟨H', I'.unwish, q⟩) fun _ _ z => False.elim z
theorem PSs.nox {st : List Stmt} {t : TS} (h : PSs X.nox st t) : PSs X st t := fun pins s σ H D I hw =>
  wpAny_mono (h pins s σ H D (I.wish _) hw) (fun _ _ q => q.unwish) fun _ _ z => False.elim z
end
section
variable {X : Cx} {st : Stmt} {rest : List Stmt} {t u : TS} {e : Expr} {te : TE} {pos : Pos}
def tNext : TS := fun D σ H => D.nx σ H
def tSeq (t u : TS) : TS := fun D σ H => t { D with nx := u D } σ H
theorem pss_nil : PSs X [] tNext := fun _ _ σ H _ I h => wpAny_execs_nil ⟨σ, H, I, h⟩
theorem pss_cons (h1 : PS X st t) (h2 : PSs X rest u) : PSs X (st :: rest) (tSeq t u) := by
  intro pins s σ H D I h
  refine wpAny_execs_cons (thn (h1 pins s σ H { D with nx := u D } I h) fun f s1 q => ?_)
  cases f with
  | next =>
    obtain ⟨σ', H', I', q⟩ := q
    exact h2 pins s1 σ' H' D I' q
  | ret v => exact q
  | brk => exact q
  | cont => exact q
theorem pss_one (h1 : PS X st t) : PSs X [st] t := by
  intro pins s σ H D I h
  refine wpAny_execs_cons (thn (h1 pins s σ H D I h) fun f s1 q => ?_)
  cases f with
  | next => exact wpAny_execs_nil q
  | ret v => exact q
  | brk => exact q
  | cont => exact q
theorem Inv.quiet {pins : List (Addr × Obj)} {σ : St} {H : Hp} {s : Shared} (I : Inv X pins σ H s) : interactive X.env = false := by simp [interactive, I.ok.kind]
def tDrop (te : TE) : TS := fun D σ H => te σ H fun _ H1 => D.nx σ H1
theorem ps_expr (he : PE X e te) (hs : swapsWith e none pos.line X.env = pure false := by rfl) : PS X (.Expr e pos) (tDrop te) := by
  intro pins s σ H D I h
  exact wpAny_Expr_any (thn (he pins s σ H _ I h) fun v s1 ⟨x, H1, I1, r1, q1⟩ => ⟨σ, H1, I1, q1⟩) I.quiet hs
def tRet (te : TE) : TS := fun D σ H => te σ H D.rt
theorem ps_ret (he : PE X e te) : PS X (.Return (some e) pos) (tRet te) := by
  intro pins s σ H D I h
  exact wpAny_Return_some (thn (he pins s σ H _ I h) fun v s1 ⟨x, H1, I1, r1, q1⟩ => ⟨x, σ, H1, I1, r1, q1⟩)
def tIfS (c : TT) (t u : TS) : TS := fun D σ H => c σ H fun b H1 => if b = true then t D σ H1 else u D σ H1
theorem ps_if {c : Expr} {a b : List Stmt} {tc : TT} (hc : PT X c tc) (ha : PSs X a t) (hb : PSs X b u) : PS X (.If c a b pos) (tIfS tc t u) := by
  intro pins s σ H D I h
  refine wpAny_If (thn (hc pins s σ H _ I h) fun d s1 ⟨H1, I1, q1⟩ => ?_)
  cases d with
  | true => exact ha pins s1 σ H1 D I1 q1
  | false => exact hb pins s1 σ H1 D I1 q1
def tNever : TS := fun _ _ _ => False
theorem ps_never : PS X st tNever := fun _ _ _ _ _ _ h => h.elim
end
abbrev TG := V → St → Hp → (St → Hp → Prop) → Prop
abbrev TGs := List V → St → Hp → (St → Hp → Prop) → Prop
def PG (X : Cx) (target : Expr) (t : TG) : Prop :=
  ∀ (pins : List (Addr × Obj)) (s : Shared) (σ : St) (H : Hp) (v : V) (u : Value) (Q : St → Hp → Prop), Inv X pins σ H s → RelV v u → t v σ H Q →
    wpAny (model X.prog X.w) X.A (assign target X.env u) (fun _ s' => ∃ σ' H', Inv X pins σ' H' s' ∧ Q σ' H') X.xe s
def PGs (X : Cx) (ts : List Expr) (t : TGs) : Prop :=
  ∀ (pins : List (Addr × Obj)) (s : Shared) (σ : St) (H : Hp) (vs : List V) (us : List Value) (Q : St → Hp → Prop), Inv X pins σ H s → Vals vs us → t vs σ H Q →
    wpAny (model X.prog X.w) X.A (assignInOrder ((assignEach ts X.env).map (·.2)) us) (fun _ s' => ∃ σ' H', Inv X pins σ' H' s' ∧ Q σ' H') X.xe s
abbrev TSet := V → V → V → Hp → (Hp → Prop) → Prop
def PSet (X : Cx) (t : TSet) : Prop :=
  ∀ (pins : List (Addr × Obj)) (s : Shared) (σ : St) (H : Hp) (o i v : V) (ov iv u : Value) (Q : Hp → Prop), Inv X pins σ H s → RelV o ov → RelV i iv → RelV v u → t o i v H Q →
    wpAny (model X.prog X.w) X.A (setItem ov iv u) (fun _ s' => ∃ H', Inv X pins σ H' s' ∧ Q H') X.xe s
abbrev TIp := V → V → Hp → VK → Prop
def PIp (X : Cx) (op : Operator) (t : TIp) : Prop :=
  ∀ (pins : List (Addr × Obj)) (s : Shared) (σ : St) (H : Hp) (x y : V) (v u : Value) (Q : VK), Inv X pins σ H s → RelV x v → RelV y u → t x y H Q →
    wpAny (model X.prog X.w) X.A (inplaceOp op v u) (EP X pins σ Q) X.xe s
section
variable {X : Cx} {pos : Pos}
def gName (i : Nat) : TG := fun v σ H Q => Q (σ.set i (some v)) H
theorem pg_name {i : Nat} {x : Str} (hN : X.N.Nodup) (hi : X.N[i]? = some x) (hx : Loc X.env.scope x) (hf : X.fn x = true ∨ X.env.scope.names.lookup x = some .local := by first | exact .inl rfl | exact .inr rfl | assumption) : PG X (.Name x pos) (gName i) := by
  intro pins s σ H v u Q I r h
  exact wpAny_assign_Name (store_ok I hN hi hx r (fun s' I' => ⟨_, H, I', h⟩) hf)
def gNil : TGs := fun vs σ H Q => vs = [] ∧ Q σ H
def gCons (t : TG) (u : TGs) : TGs := fun vs σ H Q => ∃ v r, vs = v :: r ∧ t v σ H fun σ' H' => u r σ' H' Q
theorem pgs_nil : PGs X [] gNil := by
  intro pins s σ H vs us Q I r h
  obtain ⟨e, h⟩ := h
  subst e
  cases r
  exact assignInOrder_nil ⟨σ, H, I, h⟩
theorem pgs_cons {e : Expr} {es : List Expr} {t : TG} {u : TGs} (h1 : PG X e t) (h2 : PGs X es u)
    (hs : (assignEach (e :: es) X.env).map (·.2) = assign e X.env :: (assignEach es X.env).map (·.2) := by rfl) : PGs X (e :: es) (gCons t u) := by
  intro pins s σ H vs us Q I r h
  obtain ⟨v, vr, e1, h⟩ := h
  subst e1
  cases r with
  | cons r rr =>
    rw [hs]
    refine assignInOrder_cons (thn (h1 pins s σ H _ _ _ I r h) fun _ s1 ⟨σ1, H1, I1, q1⟩ => ?_)
    exact h2 pins s1 σ1 H1 _ _ Q I1 rr q1
def gTup (K : PySem.W.Frag) (n : Nat) (t : TGs) : TG := fun v σ H Q => ∃ a xs, v = .ref a ∧ SqT K H a xs ∧ xs.length = n ∧ t xs σ H Q
theorem pg_tup {es : List Expr} {k : Nat} {t : TGs} {n : Nat} (hc : X.calm = true) (h : PGs X es t)
    (hn : (assignEach es X.env).length = n := by rfl) (hst : (assignEach es X.env).findIdx? (·.1) = none := by rfl) : PG X (.Tuple es k pos) (gTup X.K n t) := by
  intro pins s σ H v u Q I r hw
  obtain ⟨a, xs, e1, hq, hl, hw⟩ := hw
  subst e1
  cases r
  obtain ⟨its, rv, ht, hz⟩ := I.tuple hq
  refine assign_Tuple_tuple (I.ok.hd hc) ht (by simp [hn, ← hl, rv.length]) hst fun h' hx => ?_
  have I1 : Inv X pins σ H { s with heap := h' } := I.kept (t' := s.toks) fun b o e => hx b o (Nat.ne_of_lt (Heap.lt_size e)) e
  exact h pins _ σ H xs _ Q I1 (by simpa using rv) hw
def gSub (to ti : TE) (t : TSet) : TG := fun v σ H Q => to σ H fun o H1 => ti σ H1 fun i H2 => t o i v H2 fun H3 => Q σ H3
theorem pg_sub {o i : Expr} {to ti : TE} {t : TSet} (ho : PE X o to) (hi : PE X i ti) (hs : PSet X t)
    (ha : ∀ v, assign (.Subscript o i pos) X.env v = (do
      let ov ← holding [v] (eval o X.env)
      let iv ← holding [v, ov] (eval i X.env)
      standAt pos
      holding [v, ov, iv] (setItem ov iv v)
      release [v, ov, iv] []) := by intro _; rfl) : PG X (.Subscript o i pos) (gSub to ti t) := by
  intro pins s σ H v u Q I r h
  rw [ha]
  refine wpAny_bind (wpAny_holding (thn (ho pins s σ H _ I h) fun ov s1 ⟨x, H1, I1, r1, q1⟩ => ?_))
  refine wpAny_bind (wpAny_holding (thn (hi pins s1 σ H1 _ I1 q1) fun iv s2 ⟨y, H2, I2, r2, q2⟩ => ?_))
  refine wpAny_bind (wpAny_standAt (wpAny_bind (wpAny_holding (thn (hs pins s2 σ H2 x y v ov iv u _ I2 r1 r2 r q2) fun _ s3 ⟨H3, I3, q3⟩ => ?_))))
  exact wpAny_release ⟨σ, H3, I3, q3⟩
def tAsg (te : TE) (g : TG) : TS := fun D σ H => te σ H fun x H1 => g x σ H1 D.nx
theorem ps_asg {tg e : Expr} {te : TE} {g : TG} (he : PE X e te) (hg : PG X tg g) (hs : swapsWithSole [tg] e pos.line X.env = pure false := by rfl) (hw : swappedStores [tg] e X.env = pure none := by rfl)
    (h1 : (assignEach [tg] X.env).map (·.2) = [assign tg X.env] := by rfl) : PS X (.Assign [tg] e pos) (tAsg te g) := by
  intro pins s σ H D I h
  refine wpAny_Assign_stores (thn (he pins s σ H _ I h) fun v s1 ⟨x, H1, I1, r1, q1⟩ => ?_) hs hw
  rw [h1]
  exact thn (hg pins s1 σ H1 x v _ I1 r1 q1) fun _ s2 q => q
theorem ps_set {i : Nat} {x : Str} {e : Expr} {te : TE} {pos' : Pos} (hN : X.N.Nodup) (hi : X.N[i]? = some x) (hx : Loc X.env.scope x) (he : PE X e te) (hs : swapsWith e (some (.Name x pos')) pos.line X.env = pure false := by rfl) (hf : X.fn x = true ∨ X.env.scope.names.lookup x = some .local := by first | exact .inl rfl | exact .inr rfl | assumption) :
    PS X (.Assign [.Name x pos'] e pos) (tAsg te (gName i)) := by
  intro pins s σ H D I h
  refine wpAny_Assign_Name (thn (he pins s σ H _ I h) fun v s1 ⟨y, H1, I1, r1, q1⟩ => ?_) hs
  exact store_ok I1 hN hi hx r1 (fun s2 I2 => ⟨_, H1, I2, q1⟩) hf
def tPar (i j : Nat) (ta : TA) : TS := fun D σ H => ta σ H fun vs H1 => ∃ v w, vs = [v, w] ∧ D.nx ((σ.set i (some v)).set j (some w)) H1
theorem ps_par {i j : Nat} {x y : Str} {a b : Expr} {ta : TA} {px py pt : Pos} {kt k2 pt2} (hc : X.calm = true) (hN : X.N.Nodup) (hi : X.N[i]? = some x) (hj : X.N[j]? = some y) (hij : i ≠ j)
    (hx : X.env.scope.names.lookup x = some .local) (hy : X.env.scope.names.lookup y = some .local) (ha : PA X [a, b] ta)
    (hw : swappedStores [.Tuple [.Name x px, .Name y py] kt pt] (.Tuple [a, b] k2 pt2) X.env = pure (some [x, y]))
    (hs : swapsWithSole [.Tuple [.Name x px, .Name y py] kt pt] (.Tuple [a, b] k2 pt2) pos.line X.env = pure false := by rfl) :
    PS X (.Assign [.Tuple [.Name x px, .Name y py] kt pt] (.Tuple [a, b] k2 pt2) pos) (tPar i j ta) := by
  intro pins s σ H D I h
  rw [exec_Assign_arm]
  refine wpAny_bind (wpAny_standAt ?_)
  rw [hs]
  refine wpAny_bind (wpAny_pure ?_)
  rw [if_neg (by decide)]
  refine wpAny_bind (Tuple_ (thn (ha _ pins s σ H _ I h) fun us s1 ⟨vs, H1, I1, r1, q1⟩ => ?_))
  obtain ⟨v, w, e1, q1⟩ := q1
  subst e1
  obtain ⟨u1, u2, rfl, rv, rw'⟩ : ∃ u1 u2, us = [u1, u2] ∧ RelV v u1 ∧ RelV w u2 := by
    cases r1 with
    | cons p q =>
      cases q with
      | cons p' q' =>
        cases q'
        exact ⟨_, _, rfl, p, p'⟩
  refine wpAny_newObj_type ?_ (by show 2 ≤ sizeLine; decide)
  have I2 : Inv X pins σ H1 { s1 with heap := s1.heap.push { cls := .type "tuple", data := .seq [u1, u2].toArray } } := I1.kept (t' := s1.toks) fun b o e => Heap.get?_push_of_some _ e
  rw [hw]
  refine wpAny_bind (wpAny_pure ?_)
  show wpAny (model X.prog X.w) X.A (do rule "assign.swapped-stores"; let items ← unpackItems (.ref s1.heap.objs.size) 2 none; assignInOrder [fun v => bindName X.env y v, fun v => bindName X.env x v] items.reverse; pure Flow.next) _ _ _
  refine wpAny_bind (wpAny_rule (wpAny_bind (unpackItems_tuple (items := #[u1, u2]) (I.ok.hd hc) (IsTup.new s1.heap _) fun h' hx' => ?_)))
  have I3 := I2.kept (h' := h') (t' := s1.toks) fun b o e => hx' b o (Nat.ne_of_lt (Heap.lt_size e)) e
  show wpAny _ _ (assignInOrder [fun v => bindName X.env y v, fun v => bindName X.env x v] [u2, u1] >>= fun _ => pure Flow.next) _ _ _
  refine wpAny_bind (assignInOrder_cons (wpAny_bindName (store_ok I3 hN hj (.inl hy) rw' (fun s2 I4 => ?_) (.inr hy))))
  refine assignInOrder_cons (wpAny_bindName (store_ok I4 hN hi (.inl hx) rv (fun s3 I5 => assignInOrder_nil (wpAny_pure ?_)) (.inr hx)))
  rw [List.set_comm _ _ (Ne.symm hij)] at I5
  exact ⟨_, H1, I5, q1⟩
def tAug (i : Nat) (te : TE) (ti : TIp) : TS := fun D σ H => ∃ x, σ[i]? = some (some x) ∧ te σ H fun y H1 => ti x y H1 fun z H2 => D.nx (σ.set i (some z)) H2
theorem ps_aug {i : Nat} {x : Str} {e : Expr} {te : TE} {op : Operator} {ti : TIp} {pos' : Pos} (hN : X.N.Nodup) (hi : X.N[i]? = some x) (hx : Loc X.env.scope x) (he : PE X e te) (ho : PIp X op ti) (hf : X.fn x = true ∨ X.env.scope.names.lookup x = some .local := by first | exact .inl rfl | exact .inr rfl | assumption) :
    PS X (.AugAssign (.Name x pos') op e pos) (tAug i te ti) := by
  intro pins s σ H D I h
  obtain ⟨v, e1, h⟩ := h
  obtain ⟨m, hn, hl⟩ := I.loc
  have vis : Vis X.env.scope x := by rcases hx with k | k; exact .inl k; exact .inr (.inl k)
  obtain ⟨u, r, l⟩ := hl i x v hi e1 vis
  refine wpAny_AugAssign_Name ?_
  have go : wpAny (model X.prog X.w) X.A (eval e X.env) (fun w s₂ => wpAny (model X.prog X.w) X.A (inplaceOp op u w) (fun r s₃ => wpAny (model X.prog X.w) X.A (storeName X.env x r) (fun _ => SP X pins D .next) X.xe s₃) X.xe s₂) X.xe s := by
    refine thn (he pins s σ H _ I h) fun w s1 ⟨y, H1, I1, r1, q1⟩ => ?_
    refine thn (ho pins s1 σ H1 v y u w _ I1 r r1 q1) fun z s2 ⟨zv, H2, I2, r2, q2⟩ => ?_
    exact store_ok I2 hN hi hx r2 (fun s3 I3 => ⟨_, H2, I3, q2⟩) hf
  rcases l with ⟨hk, hm⟩ | ⟨hk, c, hc, hcell⟩
  · exact wpAny_loadName_local I.ok.kind hk hn hm go
  · rcases hk with hk | hk
    · exact wpAny_loadName_cell I.ok.kind hk hc hcell go
    · rcases hx with k | k
      · have : X.env.scope.names.lookup x = some .free := hk
        rw [k] at this; cases this
      · have : X.env.scope.names.lookup x = some .free := hk
        rw [k] at this; cases this
def tAugS (to ti te : TE) (tget : V → V → Hp → VK → Prop) (tip : TIp) (tset : TSet) : TS := fun D σ H => to σ H fun o H1 => ti σ H1 fun i H2 => tget o i H2 fun x H3 => te σ H3 fun y H4 => tip x y H4 fun z H5 => tset o i z H5 fun H6 => D.nx σ H6
def PGet (X : Cx) (t : V → V → Hp → VK → Prop) : Prop :=
  ∀ (pins : List (Addr × Obj)) (s : Shared) (σ : St) (H : Hp) (o i : V) (ov iv : Value) (Q : VK), Inv X pins σ H s → RelV o ov → RelV i iv → t o i H Q →
    wpAny (model X.prog X.w) X.A (getItem ov iv) (EP X pins σ Q) X.xe s
theorem ps_augS {o i e : Expr} {to ti te : TE} {tget : V → V → Hp → VK → Prop} {tip : TIp} {tset : TSet} {op : Operator} {tpos : Pos} (ho : PE X o to) (hi : PE X i ti) (hg : PGet X tget) (he : PE X e te) (hp : PIp X op tip) (hs : PSet X tset)
    (ha : ∀ ov iv new, augStore i ov iv new = (do holding [new, ov, iv] (setItem ov iv new); release [new, ov, iv] []; pure .next) := by intros; rfl) : PS X (.AugAssign (.Subscript o i tpos) op e pos) (tAugS to ti te tget tip tset) := by
  intro pins s σ H D I h
  refine wpAny_AugAssign_SubscriptAny (thn (ho pins s σ H _ I h) fun ov s1 ⟨x1, H1, I1, r1, q1⟩ => ?_) ha
  refine thn (hi pins s1 σ H1 _ I1 q1) fun iv s2 ⟨x2, H2, I2, r2, q2⟩ => ?_
  refine thn (hg pins s2 σ H2 x1 x2 ov iv _ I2 r1 r2 q2) fun old s3 ⟨x3, H3, I3, r3, q3⟩ => ?_
  refine thn (he pins s3 σ H3 _ I3 q3) fun v s4 ⟨x4, H4, I4, r4, q4⟩ => ?_
  refine thn (hp pins s4 σ H4 x3 x4 old v _ I4 r3 r4 q4) fun new s5 ⟨x5, H5, I5, r5, q5⟩ => ?_
  exact thn (hs pins s5 σ H5 x1 x2 x5 ov iv new _ I5 r1 r2 r5 q5) fun _ s6 ⟨H6, I6, q6⟩ => ⟨σ, H6, I6, q6⟩
def ipI (f : Int → Int → Int) : TIp := fun x y H Q => ∃ i j, x = .int i ∧ y = .int j ∧ Q (.int (f i j)) H
theorem ip_add : PIp X .Add (ipI fun i j => i + j) := by
  intro pins s σ H x y v u Q I r1 r2 h
  obtain ⟨i, j, e1, e2, q⟩ := h
  subst e1; subst e2
  obtain ⟨t, rfl⟩ := r1
  obtain ⟨t', rfl⟩ := r2
  exact iadd_int ⟨.int _, H, I.tok _, ⟨_, rfl⟩, q⟩
end
section
variable {X : Cx} {pos : Pos}
def tWhile (c : TT) (tb : TS) : TS := fun D σ H => ∃ W : Nat → St → Hp → Prop, (∃ m, W m σ H) ∧ ∀ m σ H, W m σ H →
  c σ H fun b H1 => if b = true then ∃ N : St → Hp → Prop, (∀ σ' H', N σ' H' → ∃ m', m' < m ∧ W m' σ' H') ∧ tb { D with nx := N, ct := N, bk := D.nx } σ H1 else D.nx σ H1
theorem ps_while {c : Expr} {body : List Stmt} {tc : TT} {tb : TS} (hp : PassesOwn (model X.prog X.w) X.A X.env X.xe) (hc : PT X c tc) (hb : PSs X body tb) : PS X (.While c body [] pos) (tWhile tc tb) := by
  intro pins s σ H D I h
  obtain ⟨W, ⟨m0, w0⟩, turn⟩ := h
  refine wpAny_While (codeAny_whileLoop (fun n s' => ∃ σ' H', Inv X pins σ' H' s' ∧ W n σ' H') ?_ m0 ⟨σ, H, I, w0⟩)
  rintro n s1 ⟨σ1, H1, I1, w1⟩
  refine wpAny_passesOwn hp (thn (hc pins s1 σ1 H1 _ I1 (turn n σ1 H1 w1)) fun b s2 ⟨H2, I2, q2⟩ => ?_)
  cases b with
  | true =>
    obtain ⟨N, hN, q2⟩ := q2
    rw [if_pos rfl]
    refine wpAny_passesOwn hp (thn (hb pins s2 σ1 H2 _ I2 q2) fun f s3 q3 => ?_)
    cases f with
    | next =>
      obtain ⟨σ3, H3, I3, n3⟩ := q3
      obtain ⟨m', hm, w3⟩ := hN σ3 H3 n3
      exact ⟨m', hm, σ3, H3, I3, w3⟩
    | cont =>
      obtain ⟨σ3, H3, I3, n3⟩ := q3
      obtain ⟨m', hm, w3⟩ := hN σ3 H3 n3
      exact ⟨m', hm, σ3, H3, I3, w3⟩
    | brk => exact q3
    | ret v => exact q3
  | false =>
    rw [if_neg Bool.false_ne_true]
    exact wpAny_execs_nil ⟨σ1, H2, I2, q2⟩
end
structure It where
  go : Nat → Hp → Prop
  yld : Nat → Hp → V → Hp → Prop
  stop : Nat → Hp → Prop
def FpOk (X : Cx) (pins : List (Addr × Obj)) (H : Hp) (b : Addr) : Prop :=
  H b = none ∧ b ≠ X.env.locals ∧ b ∉ X.fs ∧ (b ∈ X.ex ∨ X.s₀.heap.objs.size ≤ b) ∧ (∀ x c, X.env.cells.lookup x = some c → c ≠ b) ∧ ∀ p ∈ X.pn ++ pins, p.1 ≠ b
theorem Inv.fpOk {X : Cx} {pins : List (Addr × Obj)} {σ : St} {H H' : Hp} {s : Shared} {b : Addr} (I : Inv X pins σ H s) (hb : s.heap.objs.size ≤ b) (hn : H' b = none) : FpOk X pins H' b := by
  refine ⟨hn, Nat.ne_of_gt (Nat.lt_of_lt_of_le I.lt hb), I.nofs hb, .inr (Nat.le_trans I.sz hb), fun x c e z => ?_, fun p hp z => ?_⟩
  · obtain ⟨v, q⟩ := I.cell x c e
    exact absurd (Nat.lt_of_lt_of_le q.lt (by rw [z]; exact hb)) (Nat.lt_irrefl _)
  · exact absurd (Nat.lt_of_lt_of_le (Heap.lt_size (I.pin p hp).1) (by rw [z]; exact hb)) (Nat.lt_irrefl _)
structure Turn (P : Program) (w : World) (K : PySem.W.Frag) (tg : Expr) (J : It) (fp : List Addr) (it : Addr) (tn : Nat → Heap → Prop) : Prop where
  mem : it ∈ fp
  obj : ∀ i h, tn i h → ∀ b ∈ fp, ∃ o, h.get? b = some o ∧ ∀ v, o.data ≠ .cell v
  keep : ∀ i h h', tn i h → (∀ b ∈ fp, ∀ o, h.get? b = some o → h'.get? b = some o) → tn i h'
  item : ∀ (X : Cx), X.prog = P → X.w = w → X.K = K → X.calm = true → ∀ (i : Nat) (pins : List (Addr × Obj)) (s : Shared) (σ : St) (H : Hp) (E : Value → Shared → Prop), Inv X pins σ H s → (∀ b ∈ fp, FpOk X pins H b) → tn i s.heap → J.go i H →
    wpAny (model P w) X.A (pyNext (.ref it)) (fun r s1 => ∃ u, r = some u ∧
      wpAny (model P w) X.A (letOwnedTupleGo tg (.ref it) u) (fun _ s2 => ∃ x H', Inv X pins σ H' s2 ∧ RelV x u ∧ J.yld i H x H' ∧ tn (i + 1) s2.heap ∧ ∀ b ∈ fp, H' b = none) E s1) E s
  done : ∀ (X : Cx), X.prog = P → X.w = w → X.K = K → X.calm = true → ∀ (i : Nat) (pins : List (Addr × Obj)) (s : Shared) (σ : St) (H : Hp) (E : Value → Shared → Prop), Inv X pins σ H s → (∀ b ∈ fp, FpOk X pins H b) → tn i s.heap → J.stop i H →
    wpAny (model P w) X.A (pyNext (.ref it)) (fun r s1 => r = none ∧ Inv X pins σ H s1) E s
  self : ∀ (A : Around) (i : Nat) (s : Shared) (Q : Value → Shared → Prop) (E : Value → Shared → Prop), tn i s.heap → Q (.ref it) s → wpAny (model P w) A (pyIter (.ref it)) Q E s
abbrev TI := St → Hp → (It → Hp → Prop) → Prop
def PIE (X : Cx) (pins : List (Addr × Obj)) (σ : St) (tg : Expr) (R : It → Hp → Prop) (itv : Value) (s2 : Shared) : Prop :=
  ∃ (it : Addr) (fp : List Addr) (tn : Nat → Heap → Prop) (J : It) (H' : Hp), itv = .ref it ∧ Inv X pins σ H' s2 ∧ Turn X.prog X.w X.K tg J fp it tn ∧ tn 0 s2.heap ∧ (∀ b ∈ fp, FpOk X pins H' b) ∧ R J H'
def PI (X : Cx) (tg iter : Expr) (wi : TI) : Prop :=
  ∀ (pins : List (Addr × Obj)) (s : Shared) (σ : St) (H : Hp) (R : It → Hp → Prop), Inv X pins σ H s → wi σ H R →
    wpAny (model X.prog X.w) X.A (eval iter X.env) (fun v s1 => wpAny (model X.prog X.w) X.A (pyIter v) (PIE X pins σ tg R) X.xe s1) X.xe s
theorem go_of {M : Model} {A : Around} {E : Value → Shared → Prop} {s : Shared} {tg : Expr} {it : Addr} {u : Value} {o : Obj} {n : String} {vs : Array Value} {Q : Unit → Shared → Prop} (ho : s.heap.get? it = some o) (hc : o.cls = .type n) (hd : o.data = .fields vs)
    (hn : ["enumerate", "zip", "dict_itemiterator", "dict_reverseitemiterator", "odict_iterator", "itertools.zip_longest", "itertools.pairwise"].contains n = false) (hQ : Q () s) : wpAny M A (letOwnedTupleGo tg (.ref it) u) Q E s := by
  unfold letOwnedTupleGo
  cases tg <;> first
    | exact wpAny_pure hQ
    | (cases u <;> first
        | exact wpAny_pure hQ
        | (refine wpAny_bind (wpAny_load ho ?_)
           rw [hc, hd]
           show wpAny M A (if (["enumerate", "zip", "dict_itemiterator", "dict_reverseitemiterator", "odict_iterator", "itertools.zip_longest", "itertools.pairwise"].contains n && vs[0]? == some (rawInt _)) = true then _ else _) Q E s
           rw [if_neg (by intro h; rw [hn, Bool.false_and] at h; cases h)]
           exact wpAny_pure hQ))
def Itl (K : PySem.W.Frag) (a : Addr) : It :=
  ⟨fun i H => ∃ xs x, SqL K H a xs ∧ xs[i]? = some x, fun i H x H' => H' = H ∧ ∀ xs, SqL K H a xs → xs[i]? = some x, fun i H => ∃ xs, SqL K H a xs ∧ xs.length ≤ i⟩
def Itt (K : PySem.W.Frag) (a : Addr) : It :=
  ⟨fun i H => ∃ xs x, SqT K H a xs ∧ xs[i]? = some x, fun i H x H' => H' = H ∧ ∀ xs, SqT K H a xs → xs[i]? = some x, fun i H => ∃ xs, SqT K H a xs ∧ xs.length ≤ i⟩
def Itr (lo : Int) (n : Nat) : It := ⟨fun i _ => i < n, fun i H x H' => H' = H ∧ x = .int (lo + i), fun i _ => n ≤ i⟩
theorem turn_list {P : Program} {w : World} {K : PySem.W.Frag} {tg : Expr} (a it : Addr) : Turn P w K tg (Itl K a) [it] it (fun i h => h.IsListIter it a i) where
  mem := by simp
  obj := fun i h st b hb => by
    have e : b = it := by simpa using hb
    subst e
    obtain ⟨o, e, c, d⟩ := st
    exact ⟨o, e, fun v z => by rw [d] at z; cases z⟩
  keep := fun i h h' st k => st.at fun o e => k it (by simp) o e
  item := by
    intro X hP hw hK hc i pins s σ H E I hf st hg
    subst hP hw hK
    obtain ⟨xs, x, hq, hx⟩ := hg
    obtain ⟨its, rv, p, hz⟩ := I.list hq
    obtain ⟨u, hu, ru⟩ := rv.get hx
    obtain ⟨f0, f1, f2, f3, f4, f5⟩ := hf it (by simp)
    refine wpAny_pyNext_list_item st p.isList (x := u) (by simpa using hu) fun h' st' sb => ?_
    have I1 : Inv X pins σ H { s with heap := h' } := I.turned (t' := s.toks) (fun b o hb e => (sb.2 b hb).trans e) f0 f1 f3 f4 f5
    obtain ⟨o, e, c, d⟩ := id st'
    exact ⟨u, rfl, go_of (s := { s with heap := h' }) e c d (by decide) ⟨x, H, I1, ru, ⟨rfl, fun ys hy => by rw [I.list_inj hy hq]; exact hx⟩, st', fun b hb => (hf b hb).1⟩⟩
  done := by
    intro X hP hw hK hc i pins s σ H E I hf st hg
    subst hP hw hK
    obtain ⟨xs, hq, hx⟩ := hg
    obtain ⟨its, rv, p, hz⟩ := I.list hq
    obtain ⟨f0, f1, f2, f3, f4, f5⟩ := hf it (by simp)
    have hl := rv.length
    exact wpAny_pyNext_list_end (I.ok.hd hc) st p.isList (by simp; omega) fun h' eb => ⟨rfl, I.turned (t' := s.toks) (fun b o hb e => eb b o hb e) f0 f1 f3 f4 f5⟩
  self := fun _ _ _ _ _ st h => wpAny_pyIter_listiter st h
theorem turn_tuple {P : Program} {w : World} {K : PySem.W.Frag} {tg : Expr} (a it : Addr) : Turn P w K tg (Itt K a) [it] it (fun i h => h.IsTupleIter it a i) where
  mem := by simp
  obj := fun i h st b hb => by
    have e : b = it := by simpa using hb
    subst e
    obtain ⟨o, e, c, d⟩ := st
    exact ⟨o, e, fun v z => by rw [d] at z; cases z⟩
  keep := fun i h h' st k => st.at fun o e => k it (by simp) o e
  item := by
    intro X hP hw hK hc i pins s σ H E I hf st hg
    subst hP hw hK
    obtain ⟨xs, x, hq, hx⟩ := hg
    obtain ⟨its, rv, p, hz⟩ := I.tuple hq
    obtain ⟨u, hu, ru⟩ := rv.get hx
    obtain ⟨f0, f1, f2, f3, f4, f5⟩ := hf it (by simp)
    refine wpAny_pyNext_tuple_item st (show s.heap.IsTuple a its.toArray from p) (x := u) (by simpa using hu) fun h' st' sb => ?_
    have I1 : Inv X pins σ H { s with heap := h' } := I.turned (t' := s.toks) (fun b o hb e => (sb.2 b hb).trans e) f0 f1 f3 f4 f5
    obtain ⟨o, e, c, d⟩ := id st'
    exact ⟨u, rfl, go_of (s := { s with heap := h' }) e c d (by decide) ⟨x, H, I1, ru, ⟨rfl, fun ys hy => by rw [I.tuple_inj hy hq]; exact hx⟩, st', fun b hb => (hf b hb).1⟩⟩
  done := by
    intro X hP hw hK hc i pins s σ H E I hf st hg
    subst hP hw hK
    obtain ⟨xs, hq, hx⟩ := hg
    obtain ⟨its, rv, p, hz⟩ := I.tuple hq
    obtain ⟨f0, f1, f2, f3, f4, f5⟩ := hf it (by simp)
    have hl := rv.length
    exact wpAny_pyNext_tuple_end (I.ok.hd hc) st (show s.heap.IsTuple a its.toArray from p) (by simp; omega) fun h' eb => ⟨rfl, I.turned (t' := s.toks) (fun b o hb e => eb b o hb e) f0 f1 f3 f4 f5⟩
  self := fun _ _ _ _ _ st h => wpAny_pyIter_tupleiter st h
theorem turn_range {P : Program} {w : World} {K : PySem.W.Frag} {tg : Expr} (it : Addr) (lo : Int) (n : Nat) : Turn P w K tg (Itr lo n) [it] it (fun i h => IsRangeIter h it (lo + (i : Nat) * 1) ((n : Int) - (i : Nat)) 1) where
  mem := by simp
  obj := fun i h st b hb => by
    have e : b = it := by simpa using hb
    subst e
    exact ⟨_, st, fun v z => by
      have z' : Data.fields _ = Data.cell v := z
      cases z'⟩
  keep := fun i h h' st k => k it (by simp) _ st
  item := by
    intro X hP hw hK hc i pins s σ H E I hf st hg
    subst hP hw hK
    obtain ⟨f0, f1, f2, f3, f4, f5⟩ := hf it (by simp)
    have W := Walks.range (prog := X.prog) (w := X.w) (I.ok.hd hc) it lo 1 n
    refine W.item i s _ _ hg st fun v h' tk hv st' kk => ?_
    obtain ⟨t, rfl⟩ := hv
    have I1 : Inv X pins σ H { s with heap := h', toks := tk } := I.turned (fun b o hb e => kk b o (by simpa using hb) e) f0 f1 f3 f4 f5
    refine ⟨_, rfl, go_of (s := { s with heap := h', toks := tk }) (n := "range_iterator") st' rfl rfl (by decide) ⟨.int (lo + i), H, I1, ⟨t, ?_⟩, ⟨rfl, rfl⟩, st', fun b hb => (hf b hb).1⟩⟩
    rw [Int.mul_one]
  done := by
    intro X hP hw hK hc i pins s σ H E I hf st hg
    subst hP hw hK
    obtain ⟨f0, f1, f2, f3, f4, f5⟩ := hf it (by simp)
    exact wpAny_pyNext_range_end (I.ok.hd hc) st (by have : n ≤ i := hg; omega) fun h' eb => ⟨rfl, I.turned (t' := s.toks) (fun b o hb e => eb b o hb e) f0 f1 f3 f4 f5⟩
  self := fun _ _ _ _ _ st h => wpAny_pyIter_rangeiter st h
end L2
namespace L2
open PySem PySem.Spec PyProof.Rows
section
variable {X : Cx} {tg : Expr}
theorem range_it {pins : List (Addr × Obj)} {σ : St} {H : Hp} {s : Shared} {R : It → Hp → Prop} {E : Value → Shared → Prop} {lo hi : Int} {t u v : Tok} {tk : Nat} (I : Inv X pins σ H s) (h1 : -(2 ^ 62) ≤ lo) (h2 : lo < 2 ^ 62) (h3 : -(2 ^ 62) ≤ hi) (h4 : hi < 2 ^ 62)
    (q : R (Itr lo (hi - lo).toNat) H) : wpAny (model X.prog X.w) X.A (pyIter (.ref s.heap.objs.size)) (PIE X pins σ tg R) E { s with heap := s.heap.push { cls := .type "range", data := .fields #[.int lo t, .int hi u, .int 1 v] }, toks := tk } := by
  refine wpAny_pyIter_range (IsRange.new ..) (small_one h1 h2 h3 h4) ?_
  have I1 : Inv X pins σ H { s with heap := s.heap.push { cls := .type "range", data := .fields #[.int lo t, .int hi u, .int 1 v] }, toks := tk } := I.kept fun b o e => Heap.get?_push_of_some _ e
  refine ⟨(s.heap.push { cls := .type "range", data := .fields #[.int lo t, .int hi u, .int 1 v] }).objs.size, [(s.heap.push { cls := .type "range", data := .fields #[.int lo t, .int hi u, .int 1 v] }).objs.size], _, _, H, rfl,
    I1.kept (t' := tk) fun b o e => Heap.get?_push_of_some _ e, turn_range _ lo (hi - lo).toNat, ?_, fun b hb => ?_, q⟩
  · have e1 : lo + ((0 : Nat) : Int) * 1 = lo := by simp
    have e2 : (((hi - lo).toNat : Nat) : Int) - ((0 : Nat) : Int) = Builtin.Range.rangeSize lo hi 1 := by rw [rangeSize_one]; split <;> omega
    show IsRangeIter _ _ (lo + ((0 : Nat) : Int) * 1) ((((hi - lo).toNat : Nat) : Int) - ((0 : Nat) : Int)) 1
    rw [e1, e2]
    exact Heap.get?_push_size _ rfl
  · have e : b = (s.heap.push { cls := .type "range", data := .fields #[.int lo t, .int hi u, .int 1 v] }).objs.size := by simpa using hb
    subst e
    exact I1.fpOk (Nat.le_refl _) (I1.hok.fresh (Nat.le_refl _))
def iRng1 (ta : TA) : TI := fun σ H R => ta σ H fun vs H1 => ∃ j : Int, vs = [.int j] ∧ -(2 ^ 62) ≤ j ∧ j < 2 ^ 62 ∧ R (Itr 0 j.toNat) H1
theorem pi_range1 {a : Expr} {ta : TA} {p pos : Pos} (hg : Gl X "range") (hm : X.mg "range" = none) (ha : PA X [a] ta) (hs : starEach [a] X.env = [(false, eval a X.env)] := by rfl) : PI X tg (.Call (.Name "range" p) [a] [] pos) (iRng1 ta) := by
  intro pins s σ H R I h
  refine Call_ (ld_blt I hg hm boot_range (PyProof.Rows.callWith_type1 (thn (ha pos pins s σ H _ I h) fun us s1 ⟨vs, H1, I1, r1, q1⟩ => ?_) hs rfl))
  obtain ⟨j, e, q1, q2, q⟩ := q1
  subst e
  cases r1 with
  | cons r rr =>
    cases rr
    obtain ⟨t, rfl⟩ := r
    exact call_range_1 (range_it I1 (by omega) (by omega) q1 q2 (by simpa using q))
def tFor (wi : TI) (g : TG) (tb : TS) : TS := fun D σ H => wi σ H fun J H1 => ∃ W : Nat → Nat → St → Hp → Prop, (∃ m, W 0 m σ H1) ∧ ∀ i m σ H, W i m σ H →
  (J.stop i H ∧ D.nx σ H) ∨ (J.go i H ∧ ∃ N : St → Hp → Prop, (∀ σ' H', N σ' H' → ∃ m', m' < m ∧ W (i + 1) m' σ' H') ∧ ∀ x H', J.yld i H x H' → g x σ H' fun σ2 H2 => tb { D with nx := N, ct := N, bk := D.nx } σ2 H2)
def pinsAt (fp : List Addr) (h : Heap) : List (Addr × Obj) := fp.filterMap fun b => (h.get? b).map fun o => (b, o)
theorem mem_pinsAt {fp : List Addr} {h : Heap} {b : Addr} {o : Obj} (hb : b ∈ fp) (e : h.get? b = some o) : (b, o) ∈ pinsAt fp h := List.mem_filterMap.mpr ⟨b, hb, by rw [e]; rfl⟩
theorem of_pinsAt {fp : List Addr} {h : Heap} {p : Addr × Obj} (hp : p ∈ pinsAt fp h) : p.1 ∈ fp ∧ h.get? p.1 = some p.2 := by
  obtain ⟨b, hb, e⟩ := List.mem_filterMap.mp hp
  cases q : h.get? b with
  | none => rw [q] at e; cases e
  | some o =>
    rw [q] at e
    have e' : (b, o) = p := Option.some.inj e
    subst e'
    exact ⟨hb, q⟩
theorem Inv.pinned {pins : List (Addr × Obj)} {σ : St} {H : Hp} {s : Shared} {fp : List Addr} (I : Inv X pins σ H s) (hf : ∀ b ∈ fp, FpOk X pins H b) (ho : ∀ b ∈ fp, ∃ o, s.heap.get? b = some o ∧ ∀ v, o.data ≠ .cell v) : Inv X (pins ++ pinsAt fp s.heap) σ H s :=
  I.pins_of fun p hp => (List.mem_append.mp hp).elim (fun z => I.pin p (List.mem_append_right _ z)) fun z => by
    obtain ⟨hb, e⟩ := of_pinsAt z
    obtain ⟨f0, f1, f2, _⟩ := hf p.1 hb
    obtain ⟨o, e', d⟩ := ho p.1 hb
    rw [e] at e'; cases e'
    exact ⟨e, f0, f1, f2, d⟩
theorem Inv.unpinned {pins pl : List (Addr × Obj)} {σ : St} {H : Hp} {s : Shared} (I : Inv X (pins ++ pl) σ H s) : Inv X pins σ H s := I.pins_of fun p hp => I.pin p (List.mem_append_right _ (List.mem_append_left _ hp))
theorem ps_for {iter : Expr} {body : List Stmt} {wi : TI} {g : TG} {tb : TS} {pos : Pos} (hp : PassesOwn (model X.prog X.w) X.A X.env X.xe) (hc : X.calm = true) (hi : PI X tg iter wi) (hg : PG X tg g) (hb : PSs X body tb)
    (hs : ∀ x, foldedSetIterable iter X.env x = pure x := by intro _; rfl) : PS X (.For tg iter body [] pos) (tFor wi g tb) := by
  intro pins s σ H D I h
  refine wpAny_For (thn (hi pins s σ H _ I h) fun v s1 h1 => thn h1 fun itv s2 h2 => ?_) hs
  obtain ⟨it, fp, tn, J, H2, e, I2, T, st2, f2, W, ⟨m0, w0⟩, turn⟩ := h2
  subst e
  have stat : ∀ {H' : Hp}, (∀ b ∈ fp, H' b = none) → ∀ b ∈ fp, FpOk X pins H' b := fun hn b hb => ⟨hn b hb, (f2 b hb).2⟩
  refine codeAny_forLoop_any (fun n s' => ∃ i σ' H', Inv X pins σ' H' s' ∧ tn i s'.heap ∧ (∀ b ∈ fp, H' b = none) ∧ W i n σ' H') ?_ m0 ⟨0, σ, H2, I2, st2, fun b hb => (f2 b hb).1, w0⟩
  rintro n s3 ⟨i, σ3, H3, I3, st3, fr3, w3⟩
  rcases turn i n σ3 H3 w3 with ⟨stop, qn⟩ | ⟨go, N, hN, step⟩
  · refine wpAny_passesOwn hp (thn (T.done X rfl rfl rfl hc i pins s3 σ3 H3 X.xe I3 (stat fr3) st3 stop) fun r s4 ⟨hr, I4⟩ => ?_)
    subst hr
    exact wpAny_execs_nil ⟨σ3, H3, I4, qn⟩
  · refine wpAny_passesOwn hp (thn (T.item X rfl rfl rfl hc i pins s3 σ3 H3 X.xe I3 (stat fr3) st3 go) fun r s4 ⟨u, hr, h4⟩ => ?_)
    subst hr
    refine wpAny_passesOwn hp (thn h4 fun _ s5 ⟨x, H5, I5, r5, y5, st5, fr5⟩ => ?_)
    have I5' := I5.pinned (stat fr5) (T.obj _ _ st5)
    refine wpAny_passesOwn hp (thn (hg _ s5 σ3 H5 x u _ I5' r5 (step x H5 y5)) fun _ s6 ⟨σ6, H6, I6, q6⟩ => ?_)
    refine wpAny_passesOwn hp (thn (hb _ s6 σ6 H6 _ I6 q6) fun f s7 q7 => ?_)
    have again : ∀ {σ7 : St} {H7 : Hp}, Inv X (pins ++ pinsAt fp s5.heap) σ7 H7 s7 → N σ7 H7 → ∃ m, m < n ∧ ∃ i σ' H', Inv X pins σ' H' s7 ∧ tn i s7.heap ∧ (∀ b ∈ fp, H' b = none) ∧ W i m σ' H' := fun {σ7 H7} I7 n7 => by
      obtain ⟨m', hm, w7⟩ := hN σ7 H7 n7
      refine ⟨m', hm, i + 1, σ7, H7, I7.unpinned, T.keep _ _ _ st5 fun b hb o e => (I7.pin (b, o) (List.mem_append_right _ (List.mem_append_right _ (mem_pinsAt hb e)))).1, fun b hb => ?_, w7⟩
      obtain ⟨o, e, d⟩ := T.obj _ _ st5 b hb
      exact (I7.pin (b, o) (List.mem_append_right _ (List.mem_append_right _ (mem_pinsAt hb e)))).2.1
    cases f with
    | next => obtain ⟨σ7, H7, I7, n7⟩ := q7; exact again I7 n7
    | cont => obtain ⟨σ7, H7, I7, n7⟩ := q7; exact again I7 n7
    | brk => obtain ⟨σ7, H7, I7, q7⟩ := q7; exact ⟨σ7, H7, I7.unpinned, q7⟩
    | ret v => obtain ⟨x7, σ7, H7, I7, r7, q7⟩ := q7; exact ⟨x7, σ7, H7, I7.unpinned, r7, q7⟩
end
end L2
namespace L2
open PySem PySem.Spec PyProof.Rows
abbrev R2 := V → V → Hp → VK → Prop
def OpR (X : Cx) (f : Value → Value → Sem Value) (r : R2) : Prop :=
  ∀ (pins : List (Addr × Obj)) (s : Shared) (σ : St) (H : Hp) (x y : V) (v u : Value) (Q : VK), Inv X pins σ H s → RelV x v → RelV y u → r x y H Q →
    wpAny (model X.prog X.w) X.A (f v u) (EP X pins σ Q) X.xe s
def UnR (X : Cx) (f : Value → Sem Value) (r : V → Hp → VK → Prop) : Prop :=
  ∀ (pins : List (Addr × Obj)) (s : Shared) (σ : St) (H : Hp) (x : V) (v : Value) (Q : VK), Inv X pins σ H s → RelV x v → r x H Q →
    wpAny (model X.prog X.w) X.A (f v) (EP X pins σ Q) X.xe s
def CallR (X : Cx) (f : Value) (r : List V → Hp → VK → Prop) : Prop :=
  ∀ (pins : List (Addr × Obj)) (s : Shared) (σ : St) (H : Hp) (xs : List V) (us : List Value) (Q : VK), Inv X pins σ H s → Vals xs us → r xs H Q →
    wpAny (model X.prog X.w) X.A (call f us) (EP X pins σ Q) X.xe s
def TruR (X : Cx) (r : V → Hp → (Bool → Hp → Prop) → Prop) : Prop :=
  ∀ (pins : List (Addr × Obj)) (s : Shared) (σ : St) (H : Hp) (x : V) (v : Value) (Q : Bool → Hp → Prop), Inv X pins σ H s → RelV x v → r x H Q →
    wpAny (model X.prog X.w) X.A (truthy v) (TP X pins σ Q) X.xe s
def tOp (r : R2) (ta tb : TE) : TE := fun σ H Q => ta σ H fun x H1 => tb σ H1 fun y H2 => r x y H2 Q
def tUn (r : V → Hp → VK → Prop) (ta : TE) : TE := fun σ H Q => ta σ H fun x H1 => r x H1 Q
def rI (C : Int → Int → Prop) (g : Int → Int → V) : R2 := fun x y H Q => ∃ i j, x = .int i ∧ y = .int j ∧ C i j ∧ Q (g i j) H
def rI0 (g : Int → Int → V) : R2 := fun x y H Q => ∃ i j, x = .int i ∧ y = .int j ∧ Q (g i j) H
def rU (g : Int → V) : V → Hp → VK → Prop := fun x H Q => ∃ i, x = .int i ∧ Q (g i) H
section
variable {X : Cx} {a b c : Expr} {ta tb tc : TE} {pos : Pos}
theorem binT (ha : PE X a ta) (hb : PE X b tb) {pins : List (Addr × Obj)} {s : Shared} {σ : St} {H : Hp} {R : V → V → Hp → Prop} (I : Inv X pins σ H s)
    (h : ta σ H fun x H1 => tb σ H1 fun y H2 => R x y H2) {Q : Value → Shared → Prop} {f : Value → Value → Sem Value}
    (hf : ∀ v u s2 x y H2, Inv X pins σ H2 s2 → RelV x v → RelV y u → R x y H2 → wpAny (model X.prog X.w) X.A (f v u) Q X.xe s2) :
    wpAny (model X.prog X.w) X.A (eval a X.env) (fun v s₁ => wpAny (model X.prog X.w) X.A (eval b X.env) (fun u s₂ => wpAny (model X.prog X.w) X.A (f v u) Q X.xe s₂) X.xe s₁) X.xe s := by
  refine thn (ha pins s σ H _ I h) fun v s1 ⟨x, H1, I1, r1, q1⟩ => ?_
  refine thn (hb pins s1 σ H1 _ I1 q1) fun u s2 ⟨y, H2, I2, r2, q2⟩ => ?_
  exact hf v u s2 x y H2 I2 r1 r2 q2
theorem pe_op {op : Operator} {r : R2} (ho : OpR X (binaryOp op) r) (ha : PE X a ta) (hb : PE X b tb) : PE X (.BinOp a op b pos) (tOp r ta tb) := by
  intro pins s σ H Q I h
  exact wpAny_BinOp (binT ha hb I h fun v u s2 x y H2 I2 rx ry q => ho pins s2 σ H2 x y v u Q I2 rx ry q)
theorem pe_un {op : UnaryOp} {r : V → Hp → VK → Prop} (ho : UnR X (unaryOp op) r) (ha : PE X a ta) : PE X (.UnaryOp op a pos) (tUn r ta) := by
  intro pins s σ H Q I h
  exact UnaryOp_ (thn (ha pins s σ H _ I h) fun v s1 ⟨x, H1, I1, r1, q1⟩ => ho pins s1 σ H1 x v Q I1 r1 q1)
theorem opI {f : Value → Value → Sem Value} {C : Int → Int → Prop} {g : Int → Int → Int}
    (rule : ∀ (i j : Int) (t u : Tok) (s : Shared) (Q : Value → Shared → Prop) (E : Value → Shared → Prop), C i j → Q (.int (g i j) s.toks) { s with toks := s.toks + 1 } → wpAny (model X.prog X.w) X.A (f (.int i t) (.int j u)) Q E s) :
    OpR X f (rI C fun i j => .int (g i j)) := by
  intro pins s σ H x y v u Q I rx ry h
  obtain ⟨i, j, rfl, rfl, hc, q⟩ := h
  obtain ⟨t, rfl⟩ := rx
  obtain ⟨t', rfl⟩ := ry
  exact rule i j t t' s _ _ hc ⟨.int (g i j), H, I.tok _, ⟨_, rfl⟩, q⟩
theorem opI0 {f : Value → Value → Sem Value} {g : Int → Int → Int}
    (rule : ∀ (i j : Int) (t u : Tok) (s : Shared) (Q : Value → Shared → Prop) (E : Value → Shared → Prop), Q (.int (g i j) s.toks) { s with toks := s.toks + 1 } → wpAny (model X.prog X.w) X.A (f (.int i t) (.int j u)) Q E s) :
    OpR X f (rI0 fun i j => .int (g i j)) := by
  intro pins s σ H x y v u Q I rx ry h
  obtain ⟨i, j, rfl, rfl, q⟩ := h
  obtain ⟨t, rfl⟩ := rx
  obtain ⟨t', rfl⟩ := ry
  exact rule i j t t' s _ _ ⟨.int (g i j), H, I.tok _, ⟨_, rfl⟩, q⟩
theorem opB0 {f : Value → Value → Sem Value} {g : Int → Int → Bool}
    (rule : ∀ (i j : Int) (t u : Tok) (s : Shared) (Q : Value → Shared → Prop) (E : Value → Shared → Prop), Q (.bool (g i j)) s → wpAny (model X.prog X.w) X.A (f (.int i t) (.int j u)) Q E s) :
    OpR X f (rI0 fun i j => .bl (g i j)) := by
  intro pins s σ H x y v u Q I rx ry h
  obtain ⟨i, j, rfl, rfl, q⟩ := h
  obtain ⟨t, rfl⟩ := rx
  obtain ⟨t', rfl⟩ := ry
  exact rule i j t t' s _ _ ⟨.bl (g i j), H, I, rfl, q⟩
def CPow (i j : Int) : Prop := 0 ≤ j ∧ j ≤ 1000000 ∧ i.natAbs < 2 ^ 64
def CMul (i j : Int) : Prop := (-(2 ^ 64) < i ∧ i < 2 ^ 64) ∨ (-(2 ^ 64) < j ∧ j < 2 ^ 64)
theorem CMul.ok {i j : Int} (h : CMul i j) : IntMulOk i j := by
  rcases h with ⟨h1, h2⟩ | ⟨h1, h2⟩
  · exact .of_left (intBits_le_64 h1 h2)
  · exact .of_right (intBits_le_64 h1 h2)
theorem op_add : OpR X (binaryOp .Add) (rI0 fun i j => .int (i + j)) := opI0 fun _ _ _ _ _ _ _ q => add_int q
theorem op_sub : OpR X (binaryOp .Sub) (rI0 fun i j => .int (i - j)) := opI0 fun _ _ _ _ _ _ _ q => sub_int q
theorem op_mul : OpR X (binaryOp .Mult) (rI CMul fun i j => .int (i * j)) := opI fun _ _ _ _ _ _ _ hc q => mul_int q hc.ok
theorem op_mod : OpR X (binaryOp .Mod) (rI (fun _ j => 0 < j) fun i j => .int (i % j)) := opI fun i j _ _ _ _ _ hc q => by
  have h1 : (0 : Int) < j := hc
  exact mod_int' (by omega) (by rw [Int.fmod_eq_emod_of_nonneg i (by omega)]; exact q)
theorem op_pow : OpR X (binaryOp .Pow) (rI CPow fun i j => .int (i ^ j.toNat)) := opI fun _ _ _ _ _ _ _ hc q => pow_int_small hc.1 hc.2.1 hc.2.2 q
theorem unI {f : Value → Sem Value} {g : Int → Int}
    (rule : ∀ (i : Int) (t : Tok) (s : Shared) (Q : Value → Shared → Prop) (E : Value → Shared → Prop), Q (.int (g i) s.toks) { s with toks := s.toks + 1 } → wpAny (model X.prog X.w) X.A (f (.int i t)) Q E s) :
    UnR X f (rU fun i => .int (g i)) := by
  intro pins s σ H x v Q I rx h
  obtain ⟨i, rfl, q⟩ := h
  obtain ⟨t, rfl⟩ := rx
  exact rule i t s _ _ ⟨.int (g i), H, I.tok _, ⟨_, rfl⟩, q⟩
theorem un_neg : UnR X (unaryOp .USub) (rU fun i => .int (-i)) := unI fun _ _ _ _ _ q => neg_int q
end
def scal : V → V → Bool
  | .non, .non => true | .non, .int _ => true | .int _, .non => true | .non, .bl _ => true | .bl _, .non => true | .non, .str _ => true | .str _, .non => true
  | .int _, .int _ => true | .bl _, .bl _ => true | .str _, .str _ => true | .byt _, .byt _ => true
  | .int _, .str _ => true | .str _, .int _ => true | .bl _, .str _ => true | .str _, .bl _ => true
  | _, _ => false
def rEq : R2 := fun x y H Q => scal x y = true ∧ Q (.bl (decide (x = y))) H
def rNe : R2 := fun x y H Q => scal x y = true ∧ Q (.bl (!decide (x = y))) H
theorem dec_int {i j : Int} : decide (V.int i = V.int j) = (i == j) := by
  rw [Bool.eq_iff_iff]
  simp
theorem dec_bl {i j : Bool} : decide (V.bl i = V.bl j) = (i == j) := by
  rw [Bool.eq_iff_iff]
  simp
theorem dec_str {i j : Str} : decide (V.str i = V.str j) = (i == j) := by
  rw [Bool.eq_iff_iff]
  simp
theorem dec_byt {i j : Array UInt8} : decide (V.byt i = V.byt j) = (i.toList == j.toList) := by
  rw [Bool.eq_iff_iff]
  cases i
  cases j
  simp
section
variable {X : Cx} {a b c : Expr} {ta tb tc : TE} {pos : Pos}
theorem fin_bl {pins : List (Addr × Obj)} {σ : St} {H : Hp} {s : Shared} {Q : VK} {k k' : Bool} (I : Inv X pins σ H s) (q : Q (.bl k) H) (e : k = k') : EP X pins σ Q (.bool k') s := by
  subst e
  exact ⟨.bl k, H, I, rfl, q⟩
theorem op_eq : OpR X (compareOp .Eq) rEq := by
  intro pins s σ H x y v u Q I rx ry h
  obtain ⟨hs, q⟩ := h
  cases x with
  | non =>
    cases rx
    cases y with
    | non => cases ry; exact PySem.EqNone.eq_none_none (fin_bl I q (by simp))
    | bl j => cases ry; exact PySem.EqNone.eq_none_bool (fin_bl I q (by simp))
    | int j => obtain ⟨t', rfl⟩ := ry; exact PySem.EqNone.eq_none_int (fin_bl I q (by simp))
    | str j => obtain ⟨t', rfl⟩ := ry; exact PySem.EqNone.eq_none_str (fin_bl I q (by simp))
    | _ => exact absurd (show false = true from hs) Bool.false_ne_true
  | bl i =>
    cases rx
    cases y with
    | non => cases ry; exact PySem.EqNone.eq_bool_none (fin_bl I q (by simp))
    | bl j => cases ry; exact eq_bool (fin_bl I q dec_bl)
    | str j => obtain ⟨t', rfl⟩ := ry; exact PySem.EqMixed.eq_bool_str (fin_bl I q (by simp))
    | _ => exact absurd (show false = true from hs) Bool.false_ne_true
  | int i =>
    obtain ⟨t, rfl⟩ := rx
    cases y with
    | non => cases ry; exact PySem.EqNone.eq_int_none (fin_bl I q (by simp))
    | int j => obtain ⟨t', rfl⟩ := ry; exact eq_int (fin_bl I q dec_int)
    | str j => obtain ⟨t', rfl⟩ := ry; exact PySem.EqMixed.eq_int_str (fin_bl I q (by simp))
    | _ => exact absurd (show false = true from hs) Bool.false_ne_true
  | str i =>
    obtain ⟨t, rfl⟩ := rx
    cases y with
    | non => cases ry; exact PySem.EqNone.eq_str_none (fin_bl I q (by simp))
    | bl j => cases ry; exact PySem.EqMixed.eq_str_bool (fin_bl I q (by simp))
    | int j => obtain ⟨t', rfl⟩ := ry; exact PySem.EqMixed.eq_str_int (fin_bl I q (by simp))
    | str j => obtain ⟨t', rfl⟩ := ry; exact eq_str (fin_bl I q dec_str)
    | _ => exact absurd (show false = true from hs) Bool.false_ne_true
  | byt i =>
    obtain ⟨t, rfl⟩ := rx
    cases y with
    | byt j => obtain ⟨t', rfl⟩ := ry; exact PySem.W.eq_bytes (fin_bl I q dec_byt)
    | _ => exact absurd (show false = true from hs) Bool.false_ne_true
  | _ => cases y <;> exact absurd (show false = true from hs) Bool.false_ne_true
theorem op_ne : OpR X (compareOp .NotEq) rNe := by
  intro pins s σ H x y v u Q I rx ry h
  obtain ⟨hs, q⟩ := h
  cases x with
  | non =>
    cases rx
    cases y with
    | non => cases ry; exact PySem.EqNone.ne_none_none (fin_bl I q (by simp))
    | bl j => cases ry; exact PySem.EqNone.ne_none_bool (fin_bl I q (by simp))
    | int j => obtain ⟨t', rfl⟩ := ry; exact PySem.EqNone.ne_none_int (fin_bl I q (by simp))
    | str j => obtain ⟨t', rfl⟩ := ry; exact PySem.EqNone.ne_none_str (fin_bl I q (by simp))
    | _ => exact absurd (show false = true from hs) Bool.false_ne_true
  | bl i =>
    cases rx
    cases y with
    | non => cases ry; exact PySem.EqNone.ne_bool_none (fin_bl I q (by simp))
    | bl j => cases ry; exact ne_bool (fin_bl I q (congrArg not dec_bl))
    | str j => obtain ⟨t', rfl⟩ := ry; exact PySem.EqMixed.ne_bool_str (fin_bl I q (by simp))
    | _ => exact absurd (show false = true from hs) Bool.false_ne_true
  | int i =>
    obtain ⟨t, rfl⟩ := rx
    cases y with
    | non => cases ry; exact PySem.EqNone.ne_int_none (fin_bl I q (by simp))
    | int j => obtain ⟨t', rfl⟩ := ry; exact ne_int (fin_bl I q (congrArg not dec_int))
    | str j => obtain ⟨t', rfl⟩ := ry; exact PySem.EqMixed.ne_int_str (fin_bl I q (by simp))
    | _ => exact absurd (show false = true from hs) Bool.false_ne_true
  | str i =>
    obtain ⟨t, rfl⟩ := rx
    cases y with
    | non => cases ry; exact PySem.EqNone.ne_str_none (fin_bl I q (by simp))
    | bl j => cases ry; exact PySem.EqMixed.ne_str_bool (fin_bl I q (by simp))
    | int j => obtain ⟨t', rfl⟩ := ry; exact PySem.EqMixed.ne_str_int (fin_bl I q (by simp))
    | str j => obtain ⟨t', rfl⟩ := ry; exact ne_str (fin_bl I q (congrArg not dec_str))
    | _ => exact absurd (show false = true from hs) Bool.false_ne_true
  | byt i =>
    obtain ⟨t, rfl⟩ := rx
    cases y with
    | byt j => obtain ⟨t', rfl⟩ := ry; exact PySem.W.ne_bytes (fin_bl I q (congrArg not dec_byt))
    | _ => exact absurd (show false = true from hs) Bool.false_ne_true
  | _ => cases y <;> exact absurd (show false = true from hs) Bool.false_ne_true
theorem op_lt : OpR X (compareOp .Lt) (rI0 fun i j => .bl (decide (i < j))) := opB0 fun _ _ _ _ _ _ _ q => lt_int q
theorem op_le : OpR X (compareOp .LtE) (rI0 fun i j => .bl (decide (i ≤ j))) := opB0 fun _ _ _ _ _ _ _ q => le_int q
theorem op_gt : OpR X (compareOp .Gt) (rI0 fun i j => .bl (decide (j < i))) := opB0 fun _ _ _ _ _ _ _ q => gt_int q
theorem OpR.or {f : Value → Value → Sem Value} {r r' : R2} (h : OpR X f r) (h' : OpR X f r') : OpR X f (fun x y H Q => r x y H Q ∨ r' x y H Q) := by
  intro pins s σ H x y v u Q I rx ry q
  rcases q with q | q
  · exact h pins s σ H x y v u Q I rx ry q
  · exact h' pins s σ H x y v u Q I rx ry q
theorem nomark (b : Expr) {op : CmpOp} (h : op ≠ .In := by decide) (h2 : op ≠ .NotIn := by decide) : behindInMarks op b = false := by
  have e1 : (op == CmpOp.In) = false := by cases op <;> first | rfl | exact absurd rfl h
  have e2 : (op == CmpOp.NotIn) = false := by cases op <;> first | rfl | exact absurd rfl h2
  cases b <;> simp [behindInMarks, e1, e2]
theorem pe_cmpR {op : CmpOp} {r : R2} (ho : OpR X (compareOp op) r) (ha : PE X a ta) (hb : PE X b tb) (hm : behindInMarks op b = false) : PE X (.Compare a [op] [b] pos) (tOp r ta tb) := by
  intro pins s σ H Q I h
  exact wpAny_Compare1 (binT ha hb I h fun v u s2 x y H2 I2 rx ry q => ho pins s2 σ H2 x y v u Q I2 rx ry q) hm
def tTest (t : TE) : TT := fun σ H Q => t σ H fun x H' => ∃ k, x = .bl k ∧ Q k H'
theorem pt_cmpR {op : CmpOp} {r : R2} (ho : OpR X (compareOp op) r) (ha : PE X a ta) (hb : PE X b tb) (hm : behindInMarks op b = false) : PT X (.Compare a [op] [b] pos) (tTest (tOp r ta tb)) := by
  intro pins s σ H Q I h
  refine wpAny_isTrue_Compare1 (thn (ha pins s σ H _ I h) fun v s1 ⟨x, H1, I1, r1, q1⟩ => thn (hb pins s1 σ H1 _ I1 q1) fun u s2 ⟨y, H2, I2, r2, q2⟩ =>
    thn (ho pins s2 σ H2 x y v u _ I2 r1 r2 q2) fun c s3 ⟨z, H3, I3, r3, k, e, q3⟩ => ?_) hm
  subst e
  cases r3
  exact wpAny_truthy_bool ⟨H3, I3, q3⟩
def tChain (r r' : R2) (ta tb tc : TE) : TE := fun σ H Q => ta σ H fun x H1 => tb σ H1 fun y H2 => r x y H2 fun z H3 => ∃ k, z = .bl k ∧
  (if k = true then tc σ H3 fun w' H4 => r' y w' H4 Q else Q (.bl false) H3)
theorem pt_chain {op op' : CmpOp} {r r' : R2} (ho : OpR X (compareOp op) r) (ho' : OpR X (compareOp op') r') (ha : PE X a ta) (hb : PE X b tb) (hc : PE X c tc)
    (hm : lastMarks [op, op'] [b, c] = false := by with_unfolding_all rfl) : PT X (.Compare a [op, op'] [b, c] pos) (tTest (tChain r r' ta tb tc)) := by
  intro pins s σ H Q I h
  refine isTrue_chain (thn (ha pins s σ H _ I h) fun v s1 ⟨x, H1, I1, r1, q1⟩ => test_link (thn (hb pins s1 σ H1 _ I1 q1) fun u s2 ⟨y, H2, I2, r2, q2⟩ =>
    thn (ho pins s2 σ H2 x y v u _ I2 r1 r2 q2) fun d s3 ⟨z, H3, I3, r3, k, e, q3⟩ => ?_)) hm
  subst e
  cases r3
  refine wpAny_truthy_bool ?_
  cases k with
  | false =>
    obtain ⟨k', e', q'⟩ := q3
    cases e'
    exact ite_ff ⟨H3, I3, q'⟩
  | true =>
    refine ite_tt (test_last (thn (hc pins s3 σ H3 _ I3 q3) fun w' s4 ⟨z', H4, I4, r4, q4⟩ => thn (ho' pins s4 σ H4 y z' u w' _ I4 r2 r4 q4) fun d' s5 ⟨z2, H5, I5, r5, k2, e2, q5⟩ => ?_))
    subst e2
    cases r5
    exact wpAny_truthy_bool ⟨H5, I5, q5⟩
def TruV (K : PySem.W.Frag) (x : V) (H : Hp) (k : Bool) : Prop :=
  match x with
  | .non => k = false
  | .bl b => k = b
  | .int i => k = (i != 0)
  | .str y => y.length ≤ sizeLine ∧ k = ((y.length : Int) != 0)
  | .byt y => y.size ≤ sizeLine ∧ k = ((y.size : Int) != 0)
  | .ref p => (∃ xs, SqL K H p xs ∧ k = !xs.isEmpty) ∨ (∃ xs, SqT K H p xs ∧ k = !xs.isEmpty) ∨ ∃ kvs, H p = some (.dK kvs) ∧ k = !kvs.isEmpty
  | _ => False
theorem isEmpty_kv {κ : Type} {kvs : List (κ × V)} {vs : List (κ × Value)} (r : KV kvs vs) : (!vs.isEmpty) = !kvs.isEmpty := by
  cases r <;> rfl
theorem isEmpty_of {xs : List V} {its : List Value} (r : Vals xs its) : (!its.toArray.isEmpty) = !xs.isEmpty := by
  cases r <;> simp
theorem line63 : (sizeLine : Nat) < 2 ^ 63 := by rw [sizeLine_eq]; decide
theorem tru_ok : TruR X (fun x H Q => ∃ k, TruV X.K x H k ∧ Q k H) := by
  intro pins s σ H x v Q I rx h
  obtain ⟨k, e, q⟩ := h
  have hl := line63
  have hs : sizeLine = 16777216 := sizeLine_eq
  cases x with
  | non =>
    cases rx
    have e' : k = false := e
    subst e'
    exact truthy_none ⟨H, I, q⟩
  | bl b =>
    cases rx
    have e' : k = b := e
    subst e'
    exact wpAny_truthy_bool ⟨H, I, q⟩
  | int i =>
    obtain ⟨t, rfl⟩ := rx
    have e' : k = (i != 0) := e
    subst e'
    exact PySem.P.truthy_int ⟨H, I, q⟩
  | str y =>
    obtain ⟨t, rfl⟩ := rx
    obtain ⟨hy, e'⟩ : y.length ≤ sizeLine ∧ k = ((y.length : Int) != 0) := e
    subst e'
    exact PySem.P.truthy_str (by omega) ⟨H, I.tok _, q⟩
  | byt y =>
    obtain ⟨t, rfl⟩ := rx
    obtain ⟨hy, e'⟩ : y.size ≤ sizeLine ∧ k = ((y.size : Int) != 0) := e
    subst e'
    exact PySem.W.truthy_bytes (by omega) ⟨H, I.tok _, q⟩
  | ref p =>
    cases rx
    have e' : (∃ xs, SqL X.K H p xs ∧ k = !xs.isEmpty) ∨ (∃ xs, SqT X.K H p xs ∧ k = !xs.isEmpty) ∨ ∃ kvs, H p = some (.dK kvs) ∧ k = !kvs.isEmpty := e
    rcases e' with ⟨xs, hx, e'⟩ | ⟨xs, hx, e'⟩ | ⟨kvs, hx, e'⟩
    · subst e'
      obtain ⟨its, r, pl, hz⟩ := I.list hx
      have hlen := r.length
      exact wpAny_truthy_list pl.isList (by simp only [List.size_toArray]; omega) ⟨H, I.tok _, by rw [isEmpty_of r]; exact q⟩
    · subst e'
      obtain ⟨its, r, pl, hz⟩ := I.tuple hx
      have hlen := r.length
      exact truthy_tuple pl (by simp only [List.size_toArray]; omega) ⟨H, I.tok _, by rw [isEmpty_of r]; exact q⟩
    · subst e'
      obtain ⟨hz, hS, vs, r, m⟩ : kvs.length ≤ sizeLine ∧ (p == sysModules) = false ∧ ∃ vs, KV kvs vs ∧ s.heap.DictOf (mixKind X.prog X.w) p vs := I.hok p _ hx
      have hlen : kvs.length = vs.length := Paired.length r
      exact wpAny_truthy_dict hS m (by omega) ⟨H, I.tok _, by rw [isEmpty_kv r]; exact q⟩
  | _ => exact (show False from e).elim
theorem pt_truth (ha : PE X a ta) (he : ∀ whole, isTrue a X.env whole = (do let v ← whole; standAt a.pos; holding [v] (truthy v))) :
    PT X a (fun σ H Q => ta σ H fun x H' => ∃ k, TruV X.K x H' k ∧ Q k H') := by
  intro pins s σ H Q I h
  exact isTrue_plain (thn (ha pins s σ H _ I h) fun v s1 ⟨x, H1, I1, r1, q1⟩ => tru_ok pins s1 σ H1 x v Q I1 r1 q1) (he _)
theorem vals1 {x : V} {us : List Value} (r : Vals [x] us) : ∃ u, us = [u] ∧ RelV x u := by
  cases r with
  | cons r1 r2 => cases r2; exact ⟨_, rfl, r1⟩
theorem vals2 {x y : V} {us : List Value} (r : Vals [x, y] us) : ∃ u w', us = [u, w'] ∧ RelV x u ∧ RelV y w' := by
  cases r with
  | cons r1 r2 =>
    cases r2 with
    | cons r3 r4 => cases r4; exact ⟨_, _, rfl, r1, r3⟩
theorem call_abs : CallR X (.builtin "abs") (fun xs H Q => ∃ i, xs = [.int i] ∧ Q (.int (if i < 0 then -i else i)) H) := by
  intro pins s σ H xs us Q I r h
  obtain ⟨i, rfl, q⟩ := h
  obtain ⟨u, rfl, t, rfl⟩ := vals1 r
  exact call_abs_int fun u tk => ⟨.int (if i < 0 then -i else i), H, I.tok _, ⟨_, rfl⟩, q⟩
end
end L2
namespace L2
open PySem PySem.Spec PyProof.Rows
structure ObjM (h : Heap) (x dx C : Addr) (mA : Str → Option Value) : Prop where
  obj : h.get? x = some (PySem.W.instObj C dx)
  ns : h.Ns1 dx mA
  ne : dx ≠ x
theorem lookIn_ns {h : Heap} {dx : Addr} {mA : Str → Option Value} (n : h.Ns1 dx mA) : ∃ od, h.get? dx = some od ∧ ∀ name, PySem.W.lookIn name od = some (mA name) := by
  obtain ⟨o, es, ep, ho, hd, hk, _, hm⟩ := n
  refine ⟨o, ho, fun name => ?_⟩
  have e := hm name
  unfold nsFind findBy at e
  rw [← Array.find?_toList] at e
  unfold PySem.W.lookIn
  rw [hd]
  dsimp only
  split
  · rename_i y q
    rw [q] at e
    exact congrArg some e
  · rename_i q
    rw [q] at e
    have a : es.toList.any (·.refKey) = false := by
      rw [List.any_eq_false]
      intro y hy
      obtain ⟨z, t, hkey⟩ := hk y (Array.mem_toList_iff.mp hy)
      simp [DictEntry.refKey, hkey]
    have a' : ¬ es.toList.any (·.refKey) = true := by rw [a]; exact Bool.false_ne_true
    rw [if_neg a']
    exact congrArg some e
theorem ObjM.look {h : Heap} {x dx C : Addr} {mA : Str → Option Value} (I : ObjM h x dx C mA) : ∃ od, PySem.W.InstAt h x (PySem.W.instObj C dx) C (some od) ∧ ∀ name, PySem.W.lookIn name od = some (mA name) :=
  let ⟨od, ho, hl⟩ := lookIn_ns I.ns
  ⟨od, ⟨I.obj, rfl, rfl, ho⟩, hl⟩
section
variable {prog : Program} {w : World} {A : Around} {E : Value → Shared → Prop} {s : Shared} {K : PySem.W.Frag} {x dx C f : Addr} {mA : Str → Option Value} {name : Str} {v : Value}
theorem get_map {expr : Bool} {Q : Value → Shared → Prop} (X : K.In s.heap) (I : ObjM s.heap x dx C mA) (hg : PySem.W.plainGet K C name = true) (hh : PySem.W.hasDictIn K C = true)
    (ha : PySem.W.findIn K (.ref C) name = some none) (hv : mA name = some v) (hv' : PySem.W.handedIn v = true) (h : Q v { s with toks := s.toks + 1 }) :
    wpAny (model prog w) A (getAttr (.ref x) name expr) Q E s := by
  obtain ⟨od, J, hl⟩ := I.look
  exact PySem.W.get_value X J (PySem.W.plainGet_of hg).1 (PySem.W.findObj_own hh ha rfl (by rw [hl, hv])) hv' h
theorem set_map {ns : List Str} {Q : Unit → Shared → Prop} (X : K.In s.heap) (I : ObjM s.heap x dx C mA)
    (hs : PySem.W.findIn K (.ref C) "__setattr__" = some (some (.builtin "object.__setattr__"))) (hp : PySem.W.plainOver K C = true) (ht : PySem.W.takerIn K C name = some none) (hh : PySem.W.hasDictIn K C = true)
    (hw : PySem.Within mA ns) (hsz : ns.length ≤ sizeLine)
    (h : ∀ h', ObjM h' x dx C (fun y => if y = name then some v else mA y) → Heap.SameBut dx s.heap h' → Q () { s with heap := h', toks := s.toks + 2 }) :
    wpAny (model prog w) A (setAttr (.ref x) name v) Q E s := by
  obtain ⟨od, J, hl⟩ := I.look
  refine PySem.W.set_plain X J hs (PySem.W.osa_open (s := { s with toks := s.toks + 1 }) (r := none) X J hp ht fun b => ?_)
  obtain ⟨cd, hc, hd'⟩ := PySem.W.any_some hh
  have hx : s.heap.get? x = some ⟨.ref C, some dx, .plain, #[]⟩ := I.obj
  refine wpAny_bind (wpAny_pure (wpAny_bind (wpAny_bind (wpAny_loadPart hx (wpAny_bind (PySem.W.Looks.here (s := { s with toks := s.toks + 1 }) (PySem.W.looks_clsIn X hc) ?_))))))
  rw [hd']
  refine wpAny_pure (a := some dx) (wpAny_bind (wpAny_pure (wpAny_bind ?_)))
  refine wpAny_nsSet1 (s := { s with toks := s.toks + 1 }) I.ns fun h' hn2 hs2 => ?_
  obtain ⟨oD, esD, epD, hoD, hdD, hcD⟩ := hn2.count (PySem.Within.cons name v hw)
  refine wpAny_bind (wpAny_lookBehind hoD (by rw [hdD]; exact pastItsLine_dict (Nat.le_trans hcD (by rw [List.length_cons]; omega))) ?_)
  exact wpAny_pure (h _ ⟨(hs2.2 _ (Ne.symm I.ne)).trans I.obj, hn2, I.ne⟩ hs2)
theorem make_map {R : Result → Shared → Prop} {vs : List Value} {kw : List (Str × Value)} (X : K.In s.heap) (hm : PySem.W.makesIn K C = true)
    (hi : PySem.W.findIn K (.ref C) "__init__" = some (some (.ref f))) (hf : PySem.W.typeIn K (.ref f) = some (.type "function"))
    (h : codeAny (model prog w) (A.under (.builtin "type.__call__" ⟨.ref C :: vs, kw⟩)) (.call (.ref f) ⟨.ref (s.heap.objs.size + 1) :: vs, kw⟩) (PySem.W.InitBack (s.heap.objs.size + 1) R)
      { s with heap := (s.heap.push PySem.W.emptyDict).push (PySem.W.instObj C s.heap.objs.size) }) :
    codeAny (model prog w) A (.call (.ref C) ⟨vs, kw⟩) R s := by
  obtain ⟨hh, g, d, t, os⟩ := s
  exact PySem.W.make_core (PySem.W.makes_of X hm) (PySem.W.looks_findIn X hi) (fun self => PySem.W.bind_fn X self hf) (.inl rfl) h
end
def putF (f : Str) (v : V) : List (Str × V) → List (Str × V)
  | [] => [(f, v)]
  | (g, x) :: r => if g = f then (g, v) :: r else (g, x) :: putF f v r
theorem lookup_putF (f g : Str) (v : V) : ∀ fs : List (Str × V), (putF f v fs).lookup g = if g = f then some v else fs.lookup g
  | [] => by
    show List.lookup g [(f, v)] = _
    by_cases h : g = f
    · have hb : (g == f) = true := beq_iff_eq.mpr h
      simp only [List.lookup, hb, if_pos h]
    · have hb : (g == f) = false := beq_eq_false_iff_ne.mpr h
      simp only [List.lookup, hb, if_neg h]
  | (k, x) :: r => by
    have ih := lookup_putF f g v r
    rw [show putF f v ((k, x) :: r) = (if k = f then (k, v) :: r else (k, x) :: putF f v r) from rfl]
    by_cases hk : k = f
    · rw [if_pos hk]
      by_cases h : g = k
      · have hb : (g == k) = true := beq_iff_eq.mpr h
        simp only [List.lookup, hb, if_pos (h.trans hk)]
      · have hb : (g == k) = false := beq_eq_false_iff_ne.mpr h
        simp only [List.lookup, hb, if_neg (fun e : g = f => h (e.trans hk.symm))]
    · rw [if_neg hk]
      by_cases h : g = k
      · have hb : (g == k) = true := beq_iff_eq.mpr h
        simp only [List.lookup, hb, if_neg (fun e : g = f => hk (h.symm.trans e))]
      · have hb : (g == k) = false := beq_eq_false_iff_ne.mpr h
        simp only [List.lookup, hb]
        exact ih
theorem keys_putF (f : Str) (v : V) : ∀ fs : List (Str × V), f ∈ (putF f v fs).map (·.1) ∧ ∀ g, g ∈ fs.map (·.1) → g ∈ (putF f v fs).map (·.1)
  | [] => ⟨by simp [putF], fun g h => by simp at h⟩
  | (k, x) :: r => by
    obtain ⟨i1, i2⟩ := keys_putF f v r
    rw [show putF f v ((k, x) :: r) = (if k = f then (k, v) :: r else (k, x) :: putF f v r) from rfl]
    by_cases hk : k = f
    · rw [if_pos hk]
      subst hk
      exact ⟨by simp, fun g h => by simpa using h⟩
    · rw [if_neg hk]
      refine ⟨?_, fun g h => ?_⟩
      · rw [List.map_cons]
        exact List.mem_cons_of_mem _ i1
      · rw [List.map_cons] at h ⊢
        rcases List.mem_cons.mp h with e | e
        · exact List.mem_cons.mpr (.inl e)
        · exact List.mem_cons_of_mem _ (i2 g e)
theorem length_putF (f : Str) (v : V) : ∀ fs : List (Str × V), (putF f v fs).length ≤ fs.length + 1
  | [] => by simp [putF]
  | (k, x) :: r => by
    have ih := length_putF f v r
    rw [show putF f v ((k, x) :: r) = (if k = f then (k, v) :: r else (k, x) :: putF f v r) from rfl]
    by_cases hk : k = f
    · rw [if_pos hk, List.length_cons, List.length_cons]; omega
    · rw [if_neg hk, List.length_cons, List.length_cons]; omega
theorem RelO.some_of {v : V} {o : Option Value} (r : RelO (some v) o) : ∃ u, o = some u ∧ RelV v u := by
  cases o with
  | none => exact (show False from r).elim
  | some u => exact ⟨u, rfl, r⟩
theorem handed_of {v : V} {u : Value} (r : RelV v u) : PySem.W.handedIn u = true := by
  cases v with
  | non => cases (show u = Value.none from r); rfl
  | bl b => cases (show u = Value.bool b from r); rfl
  | int i => obtain ⟨t, e⟩ := (show ∃ t, u = Value.int i t from r); cases e; rfl
  | str x => obtain ⟨t, e⟩ := (show ∃ t, u = Value.str x t from r); cases e; rfl
  | byt b => obtain ⟨t, e⟩ := (show ∃ t, u = Value.bytes b t from r); cases e; rfl
  | flt b => obtain ⟨t, e⟩ := (show ∃ t, u = Value.float b t from r); cases e; rfl
  | ref a => cases (show u = Value.ref a from r); rfl
  | ty n => cases (show u = Value.type n from r); rfl
section
variable {P : Program} {w : World} {H H' : Hp} {h h' : Heap} {a C dx : Addr} {fs fs' : List (Str × V)}
theorem ins_get (hok : HOk P w H h) (e : H a = some (.ins C dx fs)) : ∃ mA, ObjM h a dx C mA ∧ (∀ f, RelO (fs.lookup f) (mA f)) ∧ PySem.Within mA (fs.map (·.1)) ∧ fs.length ≤ 1000 ∧ H dx = some (.own a) := by
  obtain ⟨d, z, ne, ob, mA, n, r, q⟩ := (show ObjOk P w H h a (.ins C dx fs) from hok a _ e)
  exact ⟨mA, ⟨ob, n, ne⟩, r, q, z, d⟩
end
structure Cls (K : PySem.W.Frag) (C : Addr) : Prop where
  pg : PySem.W.plainGet K C Str.empty = true
  hd : PySem.W.hasDictIn K C = true
  po : PySem.W.plainOver K C = true
  sa : PySem.W.findIn K (.ref C) "__setattr__" = some (some (.builtin "object.__setattr__"))
theorem Cls.get {K : PySem.W.Frag} {C : Addr} (c : Cls K C) (f : Str) : PySem.W.plainGet K C f = true := c.pg
def NoAttr (K : PySem.W.Frag) (C : Addr) (f : Str) : Prop := PySem.W.findIn K (.ref C) f = some none
theorem NoAttr.taker {K : PySem.W.Frag} {C : Addr} {f : Str} (n : NoAttr K C f) : PySem.W.takerIn K C f = some none := by
  unfold PySem.W.takerIn
  rw [show PySem.W.findIn K (.ref C) f = some none from n]
  rfl
structure Con (K : PySem.W.Frag) (C : Addr) (f : Str) (v : V) (u : Value) : Prop where
  at_ : PySem.W.findIn K (.ref C) f = some (some u)
  rel : RelV v u
  get : PySem.W.specialIn K u "__get__" = some none
  cp : PySem.W.copiedNames.contains f = false
structure Meth (K : PySem.W.Frag) (C : Addr) (m : Str) (f : Addr) : Prop where
  at_ : PySem.W.findIn K (.ref C) m = some (some (.ref f))
  fn : PySem.W.isFn K (.ref f) = true
  kp : PySem.W.keepIn K (.ref f) = true
section
variable {X : Cx} {pins : List (Addr × Obj)} {σ : St} {H : Hp} {s : Shared} {a C dx : Addr} {fs : List (Str × V)} {f : Str} {v : V} {A : Around} {E : Value → Shared → Prop}
theorem getattr_ok {b : Bool} {Q : Value → Shared → Prop} (I : Inv X pins σ H s) (e : H a = some (.ins C dx fs)) (c : Cls X.K C) (n : NoAttr X.K C f) (l : fs.lookup f = some v)
    (h : ∀ u s', Inv X pins σ H s' → RelV v u → Q u s') : wpAny (model X.prog X.w) A (getAttr (.ref a) f b) Q E s := by
  obtain ⟨mA, O, r, _, _, _⟩ := ins_get I.hok e
  obtain ⟨u, hu, ru⟩ := RelO.some_of (v := v) (o := mA f) (by rw [← l]; exact r f)
  exact get_map I.kIn O (c.get f) c.hd n hu (handed_of ru) (h u _ (I.tok _) ru)
theorem setattr_ok {y : V} {u : Value} {Q : Unit → Shared → Prop} (I : Inv X pins σ H s) (e : H a = some (.ins C dx fs)) (c : Cls X.K C) (n : NoAttr X.K C f) (hl : fs.length < 1000) (ry : RelV y u)
    (h : ∀ s', Inv X pins σ (upd H a (.ins C dx (putF f y fs))) s' → Q () s') : wpAny (model X.prog X.w) A (setAttr (.ref a) f u) Q E s := by
  obtain ⟨mA, O, r, wi, _, ho⟩ := ins_get I.hok e
  have hz : (fs.map (·.1)).length ≤ sizeLine := by rw [List.length_map, sizeLine_eq]; omega
  refine set_map I.kIn O c.sa c.po n.taker c.hd wi hz fun h' O' sb => h _ ?_
  have hd : ∃ o, h'.get? dx = some o := let ⟨o, _, _, e', _⟩ := O'.ns; ⟨o, e'⟩
  refine I.write (x := a) (e := dx) (by rw [e]; exact True.intro) (.inr ho) (fun b q hb z => (sb.2 b hb).trans z) hd ?_
  refine ⟨by rw [upd_ne O.ne]; exact ho, ?_, O.ne, O'.obj, _, O'.ns, fun g => ?_, fun g hg => ?_⟩
  · have := length_putF f y fs; omega
  · show RelO ((putF f y fs).lookup g) (if g = f then some u else mA g)
    rw [lookup_putF]
    by_cases q : g = f
    · rw [if_pos q, if_pos q]; exact ry
    · rw [if_neg q, if_neg q]; exact r g
  · by_cases q : g = f
    · rw [q]; exact (keys_putF f y fs).1
    · refine (keys_putF f y fs).2 g (wi g fun z => hg ?_)
      show (if g = f then some u else mA g) = none
      rw [if_neg q]; exact z
theorem Inv.made (I : Inv X pins σ H s) : Inv X pins σ (upd (upd H s.heap.objs.size (.own (s.heap.objs.size + 1))) (s.heap.objs.size + 1) (.ins C s.heap.objs.size []))
    { s with heap := (s.heap.push PySem.W.emptyDict).push (PySem.W.instObj C s.heap.objs.size) } := by
  have e1 : (s.heap.push PySem.W.emptyDict).get? s.heap.objs.size = some PySem.W.emptyDict := Heap.get?_push_size s.heap rfl
  have e2 : ((s.heap.push PySem.W.emptyDict).push (PySem.W.instObj C s.heap.objs.size)).get? (s.heap.objs.size + 1) = some (PySem.W.instObj C s.heap.objs.size) := by
    have := Heap.get?_push_size (s.heap.push PySem.W.emptyDict) (o := PySem.W.instObj C s.heap.objs.size) rfl
    rwa [Heap.size_push] at this
  have e3 : (s.heap.push PySem.W.emptyDict).Ns s.heap.objs.size (fun _ => none) := ⟨PySem.W.emptyDict, #[], _, e1, rfl, (fun e he => absurd he (by simp)), fun _ => rfl⟩
  have I1 := I.laid (a := s.heap.objs.size) (o := .own (s.heap.objs.size + 1)) (h' := s.heap.push PySem.W.emptyDict) (t' := s.toks) (fun b u q => Heap.get?_push_of_some _ q) (Nat.le_refl _) ⟨_, e1⟩
  refine I1.laid (a := s.heap.objs.size + 1) (o := .ins C s.heap.objs.size []) (t' := s.toks) (fun b u q => Heap.get?_push_of_some _ q) (Nat.le_of_eq (Heap.size_push _ _)) ?_
  have ne : s.heap.objs.size ≠ s.heap.objs.size + 1 := Nat.ne_of_lt (Nat.lt_succ_self _)
  refine ⟨by rw [upd_ne ne, upd_same], Nat.zero_le _, ne, e2, fun _ => none, (Heap.Ns1.of_empty e3).at fun o q => Heap.get?_push_of_some _ q, fun _ => True.intro, fun y hy => absurd rfl hy⟩
theorem attr_of {prog : Program} {w : World} {env : Env} {e : Expr} {f : Str} {pos : Pos} {s : Shared} {Q : Value → Shared → Prop} (hb : attributeBase e f env (eval e env) = eval e env)
    (h : wpAny (model prog w) A (eval e env) (fun o s₁ => wpAny (model prog w) A (getAttr o f true) Q E s₁) E s) : wpAny (model prog w) A (eval (.Attribute e f pos) env) Q E s :=
  Attribute_any_ h (by rw [arm_eval_Attribute, hb])
end
def sFld (K : PySem.W.Frag) (ta tv : TE) (f : Str) : TS := fun D σ H => tv σ H fun y H1 => ta σ H1 fun x H2 => ∃ a C dx fs, x = .ref a ∧ H2 a = some (.ins C dx fs) ∧ Cls K C ∧ NoAttr K C f ∧ fs.length < 1000 ∧
  D.nx σ (upd H2 a (.ins C dx (putF f y fs)))
section
variable {X : Cx} {o e value : Expr} {f : Str} {pos pos' tpos : Pos} {ta tv : TE}
theorem ps_fld (ha : PE X o ta) (hv : PE X value tv) (hs : swapsWith value (some (.Attribute o f pos')) pos.line X.env = pure false) : PS X (.Assign [.Attribute o f pos'] value pos) (sFld X.K ta tv f) := by
  intro pins s σ H D I h
  refine plainObj_wpAny_Assign_Attribute (thn (hv pins s σ H _ I h) fun u s1 ⟨y, H1, I1, ry, q⟩ => thn (ha pins s1 σ H1 _ I1 q) fun ov s2 ⟨x, H2, I2, rx, a, C, dx, fs, ex, ea, c, n, l, q2⟩ => ?_) hs
  subst ex
  obtain rfl : ov = Value.ref a := rx
  exact setattr_ok I2 ea c n l ry fun s3 I3 => ⟨σ, _, I3, q2⟩
end
section
variable {X : Cx} {pins : List (Addr × Obj)} {σ : St} {H : Hp} {s : Shared} {A : Around} {E : Value → Shared → Prop} {Q : Value → Shared → Prop} {c : Value} {b : Bool}
inductive TyOf (K : PySem.W.Frag) (H : Hp) : V → Value → Prop where
  | non : TyOf K H .non (.type "NoneType")
  | bl (x : Bool) : TyOf K H (.bl x) (.type "bool")
  | int (i : Int) : TyOf K H (.int i) (.type "int")
  | str (x : Str) : TyOf K H (.str x) (.type "str")
  | flt (x : UInt64) : TyOf K H (.flt x) (.type "float")
  | lst {a : Addr} {xs : List V} (e : H a = some (.lst xs)) : TyOf K H (.ref a) (.type "list")
  | frz {a : Addr} {o : Obj} {xs : List V} (e : H a = some (.frz o (.lst xs))) : TyOf K H (.ref a) (.type "list")
  | tup {a : Addr} {xs : List V} (e : H a = some (.tup xs)) : TyOf K H (.ref a) (.type "tuple")
  | dK {a : Addr} {kvs : List (Key × V)} (e : H a = some (.dK kvs)) : TyOf K H (.ref a) (.type "dict")
  | dT {a : Addr} {kvs : List (List Key × V)} (e : H a = some (.dT kvs)) : TyOf K H (.ref a) (.type "dict")
  | ins {a C dx : Addr} {fs : List (Str × V)} (e : H a = some (.ins C dx fs)) (cl : Cls K C) (ha : PySem.W.findIn K (.ref C) "__class__" = some (some (.builtin "object.__class__")))
      (hn : PySem.W.specialIn K (.builtin "object.__class__") "__get__" = some (some (.builtin "getset_descriptor.__get__"))) (htk : PySem.W.takesIn K (.builtin "object.__class__") = some true)
      (hm : PySem.W.mroIn K C (.type "object") = some true) : TyOf K H (.ref a) (.ref C)
theorem isinst_ok {x : V} {u t : Value} (I : Inv X pins σ H s) (rx : RelV x u) (ty : TyOf X.K H x t) (e : PySem.W.kitOne X.K t c = some b) (h : ∀ tk, Q (.bool b) { s with toks := tk }) :
    wpAny (model X.prog X.w) A (call (.builtin "isinstance") [u, c]) Q E s := by
  cases ty with
  | non => cases (show u = Value.none from rx); exact PySem.W.kia_one PySem.W.kitx_none I.kIn True.intro e (fun z => nomatch z) h
  | bl y => cases (show u = Value.bool y from rx); exact PySem.W.kia_one PySem.W.kitx_bool I.kIn True.intro e (fun z => nomatch z) h
  | int i => obtain ⟨t, q⟩ := (show ∃ t, u = Value.int i t from rx); cases q; exact PySem.W.kia_one PySem.W.kitx_int I.kIn True.intro e (fun z => nomatch z) h
  | str y => obtain ⟨t, q⟩ := (show ∃ t, u = Value.str y t from rx); cases q; exact PySem.W.kia_one PySem.W.kitx_str I.kIn True.intro e (fun z => nomatch z) h
  | flt y => obtain ⟨t, q⟩ := (show ∃ t, u = Value.float y t from rx); cases q; exact PySem.W.kia_one PySem.W.kitx_float I.kIn True.intro e (fun z => nomatch z) h
  | @lst a xs ea =>
    cases (show u = Value.ref a from rx)
    obtain ⟨_, _, n, _, h1⟩ := (show ObjOk X.prog X.w H s.heap a (.lst xs) from I.hok a _ ea)
    exact PySem.W.kia_one PySem.W.kitx_list I.kIn ⟨_, h1, rfl⟩ e (fun z => nomatch z) h
  | @frz a ob xs ea =>
    cases (show u = Value.ref a from rx)
    obtain ⟨_, _, _, n, _, h1⟩ := (show ObjOk X.prog X.w H s.heap a (.frz ob (.lst xs)) from I.hok a _ ea)
    exact PySem.W.kia_one PySem.W.kitx_list I.kIn ⟨_, h1, rfl⟩ e (fun z => nomatch z) h
  | @tup a xs ea =>
    cases (show u = Value.ref a from rx)
    obtain ⟨_, _, _, p⟩ := (show ObjOk X.prog X.w H s.heap a (.tup xs) from I.hok a _ ea)
    obtain ⟨o, h1, h2, _⟩ := p
    exact PySem.W.kia_one PySem.W.kitx_tuple I.kIn ⟨o, h1, h2⟩ e (fun z => nomatch z) h
  | @dK a kvs ea =>
    cases (show u = Value.ref a from rx)
    obtain ⟨_, _, vs, _, p⟩ := (show ObjOk X.prog X.w H s.heap a (.dK kvs) from I.hok a _ ea)
    obtain ⟨o, es, ep, h1, h2, _⟩ := p
    exact PySem.W.kia_one PySem.W.kitx_dict I.kIn ⟨o, h1, h2.1⟩ e (fun z => nomatch z) h
  | @dT a kvs ea =>
    cases (show u = Value.ref a from rx)
    obtain ⟨_, _, xs, _, o, es, ep, h1, h2, _⟩ := (show ObjOk X.prog X.w H s.heap a (.dT kvs) from I.hok a _ ea)
    exact PySem.W.kia_one PySem.W.kitx_dict I.kIn ⟨o, h1, h2.1⟩ e (fun z => nomatch z) h
  | @ins a C dx fs ea cl ha hn htk hm =>
    cases (show u = Value.ref a from rx)
    obtain ⟨mA, O, _⟩ := ins_get I.hok ea
    obtain ⟨od, J, _⟩ := O.look
    exact PySem.W.kia_one (PySem.W.kitx_own (cl.get _) cl.hd ha hn htk hm) I.kIn J e (fun z => nomatch z) h
end
end L2
namespace L2
open PySem PySem.Spec PyProof.Rows
structure Room (k : Nat) (A : Around) : Prop where
  hd : A.handled = none
  dp : A.depth + 3 * k + 5 < recursionLimit
  un : A.units + 16 * k + 200 < cLine
theorem Room.mono {j k : Nat} {A : Around} (r : Room k A) (h : j ≤ k) : Room j A := ⟨r.hd, by have := r.dp; omega, by have := r.un; omega⟩
theorem Room.deeper {k : Nat} {A : Around} (r : Room (k + 1) A) (env : Env) : Room k (A.deeper env) :=
  ⟨r.hd, by have := r.dp; show A.depth + 1 + 3 * k + 5 < _; omega, by have := r.un; show A.units + 3 + 16 * k + 200 < _; omega⟩
theorem Room.in1 {k : Nat} {A : Around} (r : Room (k + 1) A) : Room k A.in1 :=
  ⟨r.hd, by have := r.dp; show A.depth + 3 * k + 5 < _; omega, by have := r.un; show A.units + 1 + 16 * k + 200 < _; omega⟩
theorem make_depth {A : Around} {C : Addr} {us : List Value} {kw : List (Str × Value)} : (A.under (.builtin "type.__call__" ⟨.ref C :: us, kw⟩)).depth = A.depth + 1 := by
  first | rfl | simp [Around.under, Code.weight, Code.isCreation, Code.isGuard, Code.isCaller, Code.frames, Code.isFrame, guardIds]
theorem make_units {A : Around} {C : Addr} {us : List Value} {kw : List (Str × Value)} : (A.under (.builtin "type.__call__" ⟨.ref C :: us, kw⟩)).units = A.units + 1 := by
  first | rfl | simp [Around.under, Code.cUnits, Code.frames, Code.isFrame]
theorem Room.make {k : Nat} {A : Around} (r : Room (k + 1) A) (C : Addr) (us : List Value) (kw : List (Str × Value)) : Room k (A.under (.builtin "type.__call__" ⟨.ref C :: us, kw⟩)) :=
  ⟨r.hd, by have := r.dp; rw [make_depth]; omega, by have := r.un; rw [make_units]; omega⟩
theorem Room.depth {k : Nat} {A : Around} (r : Room k A) : A.depth < recursionLimit := by have := r.dp; omega
theorem Room.units {k : Nat} {A : Around} (r : Room k A) : A.units + 64 < cLine := by have := r.un; omega
def tNil : TA := fun _ H Q => Q [] H
def tCons (ta : TE) (tr : TA) : TA := fun σ H Q => ta σ H fun x H1 => tr σ H1 fun xs H2 => Q (x :: xs) H2
section
variable {X : Cx} {e : Expr} {es : List Expr} {te : TE} {t : TA} {pos : Pos}
theorem pa_nil : PA X [] tNil := fun _ _ _ _ H Q I h => Calls.spliced_nil ⟨[], H, I, .nil, h⟩
theorem pa_cons (ha : PE X e te) (hr : PA X es t) (hs : starEach (e :: es) X.env = (false, eval e X.env) :: starEach es X.env := by rfl) : PA X (e :: es) (tCons te t) := by
  intro pos pins s σ H Q I h
  rw [hs]
  show wpAny _ _ (spliced ((false, eval e X.env) :: backTo pos (starEach es X.env))) _ _ s
  refine Calls.spliced_cons (thn (ha pins s σ H _ I h) fun u s1 ⟨x, H1, I1, r1, q1⟩ => ?_)
  exact thn (hr pos pins s1 σ H1 _ I1 q1) fun us s2 ⟨xs, H2, I2, r2, q2⟩ => ⟨x :: xs, H2, I2, .cons r1 r2, q2⟩
def tTup (t : TA) : TE := fun σ H Q => t σ H fun xs H1 => xs.length ≤ sizeLine ∧ ∀ p, H1 p = none → Q (.ref p) (upd H1 p (.tup xs))
def tLst (t : TA) : TE := fun σ H Q => t σ H fun xs H1 => xs.length ≤ sizeLine ∧ ∀ p, H1 p = none → Q (.ref p) (upd H1 p (.lst xs))
theorem pe_tup {x1} (h : PA X es t) : PE X (.Tuple es x1 pos) (tTup t) := by
  intro pins s σ H Q I hq
  refine wpAny_Tuple_spliced (thn (h pos pins s σ H _ I hq) fun us s1 ⟨xs, H1, I1, r, z, q⟩ => ⟨by rw [← r.length]; exact z, ?_⟩)
  have hf : H1 s1.heap.objs.size = none := I1.hok.fresh (Nat.le_refl _)
  refine ⟨.ref s1.heap.objs.size, upd H1 s1.heap.objs.size (.tup xs), I1.laid (t' := s1.toks) (fun b u e => Heap.get?_push_of_some _ e) (Nat.le_refl _) ?_, rfl, q _ hf⟩
  exact ⟨z, us, r, ⟨_, Heap.get?_push_size _ rfl, rfl, _, rfl⟩⟩
theorem pe_lst (h : PA X es t) : PE X (.List es pos) (tLst t) := by
  intro pins s σ H Q I hq
  refine wpAny_List_spliced (thn (h pos pins s σ H _ I hq) fun us s1 ⟨xs, H1, I1, r, z, q⟩ => ⟨by rw [← r.length]; exact z, ?_⟩)
  have hf : H1 s1.heap.objs.size = none := I1.hok.fresh (Nat.le_refl _)
  refine ⟨.ref s1.heap.objs.size, upd H1 s1.heap.objs.size (.lst xs), I1.laid (t' := s1.toks) (fun b u e => Heap.get?_push_of_some _ e) (Nat.le_refl _) ?_, rfl, q _ hf⟩
  exact ⟨z, us, 0, r, Heap.get?_push_size _ rfl⟩
end
abbrev Sp := List V → Hp → VK → XK → Prop
abbrev CXT := List Env → Hp → Shared → XK → Value → Shared → Prop
structure Env0 (P : Program) (w : World) (K : PySem.W.Frag) (mg : Str → Option Value) (base : Heap) (A : Around) (outer : List Env) (s : Shared) (H : Hp) : Prop where
  frames : A.frames = some outer
  mod : Mod K mg base
  bs : ∀ b o, base.get? b = some o → s.heap.get? b = some o ∧ H b = none
  bsz : base.objs.size ≤ s.heap.objs.size
  funs : s.heap.FunFrames base outer
  frf : ∀ b ∈ frs outer, H b = none
  hok : HOk P w H s.heap
  bare : AllBare s.gens
def CE (outer : List Env) (P : Program) (w : World) (H : Hp) (s : Shared) (Q : VK) (u : Value) (s' : Shared) : Prop :=
  ∃ v H', s'.os = s.os ∧ AllBare s'.gens ∧ Un (frs outer) [] H H' s.heap s'.heap ∧ HOk P w H' s'.heap ∧ RelV v u ∧ Q v H'
def CR (CX : CXT) (outer : List Env) (P : Program) (w : World) (H : Hp) (s : Shared) (Q : VK) (E : XK) (r : Result) (s' : Shared) : Prop :=
  match r with
  | .ok (.ret u) => CE outer P w H s Q u s'
  | .ok _ => False
  | .error e => CX outer H s E e s'
structure FnOk (P : Program) (w : World) (K : PySem.W.Frag) (mg : Str → Option Value) (base : Heap) (CX : CXT) (k : Nat) (f : Addr) (fd : FuncData) (ps : List Str) (sp : Sp) : Prop where
  len : ∀ vs H Q E, sp vs H Q E → vs.length = ps.length
  run : ∀ (A : Around) (outer : List Env) (s : Shared) (H : Hp) (args : Args) (us : List Value) (vs : List V) (Q : VK) (E : XK), Room k A → Env0 P w K mg base A outer s H → BindsTo s fd args (ps.zip us) → Vals vs us → sp vs H Q E →
    codeAny (model P w) A (.call (.ref f) args) (CR CX outer P w H s Q E) s
theorem FnOk.mono {P : Program} {w : World} {K : PySem.W.Frag} {mg : Str → Option Value} {base : Heap} {CX : CXT} {j k : Nat} {f : Addr} {fd : FuncData} {ps : List Str} {sp : Sp} (F : FnOk P w K mg base CX j f fd ps sp) (h : j ≤ k) :
    FnOk P w K mg base CX k f fd ps sp := ⟨F.len, fun A outer s H args us vs Q E hr => F.run A outer s H args us vs Q E (hr.mono h)⟩
theorem FnOk.imp {P : Program} {w : World} {K : PySem.W.Frag} {mg : Str → Option Value} {base : Heap} {CX : CXT} {k : Nat} {f : Addr} {fd : FuncData} {ps : List Str} {sp sp' : Sp} (F : FnOk P w K mg base CX k f fd ps sp)
    (h : ∀ vs H Q E, sp' vs H Q E → sp vs H Q E) : FnOk P w K mg base CX k f fd ps sp' :=
  ⟨fun vs H Q E q => F.len vs H Q E (h _ _ _ _ q), fun A outer s H args us vs Q E hr he hb hv hs => F.run A outer s H args us vs Q E hr he hb hv (h _ _ _ _ hs)⟩
theorem Env0.make {P : Program} {w : World} {K : PySem.W.Frag} {mg : Str → Option Value} {base : Heap} {A : Around} {outer : List Env} {s : Shared} {H : Hp} (e : Env0 P w K mg base A outer s H) (C : Addr) (us : List Value) (kw : List (Str × Value)) :
    Env0 P w K mg base (A.under (.builtin "type.__call__" ⟨.ref C :: us, kw⟩)) outer s H := ⟨by first | exact e.frames | (simpa [Around.under, Code.envs, Code.isFrame, pushEnvs] using e.frames), e.mod, e.bs, e.bsz, e.funs, e.frf, e.hok, e.bare⟩
theorem Env0.in1 {P : Program} {w : World} {K : PySem.W.Frag} {mg : Str → Option Value} {base : Heap} {A : Around} {outer : List Env} {s : Shared} {H : Hp} (e : Env0 P w K mg base A outer s H) :
    Env0 P w K mg base A.in1 outer s H := ⟨e.frames, e.mod, e.bs, e.bsz, e.funs, e.frf, e.hok, e.bare⟩
section
variable {X : Cx} {pins : List (Addr × Obj)} {σ : St} {H : Hp} {s s' : Shared}
theorem Inv.env0 (I : Inv X pins σ H s) : Env0 X.prog X.w X.K X.mg X.base X.A X.stack s H :=
  ⟨I.ok.frames, I.ok.mod, I.bs, Nat.le_trans I.ok.bsz I.sz, I.stack, I.stkFree, I.hok, I.bare⟩
theorem Inv.after {Q : VK} {u : Value} (I : Inv X pins σ H s) (h : CE X.stack X.prog X.w H s Q u s') : EP X pins σ Q u s' := by
  obtain ⟨v, H', os, bare, un, hok, r, q⟩ := h
  obtain ⟨hh, g, d, t, os'⟩ := s'
  obtain rfl : os' = s.os := os
  exact ⟨v, H', I.call (h' := hh) (g' := g) (d' := d) (t' := t) (ch := []) un hok bare (fun b z => absurd z (by simp)), r, q⟩
end
def tCall (sp : Sp) (dvs : List V) (E : XK) (t : TA) : TE := fun σ H Q => t σ H fun vs H1 => sp (vs ++ dvs) H1 Q E
def tMake (C : Addr) (sp : Sp) (dvs : List V) (E : XK) (t : TA) : TE := fun σ H Q => t σ H fun vs H1 => ∀ x dx, H1 x = none → H1 dx = none → dx ≠ x →
  sp (.ref x :: (vs ++ dvs)) (upd (upd H1 dx (.own x)) x (.ins C dx [])) (fun v H2 => v = .non ∧ Q (.ref x) H2) E
def Binds (K : PySem.W.Frag) (fd : FuncData) (ps : List Str) (ds : List Value) : Prop :=
  ∀ (s : Shared) (us : List Value), K.In s.heap → (us ++ ds).length = ps.length → BindsTo s fd ⟨us, []⟩ (ps.zip (us ++ ds))
theorem Binds.all {K : PySem.W.Frag} {fd : FuncData} {ps : List Str} (h : ∀ us : List Value, us.length = ps.length → bindArgs fd ⟨us, []⟩ = pure (ps.zip us)) : Binds K fd ps [] := fun s us _ hl => by
  rw [List.append_nil] at hl ⊢
  exact .of_eq (h us hl)
def Passes (CX : CXT) (X : Cx) (E : XK) : Prop := ∀ (pins : List (Addr × Obj)) (σ : St) (H : Hp) (s : Shared) (e : Value) (s' : Shared), Inv X pins σ H s → CX X.stack H s E e s' → X.xe e s'
section
variable {X : Cx} {CX : CXT} {k : Nat} {f C : Addr} {fd : FuncData} {ps : List Str} {sp : Sp} {dvs : List V} {ds : List Value} {E : XK} {x m : Str} {p pos apos : Pos} {e o : Expr} {es : List Expr} {ta : TE} {t : TA}
theorem run_fn {pins : List (Addr × Obj)} {σ : St} {H : Hp} {s : Shared} {Q : VK} {us : List Value} {vs : List V} (F : FnOk X.prog X.w X.K X.mg X.base CX k f fd ps sp) (hr : Room k X.A) (hb : Binds X.K fd ps ds) (hd : Vals dvs ds) (hx : Passes CX X E)
    (I : Inv X pins σ H s) (r : Vals vs us) (h : sp (vs ++ dvs) H Q E) : wpAny (model X.prog X.w) X.A (call (.ref f) us) (EP X pins σ Q) X.xe s := by
  have r2 : Vals (vs ++ dvs) (us ++ ds) := r.append hd
  have hl : (us ++ ds).length = ps.length := by rw [← r2.length]; exact F.len _ _ _ _ h
  refine wpAny_call (codeAny_mono (F.run X.A X.stack s H ⟨us, []⟩ (us ++ ds) (vs ++ dvs) Q E hr I.env0 (hb s us I.kIn hl) r2 h) fun r s' hq => ?_)
  cases r with
  | error e => exact hx pins σ H s e s' I hq
  | ok fl =>
    cases fl with
    | ret u => exact I.after hq
    | next => exact False.elim hq
    | brk => exact False.elim hq
    | cont => exact False.elim hq
theorem pe_call (F : FnOk X.prog X.w X.K X.mg X.base CX k f fd ps sp) (hr : Room k X.A) (hg : Gl X x) (hm : X.mg x = some (.ref f)) (hk : PySem.W.keepIn X.K (.ref f) = true) (hb : Binds X.K fd ps ds) (hd : Vals dvs ds) (hx : Passes CX X E)
    (ha : PA X (e :: es) t) (hdb : (x == ("__debug__" : Str)) = false := by decide) (he : starEach (e :: es) X.env = (false, eval e X.env) :: starEach es X.env := by rfl) (hpl : (backTo pos (starEach es X.env)).any (·.1) = false := by rfl) :
    PE X (.Call (.Name x p) (e :: es) [] pos) (tCall sp dvs E t) := by
  intro pins s σ H Q I h
  refine wpAny_Call_Name_kw (ld_glob I hg hm ?_ hdb)
  refine PySem.W.callWith_K (h₀ := X.base) I.ok.mod.kin hk (thn (ha pos pins s σ H _ I h) fun us s1 ⟨vs, H1, I1, r, q⟩ => ⟨I1.kIn, ?_⟩) he hpl
  exact run_fn F hr hb hd hx I1 r q
structure Mk (K : PySem.W.Frag) (C f : Addr) : Prop where
  makes : PySem.W.makesIn K C = true
  init : PySem.W.findIn K (.ref C) "__init__" = some (some (.ref f))
  fn : PySem.W.isFn K (.ref f) = true
  kp : PySem.W.keepIn K (.ref C) = true
theorem run_make {pins : List (Addr × Obj)} {σ : St} {H : Hp} {s : Shared} {Q : VK} {us : List Value} {vs : List V} (M : Mk X.K C f) (F : FnOk X.prog X.w X.K X.mg X.base CX k f fd ps sp) (hr : Room (k + 1) X.A) (hb : Binds X.K fd ps ds) (hd : Vals dvs ds)
    (hx : Passes CX X E) (I : Inv X pins σ H s) (r : Vals vs us)
    (h : ∀ x dx, H x = none → H dx = none → dx ≠ x → sp (.ref x :: (vs ++ dvs)) (upd (upd H dx (.own x)) x (.ins C dx [])) (fun v H2 => v = .non ∧ Q (.ref x) H2) E) :
    wpAny (model X.prog X.w) X.A (call (.ref C) us) (EP X pins σ Q) X.xe s := by
  have hq := h (s.heap.objs.size + 1) s.heap.objs.size (I.hok.fresh (Nat.le_succ _)) (I.hok.fresh (Nat.le_refl _)) (Nat.ne_of_lt (Nat.lt_succ_self _))
  have I2 := Inv.made (C := C) I
  have r2 : Vals (V.ref (s.heap.objs.size + 1) :: (vs ++ dvs)) (Value.ref (s.heap.objs.size + 1) :: (us ++ ds)) := .cons rfl (r.append hd)
  have hl : (Value.ref (s.heap.objs.size + 1) :: us ++ ds).length = ps.length := by
    have e := r2.length
    rw [F.len _ _ _ _ hq] at e
    exact e.symm
  refine wpAny_call (make_map (f := f) I.kIn M.makes M.init (beq_iff_eq.mp M.fn) (codeAny_mono (F.run _ X.stack _ _ ⟨Value.ref (s.heap.objs.size + 1) :: us, []⟩ (Value.ref (s.heap.objs.size + 1) :: (us ++ ds)) _ _ E (hr.make C us [])
    (I2.env0.make C us []) (hb _ (Value.ref (s.heap.objs.size + 1) :: us) I2.kIn hl) r2 hq) fun r s' hq' => ?_))
  cases r with
  | error e => exact hx pins σ _ _ e s' I2 hq'
  | ok fl =>
    cases fl with
    | ret u =>
      obtain ⟨v, H', I3, rv, ev, q3⟩ := I2.after hq'
      subst ev
      exact ⟨rv, ⟨V.ref (s.heap.objs.size + 1), H', I3, rfl, q3⟩⟩
    | next => exact False.elim hq'
    | brk => exact False.elim hq'
    | cont => exact False.elim hq'
theorem pe_make (M : Mk X.K C f) (F : FnOk X.prog X.w X.K X.mg X.base CX k f fd ps sp) (hr : Room (k + 1) X.A) (hg : Gl X x) (hm : X.mg x = some (.ref C)) (hb : Binds X.K fd ps ds) (hd : Vals dvs ds) (hx : Passes CX X E)
    (ha : PA X (e :: es) t) (hdb : (x == ("__debug__" : Str)) = false := by decide) (he : starEach (e :: es) X.env = (false, eval e X.env) :: starEach es X.env := by rfl) (hpl : (backTo pos (starEach es X.env)).any (·.1) = false := by rfl) :
    PE X (.Call (.Name x p) (e :: es) [] pos) (tMake C sp dvs E t) := by
  intro pins s σ H Q I h
  refine wpAny_Call_Name_kw (ld_glob I hg hm ?_ hdb)
  refine PySem.W.callWith_K (h₀ := X.base) I.ok.mod.kin M.kp (thn (ha pos pins s σ H _ I h) fun us s1 ⟨vs, H1, I1, r, q⟩ => ⟨I1.kIn, ?_⟩) he hpl
  exact run_make M F hr hb hd hx I1 r q
end
section
variable {X : Cx} {CX : CXT} {k : Nat} {f C : Addr} {fd : FuncData} {ps ks : List Str} {sp : Sp} {E : XK} {x m : Str} {p pos apos kpos : Pos} {e o : Expr} {es : List Expr} {kws : List Keyword} {te ta : TE} {t tk : TA} {nm : Option Str}
structure KBinds (K : PySem.W.Frag) (fd : FuncData) (ps ks : List Str) (g : List Value → List Value → List Value) (gV : List V → List V → List V) : Prop where
  to : ∀ (s : Shared) (us ws : List Value), K.In s.heap → (g us ws).length = ps.length → BindsTo s fd ⟨us, ks.zip ws⟩ (ps.zip (g us ws))
  rel : ∀ {vs : List V} {us : List Value} {zs : List V} {ws : List Value}, Vals vs us → Vals zs ws → Vals (gV vs zs) (g us ws)
variable {g : List Value → List Value → List Value} {gV : List V → List V → List V}
end
structure FnScope (N P : List Str) (sc : Scope) : Prop where
  kind : sc.kind = .function
  co : sc.isCoroutine = false
  gen : sc.isGenerator = false
  nd : N.Nodup
  pre : N.take P.length = P
  par : ∀ x ∈ P, sc.names.lookup x = some .local ∨ sc.names.lookup x = some .cell
  nofree : ∀ y ∈ sc.names, y.2 ≠ .free
theorem bindL_out {kindOf : Str → Option NameKind} {x : Str} : ∀ {binds : List (Str × Value)} {m : Str → Option Value}, (∀ v, (x, v) ∉ binds) → bindL kindOf binds m x = m x
  | [], _, _ => rfl
  | (n, v) :: r, m, h => by
    unfold bindL
    rw [bindL_out fun w hw => h w (List.mem_cons_of_mem _ hw)]
    split
    · have : x ≠ n := by rintro rfl; exact h v List.mem_cons_self
      simp [this]
    · rfl
theorem bindC_out {kindOf : Str → Option NameKind} {x : Str} : ∀ {binds : List (Str × Value)} {m : Str → Option Value}, (∀ v, (x, v) ∉ binds) → bindC kindOf binds m x = m x
  | [], _, _ => rfl
  | (n, v) :: r, m, h => by
    unfold bindC
    rw [bindC_out fun w hw => h w (List.mem_cons_of_mem _ hw)]
    split
    · rfl
    · have : x ≠ n := by rintro rfl; exact h v List.mem_cons_self
      simp [this]
theorem bindL_get {kindOf : Str → Option NameKind} {x : Str} {v : Value} : ∀ {P : List Str} {vs : List Value} {i : Nat} {m : Str → Option Value}, P.Nodup → P[i]? = some x → vs[i]? = some v → kindOf x = some .local →
    bindL kindOf (P.zip vs) m x = some v
  | [], _, _, _, _, h, _, _ => by simp at h
  | _ :: _, [], _, _, _, _, h, _ => by simp at h
  | p :: P, w :: vs, 0, m, nd, h1, h2, hk => by
    simp at h1 h2; subst h1; subst h2
    show bindL kindOf ((p, w) :: P.zip vs) m p = _
    unfold bindL
    rw [bindL_out fun v hv => (List.nodup_cons.mp nd).1 (List.of_mem_zip hv).1, if_pos hk]
    simp
  | p :: P, w :: vs, i + 1, m, nd, h1, h2, hk => by
    show bindL kindOf ((p, w) :: P.zip vs) m x = _
    unfold bindL
    exact bindL_get (i := i) (List.nodup_cons.mp nd).2 (by simpa using h1) (by simpa using h2) hk
theorem bindC_get {kindOf : Str → Option NameKind} {x : Str} {v : Value} : ∀ {P : List Str} {vs : List Value} {i : Nat} {m : Str → Option Value}, P.Nodup → P[i]? = some x → vs[i]? = some v → kindOf x ≠ some .local →
    bindC kindOf (P.zip vs) m x = some v
  | [], _, _, _, _, h, _, _ => by simp at h
  | _ :: _, [], _, _, _, _, h, _ => by simp at h
  | p :: P, w :: vs, 0, m, nd, h1, h2, hk => by
    simp at h1 h2; subst h1; subst h2
    show bindC kindOf ((p, w) :: P.zip vs) m p = _
    unfold bindC
    rw [bindC_out fun v hv => (List.nodup_cons.mp nd).1 (List.of_mem_zip hv).1, if_neg hk]
    simp
  | p :: P, w :: vs, i + 1, m, nd, h1, h2, hk => by
    show bindC kindOf ((p, w) :: P.zip vs) m x = _
    unfold bindC
    exact bindC_get (i := i) (List.nodup_cons.mp nd).2 (by simpa using h1) (by simpa using h2) hk
def start (N : List Str) (vs : List V) : St := vs.map some ++ List.replicate (N.length - vs.length) none
def cxOf (CX : CXT) (P : Program) (w : World) (K : PySem.W.Frag) (mg : Str → Option Value) (base : Heap) (N : List Str) (qual : Str) (scope : Scope) (f : Addr) (cd : Value) (A : Around) (outer : List Env) (s : Shared) (H : Hp) (E : XK) : Cx where
  prog := P
  w := w
  K := K
  mg := mg
  base := base
  A := A.deeper (envOfC qual scope s.heap.objs.size f cd)
  N := N
  s₀ := s
  H₀ := H
  env := envOfC qual scope s.heap.objs.size f cd
  outer := outer
  stack := envOfC qual scope s.heap.objs.size f cd :: outer
  ex := []
  calm := true
  fn := fun _ => true
  pn := []
  xe := fun e s' => wpAny (model P w) (A.deeper (envOfC qual scope s.heap.objs.size f cd)) (leaving (envOfC qual scope s.heap.objs.size f cd) e) (fun _ s'' => CX outer H s E e s'') (fun e' s'' => CX outer H s E e' s'') s'
theorem cell_has {sc : Scope} {n : Nat} {x : Str} (h : sc.names.lookup x = some .cell) : ∃ c, (cellsFrom n sc.names []).lookup x = some c := by
  have q := PySem.W.cellsFrom_some sc.names n [] (.inl h)
  exact Option.isSome_iff_exists.mp q
theorem inv_start {CX : CXT} {P : Program} {w : World} {K : PySem.W.Frag} {mg : Str → Option Value} {base : Heap} {N ps : List Str} {qual : Str} {scope : Scope} {f : Addr} {cd : Value} {A : Around} {outer : List Env} {s s1 : Shared} {H : Hp} {E : XK} {us : List Value} {vs : List V}
    (S : FnScope N ps scope) (hd : A.handled = none) (e0 : Env0 P w K mg base A outer s H) (hl : vs.length = ps.length) (r : Vals vs us)
    (x : InCallC s s.heap.objs.size (bindL (envOfC qual scope s.heap.objs.size f cd).kindOf (ps.zip us) fun _ => none) (cellsFrom (s.heap.objs.size + 1) scope.names []) (bindC (envOfC qual scope s.heap.objs.size f cd).kindOf (ps.zip us) fun _ => none) s1) :
    Inv (cxOf CX P w K mg base N qual scope f cd A outer s H E) [] (start N vs) H s1 := by
  have hpl : ps.length ≤ N.length := by have := congrArg List.length S.pre; rw [List.length_take] at this; omega
  obtain ⟨h1, tk, rfl, hk⟩ := x.done
  have noA : ∀ b : Addr, b ∉ (cxOf CX P w K mg base N qual scope f cd A outer s H E).ex := fun b z => absurd (show b ∈ ([] : List Addr) from z) (by simp)
  refine ⟨⟨e0.mod, S.kind, rfl, rfl, Nat.le_refl _, fun y z c h1 h2 => ?_, fun y hy => ?_, fun y c _ h => ?_, fun _ => hd, Around.frames_deeper e0.frames, .inr ⟨rfl, rfl⟩, fun b z => absurd z (noA b), e0.bs, e0.bsz, fun b _ _ => noA b, fun b z => absurd z (noA b), e0.funs, e0.frf⟩,
    rfl, e0.bare, Un.kept hk, ⟨_, x.toInCall.ns, fun i y v h1 h2 h3 => ?_⟩, fun y c h => ⟨_, x.cell y c h⟩, e0.hok.fresh (Nat.le_refl _), fun y c h => ?_, fun p hp => absurd (show p ∈ ([] : List (Addr × Obj)) from hp) (by simp), e0.hok.kept hk, ?_⟩
  · exact name_of_addr x.apart (PySem.mem_of_lookup h1) (PySem.mem_of_lookup h2)
  · have hy : scope.names.lookup y = some .cell ∨ scope.names.lookup y = some .free := hy
    rcases hy with hy | hy
    · exact cell_has hy
    · exact absurd rfl (S.nofree _ (PySem.mem_of_lookup hy))
  · exact Nat.le_of_lt (x.above y c (PySem.mem_of_lookup h))
  · have hi : i < vs.length := by
      unfold start at h2
      by_cases hi : i < vs.length
      · exact hi
      · rw [List.getElem?_append_right (by simpa using hi)] at h2
        rw [List.getElem?_replicate] at h2
        split at h2 <;> cases h2
    have ha : vs[i]? = some v := by
      unfold start at h2
      rw [List.getElem?_append_left (by simpa using hi), List.getElem?_map] at h2
      cases e : vs[i]? with
      | none => rw [e] at h2; cases h2
      | some a => rw [e] at h2; cases h2; rfl
    obtain ⟨u, hu, rv⟩ := r.get ha
    have hp : ps[i]? = some y := by
      rw [← S.pre, List.getElem?_take_of_lt (by omega)]; exact h1
    have ndP : ps.Nodup := by rw [← S.pre]; exact S.nd.sublist (List.take_sublist _ _)
    refine ⟨u, rv, ?_⟩
    rcases S.par y (List.mem_of_getElem? hp) with k | k
    · exact .inl ⟨k, bindL_get ndP hp hu k⟩
    · obtain ⟨c, e⟩ := cell_has (n := s.heap.objs.size + 1) k
      refine .inr ⟨.inl k, c, e, ?_⟩
      have q := x.cell y c e
      rw [bindC_get ndP hp hu (by show scope.names.lookup y ≠ _; rw [k]; decide)] at q
      exact q
  · exact e0.hok.fresh (Nat.le_of_lt (x.above y c (PySem.mem_of_lookup h)))
  · unfold start
    show _ = N.length
    rw [List.length_append, List.length_map, List.length_replicate]
    omega
theorem fn_of {CX : CXT} {P : Program} {w : World} {K : PySem.W.Frag} {mg : Str → Option Value} {base : Heap} {k : Nat} {f : Addr} {name qual : Str} {params : Arguments} {body : List Stmt} {scope : Scope} {dV kV doc pm cdv ct oc : Value} {an od : Option Addr}
    {osl : Array (Option Value)} {N ps : List Str} {sp : Sp} (lk : K.lookup f = some ⟨oc, od, .func (PySem.W.fnOf name qual params body scope dV kV doc pm an cdv ct), osl⟩) (hcd : PySem.W.codeIn K cdv qual = true) (S : FnScope N ps scope)
    (len : ∀ vs H Q E, sp vs H Q E → vs.length = ps.length)
    (hbody : ∀ (A : Around) (outer : List Env) (s : Shared) (H : Hp) (vs : List V) (Q : VK) (E : XK), Room k (A.deeper (envOfC qual scope s.heap.objs.size f cdv)) → sp vs H Q E →
      ∃ t, PSs (cxOf CX P w K mg base N qual scope f cdv A outer s H E) body t ∧ t { nx := fun _ H' => Q .non H', rt := Q } (start N vs) H) :
    FnOk P w K mg base CX (k + 1) f (PySem.W.fnOf name qual params body scope dV kV doc pm an cdv ct) ps sp := by
  refine ⟨len, fun A outer s H args us vs Q E hr e0 hb r hsp => ?_⟩
  have hl := len _ _ _ _ hsp
  have KX : K.In s.heap := e0.mod.kin.keeps fun b o e => (e0.bs b o e).1
  have lim : s.heap.NoLimit := e0.mod.nolimit.keeps fun b o e => (e0.bs b o e).1
  have hkind : ∀ y ∈ ps.zip us, scope.names.lookup y.1 = some .local ∨ (scope.names.lookup y.1 = some .cell ∧ ((cellsFrom (s.heap.objs.size + 1) scope.names []).lookup y.1).isSome = true) := fun ⟨n, v⟩ hy => by
    rcases S.par n (List.of_mem_zip hy).1 with q | q
    · exact .inl q
    · exact .inr ⟨q, PySem.W.cellsFrom_some _ _ _ (.inl q)⟩
  refine codeAny_call_function hr.depth (KX _ _ lk) rfl S.co S.gen rfl (PySem.W.codeRec_of KX hcd) (hb _ _ _ _ ?_)
  refine wpAny_newFunctionEnv_cells S.kind hkind fun env he s1 x => ?_
  subst he
  refine ⟨lim.keeps x.toInCall.keep, codeAny_func ?_⟩
  obtain ⟨t, ht, hq⟩ := hbody A outer s H vs Q E (hr.deeper _) hsp
  have I : Inv (cxOf CX P w K mg base N qual scope f cdv A outer s H E) [] (start N vs) H s1 := inv_start S hr.hd e0 hl r x
  refine wpAny_mono (ht [] s1 (start N vs) H _ I hq) (fun fl s' hs => ?_) fun e s' hs => hs
  have fin : ∀ {σ' : St} {H' : Hp} {v : V} {u : Value}, Inv (cxOf CX P w K mg base N qual scope f cdv A outer s H E) [] σ' H' s' → RelV v u → Q v H' → CE outer P w H s Q u s' :=
    fun {σ' H' v u} J rv q => ⟨v, H', J.os, J.bare, J.base, J.hok, rv, q⟩
  cases fl with
  | ret u =>
    obtain ⟨v, σ', H', J, rv, q⟩ := hs
    exact fin J rv q
  | next =>
    obtain ⟨σ', H', J, q⟩ := hs
    exact fin (v := V.non) (u := Value.none) J rfl q
  | brk =>
    obtain ⟨_, _, _, q⟩ := hs
    exact False.elim q
  | cont =>
    obtain ⟨_, _, _, q⟩ := hs
    exact False.elim q
end L2
namespace L2
open PySem PySem.Spec PyProof.Rows
section
variable {X : Cx} {x : Str} {p pos : Pos} {e : Expr} {es : List Expr} {t : TA} {id T : String} {r : List V → Hp → VK → Prop}
def tCB (r : List V → Hp → VK → Prop) (t : TA) : TE := fun σ H Q => t σ H fun vs H1 => r vs H1 Q
theorem pe_callB (hc : CallR X (.builtin id) r) (hg : Gl X x) (hm : X.mg x = none) (hv : bootBuiltins x = some (.builtin id)) (ha : PA X (e :: es) t) (hn : x ≠ "__name__" := by decide) (hdb : (x == ("__debug__" : Str)) = false := by decide)
    (he : starEach (e :: es) X.env = (false, eval e X.env) :: starEach es X.env := by rfl) (hpl : (backTo pos (starEach es X.env)).any (·.1) = false := by rfl) : PE X (.Call (.Name x p) (e :: es) [] pos) (tCB r t) := by
  intro pins s σ H Q I h
  refine wpAny_Call_Name_kw (ld_blt I hg hm hv ?_ hn hdb)
  exact PyProof.Rows.callWith_builtin1 (thn (ha pos pins s σ H _ I h) fun us s1 ⟨vs, H1, I1, r1, q1⟩ => hc pins s1 σ H1 vs us Q I1 r1 q1) he hpl
theorem pe_callTy (hc : CallR X (.type T) r) (hg : Gl X x) (hm : X.mg x = none) (hv : bootBuiltins x = some (.type T)) (ha : PA X (e :: es) t) (hn : x ≠ "__name__" := by decide) (hdb : (x == ("__debug__" : Str)) = false := by decide)
    (he : starEach (e :: es) X.env = (false, eval e X.env) :: starEach es X.env := by rfl) (hpl : (backTo pos (starEach es X.env)).any (·.1) = false := by rfl) : PE X (.Call (.Name x p) (e :: es) [] pos) (tCB r t) := by
  intro pins s σ H Q I h
  refine wpAny_Call_Name_kw (ld_blt I hg hm hv ?_ hn hdb)
  exact PyProof.Rows.callWith_type1 (thn (ha pos pins s σ H _ I h) fun us s1 ⟨vs, H1, I1, r1, q1⟩ => hc pins s1 σ H1 vs us Q I1 r1 q1) he hpl
end
end L2
namespace HT
open PySem PyProof.Rows
section
open PySem.SeqAt
open PySem.AutoSeq1 (wpAny_loadPart')
open PySem.MeetsSeq PySem.MeetsSeq2 PySem.MeetsSeq3
end
section
variable {prog : Program} {w : World} {A : Around} {E : Value → Shared → Prop} {s : Shared}
end
end HT
namespace L2
open PySem PySem.Spec PyProof.Rows
abbrev TO := St → Hp → (Option Int → Hp → Prop) → Prop
section
variable {X : Cx} {e : Expr} {te : TE} {lo hi : Option Expr} {tl th : TO} {pos p2 : Pos}
def SlR (X : Cx) (r : V → Option Int → Option Int → Hp → VK → Prop) : Prop :=
  ∀ (pins : List (Addr × Obj)) (s : Shared) (σ : St) (H : Hp) (x : V) (v vl vu : Value) (lo hi : Option Int) (sl : Addr) (Q : VK), Inv X pins σ H s → RelV x v → s.heap.IsSliceOf sl vl vu .none → IsPart vl lo → IsPart vu hi → r x lo hi H Q →
    ∃ T id, typeLookup (.type T) "__getitem__" = pure (some (.builtin id)) ∧ s.TypeIs v T ∧ wpAny (model X.prog X.w) X.A (getItem v (.ref sl)) (EP X pins σ Q) X.xe s
theorem SlR.or {r r' : V → Option Int → Option Int → Hp → VK → Prop} (h : SlR X r) (h' : SlR X r') : SlR X (fun x lo hi H Q => r x lo hi H Q ∨ r' x lo hi H Q) := by
  intro pins s σ H x v vl vu lo hi sl Q I rx hs pl pu q
  rcases q with q | q
  · exact h pins s σ H x v vl vu lo hi sl Q I rx hs pl pu q
  · exact h' pins s σ H x v vl vu lo hi sl Q I rx hs pl pu q
end
end L2
namespace L2
open PySem PySem.Spec PyProof.Rows
def ixN (n : Nat) (i : Int) : Option Nat := if 0 ≤ i then (if i < n then some i.toNat else none) else if -(n : Int) ≤ i then some (i + n).toNat else none
def atI {α : Type} (xs : List α) (i : Int) : Option α := (ixN xs.length i).bind fun j => xs[j]?
theorem ixN_seq {n : Nat} {i : Int} {j : Nat} (h : ixN n i = some j) : seqIndex? i n = some j ∧ j < n ∧ -(n : Int) ≤ i ∧ i < n := by
  unfold ixN at h
  by_cases h0 : 0 ≤ i
  · rw [if_pos h0] at h
    by_cases h1 : i < n
    · rw [if_pos h1] at h
      have e : i.toNat = j := Option.some.inj h
      exact ⟨by rw [seqIndex_of h0 h1, e], by omega, by omega, h1⟩
    · rw [if_neg h1] at h; cases h
  · rw [if_neg h0] at h
    by_cases h1 : -(n : Int) ≤ i
    · rw [if_pos h1] at h
      have e : (i + n).toNat = j := Option.some.inj h
      exact ⟨by rw [seqIndex_neg (by omega) h1, e], by omega, h1, by omega⟩
    · rw [if_neg h1] at h; cases h
theorem atI_get {α : Type} {xs : List α} {i : Int} {v : α} (h : atI xs i = some v) : ∃ j, seqIndex? i xs.length = some j ∧ xs[j]? = some v ∧ j < xs.length ∧ -(xs.length : Int) ≤ i ∧ i < xs.length := by
  unfold atI at h
  cases e : ixN xs.length i with
  | none => rw [e] at h; cases h
  | some j =>
    rw [e] at h
    obtain ⟨h1, h2, h3, h4⟩ := ixN_seq e
    exact ⟨j, h1, h, h2, h3, h4⟩
theorem atI_nat {α : Type} {xs : List α} {j : Nat} {v : α} (h : xs[j]? = some v) : atI xs (j : Int) = some v := by
  have hj : j < xs.length := (List.getElem?_eq_some_iff.mp h).1
  have e : ixN xs.length (j : Int) = some j := by
    unfold ixN
    rw [if_pos (by omega), if_pos (by omega)]; simp
  unfold atI; rw [e]; exact h
def PlainIx (b : Expr) : Prop := ∀ o i, subscripted b false o i = operate [o, i] (getItem o i)
def IxR (X : Cx) (r : R2) : Prop :=
  ∀ (value slice : Expr) (pins : List (Addr × Obj)) (s : Shared) (σ : St) (H : Hp) (x y : V) (v u : Value) (Q : VK), Inv X pins σ H s → RelV x v → RelV y u → r x y H Q →
    subscripted slice false v u = operate [v, u] (getItem v u) → wpAny (model X.prog X.w) X.A (subscriptTail value slice v u) (EP X pins σ Q) X.xe s
def MtR (X : Cx) (id : String) (r : V → List V → Hp → VK → Prop) : Prop :=
  ∀ (pins : List (Addr × Obj)) (s : Shared) (σ : St) (H : Hp) (x : V) (xs : List V) (v : Value) (us : List Value) (Q : VK), Inv X pins σ H s → RelV x v → Vals xs us → r x xs H Q →
    wpAny (model X.prog X.w) X.A (call (.builtin id) (v :: us)) (EP X pins σ Q) X.xe s
section
variable {X : Cx} {a b : Expr} {ta tb : TE} {pos : Pos}
theorem IxR.or {r r' : R2} (h : IxR X r) (h' : IxR X r') : IxR X (fun x y H Q => r x y H Q ∨ r' x y H Q) := by
  intro value slice pins s σ H x y v u Q I rx ry q hs
  rcases q with q | q
  · exact h value slice pins s σ H x y v u Q I rx ry q hs
  · exact h' value slice pins s σ H x y v u Q I rx ry q hs
theorem MtR.or {id : String} {r r' : V → List V → Hp → VK → Prop} (h : MtR X id r) (h' : MtR X id r') : MtR X id (fun x xs H Q => r x xs H Q ∨ r' x xs H Q) := by
  intro pins s σ H x xs v us Q I rx rs q
  rcases q with q | q
  · exact h pins s σ H x xs v us Q I rx rs q
  · exact h' pins s σ H x xs v us Q I rx rs q
theorem pe_ix {r : R2} (hr : IxR X r) (ha : PE X a ta) (hb : PE X b tb) (hs : PlainIx b) : PE X (.Subscript a b pos) (tOp r ta tb) := by
  intro pins s σ H Q I h
  exact Subscript_ (binT ha hb I h fun v u s2 x y H2 I2 rx ry q => hr a b pins s2 σ H2 x y v u Q I2 rx ry q (hs _ _))
def rIxL (K : PySem.W.Frag) : R2 := fun x y H Q => ∃ p xs i v, x = .ref p ∧ y = .int i ∧ SqL K H p xs ∧ atI xs i = some v ∧ Q v H
def rIxT (K : PySem.W.Frag) : R2 := fun x y H Q => ∃ p xs i v, x = .ref p ∧ y = .int i ∧ SqT K H p xs ∧ atI xs i = some v ∧ Q v H
theorem ix_list : IxR X (rIxL X.K) := by
  intro value slice pins s σ H x y v u Q I rx ry h hs
  obtain ⟨p, xs, i, z, rfl, rfl, hq, he, q⟩ := h
  cases rx
  obtain ⟨t, rfl⟩ := ry
  obtain ⟨its, r, pl, hz⟩ := I.list hq
  obtain ⟨j, h1, h2, h3, h4, h5⟩ := atI_get he
  obtain ⟨w, ew, rw'⟩ := r.get h2
  have hl := r.length
  have hn := line63
  have fin : EP X pins σ Q w s := ⟨z, H, I, rw', q⟩
  by_cases h0 : 0 ≤ i
  · have hj : i.toNat = j := by
      rw [seqIndex_of h0 h5] at h1
      exact Option.some.inj h1
    exact item_listR pl.isList h0 (by omega) (by rw [hj]; simpa using ew) fin hs
  · have hj : (i + (its.toArray.size : Int)).toNat = j := by
      rw [seqIndex_neg (by omega) h4] at h1
      rw [List.size_toArray, ← hl]
      exact Option.some.inj h1
    exact subscriptTail_builtinR (x := w) pl.isList.typeIs slot_list_getitem.lookup
      (wpAny_getItem_list_neg (Q := fun r s' => r = w ∧ EP X pins σ Q r s') pl.isList (by omega) (by rw [List.size_toArray] <;> omega) (by omega) (by rw [hj]; simpa using ew) ⟨rfl, fin⟩) hs
theorem ix_tup : IxR X (rIxT X.K) := by
  intro value slice pins s σ H x y v u Q I rx ry h hs
  obtain ⟨p, xs, i, z, rfl, rfl, hq, he, q⟩ := h
  cases rx
  obtain ⟨t, rfl⟩ := ry
  obtain ⟨its, r, pl, hz⟩ := I.tuple hq
  obtain ⟨j, h1, h2, h3, h4, h5⟩ := atI_get he
  obtain ⟨w, ew, rw'⟩ := r.get h2
  have hl := r.length
  have hn := line63
  have fin : EP X pins σ Q w s := ⟨z, H, I, rw', q⟩
  exact subscriptTail_builtinR (x := w) pl.typeIs slot_tuple_getitem.lookup
    (getItem_tuple (j := j) (Q := fun r s' => r = w ∧ EP X pins σ Q r s') pl (by omega) (by omega) (by rw [List.size_toArray, ← hl]; exact h1) (by simpa using ew) ⟨rfl, fin⟩) hs
theorem mapSeq_set (its : List Value) (n j : Nat) (u : Value) : Obj.mapSeq (·.setIfInBounds j u) { cls := .type "list", data := .seq its.toArray n } = { cls := .type "list", data := .seq (its.set j u).toArray n } := by
  simp [Obj.mapSeq]
theorem Inv.lst {pins : List (Addr × Obj)} {σ : St} {H : Hp} {s : Shared} {p : Addr} {xs : List V} (I : Inv X pins σ H s) (h : H p = some (.lst xs)) :
    ∃ (its : List Value) (n : Nat), Vals xs its ∧ s.heap.get? p = some { cls := .type "list", data := .seq its.toArray n } ∧ xs.length ≤ sizeLine := by
  obtain ⟨z, its, n, r, e⟩ := I.hok p _ h
  exact ⟨its, n, r, e, z⟩
theorem Inv.lstUpd {pins : List (Addr × Obj)} {σ : St} {H : Hp} {s : Shared} {p : Addr} {xs ys : List V} {its its' : List Value} {n n' : Nat} {f : Obj → Obj} (I : Inv X pins σ H s) (h : H p = some (.lst xs))
    (ho : s.heap.get? p = some { cls := .type "list", data := .seq its.toArray n }) (hf : f { cls := .type "list", data := .seq its.toArray n } = { cls := .type "list", data := .seq its'.toArray n' }) (r : Vals ys its') (hz : ys.length ≤ sizeLine) (t : Nat) :
    Inv X pins σ (upd H p (.lst ys)) { s with heap := s.heap.update p f, toks := t } := by
  have e : (s.heap.update p f).get? p = some { cls := .type "list", data := .seq its'.toArray n' } := by
    rw [Heap.get?_update_self f ho (by rw [hf] <;> rfl), hf]
  refine I.write (x := p) (e := p) (by rw [h]; trivial) (.inl rfl) (fun b u hb q => (Heap.get?_update_other _ _ (Ne.symm hb)).trans q) ⟨_, e⟩ ?_
  exact ⟨hz, its', n', r, e⟩
def rSetL : V → V → V → Hp → (Hp → Prop) → Prop := fun o i v H Q => ∃ p xs k j, o = .ref p ∧ i = .int k ∧ H p = some (.lst xs) ∧ ixN xs.length k = some j ∧ Q (upd H p (.lst (xs.set j v)))
theorem set_list : PSet X rSetL := by
  intro pins s σ H o i v ov iv u Q I ro ri rv h
  obtain ⟨p, xs, k, j, rfl, rfl, hp, hj, q⟩ := h
  cases ro
  obtain ⟨t, rfl⟩ := ri
  obtain ⟨its, n, r, ho, hz⟩ := I.lst hp
  obtain ⟨h1, h2, h3, h4⟩ := ixN_seq hj
  have hl := r.length
  have hn := line63
  have I' : Inv X pins σ (upd H p (.lst (xs.set j v))) { s with heap := s.heap.update p (Obj.mapSeq (·.setIfInBounds j u)) } :=
    I.lstUpd hp ho (mapSeq_set its n j u) (r.set rv j) (by rw [List.length_set]; exact hz) s.toks
  by_cases h0 : 0 ≤ k
  · have hk : k.toNat = j := by
      rw [seqIndex_of h0 h4] at h1
      exact Option.some.inj h1
    exact PySem.W.ki_setAt ho h0 (by omega) (by rw [List.size_toArray, ← hl]; exact h4) (by rw [hk]; exact ⟨_, I', q⟩)
  · have hk : (k + (its.toArray.size : Int)).toNat = j := by
      rw [seqIndex_neg (by omega) h3] at h1
      rw [List.size_toArray, ← hl]
      exact Option.some.inj h1
    exact PySem.W.ki_setBack ho (by omega) (by rw [List.size_toArray, ← hl]; exact h3) (by omega) (by rw [hk]; exact ⟨_, I', q⟩)
def flatV : V → Bool
  | .non => true
  | .bl _ => true
  | .int _ => true
  | .str _ => true
  | _ => false
def eqV : V → V → Bool
  | .non, .non => true
  | .bl a, .bl b => a == b
  | .bl a, .int b => (if a then 1 else 0) == b
  | .int a, .bl b => a == (if b then 1 else 0)
  | .int a, .int b => a == b
  | .str a, .str b => a == b
  | _, _ => false
theorem eqAt_V {A : Around} {s : Shared} {y x : V} {u v : Value} (ry : RelV y u) (rx : RelV x v) (fy : flatV y = true) (fx : flatV x = true) : SeqAt.EqAt A s u v (eqV y x) := by
  cases y with
  | non =>
    cases ry
    cases x with
    | non => cases rx; exact SeqAt.EqAt.same _
    | bl b => cases rx; exact SeqAt.EqAt.none_bool b
    | int b => obtain ⟨t, rfl⟩ := rx; exact SeqAt.EqAt.none_int b t
    | str b => obtain ⟨t, rfl⟩ := rx; exact SeqAt.EqAt.none_str b t
    | _ => exact absurd (show false = true from fx) Bool.false_ne_true
  | bl a =>
    cases ry
    cases x with
    | non => cases rx; exact SeqAt.EqAt.bool_none a
    | bl b => cases rx; exact SeqAt.EqAt.bool_bool a b
    | int b => obtain ⟨t, rfl⟩ := rx; exact SeqAt.EqAt.bool_int a b t
    | str b => obtain ⟨t, rfl⟩ := rx; exact SeqAt.EqAt.bool_str a b t
    | _ => exact absurd (show false = true from fx) Bool.false_ne_true
  | int a =>
    obtain ⟨t', rfl⟩ := ry
    cases x with
    | non => cases rx; exact SeqAt.EqAt.int_none a t'
    | bl b => cases rx; exact SeqAt.EqAt.int_bool a t' b
    | int b => obtain ⟨t, rfl⟩ := rx; exact SeqAt.EqAt.int_int a t' b t
    | str b => obtain ⟨t, rfl⟩ := rx; exact SeqAt.EqAt.int_str a t' b t
    | _ => exact absurd (show false = true from fx) Bool.false_ne_true
  | str a =>
    obtain ⟨t', rfl⟩ := ry
    cases x with
    | non => cases rx; exact SeqAt.EqAt.str_none a t'
    | bl b => cases rx; exact SeqAt.EqAt.str_bool a t' b
    | int b => obtain ⟨t, rfl⟩ := rx; exact SeqAt.EqAt.str_int a t' b t
    | str b => obtain ⟨t, rfl⟩ := rx; exact SeqAt.EqAt.str_str a t' b t
    | _ => exact absurd (show false = true from fx) Bool.false_ne_true
  | _ => exact absurd (show false = true from fy) Bool.false_ne_true
def eqU (x : V) (u : Value) : Bool := match u with
  | .none => eqV .non x
  | .bool b => eqV (.bl b) x
  | .int i _ => eqV (.int i) x
  | .str z _ => eqV (.str z) x
  | _ => false
theorem eqU_of {x y : V} {u : Value} (r : RelV y u) (f : flatV y = true) : eqU x u = eqV y x := by
  cases y with
  | non => cases r; rfl
  | bl b => cases r; rfl
  | int i => obtain ⟨t, rfl⟩ := r; rfl
  | str z => obtain ⟨t, rfl⟩ := r; rfl
  | _ => exact absurd (show false = true from f) Bool.false_ne_true
theorem any_eqU {x : V} : ∀ {xs : List V} {us : List Value}, Vals xs us → xs.all flatV = true → us.any (eqU x) = xs.any fun y => eqV y x
  | _, _, .nil, _ => rfl
  | y :: xs, u :: us, .cons r t, f => by
    rw [List.all_cons, Bool.and_eq_true] at f
    rw [List.any_cons, List.any_cons, eqU_of r f.1, any_eqU t f.2]
theorem mem_eqAt {A : Around} {s : Shared} {x : V} {v : Value} (rx : RelV x v) (fx : flatV x = true) : ∀ {xs : List V} {us : List Value}, Vals xs us → xs.all flatV = true → ∀ u ∈ us, SeqAt.EqAt A s u v (eqU x u)
  | _, _, .nil, _ => fun u hu => by cases hu
  | y :: xs, u :: us, .cons r t, f => fun u' hu => by
    rw [List.all_cons, Bool.and_eq_true] at f
    rcases List.mem_cons.mp hu with rfl | hu
    · rw [eqU_of r f.1]; exact eqAt_V r rx f.1 fx
    · exact mem_eqAt rx fx t f.2 u' hu
def inV (x : V) (xs : List V) : Bool := xs.any fun y => eqV y x
def rIn (K : PySem.W.Frag) (neg : Bool) : R2 := fun x y H Q => ∃ p xs, y = .ref p ∧ (SqL K H p xs ∨ SqT K H p xs) ∧ flatV x = true ∧ xs.all flatV = true ∧ Q (.bl (if neg then !inV x xs else inV x xs)) H
theorem op_in_seq : OpR X (compareOp .In) (rIn X.K false) := by
  intro pins s σ H x y v u Q I rx ry h
  obtain ⟨p, xs, rfl, hq, fx, fs, q⟩ := h
  cases ry
  rcases hq with hq | hq
  · obtain ⟨its, r, pl, hz⟩ := I.list hq
    refine SeqAt.in_listAt (eqU x) pl.isList (fun w hw => mem_eqAt rx fx r fs w (by simpa using hw)) ⟨.bl _, H, I, rfl, ?_⟩
    rw [show its.toArray.any (eqU x) = its.any (eqU x) by simp, any_eqU r fs]
    exact q
  · obtain ⟨its, r, pl, hz⟩ := I.tuple hq
    refine SeqAt.in_tupleAt (eqU x) pl (fun w hw => mem_eqAt rx fx r fs w (by simpa using hw)) ⟨.bl _, H, I, rfl, ?_⟩
    rw [show its.toArray.any (eqU x) = its.any (eqU x) by simp, any_eqU r fs]
    exact q
theorem op_notIn_seq : OpR X (compareOp .NotIn) (rIn X.K true) := by
  intro pins s σ H x y v u Q I rx ry h
  obtain ⟨p, xs, rfl, hq, fx, fs, q⟩ := h
  cases ry
  rcases hq with hq | hq
  · obtain ⟨its, r, pl, hz⟩ := I.list hq
    refine SeqAt.notIn_listAt (eqU x) pl.isList (fun w hw => mem_eqAt rx fx r fs w (by simpa using hw)) ⟨.bl _, H, I, rfl, ?_⟩
    rw [show its.toArray.any (eqU x) = its.any (eqU x) by simp, any_eqU r fs]
    exact q
  · obtain ⟨its, r, pl, hz⟩ := I.tuple hq
    refine SeqAt.notIn_tupleAt (eqU x) pl (fun w hw => mem_eqAt rx fx r fs w (by simpa using hw)) ⟨.bl _, H, I, rfl, ?_⟩
    rw [show its.toArray.any (eqU x) = its.any (eqU x) by simp, any_eqU r fs]
    exact q
theorem call_len_seq : CallR X (.builtin "len") (fun xs H Q => ∃ p ys, xs = [.ref p] ∧ (SqL X.K H p ys ∨ SqT X.K H p ys) ∧ Q (.int ys.length) H) := by
  intro pins s σ H xs us Q I r h
  obtain ⟨p, ys, rfl, hq, q⟩ := h
  obtain ⟨u, rfl, rx⟩ := vals1 r
  cases rx
  have hn := line63
  rcases hq with hq | hq
  · obtain ⟨its, r', pl, hz⟩ := I.list hq
    have hlen := r'.length
    exact Calls.call_len_list pl.isList (by simp only [List.size_toArray] <;> omega) ⟨.int ys.length, H, I.tok _, ⟨s.toks + 1, by rw [List.size_toArray, hlen]⟩, q⟩
  · obtain ⟨its, r', pl, hz⟩ := I.tuple hq
    have hlen := r'.length
    exact len_tuple pl (by simp only [List.size_toArray] <;> omega) ⟨.int ys.length, H, I.tok _, ⟨s.toks + 1, by rw [List.size_toArray, hlen]⟩, q⟩
theorem CallR.or {f : Value} {r r' : List V → Hp → VK → Prop} (h : CallR X f r) (h' : CallR X f r') : CallR X f (fun xs H Q => r xs H Q ∨ r' xs H Q) := by
  intro pins s σ H xs us Q I rs q
  rcases q with q | q
  · exact h pins s σ H xs us Q I rs q
  · exact h' pins s σ H xs us Q I rs q
theorem call_list_of : CallR X (.type "list") (fun xs H Q => ∃ p ys, xs = [.ref p] ∧ (SqL X.K H p ys ∨ SqT X.K H p ys) ∧ ∀ l, H l = none → Q (.ref l) (upd H l (.lst ys))) := by
  intro pins s σ H xs us Q I r h
  obtain ⟨p, ys, rfl, hq, q⟩ := h
  obtain ⟨u, rfl, rx⟩ := vals1 r
  cases rx
  have fin : ∀ (its : List Value), Vals ys its → ys.length ≤ sizeLine → ∀ (h' : Heap) (c' : Nat), (∀ b o', s.heap.get? b = some o' → h'.get? b = some o') →
      h'.get? s.heap.objs.size = some { cls := .type "list", dict := none, data := .seq its.toArray c', slots := #[] } → EP X pins σ Q (.ref s.heap.objs.size) { s with heap := h' } := fun its r' hz h' c' kp e =>
    ⟨.ref s.heap.objs.size, _, I.laid (t' := s.toks) kp (Nat.le_refl _) (show ObjOk X.prog X.w _ h' _ (.lst ys) from ⟨hz, its, c', r', e⟩), rfl, q _ (I.hok.fresh (Nat.le_refl _))⟩
  rcases hq with hq | hq
  · obtain ⟨its, r', pl, hz⟩ := I.list hq
    have hlen := r'.length
    obtain ⟨o, ho, hc, n, hd⟩ := pl.isList
    exact call_list_seq p (.inl rfl) ho hc hd (fun h' c' kp e => fin its r' hz h' c' kp e) (by simp only [List.size_toArray] <;> omega)
  · obtain ⟨its, r', pl, hz⟩ := I.tuple hq
    have hlen := r'.length
    obtain ⟨o, ho, hc, n, hd⟩ := pl
    exact call_list_seq p (.inr rfl) ho hc hd (fun h' c' kp e => fin its r' hz h' c' kp e) (by simp only [List.size_toArray] <;> omega)
theorem call_tuple_of : CallR X (.type "tuple") (fun xs H Q => ∃ p ys, xs = [.ref p] ∧ ((SqL X.K H p ys ∧ ∀ l, H l = none → Q (.ref l) (upd H l (.tup ys))) ∨ (SqT X.K H p ys ∧ Q (.ref p) H))) := by
  intro pins s σ H xs us Q I r h
  obtain ⟨p, ys, rfl, h⟩ := h
  obtain ⟨u, rfl, rx⟩ := vals1 r
  cases rx
  rcases h with ⟨hq, q⟩ | ⟨hq, q⟩
  · obtain ⟨its, r', pl, hz⟩ := I.list hq
    have hlen := r'.length
    refine call_tuple_list pl.isList (fun h' kp => ?_) (by simp only [List.size_toArray] <;> omega)
    have I1 : Inv X pins σ H { s with heap := h' } := I.kept (t' := s.toks) kp
    have I2 : Inv X pins σ (upd H h'.objs.size (.tup ys)) { s with heap := h'.push { cls := .type "tuple", data := .seq its.toArray } } :=
      I1.laid (t' := s.toks) (fun b o e => Heap.get?_push_of_some _ e) (Nat.le_refl _) (show ObjOk X.prog X.w _ _ _ (.tup ys) from ⟨hz, its, r', IsTup.new _ _⟩)
    exact ⟨.ref h'.objs.size, _, I2, rfl, q _ (I1.hok.fresh (Nat.le_refl _))⟩
  · obtain ⟨its, r', pl, hz⟩ := I.tuple hq
    exact call_tuple_same pl ⟨.ref p, H, I, rfl, q⟩
def tyV (K : PySem.W.Frag) (T : String) (x : V) (H : Hp) : Prop := match x with
  | .str _ => T = "str"
  | .int _ => T = "int"
  | .ref p => (T = "list" ∧ ∃ xs, SqL K H p xs) ∨ (T = "tuple" ∧ ∃ o, K.lookup p = some o ∧ o.cls = .type "tuple" ∧ o.dict = none) ∨
      (T = "dict" ∧ ((∃ kvs, H p = some (.dK kvs)) ∨ ∃ kvs, H p = some (.dT kvs))) ∨ (T = "set" ∧ ∃ S n, H p = some (.set S n))
  | _ => False
theorem tyV_is {pins : List (Addr × Obj)} {σ : St} {H : Hp} {s : Shared} {T : String} {x : V} {v : Value} (I : Inv X pins σ H s) (r : RelV x v) (ty : tyV X.K T x H) :
    s.TypeIs v T ∧ ∀ a, v = .ref a → ∃ ob, s.heap.get? a = some ob ∧ ob.dict = none := by
  cases x with
  | str z =>
    obtain ⟨t, rfl⟩ := r
    cases (show T = "str" from ty)
    exact ⟨typeIs_str s z t, fun _ e => nomatch e⟩
  | int i =>
    obtain ⟨t, rfl⟩ := r
    cases (show T = "int" from ty)
    exact ⟨typeIs_int s i t, fun _ e => nomatch e⟩
  | ref p =>
    cases r
    rcases ty with ⟨rfl, xs, hq⟩ | ⟨rfl, o, hk, hc, hd⟩ | ⟨rfl, hk⟩ | ⟨rfl, S, n, hk⟩
    · obtain ⟨its, _, pl, _⟩ := I.list hq
      refine ⟨pl.isList.typeIs, fun a e => ?_⟩
      cases e
      obtain ⟨o, n, e, c, hd, _⟩ := pl
      exact ⟨o, e, hd⟩
    · refine ⟨⟨o, I.kIn p o hk, hc⟩, fun a e => ?_⟩
      cases e
      exact ⟨o, I.kIn _ o hk, hd⟩
    · have z : ∃ o, s.heap.get? p = some o ∧ o.ExactDict := by
        rcases hk with ⟨kvs, hk⟩ | ⟨kvs, hk⟩
        · obtain ⟨_, _, _, _, o, _, _, e, ex, _⟩ := I.hok p _ hk
          exact ⟨o, e, ex⟩
        · obtain ⟨_, _, _, _, o, _, _, e, ex, _⟩ := I.hok p _ hk
          exact ⟨o, e, ex⟩
      obtain ⟨o, e, ex⟩ := z
      refine ⟨⟨o, e, ex.1⟩, fun a e2 => ?_⟩
      cases e2
      exact ⟨o, e, ex.2.1⟩
    · obtain ⟨o, _, _, _, e, ex, _⟩ := I.hok p _ hk
      refine ⟨⟨o, e, ex.1⟩, fun a e2 => ?_⟩
      cases e2
      exact ⟨o, e, ex.2.1⟩
  | _ => exact False.elim ty
def tBM (K : PySem.W.Frag) (T : String) (r : V → List V → Hp → VK → Prop) (to : TE) (t : TA) : TE := fun σ H Q => to σ H fun x H1 => tyV K T x H1 ∧ t σ H1 fun xs H2 => r x xs H2 Q
variable {o e : Expr} {es : List Expr} {to : TE} {t : TA} {name : Str} {apos cpos : Pos} {T id : String} {r : V → List V → Hp → VK → Prop}
theorem pe_bm (pa : PlainAttrs T) (slot : Slot T name id) (hty : typeOf (.builtin id) = pure (.type "method_descriptor")) (hm : MtR X id r) (ho : PE X o to) (ha : PA X (e :: es) t)
    (hbase : attributeBase o name X.env (eval o X.env) = eval o X.env := by rfl)
    (hfew : ((backTo cpos (starEach (e :: es) X.env)).all (fun x => !x.1) && (backToKw cpos (keywordEach [] X.env)).all (fun x => x.1.isSome)
      && decide ((e :: es).length + ([] : List Keyword).length + (if ([] : List Keyword).isEmpty then 0 else 1) < 30)) = true := by rfl)
    (hline : (apos.endLine == cpos.line) = true := by rfl) (hs : starEach (e :: es) X.env = (false, eval e X.env) :: starEach es X.env := by rfl) (hplain : (backTo cpos (starEach es X.env)).any (·.1) = false := by rfl) :
    PE X (.Call (.Attribute o name apos) (e :: es) [] cpos) (tBM X.K T r to t) := by
  intro pins s σ H Q I h
  refine wpAny_Call_method_late hbase hfew hline rfl (thn (ho pins s σ H _ I h) fun v s1 ⟨x, H1, I1, r1, ty, q1⟩ => ?_)
  obtain ⟨h1, h2⟩ := tyV_is I1 r1 ty
  refine ⟨T, id, pa, slot, hty, h1, h2, ?_⟩
  have hA := ha cpos pins s1 σ H1 _ I1 q1
  rw [hs] at hA ⊢
  refine Calls.callWith_builtin (by show (false || (backTo cpos (starEach es X.env)).any (·.1)) = false; rw [hplain] <;> rfl) (Calls.evalArgs_plain ?_)
  exact thn hA fun us s2 ⟨vs, H2, I2, r2, q2⟩ => hm pins s2 σ H2 x vs v us Q I2 r1 r2 q2
end
end L2
namespace L2
open PySem PySem.Spec PyProof.Rows
def MtM (X : Cx) (id : String) (r : V → List V → Hp → VK → Prop) : Prop :=
  ∀ (pins : List (Addr × Obj)) (s : Shared) (σ : St) (H : Hp) (x : V) (xs : List V) (v : Value) (us : List Value) (Q : VK), Inv X pins σ H s → RelV x v → Vals xs us → r x xs H Q →
    wpAny (model X.prog X.w) X.A (call (.builtin id) (v :: us)) (EP X pins σ Q) X.xe s
theorem Vals.one : ∀ {x : V} {us : List Value}, Vals [x] us → ∃ u, us = [u] ∧ RelV x u
  | _, _, .cons r .nil => ⟨_, rfl, r⟩
theorem Vals.two : ∀ {x y : V} {us : List Value}, Vals [x, y] us → ∃ u v, us = [u, v] ∧ RelV x u ∧ RelV y v
  | _, _, _, .cons r (.cons q .nil) => ⟨_, _, rfl, r, q⟩
theorem Vals.zero : ∀ {us : List Value}, Vals [] us → us = []
  | _, .nil => rfl
theorem Vals.eraseIdx : ∀ {xs : List V} {us : List Value} (i : Nat), Vals xs us → Vals (xs.eraseIdx i) (us.eraseIdx i)
  | _, _, _, .nil => .nil
  | _, _, 0, .cons _ t => t
  | _, _, i + 1, .cons r t => .cons r (Vals.eraseIdx i t)
theorem Vals.reverse {xs : List V} {us : List Value} (h : Vals xs us) : Vals xs.reverse us.reverse := by
  induction h with
  | nil => exact .nil
  | cons r t ih => rw [List.reverse_cons, List.reverse_cons]; exact Vals.append ih (.cons r .nil)
theorem Vals.rep {xs : List V} {us : List Value} (h : Vals xs us) : ∀ k : Nat, Vals (List.replicate k xs).flatten (List.replicate k us).flatten
  | 0 => .nil
  | k + 1 => by
    rw [List.replicate_succ, List.replicate_succ, List.flatten_cons, List.flatten_cons]
    exact Vals.append h (Vals.rep h k)
theorem len_erase {α : Type} : ∀ (l : List α) (i : Nat), (l.eraseIdx i).length ≤ l.length
  | [], _ => Nat.le_refl _
  | _ :: _, 0 => Nat.le_succ _
  | _ :: r, i + 1 => Nat.succ_le_succ (len_erase r i)
theorem foldl_rep (its : List Value) : ∀ (k : Nat) (acc : List Value),
    List.foldl (fun x1 x2 => x1 ++ x2) acc.toArray (List.replicate k its.toArray) = (acc ++ (List.replicate k its).flatten).toArray
  | 0, acc => by simp
  | k + 1, acc => by
    have e : acc.toArray ++ its.toArray = (acc ++ its).toArray := by simp
    have e2 : (acc ++ its) ++ (List.replicate k its).flatten = acc ++ (List.replicate (k + 1) its).flatten := by
      rw [List.replicate_succ, List.flatten_cons, List.append_assoc]
    rw [← e2, ← foldl_rep its k (acc ++ its), ← e, List.replicate_succ, List.foldl_cons]
section
variable {X : Cx} {pins : List (Addr × Obj)} {σ : St} {H : Hp} {s : Shared} {l b : Addr} {xs ys zs : List V}
theorem Inv.lset {its its' : List Value} {n : Nat} {f : Array Value → Array Value} {t' : Nat} (I : Inv X pins σ H s) (hH : H l = some (.lst xs))
    (e : s.heap.get? l = some { cls := .type "list", data := .seq its.toArray n }) (hf : f its.toArray = its'.toArray) (hv : Vals ys its') (hz : ys.length ≤ sizeLine) :
    Inv X pins σ (upd H l (.lst ys)) { s with heap := s.heap.update l (Obj.mapSeq f), toks := t' } := by
  have q := PySem.IsL.update e f
  rw [hf] at q
  refine I.write (x := l) (e := l) (by rw [hH]; exact trivial) (.inl rfl) (fun b' u hb hu => (Heap.get?_update_other s.heap (Obj.mapSeq f) (Ne.symm hb)).trans hu) ⟨_, q⟩ ?_
  exact ⟨hz, its', _, hv, q⟩
theorem Inv.lnew {its : List Value} {t' : Nat} (I : Inv X pins σ H s) (hv : Vals ys its) (hz : ys.length ≤ sizeLine) :
    Inv X pins σ (upd H s.heap.objs.size (.lst ys)) { s with heap := s.heap.push { cls := .type "list", data := .seq its.toArray }, toks := t' } :=
  I.laid (fun _ _ q => Heap.get?_push_of_some _ q) (Nat.le_refl _) ⟨hz, its, 0, hv, Heap.get?_push_size _ rfl⟩
theorem Inv.fresh (I : Inv X pins σ H s) : H s.heap.objs.size = none := I.hok.fresh (Nat.le_refl _)
theorem Inv.lstM (I : Inv X pins σ H s) (hH : H l = some (.lst xs)) : xs.length ≤ sizeLine ∧ ∃ (its : List Value) (n : Nat), Vals xs its ∧ xs.length = its.length ∧ s.heap.get? l = some { cls := .type "list", data := .seq its.toArray n } := by
  obtain ⟨z, its, n, r, e⟩ := I.hok l _ hH
  exact ⟨z, its, n, r, r.length, e⟩
theorem notLongL {n : Nat} (h : n ≤ sizeLine) : Builtin.List.listTooLong n = false := by
  unfold Builtin.List.listTooLong
  exact decide_eq_false (by omega)
end
section
variable {X : Cx}
def rAppend : V → List V → Hp → VK → Prop := fun x vs H Q => ∃ l xs y, x = .ref l ∧ vs = [y] ∧ H l = some (.lst xs) ∧ xs.length < sizeLine ∧ Q .non (upd H l (.lst (xs ++ [y])))
theorem mt_append : MtM X "list.append" rAppend := by
  intro pins s σ H x vs v us Q I rx rv h
  obtain ⟨l, xs, y, rfl, rfl, hH, hz, q⟩ := h
  cases rx
  obtain ⟨u, rfl, ru⟩ := rv.one
  obtain ⟨z, its, n, r, hl, e⟩ := I.lstM hH
  refine call_meets F.slot_list_append ⟨_, e, rfl⟩ F.entry_list_append (F.args_list_append_2 _ _) (PySem.list_append l its.toArray n u (by rw [List.size_toArray]; omega)) ⟨e, ?_⟩
  refine ⟨.non, _, I.lset (its' := its ++ [u]) hH e (by simp) (r.append (.cons ru .nil)) ?_, rfl, q⟩
  rw [List.length_append, List.length_singleton]
  omega
def rPopAt : V → List V → Hp → VK → Prop := fun x vs H Q => ∃ l xs i k y, x = .ref l ∧ vs = [.int i] ∧ H l = some (.lst xs) ∧ -(2 ^ 63) ≤ i ∧ i < 2 ^ 63 ∧ seqIndex? i xs.length = some k ∧ xs[k]? = some y ∧ Q y (upd H l (.lst (xs.eraseIdx k)))
theorem mt_popAt : MtM X "list.pop" rPopAt := by
  intro pins s σ H x vs v us Q I rx rv h
  obtain ⟨l, xs, i, k, y, rfl, rfl, hH, h1, h2, hk, hy, q⟩ := h
  cases rx
  obtain ⟨u, rfl, ru⟩ := rv.one
  obtain ⟨t, rfl⟩ := ru
  obtain ⟨z, its, n, r, hl, e⟩ := I.lstM hH
  obtain ⟨w, hw, rw'⟩ := r.get hy
  refine call_meets F.slot_list_pop ⟨_, e, rfl⟩ F.entry_list_pop (F.args_list_pop_2 _ _)
    (MeetsSeq.list_pop_at l its.toArray n i t k w (fitsIndex_both h1 h2) (by rw [List.size_toArray, ← hl]; exact hk) (by rw [← Array.getElem?_toList]; exact hw) (by rw [List.size_toArray]; omega)) ⟨e, ?_⟩
  refine ⟨y, _, I.lset (its' := its.eraseIdx k) hH e ?_ (r.eraseIdx k) ?_, rw', q⟩
  · show its.toArray.eraseIdxIfInBounds k = (its.eraseIdx k).toArray
    rw [List.eraseIdxIfInBounds_toArray]
  · have := len_erase xs k
    omega
def rCat : R2 := fun x y H Q => ∃ l b xs zs, x = .ref l ∧ y = .ref b ∧ H l = some (.lst xs) ∧ H b = some (.lst zs) ∧ xs.length + zs.length ≤ sizeLine ∧ ∀ p, H p = none → Q (.ref p) (upd H p (.lst (xs ++ zs)))
theorem op_cat : OpR X (binaryOp .Add) rCat := by
  intro pins s σ H x y v u Q I rx ry h
  obtain ⟨l, b, xs, zs, rfl, rfl, hH, hB, hz, q⟩ := h
  cases rx
  cases ry
  obtain ⟨z, its, n, r, hl, e⟩ := I.lstM hH
  obtain ⟨z2, its2, n2, r2, hl2, e2⟩ := I.lstM hB
  refine PySem.P.add_list e e2 ?_ (by rw [List.size_toArray, List.size_toArray]; omega)
  have ea : its.toArray ++ its2.toArray = (its ++ its2).toArray := by simp
  rw [ea]
  exact ⟨.ref _, _, I.lnew (t' := s.toks) (r.append r2) (by rw [List.length_append]; omega), rfl, q _ I.fresh⟩
def rRep : R2 := fun x y H Q => ∃ l k xs, x = .ref l ∧ y = .int k ∧ H l = some (.lst xs) ∧ -(2 ^ 63) ≤ k ∧ k < 2 ^ 63 ∧ xs.length * k.toNat ≤ sizeLine ∧
  ∀ p, H p = none → Q (.ref p) (upd H p (.lst (List.replicate k.toNat xs).flatten))
theorem len_rep {α : Type} (xs : List α) (k : Nat) : (List.replicate k xs).flatten.length = k * xs.length := by
  induction k with
  | zero => simp
  | succ k ih => rw [List.replicate_succ, List.flatten_cons, List.length_append, ih, Nat.succ_mul, Nat.add_comm]
theorem op_rep : OpR X (binaryOp .Mult) rRep := by
  intro pins s σ H x y v u Q I rx ry h
  obtain ⟨l, k, xs, rfl, rfl, hH, h1, h2, hz, q⟩ := h
  cases rx
  obtain ⟨t, rfl⟩ := ry
  obtain ⟨z, its, n, r, hl, e⟩ := I.lstM hH
  have hlen : its.toArray.size * k.toNat ≤ sizeLine := by rw [List.size_toArray, ← hl]; exact hz
  have hcap : ¬ its.toArray.size * k.toNat > (2 ^ 63 - 1) / 8 := by
    have : (sizeLine : Nat) ≤ (2 ^ 63 - 1) / 8 := by decide
    omega
  have hfit : ¬ (!Builtin.List.listFitsIndex k) = true := by
    rw [fitsIndex_both h1 h2]
    exact Bool.false_ne_true
  have hlong : ¬ Builtin.List.listTooLong (its.toArray.size * k.toNat) = true := by
    rw [notLongL hlen]
    exact Bool.false_ne_true
  have hnew : List.foldl (fun x1 x2 => x1 ++ x2) #[] (List.replicate (if its.toArray.isEmpty = true then 0 else k.toNat) its.toArray) = (List.replicate k.toNat its).flatten.toArray := by
    have f0 : ∀ m : Nat, List.foldl (fun x1 x2 => x1 ++ x2) #[] (List.replicate m its.toArray) = (List.replicate m its).flatten.toArray := fun m => by
      have := foldl_rep its m []
      rw [List.nil_append] at this
      exact this
    rw [f0]
    cases its with
    | nil => simp
    | cons a r' => rw [if_neg (by simp)]
  refine wpAny_binaryOp_repeat_ref (T := "list") (U := "int") (by decide) ⟨_, e, rfl⟩ (fun s' => typeIs_int s' k t) noFill_list_mul F.fills_int_mul F.slot_int_rmul repeat_list F.slot_int_index.lookup
    (call_meets F.slot_int_rmul (typeIs_int s k t) F.entry_int_rmul (F.args_int_rmul_2 _ _) (int___rmul___int_list k t l its.toArray n)
      ⟨e, rfl, ⟨_, e, rfl⟩, call_meets F.slot_list_mul ⟨_, e, rfl⟩ F.entry_list_mul (F.args_list_mul_2 _ _) (AutoListH.list___mul___list_int_3 l its.toArray n k t hfit hcap hlong) ⟨e, ?_⟩⟩)
  rw [hnew]
  exact ⟨.ref _, _, I.lnew (t' := s.toks) (r.rep k.toNat) (by rw [len_rep, Nat.mul_comm]; exact hz), rfl, q _ I.fresh⟩
end
section
variable {prog : Program} {w : World} {A : Around} {E : Value → Shared → Prop} {s : Shared}
end
section
variable {X : Cx}
end
end L2
namespace Att
open PySem PySem.W PySem.Calls PyProof.Rows
theorem ints_of_wellAll {P : Params} {h : Heap} : ∀ (ns : List Int) (vs : List Value), WellAll P h vs (ns.map WData.int) → IntsAre vs ns := by
  intro ns
  induction ns with
  | nil =>
    intro vs w
    rw [List.map_nil] at w
    cases w
    exact .nil
  | cons n ns ih =>
    intro vs w
    rw [List.map_cons] at w
    cases w with
    | cons a b =>
      cases a
      exact .cons _ _ (ih _ b)
theorem script_of {l : OpenLaw} {n : Nat} (hn : l.most = some n) {P : Params} {h : Heap} {args : List WData} {vals : List Value}
    (hpre : l.row.toRowW.claim.pre args = true) (hwl : WellAll P h vals args) :
    ∃ a vs ns, vals = [Value.ref a] ∧ args = [WData.list (ns.map WData.int)] ∧ h.get? a = some { cls := .type "list", data := .seq vs.toArray } ∧ IntsAre vs ns ∧ ns.length ≤ n := by
  have hsh : WShape.hasAll [] args [.list .int] = true := (pre_splitW hpre).1
  have hc : l.pre.holds [] { args := args } = true := (pre_splitW hpre).2
  obtain ⟨d, r, rfl, h1, h2⟩ := hasAllW_cons hsh
  obtain rfl := hasAllW_nil h2
  obtain ⟨xs, rfl, h3⟩ := hasW_list h1
  obtain ⟨ns, rfl⟩ := items_int h3
  have hlen : ns.length ≤ n := by
    unfold OpenLaw.pre at hc
    have h4 : (WTm.not (.lt (.lit (.int (n : Int))) (.len (.arg 0)))).holds [] { args := [.list (ns.map .int)] } = true := by
      have h4 := (holds_andW hc).1
      rw [hn] at h4
      exact h4
    have h5 := condW_of h4 (w_not (w_lt w_lit (w_len_list (w_arg rfl))))
    rw [List.length_map] at h5
    refine Nat.le_of_not_lt fun q => ?_
    have q' : (n : Int) < ((ns.length : Nat) : Int) := by omega
    first
      | (rw [decide_eq_true q'] at h5; exact absurd h5 (by decide))
      | (simp at h5; omega)
  cases hwl with
  | cons w1 w2 =>
    cases w2
    cases w1 with
    | list ho hall => exact ⟨_, _, ns, rfl, rfl, ho, ints_of_wellAll ns _ hall, hlen⟩
theorem post_true (l : OpenLaw) (args : List WData) : l.row.toRowW.claim.post args (.bool true) args = true :=
  postW_of (r := l.row.toRowW) (X := (true == true))
    (show WShape.has [] (.bool true) .bool = true by first | rfl | decide | simp [WShape.has, WShape.arms, WShape.armsAll])
    (show (WTm.eq .res (.lit (.bool true))).value [] { args := args, res := some (.bool true), after := args } = some (.bool (true == true)) from w_eq_bool (w_res rfl) w_lit) rfl
theorem attach_call {l : OpenLaw} {n : Nat} {q : Program} {loose : List Str} {XP : (Str → Option Value) → Heap → Prop} {YP : World → Heap → Prop} {d : DefRec}
    (hn : l.most = some n) (hdf : d.params.defaults = [])
    (call : ∀ (w : World) (s₀ s₁ : Shared) (mg mb : Str → Option Value) (fa : Addr) (o : Obj) (pm cd doc : Value) (a : Addr) (vs : List Value) (ns : List Int),
      Ground q loose [] XP w s₀ mg mb s₁.heap → YP w s₁.heap →
      s₁.heap.get? fa = some o → o.data = .func (docDef d.name d.params d.body d.scope pm cd doc) → s₁.heap.CodeRec cd d.name → mg d.name = some (.ref fa) →
      s₁.heap.get? a = some { cls := .type "list", data := .seq vs.toArray } → IntsAre vs ns → ns.length ≤ n → s₁.gens = #[] →
      codeAny (model l.prog w) callerA (.call (.ref fa) ⟨[.ref a], []⟩) (fun r s' => r = .ok (.ret (.bool true)) ∧ OldK s₁.heap s'.heap ∧ s'.os = s₁.os ∧ AllBare s'.gens) s₁) :
    WalkO q loose XP YP l.row.toRowW d [] (fun f vs => PySem.call f vs) := by
  intro w s₀ s₁ mg mb G Y fa o pm cd doc dV kV ho hd hcd hD hmg hg args vals as hpre hlay hrd hwl hlo
  obtain rfl : dV = .none := Dflts.none hD hdf
  obtain rfl : kV = .none := Dflts.noKw hD
  obtain ⟨a, vs, ns, rfl, rfl, hobj, hints, hlen⟩ := script_of hn hpre hwl
  refine enter_call (codeAny_mono (call w s₀ s₁ mg mb fa o pm cd doc a vs ns G Y ho (fd_plain hd) hcd hmg hobj hints hlen hg) fun r s' hq => ?_)
  obtain ⟨rfl, h2, h3, h4⟩ := hq
  exact ⟨.inl ⟨.bool true, .bool true, [], rfl, fun _ => rfl, .bool true, post_true l _, fun _ => ⟨List.Pairwise.nil, fun _ hm => (nomatch hm)⟩⟩, h2, h3, h4⟩
section
variable {prog : Program} {w : World} {A : Around} {E : Value → Shared → Prop} {s : Shared} {K : Frag}
def ledger (h : Heap) (L d : Addr) : List (Addr × Obj) := (List.range h.objs.size).filterMap fun a => if a = L ∨ a = d then none else (h.get? a).map fun o => (a, o)
end
end Att
namespace L2
open PySem PySem.Spec PyProof.Rows
theorem vals_ints : ∀ {vs : List Value} {ns : List Int}, IntsAre vs ns → Vals (ns.map V.int) vs
  | _, _, .nil => .nil
  | _, _, .cons n t h => .cons ⟨t, rfl⟩ (vals_ints h)
def Only (H : Hp) : Prop := ∀ b, H b = none ∨ ∃ o xs, H b = some (.frz o (.lst xs))
theorem law_call {P : Program} {w : World} {K : PySem.W.Frag} {mg mb : Str → Option Value} {CX : CXT} {k : Nat} {fa a : Addr} {fd : FuncData} {x : Str} {sp : Sp} {s₁ : Shared} {vs : List Value} {ns : List Int}
    (KX : K.In s₁.heap) (hns : s₁.heap.Ns mainGlobals mg) (hb : s₁.heap.Ns builtinsNs mb) (hbb : ∀ x : Str, x ≠ "__name__" → mb x = bootBuiltins x) (hlim : s₁.heap.NoLimit) (hg : s₁.gens = #[])
    (ha : s₁.heap.get? a = some { cls := .type "list", data := .seq vs.toArray }) (hi : IntsAre vs ns) (hl : ns.length ≤ sizeLine) (hr : Room k callerA)
    (F : ∀ base : Heap, K.In base → base.Ns mainGlobals mg → FnOk P w K mg base CX k fa fd [x] sp) (hbind : ∀ (s : Shared) (u : Value), BindsTo s fd ⟨[u], []⟩ [(x, u)])
    (hsp : ∀ H : Hp, Only H → SqL K H a (ns.map V.int) → sp [.ref a] H (fun v _ => v = .bl true) fun _ _ _ => False)
    (hCX : ∀ H e s', CX [] H s₁ (fun _ _ _ => False) e s' → False) :
    codeAny (model P w) callerA (.call (.ref fa) ⟨[.ref a], []⟩) (fun r s' => r = .ok (.ret (.bool true)) ∧ OldK s₁.heap s'.heap ∧ s'.os = s₁.os ∧ AllBare s'.gens) s₁ := by
  have rv := vals_ints hi
  have lenV := hi.length
  have core : ∀ H : Hp, Only H → SqL K H a (ns.map V.int) → HOk P w H s₁.heap → (∀ b, H b ≠ none → b = a) → (H a ≠ none → K.lookup a = none) →
      codeAny (model P w) callerA (.call (.ref fa) ⟨[.ref a], []⟩) (fun r s' => r = .ok (.ret (.bool true)) ∧ OldK s₁.heap s'.heap ∧ s'.os = s₁.os ∧ AllBare s'.gens) s₁ := by
    intro H hO hS hok hA hK
    have base_of : ∀ {b : Addr} {o : Obj}, s₁.heap.get? b = some o → H b = none → (hidT s₁.heap H).get? b = some o := fun e n => hidT_get e n
    have noA : ∀ {b : Addr} {o : Obj} {es : Array DictEntry} {ep : Nat}, s₁.heap.get? b = some o → o.data = .dict es ep → H b = none := fun {b o es ep} e d => by
      cases q : H b with
      | none => rfl
      | some u =>
        have e' : b = a := hA b (by rw [q]; simp)
        subst e'
        rw [ha] at e; cases e
        have d' : Data.seq vs.toArray _ = Data.dict es ep := d
        cases d'
    have nsK : ∀ {b : Addr} {m : Str → Option Value}, s₁.heap.Ns b m → (hidT s₁.heap H).Ns b m := fun {b m} ⟨o, es, ep, e, d, r⟩ => ⟨o, es, ep, base_of e (noA e d), d, r⟩
    have hKb : K.In (hidT s₁.heap H) := fun b o e => base_of (KX b o e) (by
      cases q : H b with
      | none => rfl
      | some u =>
        have e' : b = a := hA b (by rw [q]; simp)
        subst e'
        rw [hK (by rw [q]; simp)] at e; cases e)
    have hM : Mod K mg (hidT s₁.heap H) := ⟨hKb, nsK hns, ⟨mb, nsK hb, hbb⟩, let ⟨mc, h1, h2⟩ := hlim; ⟨mc, nsK h1, h2⟩⟩
    have e0 : Env0 P w K mg (hidT s₁.heap H) callerA [] s₁ H := ⟨rfl, hM, fun b o e => of_hidT e, Nat.le_of_eq (hidT_size _ _), trivial, fun b hb => absurd (show b ∈ ([] : List Addr) from hb) (by simp), hok, .of_eq hg⟩
    refine codeAny_mono ((F _ hKb (nsK hns)).run callerA [] s₁ H ⟨[.ref a], []⟩ [.ref a] [.ref a] _ _ hr e0 (hbind s₁ (.ref a)) (.cons rfl .nil) (hsp H hO hS)) fun r s' h => ?_
    cases r with
    | error e => exact (hCX H e s' h).elim
    | ok fl =>
      cases fl with
      | next => exact False.elim h
      | brk => exact False.elim h
      | cont => exact False.elim h
      | ret u =>
        obtain ⟨v, H', os, bare, un, hok', r', q⟩ := h
        have q' : v = .bl true := q
        subst q'
        obtain rfl : u = Value.bool true := r'
        refine ⟨rfl, OldK.of_keep fun b o e => ?_, os, bare⟩
        cases q : H b with
        | none => exact un.keep b o e q (by intro z; exact absurd (show b ∈ ([] : List Addr) from z) (by simp)) (by simp)
        | some u =>
          rcases hO b with z | ⟨ob, xs, z⟩
          · rw [q] at z; cases z
          · have z2 := un.frzs b ob _ z
            obtain ⟨e1, _⟩ := hok b _ z
            obtain ⟨e2, _⟩ := hok' b _ z2
            rw [e] at e1; cases e1
            exact e2
  cases hk : K.lookup a with
  | some o =>
    have e := KX a o hk
    rw [ha] at e
    cases e
    refine core (fun _ => none) (fun _ => .inl rfl) (.inr ⟨_, vs.toArray, _, hk, rfl, rfl, rfl, by rw [List.size_toArray, lenV]; exact hl, by simpa using rv⟩) (fun b u z => by have z' : (none : Option HO) = some u := z; cases z') (fun b z => absurd rfl z) fun z => absurd rfl z
  | none =>
    refine core (fun b => if b = a then some (.frz { cls := .type "list", data := .seq vs.toArray } (.lst (ns.map V.int))) else none) (fun b => ?_) (.inl (.inr ⟨{ cls := .type "list", data := .seq vs.toArray }, if_pos rfl⟩)) (fun b u z => ?_) (fun b z => ?_) fun _ => hk
    · by_cases hb : b = a
      · exact .inr ⟨_, _, if_pos hb⟩
      · exact .inl (if_neg hb)
    · by_cases hb : b = a
      · have z' := (if_pos hb).symm.trans z
        cases z'
        subst hb
        exact ⟨ha, by rw [List.length_map]; exact hl, vs, _, rv, ha⟩
      · have z' := (if_neg hb).symm.trans z
        cases z'
    · by_cases hb : b = a
      · exact hb
      · exact absurd (if_neg hb) z
end L2
namespace L2
open PySem PySem.Spec PyProof.Rows
theorem walk_of {l : PySem.W.OpenLaw} {n k : Nat} {q : Program} {loose : List Str} {XP : (Str → Option Value) → Heap → Prop} {YP : World → Heap → Prop} {d : DefRec} {K : Params → PySem.W.Frag} {CX : World → CXT} {sp : World → Sp} {x : Str}
    (hn : l.most = some n) (hn2 : n ≤ sizeLine) (hdf : d.params.defaults = []) (hr : Room k callerA)
    (hY : ∀ (w : World) (h : Heap), YP w h → (K w.params).In h)
    (F : ∀ (w : World) (mg : Str → Option Value) (fa : Addr) (h : Heap), (K w.params).In h → h.Ns mainGlobals mg → mg d.name = some (.ref fa) →
      ∃ fd : FuncData, (∀ (s : Shared) (u : Value), BindsTo s fd ⟨[u], []⟩ [(x, u)]) ∧
        ∀ base : Heap, (K w.params).In base → base.Ns mainGlobals mg → FnOk l.prog w (K w.params) mg base (CX w) k fa fd [x] (sp w))
    (hsp : ∀ (w : World) (H : Hp) (a : Addr) (ns : List Int), ns.length ≤ n → Only H → SqL (K w.params) H a (ns.map V.int) → sp w [.ref a] H (fun v _ => v = .bl true) fun _ _ _ => False)
    (hCX : ∀ (w : World) (H : Hp) (s : Shared) (e : Value) (s' : Shared), CX w [] H s (fun _ _ _ => False) e s' → False) :
    PySem.W.WalkO q loose XP YP l.row.toRowW d [] (fun f vs => PySem.call f vs) := by
  refine Att.attach_call hn hdf fun w s₀ s₁ mg mb fa o pm cd doc a vs ns G Y ho hd hcd hmg hobj hints hlen hg => ?_
  have KX := hY w _ Y
  obtain ⟨fd, hb, hF⟩ := F w mg fa _ KX G.T.g hmg
  exact law_call KX G.T.g G.T.b G.T.builtins G.T.nolimit hg hobj hints (Nat.le_trans hlen hn2) hr hF hb (fun H hO hS => hsp w H a ns hlen hO hS) fun H e s' => hCX w H s₁ e s'
end L2
namespace L2
open PySem PySem.Spec PyProof.Rows
def inClass (s : Stmt) (j : Nat) : Stmt := match s with
  | .ClassDef _ _ _ body _ _ _ _ _ _ _ => body.getD j (.Pass ⟨0, 0, 0, 0⟩)
  | _ => .Pass ⟨0, 0, 0, 0⟩
def defArgs (s : Stmt) : Arguments := match s with
  | .FunctionDef _ a _ _ _ _ _ _ _ _ => a
  | _ => { posonlyargs := [], args := [], vararg := none, kwonlyargs := [], kw_defaults := [], kwarg := none, defaults := [] }
def defBody (s : Stmt) : List Stmt := match s with
  | .FunctionDef _ _ b _ _ _ _ _ _ _ => b
  | _ => []
def defScope (s : Stmt) : Scope := match s with
  | .FunctionDef _ _ _ _ _ _ sc _ _ _ => sc
  | _ => { kind := .function, names := [], isGenerator := false, isCoroutine := false }
abbrev CX0 : CXT := fun _ _ _ _ _ _ => False
abbrev E0 : XK := fun _ _ _ => False
theorem pass0 {X : Cx} : Passes CX0 X E0 := fun _ _ _ _ _ _ _ h => h.elim
structure Fun (K : PySem.W.Frag) (x qual : Str) (st : Stmt) (f : Addr) (fd : FuncData) : Prop where
  ex : ∃ (oc : Value) (od : Option Addr) (kV doc pm : Value) (an : Option Addr) (cdv ct : Value) (osl : Array (Option Value)),
    fd = PySem.W.fnOf x qual (defArgs st) (defBody st) (defScope st) .none kV doc pm an cdv ct ∧ K.lookup f = some ⟨oc, od, .func fd, osl⟩ ∧ PySem.W.codeIn K cdv qual = true
  kp : PySem.W.keepIn K (.ref f) = true
section
variable {P : Program} {w : World} {K : PySem.W.Frag} {mg : Str → Option Value} {base : Heap}
theorem Fun.ok {x qual : Str} {st : Stmt} {f : Addr} {fd : FuncData} {N ps : List Str} {k : Nat} {sp : Sp} (F : Fun K x qual st f fd) (S : FnScope N ps (defScope st)) (len : ∀ vs H Q E, sp vs H Q E → vs.length = ps.length)
    (hbody : ∀ (cdv : Value) (A : Around) (outer : List Env) (s : Shared) (H : Hp) (vs : List V) (Q : VK) (E : XK), Room k (A.deeper (envOfC qual (defScope st) s.heap.objs.size f cdv)) → sp vs H Q E →
      ∃ t, PSs (cxOf CX0 P w K mg base N qual (defScope st) f cdv A outer s H E).nox (defBody st) t ∧ t { nx := fun _ H' => Q .non H', rt := Q } (start N vs) H) : FnOk P w K mg base CX0 (k + 1) f fd ps sp := by
  obtain ⟨oc, od, kV, doc, pm, an, cdv, ct, osl, rfl, lk, hcd⟩ := F.ex
  refine fn_of lk hcd S len fun A outer s H vs Q E hr hsp => ?_
  obtain ⟨t, h, q⟩ := hbody cdv A outer s H vs Q E hr hsp
  exact ⟨t, h.nox, q⟩
theorem Fun.binds {x qual : Str} {st : Stmt} {f : Addr} {fd : FuncData} {ps : List Str} (F : Fun K x qual st f fd)
    (h : ∀ (kV doc pm : Value) (an : Option Addr) (cdv ct : Value) (us : List Value), us.length = ps.length → bindArgs (PySem.W.fnOf x qual (defArgs st) (defBody st) (defScope st) .none kV doc pm an cdv ct) ⟨us, []⟩ = pure (ps.zip us)) : Binds K fd ps [] := by
  obtain ⟨oc, od, kV, doc, pm, an, cdv, ct, osl, rfl, lk, hcd⟩ := F.ex
  exact .all (h kV doc pm an cdv ct)
theorem fun_mk {x qual : Str} {st : Stmt} {f : Addr} {oc : Value} {od an : Option Addr} {osl : Array (Option Value)} {kV doc pm cdv ct : Value} (l : K.lookup f = some ⟨oc, od, .func (PySem.W.fnOf x qual (defArgs st) (defBody st) (defScope st) .none kV doc pm an cdv ct), osl⟩)
    (c : PySem.W.codeIn K cdv qual = true) (k : PySem.W.keepIn K (.ref f) = true) : Fun K x qual st f (PySem.W.fnOf x qual (defArgs st) (defBody st) (defScope st) .none kV doc pm an cdv ct) := ⟨⟨oc, od, kV, doc, pm, an, cdv, ct, osl, rfl, l, c⟩, k⟩
end
theorem hu_of {A : Around} {k : Nat} (hr : Room k A) : A.units + 1 < cLine := Nat.lt_of_le_of_lt (Nat.add_le_add_left (by decide : 1 ≤ 64) _) hr.units
theorem small1000 {n : Nat} (h : n ≤ 1000) : n < sizeLine := Nat.lt_of_le_of_lt h (by decide)
section
variable {X : Cx}
theorem pv (i : Nat) {x : Str} {pos : Pos} (hN : X.N[i]? = some x := by rfl) (hv : Vis X.env.scope x := by first | exact Or.inl rfl | exact Or.inr (Or.inl rfl) | exact Or.inr (Or.inr rfl)) (hd : (x == ("__debug__" : Str)) = false := by decide)
    (hcd : (x == ("__classdict__" : Str)) = false := by decide) : PE X (.Name x pos) (tVar i) := pe_var hN hv hd hcd
end
theorem iteF {A B : Prop} (h : B) : if false = true then A else B := by
  rw [if_neg Bool.false_ne_true]
  exact h
theorem iteT {A B : Prop} (h : A) : if true = true then A else B := by
  rw [if_pos rfl]
  exact h
theorem ite2 {c A B : Prop} [Decidable c] (h1 : c → A) (h2 : ¬ c → B) : if c then A else B := by
  by_cases h : c
  · rw [if_pos h]
    exact h1 h
  · rw [if_neg h]
    exact h2 h
def Same (H H' : Hp) : Prop := ∀ b o, H b = some o → H' b = some o
theorem Same.refl (H : Hp) : Same H H := fun _ _ h => h
theorem Same.trans {H H1 H2 : Hp} (a : Same H H1) (b : Same H1 H2) : Same H H2 := fun c o h => b c o (a c o h)
theorem Same.free {H H' : Hp} (e : Same H H') {l : Addr} (h : H' l = Option.none) : H l = Option.none := by
  cases q : H l with
  | none => rfl
  | some o =>
    rw [e l o q] at h
    cases h
theorem Same.seq {K : PySem.W.Frag} {H H' : Hp} {a : Addr} {xs : List V} (e : Same H H') (h : SqL K H a xs) : SqL K H' a xs := by
  rcases h with (h | ⟨o, h⟩) | h
  · exact .inl (.inl (e _ _ h))
  · exact .inl (.inr ⟨o, e _ _ h⟩)
  · exact .inr h
end L2
namespace L2
open PySem PySem.Spec PyProof.Rows
def clOf (en : Env) : List (Str × NameKind) → List (Str × Addr) → List (Str × Addr)
  | [], cs => cs
  | (n, k) :: r, cs => if (k == NameKind.free) = true then clOf en r ((n, (en.cells.lookup n).getD 0) :: cs) else clOf en r cs
theorem clOf_for {en : Env} : ∀ (ns : List (Str × NameKind)) (cs : List (Str × Addr)), (∀ y ∈ ns, y.2 = .free → (en.cells.lookup y.1).isSome = true) →
    (forIn ns cs fun (y : Str × NameKind) (r : List (Str × Addr)) => (if (y.2 == NameKind.free) = true then (cellOf en y.1 >>= fun a => pure (ForInStep.yield ((y.1, a) :: r))) else pure (ForInStep.yield r) : Sem (ForInStep (List (Str × Addr))))) = pure (clOf en ns cs) := by
  intro ns
  induction ns with
  | nil => intro cs _; rfl
  | cons y r ih =>
    intro cs h
    obtain ⟨n, k⟩ := y
    rw [List.forIn_cons]
    have hr := fun cs => ih cs fun y hy => h y (List.mem_cons_of_mem _ hy)
    dsimp only
    by_cases hk : (k == NameKind.free) = true
    · have hk' : k = .free := by simpa using hk
      obtain ⟨a, ha⟩ := Option.isSome_iff_exists.mp (h (n, k) List.mem_cons_self hk')
      have e1 : cellOf en n = pure a := by unfold cellOf; dsimp only at ha; rw [ha]
      have e2 : clOf en ((n, k) :: r) cs = clOf en r ((n, a) :: cs) := by
        show (if (k == NameKind.free) = true then _ else _) = _
        rw [if_pos hk]; dsimp only at ha; rw [ha]; rfl
      rw [if_pos hk, e1, e2]
      simp only [pure_bind]
      exact hr _
    · have e2 : clOf en ((n, k) :: r) cs = clOf en r cs := by
        show (if (k == NameKind.free) = true then _ else _) = _
        rw [if_neg hk]
      rw [if_neg hk, e2]
      simp only [pure_bind]
      exact hr _
theorem closureFor_cl {en : Env} {sc : Scope} (h : ∀ y ∈ sc.names, y.2 = .free → (en.cells.lookup y.1).isSome = true) : closureFor sc en = pure (clOf en sc.names []) := by
  have q := clOf_for (en := en) sc.names [] h
  unfold closureFor
  refine Eq.trans ?_ (show (forIn sc.names ([] : List (Str × Addr)) _ >>= pure) = _ by rw [q]; rfl)
  rfl
theorem clOf_sub {en : Env} : ∀ (ns : List (Str × NameKind)) (cs : List (Str × Addr)), (∀ y ∈ ns, y.2 = .free → (en.cells.lookup y.1).isSome = true) → (∀ x c, cs.lookup x = some c → en.cells.lookup x = some c) →
    ∀ x c, (clOf en ns cs).lookup x = some c → en.cells.lookup x = some c
  | [], cs, _, hc, x, c, e => hc x c e
  | (n, k) :: r, cs, h, hc, x, c, e => by
    have hr : ∀ y ∈ r, y.2 = .free → (en.cells.lookup y.1).isSome = true := fun y hy => h y (List.mem_cons_of_mem _ hy)
    unfold clOf at e
    by_cases hk : (k == NameKind.free) = true
    · rw [if_pos hk] at e
      refine clOf_sub r _ hr (fun x' c' e' => ?_) x c e
      rw [List.lookup_cons] at e'
      cases hx : x' == n with
      | true =>
        rw [hx] at e'
        have hx' : x' = n := by simpa using hx
        obtain ⟨a, ha⟩ := Option.isSome_iff_exists.mp (h (n, k) List.mem_cons_self (by simpa using hk))
        dsimp only at ha e'
        rw [ha] at e'
        rw [hx', ha]
        exact e'
      | false => rw [hx] at e'; exact hc x' c' e'
    · rw [if_neg hk] at e
      exact clOf_sub r cs hr hc x c e
theorem clOf_has {en : Env} : ∀ (ns : List (Str × NameKind)) (cs : List (Str × Addr)) (x : Str), ((x, NameKind.free) ∈ ns ∨ (cs.lookup x).isSome = true) → ((clOf en ns cs).lookup x).isSome = true
  | [], cs, x, h => by
    rcases h with h | h
    · cases h
    · exact h
  | (n, k) :: r, cs, x, h => by
    unfold clOf
    by_cases hk : (k == NameKind.free) = true
    · rw [if_pos hk]
      refine clOf_has r _ x ?_
      rcases h with h | h
      · rcases List.mem_cons.mp h with e | h
        · right
          rw [List.lookup_cons, show (x == n) = true by simpa using congrArg Prod.fst e]
          rfl
        · exact .inl h
      · right
        rw [List.lookup_cons]
        cases hx : x == n with
        | true => rfl
        | false => exact h
    · rw [if_neg hk]
      refine clOf_has r _ x ?_
      rcases h with h | h
      · rcases List.mem_cons.mp h with e | h
        · exfalso
          have e' : NameKind.free = k := congrArg Prod.snd e
          rw [← e'] at hk
          exact hk (by decide)
        · exact .inl h
      · exact .inr h
theorem relabel_free {en : Env} : ∀ {ns : List (Str × NameKind)} {x : Str}, ns.lookup x = some .free →
    (ns.map fun (n, k) => if (k == NameKind.free && en.scope.kind == .function && en.kindOf n == some .cell) then (n, NameKind.cell) else (n, k)).lookup x = some .cell ∨
    (ns.map fun (n, k) => if (k == NameKind.free && en.scope.kind == .function && en.kindOf n == some .cell) then (n, NameKind.cell) else (n, k)).lookup x = some .free
  | [], _, h => by simp at h
  | (n, k) :: r, x, h => by
    have ih := @relabel_free en r x
    rw [List.map_cons]
    cases hx : x == n with
    | true =>
      simp only [List.lookup_cons, hx] at h
      cases h
      dsimp only
      split
      · left; simp [List.lookup_cons, hx]
      · right; simp [List.lookup_cons, hx]
    | false =>
      simp only [List.lookup_cons, hx] at h
      dsimp only
      split
      · simp only [List.lookup_cons, hx]; exact ih h
      · simp only [List.lookup_cons, hx]; exact ih h
theorem relabel_of {en : Env} : ∀ {ns : List (Str × NameKind)} {x : Str} {q : NameKind}, (q = .cell ∨ q = .free) →
    (ns.map fun (n, k) => if (k == NameKind.free && en.scope.kind == .function && en.kindOf n == some .cell) then (n, NameKind.cell) else (n, k)).lookup x = some q → (x, NameKind.free) ∈ ns ∨ (x, NameKind.cell) ∈ ns
  | [], _, _, _, h => by simp at h
  | (n, k) :: r, x, q, hq, h => by
    have ih := @relabel_of en r x q hq
    rw [List.map_cons] at h
    dsimp only at h
    by_cases hc : (k == NameKind.free && en.scope.kind == .function && en.kindOf n == some .cell) = true
    · rw [if_pos hc] at h
      have hk : k = .free := by
        simp only [Bool.and_eq_true] at hc
        simpa using hc.1.1
      cases hx : x == n with
      | true =>
        have hx' : x = n := by simpa using hx
        exact .inl (by rw [hx', hk]; exact List.mem_cons_self)
      | false =>
        simp only [List.lookup_cons, hx] at h
        rcases ih h with z | z
        · exact .inl (List.mem_cons_of_mem _ z)
        · exact .inr (List.mem_cons_of_mem _ z)
    · rw [if_neg hc] at h
      cases hx : x == n with
      | true =>
        have hx' : x = n := by simpa using hx
        simp only [List.lookup_cons, hx] at h
        cases h
        rcases hq with z | z
        · exact .inr (by rw [hx', ← z]; exact List.mem_cons_self)
        · exact .inl (by rw [hx', ← z]; exact List.mem_cons_self)
      | false =>
        simp only [List.lookup_cons, hx] at h
        rcases ih h with z | z
        · exact .inl (List.mem_cons_of_mem _ z)
        · exact .inr (List.mem_cons_of_mem _ z)
abbrev blk (X : Cx) (N' : List Str) (sc : Scope) (C : Addr) (s2 : Shared) (H2 : Hp) (ex : List Addr) : Cx :=
  { X with N := N', s₀ := s2, H₀ := H2, env := compEnvC sc (clOf X.env sc.names []) C X.env, outer := X.stack, stack := X.stack, ex := ex, fn := fun _ => false, xe := fun _ _ => False }
def cst (σ : St) (nl : Nat) (js : List Nat) : St := List.replicate nl none ++ js.map fun j => (σ[j]?).getD none
structure CScope (X : Cx) (sc : Scope) (N' : List Str) (nl : Nat) (js : List Nat) : Prop where
  kind : sc.kind = .function
  nocell : ∀ y ∈ sc.names, y.2 ≠ .cell
  locs : ∀ y ∈ sc.names, y.2 = .local → sc.names.lookup y.1 = some .local
  frees : ∀ y ∈ sc.names, y.2 = .free → X.env.kindOf y.1 = some .cell ∨ X.env.kindOf y.1 = some .free
  cap : ∀ (i j : Nat), js[i]? = some j → ∃ x, N'[nl + i]? = some x ∧ X.N[j]? = some x ∧ sc.names.lookup x = some .free
  len : N'.length = nl + js.length
def Wk (σ0 σ2 : St) : Prop := σ0.length = σ2.length ∧ ∀ (i : Nat) v, σ0[i]? = some (some v) → σ2[i]? = some (some v)
def PIf (X : Cx) (ifs : List Expr) (t : TT) : Prop :=
  ∀ (pins : List (Addr × Obj)) (s : Shared) (σ : St) (H : Hp) (Q : Bool → Hp → Prop), Inv X pins σ H s → t σ H Q →
    wpAny (model X.prog X.w) X.A (forIn ifs true fun c r => if r = true then do let ok ← isTrue c X.env (eval c X.env); pure (ForInStep.yield ok) else pure (ForInStep.yield r)) (TP X pins σ Q) X.xe s
theorem pif_nil {X : Cx} : PIf X [] (fun _ H Q => Q true H) := fun _ _ _ H _ I h => wpAny_tests_nil ⟨H, I, h⟩
theorem pif_one {X : Cx} {c : Expr} {t : TT} (h : PT X c t) : PIf X [c] t := fun pins s σ H Q I hw => wpAny_tests_one (h pins s σ H Q I hw)
section
variable {X : Cx} {sc : Scope} {N' : List Str} {nl : Nat} {js : List Nat} {pins : List (Addr × Obj)} {σ : St} {H : Hp} {s : Shared}
theorem CScope.hasC (S : CScope X sc N' nl js) (ok : X.Ok) : ∀ y ∈ sc.names, y.2 = .free → (X.env.cells.lookup y.1).isSome = true := fun y hy hf => by
  obtain ⟨c, e⟩ := ok.has y.1 (S.frees y hy hf)
  rw [e]; rfl
theorem CScope.sub (S : CScope X sc N' nl js) (ok : X.Ok) {x : Str} {c : Addr} (e : (clOf X.env sc.names []).lookup x = Option.some c) : X.env.cells.lookup x = Option.some c :=
  clOf_sub sc.names [] (S.hasC ok) (fun _ _ z => by simp at z) x c e
theorem blk_ok (S : CScope X sc N' nl js) (I : Inv X pins σ H s) {fp : List Addr} {C : Addr} (hf : ∀ b ∈ fp, FpOk X pins H b) (hC : s.heap.objs.size ≤ C) (hfC : ∀ b ∈ fp, b ≠ C) : (blk X N' sc C s H fp).Ok where
  mod := I.ok.mod
  kind := S.kind
  glob := I.ok.glob
  blt := I.ok.blt
  above := hC
  inj := fun x y c h1 h2 => I.ok.inj x y c (S.sub I.ok h1) (S.sub I.ok h2)
  has := fun x hx => by
    have hm : (x, NameKind.free) ∈ sc.names ∨ (x, NameKind.cell) ∈ sc.names := by
      rcases hx with z | z
      · exact relabel_of (.inl rfl) z
      · exact relabel_of (.inr rfl) z
    rcases hm with z | z
    · exact Option.isSome_iff_exists.mp (clOf_has sc.names [] x (.inl z))
    · exact absurd rfl (S.nocell _ z)
  cab := fun x c h _ => absurd (show false = true from h) Bool.false_ne_true
  hd := I.ok.hd
  frames := I.ok.frames
  stk := .inl rfl
  exf := fun b hb => ⟨hfC b hb, fun x c e => (hf b hb).2.2.2.2.1 x c (S.sub I.ok e)⟩
  bs := I.bs
  bsz := Nat.le_trans I.ok.bsz I.sz
  noex := fun b o e hb => by
    rcases (hf b hb).2.2.2.1 with z | z
    · exact I.ok.noex b o e z
    · exact absurd (Nat.lt_of_lt_of_le (Heap.lt_size (I.ok.bs b o e).1) z) (Nat.lt_irrefl _)
  exfs := fun b hb hs => by
    rcases List.mem_cons.mp (I.stkSub b hs) with z | z
    · exact (hf b hb).2.1 z
    · exact (hf b hb).2.2.1 z
  funs := I.stack
  frf := I.stkFree
theorem cst_len (hl : N'.length = nl + js.length) : (cst σ nl js).length = N'.length := by
  unfold cst
  rw [List.length_append, List.length_replicate, List.length_map, hl]
theorem cst_get {i : Nat} {v : V} (e : (cst σ nl js)[i]? = some (some v)) : ∃ k j, i = nl + k ∧ js[k]? = some j ∧ σ[j]? = some (some v) := by
  unfold cst at e
  by_cases hi : i < nl
  · rw [List.getElem?_append_left (by simpa using hi), List.getElem?_replicate] at e
    rw [if_pos hi] at e
    cases e
  · rw [List.getElem?_append_right (by simpa using hi), List.length_replicate, List.getElem?_map] at e
    cases q : js[i - nl]? with
    | none => rw [q] at e; cases e
    | some j =>
      rw [q] at e
      have e' : (σ[j]?).getD none = some v := by simpa using e
      refine ⟨i - nl, j, by omega, q, ?_⟩
      cases z : σ[j]? with
      | none => rw [z] at e'; cases e'
      | some w' => rw [z] at e'; simpa using e'
theorem blk_inv (S : CScope X sc N' nl js) (I : Inv X pins σ H s) {fp : List Addr} {C : Addr} {h' : Heap} {t' : Nat} {m : Str → Option Value} (hf : ∀ b ∈ fp, FpOk X pins H b) (hC : s.heap.objs.size ≤ C) (hfC : ∀ b ∈ fp, b ≠ C)
    (k : ∀ b u, s.heap.get? b = some u → h'.get? b = some u) (hn : h'.Ns C m) : Inv (blk X N' sc C s H fp) pins (cst σ nl js) H { s with heap := h', toks := t' } where
  ok := blk_ok S I hf hC hfC
  os := rfl
  bare := I.bare
  base := Un.kept k
  loc := by
    refine ⟨m, hn, fun i x v e1 e2 e3 => ?_⟩
    obtain ⟨q, j, rfl, hj, hv⟩ := cst_get e2
    obtain ⟨x', n1, n2, n3⟩ := S.cap q j hj
    have ex : x' = x := by
      have z : N'[nl + q]? = some x := e1
      rw [n1] at z; exact Option.some.inj z
    subst ex
    obtain ⟨m0, _, hl⟩ := I.loc
    have kf := S.frees (x', .free) (PySem.mem_of_lookup n3) rfl
    obtain ⟨u, r, l⟩ := hl j x' v n2 hv (by
      rcases kf with z | z
      · exact .inr (.inl z)
      · exact .inr (.inr z))
    refine ⟨u, r, ?_⟩
    rcases l with ⟨z, _⟩ | ⟨_, c, hc, hcell⟩
    · rcases kf with y | y
      · rw [z] at y; cases y
      · rw [z] at y; cases y
    · obtain ⟨c', hc'⟩ := Option.isSome_iff_exists.mp (clOf_has (en := X.env) sc.names [] x' (.inl (PySem.mem_of_lookup n3)))
      have e : c' = c := by
        have z := S.sub I.ok hc'
        rw [hc] at z; exact (Option.some.inj z).symm
      subst e
      obtain ⟨o, ho, hd⟩ := hcell
      exact .inr ⟨relabel_free n3, c', hc', ⟨o, k _ _ ho, hd⟩⟩
  cell := fun x c e => by
    obtain ⟨v, o, ho, hd⟩ := I.cell x c (S.sub I.ok e)
    exact ⟨v, o, k _ _ ho, hd⟩
  free := I.hok.fresh hC
  freeC := fun x c e => I.freeC x c (S.sub I.ok e)
  pin := fun p hp => by
    obtain ⟨e, n, ne, nf, d⟩ := I.pin p hp
    refine ⟨k _ _ e, n, Nat.ne_of_lt (Nat.lt_of_lt_of_le (Heap.lt_size e) hC), fun z => ?_, d⟩
    rcases List.mem_cons.mp (I.stkSub _ z) with y | y
    · exact ne y
    · exact nf y
  hok := I.hok.kept k
  len := cst_len S.len
end
theorem compLoop_any {prog : Program} {w : World} {A : Around} {R : Result → Shared → Prop} {s : Shared} {elt tg it' : Expr} {ifs : List Expr} {sc : Scope} {pos : Pos} {it acc : Value} {en : Env} (I : Nat → Shared → Prop)
    (turn : ∀ n s, I n s → wpAny (model prog w) A (pyNext it) (fun r s1 => match r with
      | none => R (.ok .next) s1
      | some v => wpAny (model prog w) A (letOwnedTupleGo tg it v) (fun _ s2 => wpAny (model prog w) A (assign tg en v) (fun _ s3 =>
          wpAny (model prog w) A (forIn ifs true fun c r => if r = true then do let ok ← isTrue c en (eval c en); pure (ForInStep.yield ok) else pure (ForInStep.yield r)) (fun ok s4 =>
            if ok = true then wpAny (model prog w) A (eval elt en) (fun x s5 => wpAny (model prog w) A (call (.builtin "list.append") [acc, x]) (fun _ s6 => ∃ m, m < n ∧ I m s6) (fun _ _ => False) s5) (fun _ _ => False) s4
            else ∃ m, m < n ∧ I m s4) (fun _ _ => False) s3) (fun _ _ => False) s2) (fun _ _ => False) s1) (fun _ _ => False) s)
    (n : Nat) (h : I n s) : codeAny (model prog w) A (.compLoop (.ListComp elt [⟨tg, it', ifs, 0⟩] sc pos) 0 it acc en) R s := by
  refine codeAny_loop rfl I (fun n s hI => ?_) n h
  show wpAny _ A ((compTurn (.ListComp elt [⟨tg, it', ifs, 0⟩] sc pos) 0 it acc en).onRaise (fun x => do noteFrame x en; theTreesLotGoes x)) _ _ s
  refine wpAny_noted ?_
  rw [compTurn_list]
  refine wpAny_bind (wpAny_standAt (wpAny_bind (wpAny_mono (turn n s hI) (fun r s1 h1 => ?_) fun _ _ z => z.elim)))
  cases r with
  | none => exact wpAny_pure h1
  | some v =>
    refine wpAny_bind (wpAny_mono h1 (fun _ s2 h2 => ?_) fun _ _ z => z.elim)
    refine wpAny_bind (wpAny_mono h2 (fun _ s3 h3 => ?_) fun _ _ z => z.elim)
    refine wpAny_bind (wpAny_mono h3 (fun ok s4 h4 => ?_) fun _ _ z => z.elim)
    cases ok with
    | false => exact wpAny_pure ⟨rfl, h4⟩
    | true =>
      refine wpAny_bind (wpAny_bind (wpAny_mono h4 (fun x s5 h5 => ?_) fun _ _ z => z.elim))
      exact wpAny_bind (wpAny_mono h5 (fun _ s6 h6 => wpAny_pure (wpAny_pure ⟨rfl, h6⟩)) fun _ _ z => z.elim)
def LcW (J : It) (g : TG) (tt : TT) (te : TE) (σ0 : St) (Q : VK) (H1 : Hp) : Prop :=
  ∃ W : Nat → Nat → List V → Hp → Prop, (∃ m, W 0 m [] H1) ∧ ∀ i m ys H, W i m ys H → ys.length ≤ sizeLine ∧
    ((J.stop i H ∧ ∀ p, H p = none → Q (.ref p) (upd H p (.lst ys))) ∨
     (J.go i H ∧ ∀ x H', J.yld i H x H' → g x σ0 H' fun σ2 H2 => Wk σ0 σ2 ∧ tt σ2 H2 fun k H3 => if k = true then te σ2 H3 fun v H4 => ys.length < sizeLine ∧ ∃ m', m' < m ∧ W (i + 1) m' (ys ++ [v]) H4 else ∃ m', m' < m ∧ W (i + 1) m' ys H3))
def tLc (wi : TI) (g : TG) (tt : TT) (te : TE) (nl : Nat) (js : List Nat) : TE := fun σ H Q => wi σ H fun J H1 => LcW J g tt te (cst σ nl js) Q H1
section
variable {X : Cx} {sc : Scope} {N' : List Str} {nl : Nat} {js : List Nat} {tg iter elt : Expr} {ifs : List Expr} {pos : Pos} {wi : TI} {g : TG} {tt : TT} {te : TE}
theorem lc_core {pins : List (Addr × Obj)} {σ : St} {H : Hp} {s : Shared} {E : Value → Shared → Prop} {RR : Value → Addr → Result → Shared → Prop} {it : Addr} {fp : List Addr} {tn : Nat → Heap → Prop} {J : It} {Q : VK} (hc : X.calm = true) (S : CScope X sc N' nl js)
    (hg : ∀ C s2 H2 ex, PG (blk X N' sc C s2 H2 ex) tg g) (ht : ∀ C s2 H2 ex, PIf (blk X N' sc C s2 H2 ex) ifs tt) (he : ∀ C s2 H2 ex, PE (blk X N' sc C s2 H2 ex) elt te)
    (I : Inv X pins σ H s) (T : Turn X.prog X.w X.K tg J fp it tn) (st : tn 0 s.heap) (hf : ∀ b ∈ fp, FpOk X pins H b) (h : LcW J g tt te (cst σ nl js) Q H)
    (fin : ∀ D C H' s' m, Inv X pins σ H' s' → s'.heap.Ns C m → FpOk X pins H' C → Q (.ref D) H' → RR (.ref D) C (.ok .next) s') :
    wpAny (model X.prog X.w) X.A (newList []) (fun acc s3 => wpAny (model X.prog X.w) X.A (newFunctionEnv sc X.env.globals (clOf X.env sc.names []) [] X.env.qual none .none (some X.env)) (fun cenv s4 =>
      codeAny (model X.prog X.w) X.A (.compStart (.ListComp elt [⟨tg, iter, ifs, 0⟩] sc pos) 0 (.ref it) acc { cenv with scope := relabel sc X.env }) (RR acc cenv.locals) s4) E s3) E s := by
  obtain ⟨W, ⟨m0, w0⟩, step⟩ := h
  refine wpAny_newObj_type (wpAny_newFunctionEnv S.nocell (by intro y hy; simp at hy) (fun h1 hns hsb => ?_) S.kind)
  dsimp only at hns hsb ⊢
  generalize hP : s.heap.push { cls := .type "list", dict := none, data := .seq ([] : List Value).toArray } = P1 at hns hsb ⊢
  have hCs : P1.objs.size = s.heap.objs.size + 1 := by rw [← hP, Heap.size_push]
  have hDC : s.heap.objs.size ≠ P1.objs.size := by rw [hCs]; exact Nat.ne_of_lt (Nat.lt_succ_self _)
  have hCle : s.heap.objs.size ≤ P1.objs.size := by rw [hCs]; exact Nat.le_succ _
  have ltf : ∀ b ∈ fp, b < s.heap.objs.size := fun b hb => by
    obtain ⟨o, e, _⟩ := T.obj 0 _ st b hb
    exact Heap.lt_size e
  have hfC : ∀ b ∈ fp, b ≠ P1.objs.size := fun b hb => Nat.ne_of_lt (Nat.lt_of_lt_of_le (ltf b hb) hCle)
  have old : ∀ b o, s.heap.get? b = some o → h1.get? b = some o := fun b o e =>
    hsb.extBut b o (Nat.ne_of_lt (Nat.lt_of_lt_of_le (Heap.lt_size e) hCle)) (Heap.get?_push_of_some _ (hP ▸ Heap.get?_push_of_some _ e))
  have accD : h1.get? s.heap.objs.size = some { cls := .type "list", data := .seq ([] : List Value).toArray 0 } := hsb.extBut _ _ hDC (Heap.get?_push_of_some _ (hP ▸ Heap.get?_push_size _ rfl))
  generalize hDd : s.heap.objs.size = D at *
  generalize hCd : P1.objs.size = C at *
  have ltp : ∀ p ∈ X.pn ++ pins, p.1 < D := fun p hp => by rw [← hDd]; exact Heap.lt_size (I.pin p hp).1
  have ltc : ∀ x c, X.env.cells.lookup x = some c → c < D := fun x c e => by
    obtain ⟨v, o, ho, _⟩ := I.cell x c e
    rw [← hDd]; exact Heap.lt_size ho
  have noD : D ∉ frs X.stack := fun z => by
    rcases List.mem_cons.mp (I.stkSub _ z) with y | y
    · have := I.lt; rw [← y, hDd] at this; exact Nat.lt_irrefl _ this
    · exact I.nofs (Nat.le_of_eq hDd) y
  have fpB : ∀ {H' : Hp} {o : Obj}, (∀ b ∈ fp, H' b = none) → ∀ b ∈ fp, FpOk (blk X N' sc C s H fp) (pins ++ [(D, o)]) H' b := fun {H' o} hn b hb => by
    obtain ⟨f0, f1, f2, f3, f4, f5⟩ := hf b hb
    refine ⟨hn b hb, hfC b hb, fun z => ?_, .inl hb, fun x c e => f4 x c (S.sub I.ok e), fun p hp => ?_⟩
    · rcases List.mem_cons.mp (I.stkSub _ z) with y | y
      · exact f1 y
      · exact f2 y
    · have hp' : p ∈ (X.pn ++ pins) ++ [(D, o)] := by rw [List.append_assoc]; exact hp
      rcases List.mem_append.mp hp' with z | z
      · exact f5 p z
      · have e : p = (D, o) := by simpa using z
        subst e
        exact Nat.ne_of_gt (ltf b hb)
  have repin : ∀ {σ' : St} {H' : Hp} {s' : Shared} {its : List Value} {c : Nat}, Inv (blk X N' sc C s H fp) pins σ' H' s' → H' D = none → s'.heap.get? D = some { cls := .type "list", data := .seq its.toArray c } →
      Inv (blk X N' sc C s H fp) (pins ++ [(D, { cls := .type "list", data := .seq its.toArray c })]) σ' H' s' := fun {σ' H' s' its c} I' hn e =>
    I'.pins_of fun p hp => by
      rcases List.mem_append.mp hp with z | z
      · exact I'.pin p (List.mem_append_right _ z)
      · have e' : p = (D, { cls := .type "list", data := .seq its.toArray c }) := by simpa using z
        subst e'
        exact ⟨e, hn, hDC, noD, fun v z => by cases z⟩
  have loop : ∀ s4 : Shared, s4 = { s with heap := h1, toks := s.toks + ([] : List (Str × Value)).length } →
      codeAny (model X.prog X.w) X.A (.compLoop (.ListComp elt [⟨tg, iter, ifs, 0⟩] sc pos) 0 (.ref it) (.ref D) (compEnvC sc (clOf X.env sc.names []) C X.env)) (RR (.ref D) C) s4 := by
    rintro s4 rfl
    refine compLoop_any (fun n s' => ∃ (i : Nat) (ys : List V) (H' : Hp) (its : List Value) (c : Nat), Inv (blk X N' sc C s H fp) (pins ++ [(D, { cls := .type "list", data := .seq its.toArray c })]) (cst σ nl js) H' s' ∧
      tn i s'.heap ∧ (∀ b ∈ fp, H' b = none) ∧ Vals ys its ∧ W i n ys H') ?_ m0 ⟨0, [], H, [], 0, ?_, ?_, fun b hb => (hf b hb).1, .nil, w0⟩
    · rintro n s' ⟨i, ys, H', its, c, I', st', fr', rv, w'⟩
      obtain ⟨hz, alt⟩ := step i n ys H' w'
      rcases alt with ⟨stop, qn⟩ | ⟨go, more⟩
      · refine wpAny_mono (T.done (blk X N' sc C s H fp) rfl rfl rfl hc i _ s' _ H' (fun _ _ => False) I' (fpB fr') st' stop) (fun r s5 ⟨hr, I5⟩ => ?_) fun _ _ z => z
        subst hr
        obtain ⟨eD, nD, _⟩ := I5.pin (D, _) (List.mem_append_right _ (List.mem_append_right _ List.mem_cons_self))
        dsimp only at eD nD
        obtain ⟨mC, hnC, _⟩ := I5.loc
        have hHD : H D = none := I.hok.fresh (Nat.le_of_eq hDd)
        have I6 : Inv X pins σ (upd H' D (.lst ys)) s5 := by
          refine I.call' (ch := fp) I5.os ?_ ?_ I5.bare fun b hb => ?_
          · have B : Un (frs X.stack) fp H H' s.heap s5.heap := I5.base
            refine ⟨B.keep, B.slot, fun b o e n hx => ?_, B.there, fun b xs e => ?_, fun b o u e => ?_, fun b ps e => ?_⟩
            · rw [upd_ne (by rw [← hDd]; exact Nat.ne_of_lt (Heap.lt_size e))]; exact B.free b o e n hx
            · rw [upd_ne (ne_of_none e hHD)]; exact B.tups b xs e
            · rw [upd_ne (ne_of_none e hHD)]; exact B.frzs b o u e
            · rw [upd_ne (ne_of_none e hHD)]; exact B.tbls b ps e
          · intro b u e
            by_cases hb : b = D
            · subst hb
              rw [upd_same] at e
              cases e
              exact ⟨hz, its, c, rv, eD⟩
            · rw [upd_ne hb] at e
              exact (I5.hok b u e).stay (fun _ _ _ q => q) (fun x q => by rw [upd_ne (ne_of_none q nD)]; exact q) fun x xs q => by rw [upd_ne (ne_of_none q nD)]; exact q
          · obtain ⟨f0, f1, f2, f3, f4, f5⟩ := hf b hb
            exact ⟨f3, f1, f4, f5⟩
        refine fin D C _ s5 mC I6 hnC ⟨?_, ?_, ?_, ?_, ?_, ?_⟩ (qn D nD)
        · rw [upd_ne (Ne.symm hDC)]; exact I5.free
        · have := I.lt; rw [hDd] at this; exact Nat.ne_of_gt (Nat.lt_of_lt_of_le this hCle)
        · exact I.nofs (by rw [hDd]; exact hCle)
        · exact .inr (Nat.le_trans I.sz (by rw [hDd]; exact hCle))
        · exact fun x c' e => Nat.ne_of_lt (Nat.lt_of_lt_of_le (ltc x c' e) hCle)
        · exact fun p hp => Nat.ne_of_lt (Nat.lt_of_lt_of_le (ltp p hp) hCle)
      · refine wpAny_mono (T.item (blk X N' sc C s H fp) rfl rfl rfl hc i _ s' _ H' (fun _ _ => False) I' (fpB fr') st' go) (fun r s5 ⟨u, hr, h5⟩ => ?_) fun _ _ z => z
        subst hr
        refine wpAny_mono h5 (fun _ s6 ⟨x, H6, I6, r6, y6, st6, fr6⟩ => ?_) fun _ _ z => z
        have I6' := I6.pinned (fpB fr6) (T.obj _ _ st6)
        refine wpAny_mono (hg C s H fp _ s6 _ H6 x u _ I6' r6 (more x H6 y6)) (fun _ s7 ⟨σ7, H7, I7, wk, q7⟩ => ?_) fun _ _ z => z
        refine wpAny_mono (ht C s H fp _ s7 σ7 H7 _ I7 q7) (fun ok s8 ⟨H8, I8, q8⟩ => ?_) fun _ _ z => z
        have again : ∀ {H9 : Hp} {s9 : Shared}, Inv (blk X N' sc C s H fp) ((pins ++ [(D, { cls := .type "list", data := .seq its.toArray c })]) ++ pinsAt fp s6.heap) σ7 H9 s9 →
            (∀ b ∈ fp, ∀ o, s6.heap.get? b = some o → s9.heap.get? b = some o) ∧ (∀ b ∈ fp, H9 b = none) := fun {H9 s9} I9 => by
          refine ⟨fun b hb o e => (I9.pin (b, o) (List.mem_append_right _ (List.mem_append_right _ (mem_pinsAt hb e)))).1, fun b hb => ?_⟩
          obtain ⟨o, e, d⟩ := T.obj _ _ st6 b hb
          exact (I9.pin (b, o) (List.mem_append_right _ (List.mem_append_right _ (mem_pinsAt hb e)))).2.1
        cases ok with
        | false =>
          rw [if_neg Bool.false_ne_true] at q8 ⊢
          obtain ⟨m', hm, w8⟩ := q8
          obtain ⟨k8, fr8⟩ := again I8
          exact ⟨m', hm, i + 1, ys, H8, its, c, I8.unpinned.weak wk.1 wk.2, T.keep _ _ _ st6 k8, fr8, rv, w8⟩
        | true =>
          rw [if_pos rfl] at q8 ⊢
          refine wpAny_mono (he C s H fp _ s8 σ7 H8 _ I8 q8) (fun y s9 ⟨v, H9, I9, r9, hz9, m', hm, w9⟩ => ?_) fun _ _ z => z
          obtain ⟨k9, fr9⟩ := again I9
          have I9' := I9.unpinned
          obtain ⟨eD, nD, _⟩ := I9'.pin (D, _) (List.mem_append_right _ (List.mem_append_right _ List.mem_cons_self))
          dsimp only at eD nD
          have hl := rv.length
          refine wpAny_list_append_plain ⟨c, eD⟩ (fun h' pl sb => ?_) (by rw [List.size_toArray]; omega)
          have I10 : Inv (blk X N' sc C s H fp) pins σ7 H9 { s9 with heap := h' } := I9'.unpinned.turned (it := D) (t' := s9.toks) (fun b o hb e => (sb.2 b hb).trans e) nD hDC
            (.inr (Nat.le_of_eq hDd)) (fun x c' e => Nat.ne_of_lt (ltc x c' (S.sub I.ok e))) fun p hp => Nat.ne_of_lt (ltp p hp)
          obtain ⟨c2, e2⟩ := pl
          have ea : its.toArray.push y = (its ++ [y]).toArray := by simp
          rw [ea] at e2
          refine ⟨m', hm, i + 1, ys ++ [v], H9, its ++ [y], c2, (repin I10 nD e2).weak wk.1 wk.2, T.keep _ _ _ st6 fun b hb o e => ?_, fr9, rv.append (.cons r9 .nil), w9⟩
          exact (sb.2 b (Nat.ne_of_lt (ltf b hb))).trans (k9 b hb o e)
    · exact repin (blk_inv S I hf (by rw [hDd]; exact hCle) hfC old hns) (I.hok.fresh (Nat.le_of_eq hDd)) accD
    · exact T.keep _ _ _ st fun b _ o e => old b o e
  exact codeAny_compStart_list (loop _ rfl) (T.self _ 0 _ _ _ (T.keep _ _ _ st fun b _ o e => old b o e) (loop _ rfl))
theorem pe_lc (hc : X.calm = true) (S : CScope X sc N' nl js) (hi : PI X tg iter wi)
    (hg : ∀ C s2 H2 ex, PG (blk X N' sc C s2 H2 ex) tg g) (ht : ∀ C s2 H2 ex, PIf (blk X N' sc C s2 H2 ex) ifs tt) (he : ∀ C s2 H2 ex, PE (blk X N' sc C s2 H2 ex) elt te)
    (hs : ∀ x, foldedSetIterable iter X.env x = pure x := by intro _; rfl) : PE X (.ListComp elt [⟨tg, iter, ifs, 0⟩] sc pos) (tLc wi g tt te nl js) := by
  intro pins s σ H Q I h
  rw [eval_ListComp]
  refine wpAny_comprehension_free (use := none) rfl hs (closureFor_cl (S.hasC I.ok)) S.kind S.locs (thn (hi pins s σ H _ I h) fun v s1 h1 => thn h1 fun itv s2 h2 => ?_)
  obtain ⟨it, fp, tn, J, H2, rfl, I2, T, st2, f2, q2⟩ := h2
  refine lc_core (RR := fun acc C => compPost (model X.prog X.w) X.A X.xe none (EP X pins σ Q) acc C) hc S hg ht he I2 T st2 f2 q2 fun D C H' s' m I' hn ⟨f0, f1, f2, f3, f4, f5⟩ q => ?_
  exact ⟨m, hn, fun h' sb => ⟨.ref D, H', I'.turned (it := C) (t' := s'.toks) (fun b o hb e => (sb.2 b hb).trans e) f0 f1 f3 f4 f5, rfl, q⟩⟩
theorem ps_setlc {i : Nat} {x : Str} {pos' spos : Pos} (hc : X.calm = true) (S : CScope X sc N' nl js) (hi : PI X tg iter wi)
    (hg : ∀ C s2 H2 ex, PG (blk X N' sc C s2 H2 ex) tg g) (ht : ∀ C s2 H2 ex, PIf (blk X N' sc C s2 H2 ex) ifs tt) (he : ∀ C s2 H2 ex, PE (blk X N' sc C s2 H2 ex) elt te)
    (hN : X.N.Nodup) (hx : X.N[i]? = some x) (hloc : X.env.scope.names.lookup x = some .local)
    (hsw : swapsWith (.ListComp elt [⟨tg, iter, ifs, 0⟩] sc pos) (some (.Name x pos')) spos.line X.env = pure true := by rfl) (hs : ∀ x, foldedSetIterable iter X.env x = pure x := by intro _; rfl) :
    PS X (.Assign [.Name x pos'] (.ListComp elt [⟨tg, iter, ifs, 0⟩] sc pos) spos) (tAsg (tLc wi g tt te nl js) (gName i)) := by
  intro pins s σ H D0 I h
  rw [exec_Assign_Name_used _ _ _ _ hsw]
  refine wpAny_bind (wpAny_standAt (wpAny_bind ?_))
  show wpAny _ X.A (do let _ ← comprehension (.ListComp elt [⟨tg, iter, ifs, 0⟩] sc pos) sc X.env _ (newList []) false (eval iter X.env) (some (assign (.Name x pos') X.env))) _ _ s
  refine wpAny_bind (wpAny_mono (wpAny_comprehension_free (use := some (assign (.Name x pos') X.env)) (Q := fun _ s' => SP X pins D0 .next s') rfl hs (closureFor_cl (S.hasC I.ok)) S.kind S.locs
    (thn (hi pins s σ H _ I h) fun v s1 h1 => thn h1 fun itv s2 h2 => ?_)) (fun _ s' hq => wpAny_pure (wpAny_pure hq)) fun _ _ e => e)
  obtain ⟨it, fp, tn, J, H2, rfl, I2, T, st2, f2, q2⟩ := h2
  refine lc_core (RR := fun acc C => compPost (model X.prog X.w) X.A X.xe (some (assign (.Name x pos') X.env)) (fun _ s' => SP X pins D0 .next s') acc C) hc S hg ht he I2 T st2 f2 q2 fun D C H' s' m I' hn ⟨f0, f1, f2, f3, f4, f5⟩ q => ?_
  show wpAny _ X.A (assign (.Name x pos') X.env (.ref D)) _ _ s'
  obtain ⟨o, es, ep, ho, hd, r⟩ := hn
  have I2' : Inv X (pins ++ [(C, o)]) σ H' s' := I'.pins_of fun p hp => by
    rcases List.mem_append.mp hp with z | z
    · exact I'.pin p (List.mem_append_right _ z)
    · have e' : p = (C, o) := by simpa using z
      subst e'
      exact ⟨ho, f0, f1, f2, fun v z => by rw [hd] at z; cases z⟩
  refine wpAny_assign_Name (store_ok I2' hN hx (.inl hloc) (v := .ref D) rfl (fun s3 I3 => ?_) (.inr hloc))
  obtain ⟨e3, _⟩ := I3.pin (C, o) (List.mem_append_right _ (List.mem_append_right _ List.mem_cons_self))
  refine ⟨m, ⟨o, es, ep, e3, hd, r⟩, fun h' sb => ⟨_, H', I3.unpinned.turned (it := C) (t' := s3.toks) (fun b o hb e => (sb.2 b hb).trans e) f0 f1 f3 f4 f5, q⟩⟩
end
end L2
namespace L2
open PySem PySem.Spec PyProof.Rows
theorem Vals.tog : ∀ {xs : List V} {us : List Value} {i : Nat} {u : Value}, Vals xs us → us[i]? = some u → ∃ x, xs[i]? = some x ∧ RelV x u
  | _, _, _, _, .nil, e => by simp at e
  | _, _, 0, _, .cons r _, e => by simp at e; subst e; exact ⟨_, rfl, r⟩
  | _, _, i + 1, u, .cons _ t, e => by
    obtain ⟨x, h1, h2⟩ := Vals.tog (i := i) (u := u) t (by simpa using e)
    exact ⟨x, by simpa using h1, h2⟩
theorem Vals.ints_at {ns : List Int} {us : List Value} {i : Nat} {u : Value} (r : Vals (ns.map V.int) us) (e : us.toArray[i]? = some u) : ∃ t, u = .int (ns.getD i 0) t := by
  obtain ⟨x, h1, h2⟩ := r.tog (i := i) (u := u) (by simpa using e)
  rw [List.getElem?_map] at h1
  cases q : ns[i]? with
  | none => rw [q] at h1; cases h1
  | some z =>
    rw [q] at h1
    have e' : V.int z = x := Option.some.inj h1
    subst e'
    obtain ⟨t, rfl⟩ := h2
    exact ⟨t, by rw [List.getD_eq_getElem?_getD, q]; rfl⟩
section
variable {X : Cx} {pins : List (Addr × Obj)} {σ : St} {H : Hp} {s : Shared}
theorem Inv.moved {o : Obj} {s' : Shared} (I : Inv X pins σ H s) (mv : Moved [s.heap.objs.size] (fun a b => b = a) { s with heap := s.heap.push o } s') : Inv X pins σ H s' := by
  have k : ∀ b u, s.heap.get? b = some u → s'.heap.get? b = some u := fun b u e => mv.heap b u (fun z => by
    have z' : b = s.heap.objs.size := by simpa using z
    exact absurd (Heap.lt_size e) (by rw [z']; exact Nat.lt_irrefl _)) (Heap.get?_push_of_some _ e)
  exact I.call' (ch := []) mv.os (Un.kept k) (I.hok.kept k) (by rw [mv.gens]; exact I.bare) fun b z => absurd z (by simp)
theorem iter_seq {A : Around} {E : Value → Shared → Prop} {Q : Value → Shared → Prop} {p : Addr} {ys : List V} (hh : A.handled = none) (I : Inv X pins σ H s) (hq : SqL X.K H p ys ∨ SqT X.K H p ys)
    (h : ∀ (it : Addr) (its : List Value) (fp : List Addr) (T : Nat → Heap → Prop) (s2 : Shared), Vals ys its → Walks X.prog X.w A it fp [it] its.toArray.size (fun i v => its.toArray[i]? = some v) T → T 0 s2.heap → (∀ b ∈ fp, b < s2.heap.objs.size) →
      (∀ s', Moved [it] (fun a b => b = a) s2 s' → Inv X pins σ H s') → Q (.ref it) s2) : wpAny (model X.prog X.w) A (pyIter (.ref p)) Q E s := by
  rcases hq with hq | hq
  · obtain ⟨its, r, pl, hz⟩ := I.list hq
    obtain ⟨o, ho, _⟩ := id pl.isList
    have hlt := Heap.lt_size ho
    refine wpAny_pyIter_list pl.isList (h s.heap.objs.size its [s.heap.objs.size, p] _ _ r (Walks.list hh _ p (Nat.ne_of_lt hlt) its.toArray) ⟨⟨_, Heap.get?_push_size _ rfl, rfl, rfl⟩, pl.isList.at fun o e => Heap.get?_push_of_some _ e⟩ (fun b hb => ?_) fun s' mv => I.moved mv)
    dsimp only
    rw [Heap.size_push]
    rcases List.mem_cons.mp hb with z | z
    · rw [z]; exact Nat.lt_succ_self _
    · have z' : b = p := by simpa using z
      rw [z']; exact Nat.lt_succ_of_lt hlt
  · obtain ⟨its, r, pl, hz⟩ := I.tuple hq
    have pt : s.heap.IsTuple p its.toArray := pl
    obtain ⟨o, ho, _⟩ := id pt
    have hlt := Heap.lt_size ho
    refine wpAny_pyIter_tuple pt (h s.heap.objs.size its [s.heap.objs.size, p] _ _ r (Walks.tuple hh _ p (Nat.ne_of_lt hlt) its.toArray) ⟨⟨_, Heap.get?_push_size _ rfl, rfl, rfl⟩, pt.at fun o e => Heap.get?_push_of_some _ e⟩ (fun b hb => ?_) fun s' mv => I.moved mv)
    dsimp only
    rw [Heap.size_push]
    rcases List.mem_cons.mp hb with z | z
    · rw [z]; exact Nat.lt_succ_self _
    · have z' : b = p := by simpa using z
      rw [z']; exact Nat.lt_succ_of_lt hlt
end
section
variable {X : Cx}
def tv : V → Bool
  | .bl b => b
  | .int i => i != 0
  | _ => false
def isBI : V → Bool
  | .bl _ => true
  | .int _ => true
  | _ => false
theorem truth_of {ys : List V} {its : List Value} {A : Around} (rv : Vals ys its) (hb : ys.all isBI = true) : TruthOf X.prog X.w A (fun i v => its.toArray[i]? = some v) (fun i => tv (ys.getD i .non)) := by
  intro i v s Q E e h
  obtain ⟨x, h1, h2⟩ := rv.tog (i := i) (u := v) (by simpa using e)
  have hx : isBI x = true := List.all_eq_true.mp hb x (List.mem_of_getElem? h1)
  dsimp only at h
  rw [List.getD_eq_getElem?_getD, h1] at h
  cases x with
  | bl b => cases h2; exact wpAny_truthy_bool h
  | int i => obtain ⟨t, rfl⟩ := h2; exact PySem.P.truthy_int h
  | _ => exact absurd (show false = true from hx) Bool.false_ne_true
theorem range_all {ys : List V} (f : V → Bool) : (List.range ys.length).all (fun i => f (ys.getD i .non)) = ys.all f := by
  rw [Bool.eq_iff_iff, List.all_eq_true, List.all_eq_true]
  constructor
  · intro h x hx
    obtain ⟨i, hi, rfl⟩ := List.mem_iff_getElem.mp hx
    have := h i (List.mem_range.mpr hi)
    rwa [List.getD_eq_getElem?_getD, List.getElem?_eq_getElem hi] at this
  · intro h i hi
    have hi' := List.mem_range.mp hi
    rw [List.getD_eq_getElem?_getD, List.getElem?_eq_getElem hi']
    exact h _ (List.getElem_mem hi')
theorem range_any {ys : List V} (f : V → Bool) : (List.range ys.length).any (fun i => f (ys.getD i .non)) = ys.any f := by
  rw [Bool.eq_iff_iff, List.any_eq_true, List.any_eq_true]
  constructor
  · rintro ⟨i, hi, h⟩
    have hi' := List.mem_range.mp hi
    rw [List.getD_eq_getElem?_getD, List.getElem?_eq_getElem hi'] at h
    exact ⟨_, List.getElem_mem hi', h⟩
  · rintro ⟨x, hx, h⟩
    obtain ⟨i, hi, rfl⟩ := List.mem_iff_getElem.mp hx
    exact ⟨i, List.mem_range.mpr hi, by rw [List.getD_eq_getElem?_getD, List.getElem?_eq_getElem hi]; exact h⟩
theorem call_all_seq (hc : X.calm = true) : CallR X (.builtin "all") (fun xs H Q => ∃ (p : Addr) (ys : List V), xs = [.ref p] ∧ (SqL X.K H p ys ∨ SqT X.K H p ys) ∧ ys.all isBI = true ∧ Q (.bl (ys.all tv)) H) := by
  intro pins s σ H xs us Q I r h
  obtain ⟨p, ys, rfl, hq, hb, q⟩ := h
  obtain ⟨u, rfl, rx⟩ := vals1 r
  cases rx
  refine call_all_walkS (iter_seq (I.ok.hd hc) I hq fun it its fp T s2 rv W st hfp inv => ⟨it, fp, [it], _, _, _, _, _, rfl, W.toS, st, truth_of rv hb, fun s' mv => ?_⟩)
  refine ⟨.bl (ys.all tv), H, inv s' mv, ?_, q⟩
  show Value.bool _ = Value.bool _
  rw [List.size_toArray, ← rv.length, range_all]
theorem call_any_seq (hc : X.calm = true) : CallR X (.builtin "any") (fun xs H Q => ∃ (p : Addr) (ys : List V), xs = [.ref p] ∧ (SqL X.K H p ys ∨ SqT X.K H p ys) ∧ ys.all isBI = true ∧ Q (.bl (ys.any tv)) H) := by
  intro pins s σ H xs us Q I r h
  obtain ⟨p, ys, rfl, hq, hb, q⟩ := h
  obtain ⟨u, rfl, rx⟩ := vals1 r
  cases rx
  refine call_any_walkS (iter_seq (I.ok.hd hc) I hq fun it its fp T s2 rv W st hfp inv => ⟨it, fp, [it], _, _, _, _, _, rfl, W.toS, st, truth_of rv hb, fun s' mv => ?_⟩)
  refine ⟨.bl (ys.any tv), H, inv s' mv, ?_, q⟩
  show Value.bool _ = Value.bool _
  rw [List.size_toArray, ← rv.length, range_any]
theorem getD_mem' {ns : List Int} {i : Nat} (h : i < ns.length) : ns.getD i 0 ∈ ns := by
  rw [List.getD_eq_getElem?_getD, List.getElem?_eq_getElem h]
  exact List.getElem_mem h
theorem call_min_seq (hc : X.calm = true) : CallR X (.builtin "min") (fun xs H Q => ∃ (p : Addr) (ns : List Int), xs = [.ref p] ∧ (SqL X.K H p (ns.map V.int) ∨ SqT X.K H p (ns.map V.int)) ∧ 0 < ns.length ∧ ∀ M, M ∈ ns → (∀ a ∈ ns, M ≤ a) → Q (.int M) H) := by
  intro pins s σ H xs us Q I r h
  obtain ⟨p, ns, rfl, hq, hn, q⟩ := h
  obtain ⟨u, rfl, rx⟩ := vals1 r
  cases rx
  refine call_min_walkS (iter_seq (I.ok.hd hc) I hq fun it its fp T s2 rv W st hfp inv => ?_)
  have hl : its.toArray.size = ns.length := by
    have := rv.length
    rw [List.length_map] at this
    rw [List.size_toArray]; omega
  refine ⟨it, fp, [it], _, _, _, _, _, rfl, W.toS, st, hfp, by omega, CmpOf.ints_lt (fun i => ns.getD i 0) (fun i v e => rv.ints_at e), fun v s' e mv => ?_⟩
  obtain ⟨h1, h2⟩ := argBest_lt (fun i => ns.getD i 0) (its.toArray.size - 1)
  obtain ⟨t, rfl⟩ := rv.ints_at e
  refine ⟨.int _, H, inv s' mv, ⟨t, rfl⟩, q _ (getD_mem' (by omega)) fun a ha => ?_⟩
  obtain ⟨j, hj, rfl⟩ := List.mem_iff_getElem.mp ha
  have := h2 j (by omega)
  have ej : ns.getD j 0 = ns[j] := by rw [List.getD_eq_getElem?_getD, List.getElem?_eq_getElem hj]; rfl
  rw [← ej]
  exact this
end
structure ItOk (J : It) (n : Nat) (val : Nat → V) (C : Hp → Prop) : Prop where
  go : ∀ i H, C H → i < n → J.go i H
  yld : ∀ i H x H', C H → i < n → J.yld i H x H' → H' = H ∧ x = val i
  stop : ∀ i H, C H → n ≤ i → J.stop i H
theorem itok_list {K : PySem.W.Frag} {a : Addr} {xs : List V} : ItOk (Itl K a) xs.length (fun i => xs.getD i .non) (fun H => SqL K H a xs) where
  go := fun i H q hi => ⟨xs, xs[i], q, by simp [hi]⟩
  yld := fun i H x H' q hi ⟨e, y⟩ => ⟨e, by rw [List.getD_eq_getElem?_getD, y xs q]; rfl⟩
  stop := fun i H q hi => ⟨xs, q, hi⟩
theorem itok_tup {K : PySem.W.Frag} {a : Addr} {xs : List V} : ItOk (Itt K a) xs.length (fun i => xs.getD i .non) (fun H => SqT K H a xs) where
  go := fun i H q hi => ⟨xs, xs[i], q, by simp [hi]⟩
  yld := fun i H x H' q hi ⟨e, y⟩ => ⟨e, by rw [List.getD_eq_getElem?_getD, y xs q]; rfl⟩
  stop := fun i H q hi => ⟨xs, q, hi⟩
theorem itok_range {lo : Int} {n : Nat} : ItOk (Itr lo n) n (fun i => .int (lo + (i : Nat))) (fun _ => True) where
  go := fun i H _ hi => hi
  yld := fun i H x H' _ hi ⟨e, y⟩ => ⟨e, y⟩
  stop := fun i H _ hi => hi
theorem lc_by {J : It} {n : Nat} {val : Nat → V} {C : Hp → Prop} {g : TG} {tt : TT} {te : TE} {σ0 : St} {Q : VK} {H : Hp} (O : ItOk J n val C) (Pv : Nat → List V → Hp → Prop) (hn : n ≤ sizeLine) (h0 : Pv 0 [] H) (hl : ∀ i ys H, i ≤ n → Pv i ys H → C H ∧ ys.length ≤ i)
    (hs : ∀ i ys H, i < n → Pv i ys H → g (val i) σ0 H fun σ2 H2 => Wk σ0 σ2 ∧ tt σ2 H2 fun k H3 => if k = true then te σ2 H3 fun v H4 => ys.length < sizeLine ∧ ∃ m', m' < n - i ∧ (m' = n - (i + 1) ∧ i + 1 ≤ n ∧ Pv (i + 1) (ys ++ [v]) H4) else ∃ m', m' < n - i ∧ (m' = n - (i + 1) ∧ i + 1 ≤ n ∧ Pv (i + 1) ys H3))
    (hd : ∀ ys H, Pv n ys H → ∀ p, H p = none → Q (.ref p) (upd H p (.lst ys))) : LcW J g tt te σ0 Q H := by
  refine ⟨fun i m ys H => m = n - i ∧ i ≤ n ∧ Pv i ys H, ⟨n, by simp, Nat.zero_le _, h0⟩, ?_⟩
  rintro i m ys H ⟨rfl, hi, p⟩
  obtain ⟨c, hy⟩ := hl i ys H hi p
  refine ⟨by omega, ?_⟩
  by_cases hlt : i < n
  · refine .inr ⟨O.go i H c hlt, fun x H' y => ?_⟩
    obtain ⟨rfl, rfl⟩ := O.yld i H x H' c hlt y
    exact hs i ys _ hlt p
  · have e : i = n := by omega
    subst e
    exact .inl ⟨O.stop _ H c (Nat.le_refl _), hd ys H p⟩
theorem for_by {J : It} {n : Nat} {val : Nat → V} {C : Hp → Prop} {g : TG} {tb : TS} {D : Ends} {σ : St} {H : Hp} (O : ItOk J n val C) (Pv : Nat → St → Hp → Prop) (h0 : Pv 0 σ H) (hl : ∀ i σ H, i ≤ n → Pv i σ H → C H)
    (hs : ∀ i σ H, i < n → Pv i σ H → g (val i) σ H fun σ2 H2 => tb { D with nx := Pv (i + 1), ct := Pv (i + 1), bk := D.nx } σ2 H2) (hd : ∀ σ H, Pv n σ H → D.nx σ H) :
    ∃ W : Nat → Nat → St → Hp → Prop, (∃ m, W 0 m σ H) ∧ ∀ i m σ H, W i m σ H →
      (J.stop i H ∧ D.nx σ H) ∨ (J.go i H ∧ ∃ N : St → Hp → Prop, (∀ σ' H', N σ' H' → ∃ m', m' < m ∧ W (i + 1) m' σ' H') ∧ ∀ x H', J.yld i H x H' → g x σ H' fun σ2 H2 => tb { D with nx := N, ct := N, bk := D.nx } σ2 H2) := by
  refine ⟨fun i m σ H => m = n - i ∧ i ≤ n ∧ Pv i σ H, ⟨n, by simp, Nat.zero_le _, h0⟩, ?_⟩
  rintro i m σ H ⟨rfl, hi, p⟩
  have c := hl i σ H hi p
  by_cases hlt : i < n
  · refine .inr ⟨O.go i H c hlt, Pv (i + 1), fun σ' H' p' => ⟨n - (i + 1), by omega, rfl, hlt, p'⟩, fun x H' y => ?_⟩
    obtain ⟨rfl, rfl⟩ := O.yld i H x H' c hlt y
    exact hs i σ _ hlt p
  · have e : i = n := by omega
    subst e
    exact .inl ⟨O.stop _ H c (Nat.le_refl _), hd σ H p⟩
theorem wk_set {σ0 : St} {i : Nat} {v : Option V} (h : σ0[i]? = some none) : Wk σ0 (σ0.set i v) := by
  refine ⟨by rw [List.length_set], fun j w' e => ?_⟩
  by_cases hj : i = j
  · subst hj; rw [h] at e; cases e
  · rw [List.getElem?_set_ne hj]; exact e
theorem Same.new {H : Hp} {p : Addr} {o : HO} (h : H p = none) : Same H (upd H p o) := fun b u e => by
  rw [upd_ne (ne_of_none e h)]
  exact e
theorem Same.tup {K : PySem.W.Frag} {H H' : Hp} {a : Addr} {xs : List V} (e : Same H H') (h : SqT K H a xs) : SqT K H' a xs := by
  rcases h with (h | ⟨o, h⟩) | h
  · exact .inl (.inl (e _ _ h))
  · exact .inl (.inr ⟨o, e _ _ h⟩)
  · exact .inr h
theorem Same.next {H H1 : Hp} {p : Addr} {o : HO} (s : Same H H1) (h : H1 p = none) : Same H (upd H1 p o) := s.trans (Same.new h)
end L2
namespace L2
open PySem PySem.Spec PyProof.Rows
def tCut (t : TS) : TS := fun D σ H => ∃ M : St → Hp → Prop, t { D with nx := M } σ H ∧ ∀ σ' H', M σ' H' → D.nx σ' H'
theorem ps_cut {X : Cx} {st : Stmt} {t : TS} (h : PS X st t) : PS X st (tCut t) := by
  intro pins s σ H D I hw
  obtain ⟨M, h1, h2⟩ := hw
  refine thn (h pins s σ H { D with nx := M } I h1) fun f s' q => ?_
  cases f with
  | next => obtain ⟨σ', H', I', q⟩ := q; exact ⟨σ', H', I', h2 _ _ q⟩
  | brk => exact q
  | cont => exact q
  | ret u => exact q
theorem PI.or {X : Cx} {tg e : Expr} {w1 w2 : TI} (h1 : PI X tg e w1) (h2 : PI X tg e w2) : PI X tg e (fun σ H R => w1 σ H R ∨ w2 σ H R) := by
  intro pins s σ H R I h
  rcases h with h | h
  · exact h1 pins s σ H R I h
  · exact h2 pins s σ H R I h
def Def (P : Program) (w : World) (K : PySem.W.Frag) (mg : Str → Option Value) (base : Heap) (k : Nat) (x : Str) (ps : List Str) (sp : Sp) : Prop :=
  ∃ f fd, FnOk P w K mg base CX0 k f fd ps sp ∧ mg x = some (.ref f) ∧ PySem.W.keepIn K (.ref f) = true ∧ Binds K fd ps []
theorem Def.of {P : Program} {w : World} {K : PySem.W.Frag} {mg : Str → Option Value} {base : Heap} {k : Nat} {x qual : Str} {ps : List Str} {sp : Sp} {st : Stmt} {f : Addr} {fd : FuncData}
    (F : Fun K x qual st f fd) (m : mg x = some (.ref f)) (b : Binds K fd ps []) (ok : FnOk P w K mg base CX0 k f fd ps sp) : Def P w K mg base k x ps sp := ⟨f, fd, ok, m, F.kp, b⟩
theorem pe_def {X : Cx} {k : Nat} {x : Str} {ps : List Str} {sp : Sp} {e : Expr} {es : List Expr} {t : TA} {p pos : Pos} (D : Def X.prog X.w X.K X.mg X.base k x ps sp) (hr : Room k X.A) (hg : Gl X x) (ha : PA X (e :: es) t)
    (hdb : (x == ("__debug__" : Str)) = false := by decide) (he : starEach (e :: es) X.env = (false, eval e X.env) :: starEach es X.env := by rfl) (hpl : (backTo pos (starEach es X.env)).any (·.1) = false := by rfl) :
    PE X (.Call (.Name x p) (e :: es) [] pos) (tCall sp [] E0 t) := by
  obtain ⟨f, fd, F, m, kp, b⟩ := D
  exact pe_call F hr hg m kp b .nil pass0 ha hdb he hpl
def cchk (osc : Scope) (N : List Str) (sc : Scope) (N' : List Str) (nl : Nat) (js : List Nat) : Bool :=
  sc.kind == .function && sc.names.all (fun y => y.2 != .cell) && sc.names.all (fun y => y.2 != .local || sc.names.lookup y.1 == some .local) &&
  sc.names.all (fun y => y.2 != .free || (osc.names.lookup y.1 == some .cell || osc.names.lookup y.1 == some .free)) && (N'.length == nl + js.length) &&
  (List.range js.length).all (fun i => match js[i]?, N'[nl + i]? with | some j, some x => N[j]? == some x && sc.names.lookup x == some .free | _, _ => false)
theorem CScope.of {X : Cx} {osc sc : Scope} {N N' : List Str} {nl : Nat} {js : List Nat} (h : cchk osc N sc N' nl js = true) (h1 : X.env.scope = osc) (h2 : X.N = N) : CScope X sc N' nl js := by
  unfold cchk at h
  simp only [Bool.and_eq_true] at h
  obtain ⟨⟨⟨⟨⟨a1, a2⟩, a3⟩, a4⟩, a5⟩, a6⟩ := h
  refine ⟨by simpa using a1, fun y hy e => ?_, fun y hy e => ?_, fun y hy e => ?_, fun i j e => ?_, by simpa using a5⟩
  · have := List.all_eq_true.mp a2 y hy
    rw [e] at this
    exact absurd this (by decide)
  · have := List.all_eq_true.mp a3 y hy
    rw [e] at this
    simpa using this
  · have := List.all_eq_true.mp a4 y hy
    rw [e] at this
    have this : (osc.names.lookup y.1 == some .cell || osc.names.lookup y.1 == some .free) = true := by simpa using this
    show X.env.scope.names.lookup y.1 = _ ∨ X.env.scope.names.lookup y.1 = _
    rw [h1]
    simpa using this
  · have hi : i < js.length := (List.getElem?_eq_some_iff.mp e).1
    have := List.all_eq_true.mp a6 i (List.mem_range.mpr hi)
    rw [e] at this
    cases q : N'[nl + i]? with
    | none => rw [q] at this; exact absurd (show false = true from this) Bool.false_ne_true
    | some x =>
      rw [q] at this
      dsimp only at this
      rw [Bool.and_eq_true] at this
      exact ⟨x, rfl, by rw [h2]; simpa using this.1, by simpa using this.2⟩
theorem at_int {ns : List Int} {k : Int} (h0 : 0 ≤ k) (h : k < (ns.length : Int)) : atI (ns.map V.int) k = some (.int (ns.getD k.toNat 0)) := by
  have hk : k.toNat < ns.length := by omega
  have := atI_nat (xs := ns.map V.int) (j := k.toNat) (v := .int (ns.getD k.toNat 0)) (by rw [List.getElem?_map, List.getD_eq_getElem?_getD, List.getElem?_eq_getElem hk]; rfl)
  rwa [Int.toNat_of_nonneg h0] at this
theorem flat_ints (ns : List Int) : (ns.map V.int).all flatV = true := by
  rw [List.all_eq_true]
  intro x hx
  obtain ⟨n, _, rfl⟩ := List.mem_map.mp hx
  rfl
theorem inV_ints (z : Int) (ns : List Int) : inV (.int z) (ns.map V.int) = ns.any (· == z) := by
  unfold inV
  rw [List.any_map]
  rfl
theorem getD_map_int {ns : List Int} {i : Nat} (h : i < (ns.map V.int).length) : ∃ z, (ns.map V.int).getD i .non = .int z ∧ ns[i]? = some z := by
  rw [List.length_map] at h
  refine ⟨ns[i], ?_, List.getElem?_eq_getElem h⟩
  rw [List.getD_eq_getElem?_getD, List.getElem?_map, List.getElem?_eq_getElem h]
  rfl
theorem take_snoc {α : Type} {l : List α} {i : Nat} {z : α} (h : l[i]? = some z) : l.take (i + 1) = l.take i ++ [z] := by
  rw [List.take_add_one, h]
  rfl
end L2
namespace L2
open PySem
theorem kit_self (K : PySem.W.Frag) (t : Value) : PySem.W.kitOne K t t = some true := by
  unfold PySem.W.kitOne
  rw [if_pos (by simp)]
end L2
namespace L2
open PySem PySem.Spec PyProof.Rows
mutual
inductive DatV (K : PySem.W.Frag) (H : Hp) : V → PyData → Prop
  | non : DatV K H .non .none
  | bl (b : Bool) : DatV K H (.bl b) (.bool b)
  | int (i : Int) : DatV K H (.int i) (.int i)
  | str (x : Str) : DatV K H (.str x) (.str x)
  | lst {a : Addr} {xs : List V} {ds : List PyData} : SqL K H a xs → DatVs K H xs ds → DatV K H (.ref a) (.list ds)
  | tup {a : Addr} {xs : List V} {ds : List PyData} : SqT K H a xs → DatVs K H xs ds → DatV K H (.ref a) (.tuple ds)
inductive DatVs (K : PySem.W.Frag) (H : Hp) : List V → List PyData → Prop
  | nil : DatVs K H [] []
  | cons {x : V} {d : PyData} {xs : List V} {ds : List PyData} : DatV K H x d → DatVs K H xs ds → DatVs K H (x :: xs) (d :: ds)
end
section
variable {X : Cx} {pins : List (Addr × Obj)} {σ : St} {H : Hp} {s : Shared}
mutual
theorem DatV.reads (I : Inv X pins σ H s) : ∀ {x : V} {d : PyData} {u : Value}, DatV X.K H x d → RelV x u → ∃ as, Reads s.heap u d as
  | _, _, _, .non, r => by cases r; exact ⟨_, .none⟩
  | _, _, _, .bl b, r => by cases r; exact ⟨_, .bool b⟩
  | _, _, _, .int i, r => by obtain ⟨t, rfl⟩ := r; exact ⟨_, .int i t⟩
  | _, _, _, .str x, r => by obtain ⟨t, rfl⟩ := r; exact ⟨_, .str x t⟩
  | _, _, _, .lst hq h, r => by
    cases r
    obtain ⟨its, rv, pl, _⟩ := I.list hq
    obtain ⟨o, n, e, c, _, d⟩ := pl
    obtain ⟨as, q⟩ := DatVs.reads I h rv
    exact ⟨_, .list e c d (by simpa using q)⟩
  | _, _, _, .tup hq h, r => by
    cases r
    obtain ⟨its, rv, pl, _⟩ := I.tuple hq
    obtain ⟨o, e, c, n, d⟩ := pl
    obtain ⟨as, q⟩ := DatVs.reads I h rv
    exact ⟨_, .tuple e c d (by simpa using q)⟩
theorem DatVs.reads (I : Inv X pins σ H s) : ∀ {xs : List V} {ds : List PyData} {us : List Value}, DatVs X.K H xs ds → Vals xs us → ∃ as, ReadsAll s.heap us ds as
  | _, _, _, .nil, .nil => ⟨_, .nil⟩
  | _, _, _, .cons h t, .cons r rr => by
    obtain ⟨as, q⟩ := DatV.reads I h r
    obtain ⟨bs, q'⟩ := DatVs.reads I t rr
    exact ⟨_, .cons q q'⟩
end
end
def rEqD (K : PySem.W.Frag) (f : Bool → Bool) : R2 := fun x y H Q => ∃ d e, DatV K H x d ∧ DatV K H y e ∧ SeqAt.shaped d = true ∧ SeqAt.shaped e = true ∧ Q (.bl (f (PyData.eqv d e))) H
section
variable {X : Cx}
theorem op_neD (hu : X.A.units + 64 < cLine) : OpR X (compareOp .NotEq) (rEqD X.K not) := by
  intro pins s σ H x y v u Q I rx ry h
  obtain ⟨d, e, hd, he, sd, se, q⟩ := h
  obtain ⟨as, r1⟩ := hd.reads I rx
  obtain ⟨bs, r2⟩ := he.reads I ry
  exact ne_dataH r1 r2 sd se hu ⟨.bl _, H, I, rfl, q⟩
end
mutual
theorem DatV.same {K : PySem.W.Frag} {H H' : Hp} (S : Same H H') : ∀ {x : V} {d : PyData}, DatV K H x d → DatV K H' x d
  | _, _, .non => .non
  | _, _, .bl b => .bl b
  | _, _, .int i => .int i
  | _, _, .str x => .str x
  | _, _, .lst hq h => .lst (S.seq hq) (DatVs.same S h)
  | _, _, .tup hq h => .tup (S.tup hq) (DatVs.same S h)
theorem DatVs.same {K : PySem.W.Frag} {H H' : Hp} (S : Same H H') : ∀ {xs : List V} {ds : List PyData}, DatVs K H xs ds → DatVs K H' xs ds
  | _, _, .nil => .nil
  | _, _, .cons h t => .cons (DatV.same S h) (DatVs.same S t)
end
def dI (ns : List Int) : PyData := .list (ns.map PyData.int)
def dP (e : Int × Int) : PyData := .tuple [.int e.1, .int e.2]
theorem dI_lay : ∀ ns : List Int, PyData.canLayAll0 (ns.map PyData.int) = true ∧ PyData.depthAll (ns.map PyData.int) = 0
  | [] => ⟨rfl, rfl⟩
  | n :: r => by
    obtain ⟨h1, h2⟩ := dI_lay r
    simp only [List.map_cons, PyData.canLayAll0, PyData.canLay0, PyData.depthAll, PyData.depth, h1, h2]
    exact ⟨rfl, rfl⟩
theorem shaped_dI (ns : List Int) : SeqAt.shaped (dI ns) = true := by
  obtain ⟨h1, h2⟩ := dI_lay ns
  unfold SeqAt.shaped dI
  simp only [PyData.canLay0, PyData.depth, h1, h2]
  rfl
theorem eqvAll_dI : ∀ ns ms : List Int, PyData.eqvAll (ns.map PyData.int) (ms.map PyData.int) = decide (ns = ms)
  | [], [] => rfl
  | [], _ :: _ => rfl
  | _ :: _, [] => rfl
  | a :: r, b :: t => by
    simp only [List.map_cons, PyData.eqvAll, PyData.eqv, eqvAll_dI r t]
    by_cases h : a = b <;> by_cases h' : r = t <;> simp [h, h']
theorem eqv_dI (ns ms : List Int) : PyData.eqv (dI ns) (dI ms) = decide (ns = ms) := eqvAll_dI ns ms
theorem datVs_ints {K : PySem.W.Frag} {H : Hp} : ∀ ns : List Int, DatVs K H (ns.map V.int) (ns.map PyData.int)
  | [] => .nil
  | n :: r => .cons (.int n) (datVs_ints r)
theorem dat_ints {K : PySem.W.Frag} {H : Hp} {a : Addr} {ns : List Int} (h : SqL K H a (ns.map V.int)) : DatV K H (.ref a) (dI ns) := .lst h (datVs_ints ns)
def Pairs (K : PySem.W.Frag) (H : Hp) : List V → List (Int × Int) → Prop := Paired fun v e => ∃ r, v = .ref r ∧ SqT K H r [.int e.1, .int e.2]
theorem Pairs.same {K : PySem.W.Frag} {H H' : Hp} (S : Same H H') {xs : List V} {es : List (Int × Int)} (h : Pairs K H xs es) : Pairs K H' xs es := Paired.mapP h fun _ _ ⟨r, e, q⟩ => ⟨r, e, S.tup q⟩
theorem Pairs.len {K : PySem.W.Frag} {H : Hp} {xs : List V} {es : List (Int × Int)} (h : Pairs K H xs es) : xs.length = es.length := Paired.length h
theorem Pairs.at {K : PySem.W.Frag} {H : Hp} : ∀ {xs : List V} {es : List (Int × Int)} {i : Nat}, Pairs K H xs es → i < xs.length → ∃ r e, xs.getD i .non = .ref r ∧ SqT K H r [.int e.1, .int e.2] ∧ es[i]? = some e ∧ e ∈ es
  | _, _, _, .nil, h => absurd h (Nat.not_lt_zero _)
  | _, _, 0, .cons ⟨r, e, q⟩ _, _ => ⟨r, _, e, q, rfl, List.mem_cons_self⟩
  | _, _, i + 1, .cons _ t, h => by
    obtain ⟨r, e, h1, h2, h3, h4⟩ := Pairs.at (i := i) t (by simpa using h)
    exact ⟨r, e, by simpa using h1, h2, by simpa using h3, List.mem_cons_of_mem _ h4⟩
theorem Pairs.snoc {K : PySem.W.Frag} {H : Hp} {xs : List V} {es : List (Int × Int)} {r : Addr} {e : Int × Int} (h : Pairs K H xs es) (q : SqT K H r [.int e.1, .int e.2]) : Pairs K H (xs ++ [.ref r]) (es ++ [e]) := Paired.snoc h ⟨r, rfl, q⟩
def SameX (a : Addr) (H H' : Hp) : Prop := ∀ b o, b ≠ a → H b = some o → H' b = some o
theorem SameX.tup {K : PySem.W.Frag} {H H' : Hp} {a r : Addr} {xs zs : List V} (S : SameX a H H') (ha : H a = some (.lst zs)) (h : SqT K H r xs) : SqT K H' r xs := by
  rcases h with (h | ⟨o, h⟩) | h
  · exact .inl (.inl (S _ _ (ne_of h ha (by intro z; cases z)) h))
  · exact .inl (.inr ⟨o, S _ _ (ne_of h ha (by intro z; cases z)) h⟩)
  · exact .inr h
theorem Pairs.sameX {K : PySem.W.Frag} {H H' : Hp} {a : Addr} {zs : List V} (S : SameX a H H') (ha : H a = some (.lst zs)) {xs : List V} {es : List (Int × Int)} (h : Pairs K H xs es) : Pairs K H' xs es :=
  Paired.mapP h fun _ _ ⟨r, e, q⟩ => ⟨r, e, S.tup ha q⟩
theorem sameX_upd {H : Hp} {a : Addr} {o : HO} : SameX a H (upd H a o) := fun b u hb e => by rw [upd_ne hb]; exact e
end L2
namespace L2
open PySem PySem.Spec PyProof.Rows
section
variable {X : Cx} {tg : Expr}
def iSeq (K : PySem.W.Frag) (tl : TE) : TI := fun σ H R => tl σ H fun x H1 => ∃ a xs, x = .ref a ∧ (SqL K H1 a xs ∨ SqT K H1 a xs) ∧ ∀ J C, ItOk J xs.length (fun i => xs.getD i .non) C → (∀ H2, Same H1 H2 → C H2) → R J H1
theorem pi_seq {l : Expr} {tl : TE} (hl : PE X l tl) : PI X tg l (iSeq X.K tl) := by
  intro pins s σ H R I h
  refine thn (hl pins s σ H _ I h) fun v s1 ⟨x, H1, I1, r1, q1⟩ => ?_
  obtain ⟨a, xs, e, hq, q⟩ := q1
  subst e
  cases r1
  have fp : ∀ b ∈ [s1.heap.objs.size], FpOk X pins H1 b := fun b hb => by
    have e : b = s1.heap.objs.size := by simpa using hb
    rw [e]; exact I1.fpOk (Nat.le_refl _) (I1.hok.fresh (Nat.le_refl _))
  rcases hq with hq | hq
  · obtain ⟨its, rv, p, hz⟩ := I1.list hq
    exact wpAny_pyIter_list p.isList ⟨s1.heap.objs.size, [s1.heap.objs.size], _, _, H1, rfl, I1.kept (t' := s1.toks) fun b o e => Heap.get?_push_of_some _ e, turn_list a _, ⟨_, Heap.get?_push_size _ rfl, rfl, rfl⟩, fp,
      q _ _ itok_list fun H2 S => S.seq hq⟩
  · obtain ⟨its, rv, p, hz⟩ := I1.tuple hq
    exact wpAny_pyIter_tuple (show s1.heap.IsTuple a its.toArray from p) ⟨s1.heap.objs.size, [s1.heap.objs.size], _, _, H1, rfl, I1.kept (t' := s1.toks) fun b o e => Heap.get?_push_of_some _ e, turn_tuple a _, ⟨_, Heap.get?_push_size _ rfl, rfl, rfl⟩, fp,
      q _ _ itok_tup fun H2 S => S.tup hq⟩
end
inductive TyX (K : PySem.W.Frag) (H : Hp) : V → Value → Prop
  | of {x : V} {t : Value} : TyOf K H x t → TyX K H x t
  | tup {a : Addr} {xs : List V} : SqT K H a xs → TyX K H (.ref a) (.type "tuple")
  | lst {a : Addr} {xs : List V} : SqL K H a xs → TyX K H (.ref a) (.type "list")
section
variable {X : Cx}
theorem call_isX : CallR X (.builtin "isinstance") (fun xs H Q => ∃ x c t cv b, xs = [x, c] ∧ RelV c cv ∧ (∀ u, RelV c u → u = cv) ∧ TyX X.K H x t ∧ PySem.W.kitOne X.K t cv = some b ∧ Q (.bl b) H) := by
  intro pins s σ H xs us Q I r h
  obtain ⟨x, c, t, cv, b, rfl, _, hu, ty, e, q⟩ := h
  obtain ⟨u, u', rfl, rx, rc⟩ := vals2 r
  obtain rfl := hu u' rc
  have fin : ∀ tk, EP X pins σ Q (.bool b) { s with toks := tk } := fun tk => ⟨.bl b, H, I.tok _, rfl, q⟩
  cases ty with
  | of ty => exact isinst_ok I rx ty e fin
  | @tup a ys hq =>
    cases (show u = Value.ref a from rx)
    obtain ⟨its, rv, ⟨o, h1, h2, _⟩, hz⟩ := I.tuple hq
    exact PySem.W.kia_one PySem.W.kitx_tuple I.kIn ⟨o, h1, h2⟩ e (fun z => nomatch z) fin
  | @lst a ys hq =>
    cases (show u = Value.ref a from rx)
    obtain ⟨its, rv, ⟨o, n, h1, h2, _⟩, hz⟩ := I.list hq
    exact PySem.W.kia_one PySem.W.kitx_list I.kIn ⟨o, h1, h2⟩ e (fun z => nomatch z) fin
end
end L2
namespace L2
open PySem PySem.Spec PyProof.Rows
theorem pg_pair {X : Cx} {i j : Nat} {x y : Str} {p1 p2 pos : Pos} {k : Nat} (hc : X.calm = true) (hN : X.N.Nodup) (hi : X.N[i]? = some x) (hj : X.N[j]? = some y) (hx : X.env.scope.names.lookup x = some .local) (hy : X.env.scope.names.lookup y = some .local) :
    PG X (.Tuple [.Name x p1, .Name y p2] k pos) (gTup X.K 2 (gCons (gName i) (gCons (gName j) gNil))) := pg_tup hc (pgs_cons (pg_name hN hi (.inl hx) (.inr hx)) (pgs_cons (pg_name hN hj (.inl hy) (.inr hy)) pgs_nil))
theorem kIntBool {K : PySem.W.Frag} : PySem.W.kitOne K (.type "int") (.type "bool") = some false := by with_unfolding_all rfl
theorem Wk.trans {a b d : St} (x : Wk a b) (y : Wk b d) : Wk a d := ⟨x.1.trans y.1, fun i v e => y.2 i v (x.2 i v e)⟩
theorem wk_set2 {σ0 : St} {i j : Nat} {v u : Option V} (h : σ0[i]? = some none) (h' : (σ0.set i v)[j]? = some none) : Wk σ0 ((σ0.set i v).set j u) := (wk_set h).trans (wk_set h')
section
variable {K : PySem.W.Frag} {H H' : Hp} {a r C dx : Addr} {xs : List V} {fs : List (Str × V)}
theorem SameX.seqI (S : SameX a H H') (ha : H a = some (.ins C dx fs)) (h : SqL K H r xs) : SqL K H' r xs := by
  rcases h with (h | ⟨o, h⟩) | h
  · exact .inl (.inl (S _ _ (ne_of h ha (by intro z; cases z)) h))
  · exact .inl (.inr ⟨o, S _ _ (ne_of h ha (by intro z; cases z)) h⟩)
  · exact .inr h
theorem SameX.tupI (S : SameX a H H') (ha : H a = some (.ins C dx fs)) (h : SqT K H r xs) : SqT K H' r xs := by
  rcases h with (h | ⟨o, h⟩) | h
  · exact .inl (.inl (S _ _ (ne_of h ha (by intro z; cases z)) h))
  · exact .inl (.inr ⟨o, S _ _ (ne_of h ha (by intro z; cases z)) h⟩)
  · exact .inr h
theorem Pairs.sameI (S : SameX a H H') (ha : H a = some (.ins C dx fs)) {es : List (Int × Int)} (h : Pairs K H xs es) : Pairs K H' xs es := Paired.mapP h fun _ _ ⟨r, e, q⟩ => ⟨r, e, S.tupI ha q⟩
theorem Pairs.take_snoc {xs : List V} {es : List (Int × Int)} {i : Nat} {e : Int × Int} (h : es[i]? = some e) : es.take (i + 1) = es.take i ++ [e] := L2.take_snoc h
end
end L2
namespace L2
open PySem PySem.Spec PyProof.Rows
theorem PE.imp {X : Cx} {e : Expr} {t t' : TE} (h : PE X e t) (k : ∀ σ H Q, t' σ H Q → t σ H Q) : PE X e t' := fun pins s σ H Q I hw => h pins s σ H Q I (k σ H Q hw)
theorem Same.upd {H H' : Hp} {l : Addr} {o : HO} (e : Same H H') (h : H l = none) : Same H (L2.upd H' l o) := fun b u q => by rw [upd_ne (ne_of_none q h)]; exact e _ _ q
theorem pe_defR {X : Cx} {k k' : Nat} {x : Str} {ps : List Str} {sp : Sp} {e : Expr} {es : List Expr} {t : TA} {p pos : Pos} (D : Def X.prog X.w X.K X.mg X.base k x ps sp) (hr : Room k' X.A) (ha : PA X (e :: es) t) (hk : k ≤ k' := by decide) (hg : Gl X x := by rfl)
    (hdb : (x == ("__debug__" : Str)) = false := by decide) (he : starEach (e :: es) X.env = (false, eval e X.env) :: starEach es X.env := by rfl) (hpl : (backTo pos (starEach es X.env)).any (·.1) = false := by rfl) :
    PE X (.Call (.Name x p) (e :: es) [] pos) (fun σ H Q => t σ H fun vs H1 => sp vs H1 Q E0) := (pe_def D (hr.mono hk) hg ha hdb he hpl).imp fun σ H Q h => by
  show t σ H fun vs H1 => sp (vs ++ []) H1 Q E0
  simp only [List.append_nil]
  exact h
structure WebC (K : PySem.W.Frag) (C : Addr) : Prop where
  cl : Cls K C
  nM : NoAttr K C "many"
  nT : NoAttr K C "ties"
  ca : PySem.W.findIn K (.ref C) "__class__" = some (some (.builtin "object.__class__"))
  cg : PySem.W.specialIn K (.builtin "object.__class__") "__get__" = some (some (.builtin "getset_descriptor.__get__"))
  ck : PySem.W.takesIn K (.builtin "object.__class__") = some true
  co : PySem.W.mroIn K C (.type "object") = some true
abbrev wFs (m : Int) (t : Addr) : List (Str × V) := [("many", .int m), ("ties", .ref t)]
theorem wFs_many (m : Int) (t : Addr) : (wFs m t).lookup ("many" : Str) = some (.int m) := rfl
theorem wFs_ties (m : Int) (t : Addr) : (wFs m t).lookup ("ties" : Str) = some (.ref t) := rfl
def WebAt (K : PySem.W.Frag) (C : Addr) (H : Hp) (a : Addr) (m : Int) (es : List (Int × Int)) : Prop := ∃ dx t xs, H a = some (.ins C dx (wFs m t)) ∧ H t = some (.tup xs) ∧ Pairs K H xs es
theorem WebAt.same {K : PySem.W.Frag} {C : Addr} {H H' : Hp} {a : Addr} {m : Int} {es : List (Int × Int)} (h : WebAt K C H a m es) (S : Same H H') : WebAt K C H' a m es := by
  obtain ⟨dx, t, xs, h1, h2, h3⟩ := h
  exact ⟨dx, t, xs, S _ _ h1, S _ _ h2, h3.same S⟩
theorem WebAt.ty {K : PySem.W.Frag} {C : Addr} {H : Hp} {a : Addr} {m : Int} {es : List (Int × Int)} (W : WebC K C) (h : WebAt K C H a m es) : TyOf K H (.ref a) (.ref C) := by
  obtain ⟨dx, t, xs, h1, _⟩ := h
  exact .ins h1 W.cl W.ca W.cg W.ck W.co
section
variable {X : Cx} {C : Addr} {e : Expr} {ta : TE} {pos : Pos}
def tMany (K : PySem.W.Frag) (C : Addr) (ta : TE) : TE := fun σ H Q => ta σ H fun x H1 => ∃ a m es, x = .ref a ∧ WebAt K C H1 a m es ∧ Q (.int m) H1
def tTies (K : PySem.W.Frag) (C : Addr) (ta : TE) : TE := fun σ H Q => ta σ H fun x H1 => ∃ a m es, x = .ref a ∧ WebAt K C H1 a m es ∧ ∀ t xs, H1 t = some (.tup xs) → Pairs K H1 xs es → Q (.ref t) H1
theorem pe_fld2 {f : Str} {r : V → Hp → VK → Prop} (he : PE X e ta) (hb : attributeBase e f X.env (eval e X.env) = eval e X.env) (k : ∀ x H Q, r x H Q → ∃ a C dx fs v, x = .ref a ∧ H a = some (.ins C dx fs) ∧ Cls X.K C ∧ NoAttr X.K C f ∧ fs.lookup f = some v ∧ Q v H) :
    PE X (.Attribute e f pos) (fun σ H Q => ta σ H fun x H1 => r x H1 Q) := by
  intro pins s σ H Q I h
  refine attr_of hb (thn (he pins s σ H _ I h) fun u s1 ⟨x, H1, I1, rx, q⟩ => ?_)
  obtain ⟨a, C', dx, fs, v, ex, ea, c, n, l, q'⟩ := k _ _ _ q
  subst ex
  obtain rfl : u = Value.ref a := rx
  exact getattr_ok I1 ea c n l fun u' s2 I2 ru => ⟨v, H1, I2, ru, q'⟩
theorem pe_many (W : WebC X.K C) (he : PE X e ta) (hb : attributeBase e "many" X.env (eval e X.env) = eval e X.env := by rfl) : PE X (.Attribute e "many" pos) (tMany X.K C ta) :=
  pe_fld2 (r := fun x H1 Q => ∃ a m es, x = .ref a ∧ WebAt X.K C H1 a m es ∧ Q (.int m) H1) he hb fun x H Q ⟨a, m, es, ex, ⟨dx, t, xs, h1, _⟩, q⟩ => ⟨a, C, dx, _, _, ex, h1, W.cl, W.nM, wFs_many m t, q⟩
theorem pe_ties (W : WebC X.K C) (he : PE X e ta) (hb : attributeBase e "ties" X.env (eval e X.env) = eval e X.env := by rfl) : PE X (.Attribute e "ties" pos) (tTies X.K C ta) :=
  pe_fld2 (r := fun x H1 Q => ∃ a m es, x = .ref a ∧ WebAt X.K C H1 a m es ∧ ∀ t xs, H1 t = some (.tup xs) → Pairs X.K H1 xs es → Q (.ref t) H1) he hb fun x H Q ⟨a, m, es, ex, ⟨dx, t, xs, h1, h2, h3⟩, q⟩ => ⟨a, C, dx, _, _, ex, h1, W.cl, W.nT, wFs_ties m t, q t xs h2 h3⟩
end
def EndsIn (es : List (Int × Int)) (m : Int) : Prop := ∀ e ∈ es, 0 ≤ e.1 ∧ e.1 < m ∧ 0 ≤ e.2 ∧ e.2 < m
theorem EndsIn.nil {m : Int} : EndsIn [] m := fun _ h => nomatch h
theorem EndsIn.snoc {es : List (Int × Int)} {m : Int} {e : Int × Int} (h : EndsIn es m) (q : 0 ≤ e.1 ∧ e.1 < m ∧ 0 ≤ e.2 ∧ e.2 < m) : EndsIn (es ++ [e]) m := fun x hx => by
  rcases List.mem_append.mp hx with z | z
  · exact h x z
  · have e' : x = e := by simpa using z
    rw [e']; exact q
def spInit (K : PySem.W.Frag) (C : Addr) : Sp := fun vs H Q _ => ∃ (x dx p : Addr) (m : Int) (xs : List V) (es : List (Int × Int)), vs = [.ref x, .int m, .ref p] ∧ H x = some (.ins C dx []) ∧ (SqL K H p xs ∨ SqT K H p xs) ∧ Pairs K H xs es ∧
  1 ≤ m ∧ m ≤ 20 ∧ es.length ≤ 40 ∧ EndsIn es m ∧ ∀ H' t ys, SameX x H H' → H' x = some (.ins C dx (wFs m t)) → H' t = some (.tup ys) → Pairs K H' ys es → Q .non H'
def MkDef (P : Program) (w : World) (K : PySem.W.Frag) (mg : Str → Option Value) (base : Heap) (k : Nat) (x : Str) (C : Addr) (ps : List Str) (sp : Sp) : Prop :=
  ∃ f fd, Mk K C f ∧ FnOk P w K mg base CX0 k f fd ps sp ∧ Binds K fd ps [] ∧ mg x = some (.ref C)
def tWeb (K : PySem.W.Frag) (C : Addr) (t : TA) : TE := fun σ H Q => t σ H fun vs H1 => ∃ (p : Addr) (m : Int) (xs : List V) (es : List (Int × Int)), vs = [.int m, .ref p] ∧ (SqL K H1 p xs ∨ SqT K H1 p xs) ∧ Pairs K H1 xs es ∧
  1 ≤ m ∧ m ≤ 20 ∧ es.length ≤ 40 ∧ EndsIn es m ∧ ∀ x H', H1 x = none → Same H1 H' → WebAt K C H' x m es → Q (.ref x) H'
theorem pe_make' {X : Cx} {k k' : Nat} {C : Addr} {x : Str} {ps : List Str} {sp : Sp} {e : Expr} {es : List Expr} {t : TA} {p pos : Pos} {R : List V → Hp → VK → Prop} (D : MkDef X.prog X.w X.K X.mg X.base k x C ps sp) (hr : Room k' X.A) (ha : PA X (e :: es) t)
    (hR : ∀ vs H1 Q, R vs H1 Q → ∀ x dx, H1 x = none → H1 dx = none → dx ≠ x → sp (.ref x :: vs) (upd (upd H1 dx (.own x)) x (.ins C dx [])) (fun v H2 => v = .non ∧ Q (.ref x) H2) E0)
    (hk : k + 1 ≤ k' := by decide) (hg : Gl X x := by rfl)
    (hdb : (x == ("__debug__" : Str)) = false := by decide) (he : starEach (e :: es) X.env = (false, eval e X.env) :: starEach es X.env := by rfl) (hpl : (backTo pos (starEach es X.env)).any (·.1) = false := by rfl) :
    PE X (.Call (.Name x p) (e :: es) [] pos) (fun σ H Q => t σ H fun vs H1 => R vs H1 Q) := by
  obtain ⟨f, fd, M, F, b, m⟩ := D
  intro pins s σ H Q I h
  refine wpAny_Call_Name_kw (ld_glob I hg m ?_ hdb)
  refine PySem.W.callWith_K (h₀ := X.base) I.ok.mod.kin M.kp (thn (ha pos pins s σ H _ I h) fun us s1 ⟨vs, H1, I1, r, q⟩ => ⟨I1.kIn, ?_⟩) he hpl
  exact run_make (dvs := []) (ds := []) M F (hr.mono hk) b .nil pass0 I1 r fun y dy n1 n2 n3 => by
    rw [List.append_nil]
    exact hR vs H1 Q q y dy n1 n2 n3
theorem pe_web {X : Cx} {k k' : Nat} {C : Addr} {x : Str} {ps : List Str} {e : Expr} {es : List Expr} {t : TA} {p pos : Pos} (D : MkDef X.prog X.w X.K X.mg X.base k x C ps (spInit X.K C)) (hr : Room k' X.A) (ha : PA X (e :: es) t)
    (hk : k + 1 ≤ k' := by decide) (hg : Gl X x := by rfl)
    (hdb : (x == ("__debug__" : Str)) = false := by decide) (he : starEach (e :: es) X.env = (false, eval e X.env) :: starEach es X.env := by rfl) (hpl : (backTo pos (starEach es X.env)).any (·.1) = false := by rfl) :
    PE X (.Call (.Name x p) (e :: es) [] pos) (tWeb X.K C t) := by
  refine pe_make' D hr ha (fun vs H1 Q q => ?_) hk hg hdb he hpl
  obtain ⟨p', mm, xs, es', rfl, hq, hp, b1, b2, b3, b4, q⟩ := q
  intro z dz nz ndz ne
  have s1 : Same H1 (upd (upd H1 dz (.own z)) z (.ins C dz [])) := (Same.new ndz).trans (Same.new (by rw [upd_ne ne.symm]; exact nz))
  refine ⟨z, dz, p', mm, xs, es', rfl, upd_same, hq.imp (fun y => s1.seq y) (fun y => s1.tup y), hp.same s1, b1, b2, b3, b4, fun H' tt ys sx h1 h2 h3 => ⟨rfl, ?_⟩⟩
  exact q z H' nz (fun bb o eb => sx _ _ (ne_of_none eb nz) (s1 _ _ eb)) ⟨dz, tt, ys, h1, h2, h3⟩
end L2
namespace L2
open PySem PySem.Spec PyProof.Rows
theorem SameX.of {H H' : Hp} {a : Addr} (S : Same H H') : SameX a H H' := fun b o _ e => S b o e
theorem SameX.trans {H H1 H2 : Hp} {a : Addr} (S : SameX a H H1) (T : SameX a H1 H2) : SameX a H H2 := fun b o n e => T b o n (S b o n e)
theorem SameX.seq {K : PySem.W.Frag} {H H' : Hp} {a r : Addr} {xs : List V} (S : SameX a H H') (hr : r ≠ a) (h : SqL K H r xs) : SqL K H' r xs := by
  rcases h with (h | ⟨o, h⟩) | h
  · exact .inl (.inl (S _ _ hr h))
  · exact .inl (.inr ⟨o, S _ _ hr h⟩)
  · exact .inr h
theorem WebAt.sameX {K : PySem.W.Frag} {C : Addr} {H H' : Hp} {a b : Addr} {m : Int} {es : List (Int × Int)} {zs : List V} (h : WebAt K C H a m es) (S : SameX b H H') (hb : H b = some (.lst zs)) : WebAt K C H' a m es := by
  obtain ⟨dx, t, xs, h1, h2, h3⟩ := h
  exact ⟨dx, t, xs, S _ _ (ne_of h1 hb (by intro z; cases z)) h1, S _ _ (ne_of h2 hb (by intro z; cases z)) h2, h3.sameX S hb⟩
end L2
namespace L2
open PySem PySem.Spec PyProof.Rows
section
variable {X : Cx} {K : PySem.W.Frag}
theorem ixL (h : X.K = K) : IxR X (rIxL K) := by subst h; exact ix_list
theorem ixT (h : X.K = K) : IxR X (rIxT K) := by subst h; exact ix_tup
theorem opIn (h : X.K = K) : OpR X (compareOp .In) (rIn K false) := by subst h; exact op_in_seq
theorem opNotIn (h : X.K = K) : OpR X (compareOp .NotIn) (rIn K true) := by subst h; exact op_notIn_seq
theorem opNeD (h : X.K = K) (hu : X.A.units + 64 < cLine) : OpR X (compareOp .NotEq) (rEqD K not) := by subst h; exact op_neD hu
def rLen (K : PySem.W.Frag) : List V → Hp → VK → Prop := fun xs H Q => ∃ p ys, xs = [.ref p] ∧ (SqL K H p ys ∨ SqT K H p ys) ∧ Q (.int ys.length) H
theorem cLen (h : X.K = K) : CallR X (.builtin "len") (rLen K) := by subst h; exact call_len_seq
def rList (K : PySem.W.Frag) : List V → Hp → VK → Prop := fun xs H Q => ∃ p ys, xs = [.ref p] ∧ (SqL K H p ys ∨ SqT K H p ys) ∧ ∀ l, H l = none → Q (.ref l) (upd H l (.lst ys))
theorem cList (h : X.K = K) : CallR X (.type "list") (rList K) := by subst h; exact call_list_of
def rTuple (K : PySem.W.Frag) : List V → Hp → VK → Prop := fun xs H Q => ∃ p ys, xs = [.ref p] ∧ ((SqL K H p ys ∧ ∀ l, H l = none → Q (.ref l) (upd H l (.tup ys))) ∨ (SqT K H p ys ∧ Q (.ref p) H))
theorem cTuple (h : X.K = K) : CallR X (.type "tuple") (rTuple K) := by subst h; exact call_tuple_of
def rAll (K : PySem.W.Frag) : List V → Hp → VK → Prop := fun xs H Q => ∃ (p : Addr) (ys : List V), xs = [.ref p] ∧ (SqL K H p ys ∨ SqT K H p ys) ∧ ys.all isBI = true ∧ Q (.bl (ys.all tv)) H
theorem cAll (h : X.K = K) (hc : X.calm = true) : CallR X (.builtin "all") (rAll K) := by subst h; exact call_all_seq hc
def rAny (K : PySem.W.Frag) : List V → Hp → VK → Prop := fun xs H Q => ∃ (p : Addr) (ys : List V), xs = [.ref p] ∧ (SqL K H p ys ∨ SqT K H p ys) ∧ ys.all isBI = true ∧ Q (.bl (ys.any tv)) H
theorem cAny (h : X.K = K) (hc : X.calm = true) : CallR X (.builtin "any") (rAny K) := by subst h; exact call_any_seq hc
def rMin (K : PySem.W.Frag) : List V → Hp → VK → Prop := fun xs H Q => ∃ (p : Addr) (ns : List Int), xs = [.ref p] ∧ (SqL K H p (ns.map V.int) ∨ SqT K H p (ns.map V.int)) ∧ 0 < ns.length ∧ ∀ M, M ∈ ns → (∀ a ∈ ns, M ≤ a) → Q (.int M) H
theorem cMin (h : X.K = K) (hc : X.calm = true) : CallR X (.builtin "min") (rMin K) := by subst h; exact call_min_seq hc
def rIs (K : PySem.W.Frag) : List V → Hp → VK → Prop := fun xs H Q => ∃ x c t cv b, xs = [x, c] ∧ RelV c cv ∧ (∀ u, RelV c u → u = cv) ∧ TyX K H x t ∧ PySem.W.kitOne K t cv = some b ∧ Q (.bl b) H
theorem cIs (h : X.K = K) : CallR X (.builtin "isinstance") (rIs K) := by subst h; exact call_isX
theorem piSeq {tg l : Expr} {tl : TE} (h : X.K = K) (hl : PE X l tl) : PI X tg l (iSeq K tl) := by subst h; exact pi_seq hl
theorem pgTup {es : List Expr} {k : Nat} {t : TGs} {n : Nat} {pos : Pos} (hK : X.K = K) (hc : X.calm = true) (h : PGs X es t) (hn : (assignEach es X.env).length = n) (hst : (assignEach es X.env).findIdx? (·.1) = none := by rfl) : PG X (.Tuple es k pos) (gTup K n t) := by
  subst hK; exact pg_tup hc h hn hst
theorem pgPair {i j : Nat} {x y : Str} {p1 p2 pos : Pos} {k : Nat} (hK : X.K = K) (hc : X.calm = true) (hN : X.N.Nodup) (hi : X.N[i]? = some x) (hj : X.N[j]? = some y) (hx : X.env.scope.names.lookup x = some .local) (hy : X.env.scope.names.lookup y = some .local) :
    PG X (.Tuple [.Name x p1, .Name y p2] k pos) (gTup K 2 (gCons (gName i) (gCons (gName j) gNil))) := by subst hK; exact pg_pair hc hN hi hj hx hy
theorem pMany {C : Addr} {e : Expr} {ta : TE} {pos : Pos} (h : X.K = K) (W : WebC K C) (he : PE X e ta) (hb : attributeBase e "many" X.env (eval e X.env) = eval e X.env := by rfl) : PE X (.Attribute e "many" pos) (tMany K C ta) := by subst h; exact pe_many W he hb
theorem pTies {C : Addr} {e : Expr} {ta : TE} {pos : Pos} (h : X.K = K) (W : WebC K C) (he : PE X e ta) (hb : attributeBase e "ties" X.env (eval e X.env) = eval e X.env := by rfl) : PE X (.Attribute e "ties" pos) (tTies K C ta) := by subst h; exact pe_ties W he hb
end
end L2
namespace L2
open PySem PySem.Spec PyProof.Rows
theorem ObjOk.live {P : Program} {w : World} {H : Hp} {h : Heap} {a : Addr} {o : HO} (x : ObjOk P w H h a o) : ∃ ob, h.get? a = some ob := by
  cases o with
  | lst xs => obtain ⟨_, _, _, _, e⟩ := x; exact ⟨_, e⟩
  | tup xs => obtain ⟨_, _, _, ob, e, _⟩ := x; exact ⟨_, e⟩
  | dK kvs => obtain ⟨_, _, _, _, ob, _, _, e, _⟩ := x; exact ⟨_, e⟩
  | dT kvs => obtain ⟨_, _, _, _, ob, _, _, e, _⟩ := x; exact ⟨_, e⟩
  | set S n => obtain ⟨ob, _, _, _, e, _⟩ := x; exact ⟨_, e⟩
  | ins C dx fs => obtain ⟨_, _, _, e, _⟩ := x; exact ⟨_, e⟩
  | own y => exact x
  | xd fs => obtain ⟨_, ⟨_, _, _, e, _⟩, _⟩ := x; exact ⟨_, e⟩
  | rng lo hi => obtain ⟨_, _, _, e⟩ := x; exact ⟨_, e⟩
  | frz ob u => obtain ⟨e, _⟩ := x; exact ⟨_, e⟩
  | tbl ps => exact ⟨_, x⟩
  | met f y => exact ⟨_, x⟩
  | ext φ => obtain ⟨_, e, _⟩ := x; exact e
theorem HOk.dead {P : Program} {w : World} {H : Hp} {h : Heap} {a : Addr} (x : HOk P w H h) (e : h.get? a = none) : H a = none := by
  cases q : H a with
  | none => rfl
  | some o =>
    obtain ⟨ob, z⟩ := (x a o q).live
    rw [e] at z; cases z
def Yg (X : Cx) (H : Hp) (b : Addr) : Prop := X.s₀.heap.get? b = none ∧ H b = none ∧ ∀ p ∈ X.pn, p.1 ≠ b
section
variable {X : Cx} {pins : List (Addr × Obj)} {σ : St} {H : Hp} {s : Shared}
theorem Inv.young (I : Inv X pins σ H s) (hex : X.ex = []) {b : Addr} (e : s.heap.get? b = none) : Yg X H b := by
  refine ⟨?_, I.hok.dead e, fun p hp z => ?_⟩
  · cases q : X.s₀.heap.get? b with
    | none => rfl
    | some o =>
      obtain ⟨o', z⟩ := I.base.there b o q (by rw [hex]; simp)
      rw [e] at z; cases z
  · have := (I.pin p (List.mem_append_left _ hp)).1
    rw [z, e] at this; cases this
theorem Inv.bareP (I : Inv X pins σ H s) : Inv X [] σ H s := I.pins_of fun _ h => nomatch h
theorem Inv.noted {h' : Heap} {ch : List Addr} (I : Inv X [] σ H s) (hch : ∀ b ∈ ch, Yg X H b ∧ ∃ o vs, s.heap.get? b = some o ∧ o.data = .fields vs)
    (keep : ∀ b o, s.heap.get? b = some o → b ∉ ch → b ∉ frs X.stack → h'.get? b = some o)
    (slot : ∀ b o, s.heap.get? b = some o → b ∈ frs X.stack → ∃ sl, h'.get? b = some { o with slots := sl }) : Inv X [] σ H { s with heap := h' } := by
  have up : ∀ b o, s.heap.get? b = some o → b ∉ ch → ∃ sl, h'.get? b = some { o with slots := sl } := fun b o e hb => by
    by_cases hf : b ∈ frs X.stack
    · exact slot b o e hf
    · exact ⟨o.slots, keep b o e hb hf⟩
  have nchF : ∀ b o, s.heap.get? b = some o → (∀ vs, o.data ≠ .fields vs) → b ∉ ch := fun b o e hd hb => by
    obtain ⟨_, o', vs, e', d⟩ := hch b hb
    rw [e] at e'; cases e'
    exact hd vs d
  have nch0 : ∀ b o, X.s₀.heap.get? b = some o → b ∉ ch := fun b o e hb => by
    have := (hch b hb).1.1
    rw [e] at this; cases this
  have nst : ∀ b o, X.s₀.heap.get? b = some o → b ∉ X.fs → b ∉ frs X.stack := fun b o e hb hs => by
    rcases List.mem_cons.mp (I.stkSub b hs) with z | z
    · exact absurd (Nat.lt_of_lt_of_le (Heap.lt_size e) I.ok.above) (by rw [z]; exact Nat.lt_irrefl _)
    · exact hb z
  obtain ⟨m, hn, hl⟩ := id I.loc
  refine ⟨I.ok, I.os, I.bare, ⟨fun b o e n hb hx => ?_, fun b o e n hb hx => ?_, I.base.free, fun b o e hx => ?_, I.base.tups, I.base.frzs, I.base.tbls⟩, ⟨m, ?_, fun i x v e1 e2 e3 => ?_⟩, fun x c e => ?_, I.free, I.freeC, fun p hp => ?_, fun b u e => ?_, I.len⟩
  · exact keep b o (I.base.keep b o e n hb hx) (nch0 b o e) (nst b o e hb)
  · obtain ⟨sl, e1⟩ := I.base.slot b o e n hb hx
    obtain ⟨sl', e2⟩ := up b _ e1 (nch0 b o e)
    exact ⟨sl', e2⟩
  · obtain ⟨o', e1⟩ := I.base.there b o e hx
    obtain ⟨sl, e2⟩ := up b o' e1 (nch0 b o e)
    exact ⟨_, e2⟩
  · obtain ⟨o, es, ep, ho, hd, r⟩ := hn
    obtain ⟨sl, e2⟩ := up _ o ho (nchF _ o ho fun vs z => by rw [hd] at z; cases z)
    exact ⟨_, es, ep, e2, hd, r⟩
  · obtain ⟨u, r, l⟩ := hl i x v e1 e2 e3
    refine ⟨u, r, ?_⟩
    rcases l with l | ⟨k, c, e, o, ho, hd⟩
    · exact .inl l
    · obtain ⟨sl, e2⟩ := up c o ho (nchF c o ho fun vs z => by rw [hd] at z; cases z)
      exact .inr ⟨k, c, e, _, e2, hd⟩
  · obtain ⟨v, o, ho, hd⟩ := I.cell x c e
    obtain ⟨sl, e2⟩ := up c o ho (nchF c o ho fun vs z => by rw [hd] at z; cases z)
    exact ⟨v, _, e2, hd⟩
  · obtain ⟨e, n, ne, nf, d⟩ := I.pin p hp
    refine ⟨keep p.1 p.2 e (fun hb => (hch _ hb).1.2.2 p (by simpa using hp) rfl) (fun hs => ?_), n, ne, nf, d⟩
    rcases List.mem_cons.mp (I.stkSub _ hs) with z | z
    · exact ne z
    · exact nf z
  · refine (I.hok b u e).stay (fun c v hc q => keep c v q (fun hb => ?_) (fun hs => ?_)) (fun _ q => q) fun _ _ q => q
    · have z := (hch c hb).1.2.1
      rcases hc with hc | hc
      · rw [hc, e] at z; cases z
      · rw [hc] at z; cases z
    · have z := I.stkFree c hs
      rcases hc with hc | hc
      · rw [hc, e] at z; cases z
      · rw [hc] at z; cases z
end
def IsX (o : Obj) : Value → Prop
  | .int d A => o.cls = .ref A ∧ o.dict = some d.toNat
  | C => o.cls = C
def FlyO (X : Cx) (H : Hp) (h : Heap) (x : Addr) (C : Value) (fl : Option Value) : Prop :=
  Yg X H x ∧ ∃ oe vs a0, h.get? x = some oe ∧ IsX oe C ∧ oe.data = .fields vs ∧ vs[0]? = some a0 ∧
    match fl with
    | none => vs[1]? = some .none
    | some v => ∃ T oT ts, vs[1]? = some (.ref T) ∧ T ≠ x ∧ Yg X H T ∧ h.get? T = some oT ∧ oT.data = .fields ts ∧ ts[3]? = some v
theorem frames_base {h base base' : Heap} : ∀ {l : List Env}, h.FunFrames base l → (∀ b ∈ frs l, base'.get? b = none) → h.FunFrames base' l
  | [], _, _ => trivial
  | env :: r, hl, hb => by
    obtain ⟨hk, ⟨L, o, hf, hn, ho, hd⟩, hr⟩ := hl
    have e : frs (env :: r) = L :: frs r := by unfold frs; rw [List.filterMap_cons, hf]
    exact ⟨hk, ⟨L, o, hf, hb L (by rw [e]; exact List.mem_cons_self), ho, hd⟩, frames_base hr fun b z => hb b (by rw [e]; exact List.mem_cons_of_mem _ z)⟩
section
variable {X : Cx} {σ : St} {H : Hp} {s : Shared} {M : Model} {A : Around} {E : Value → Shared → Prop} {x : Addr} {C : Value}
theorem FlyO.mv {h h' : Heap} {fl : Option Value} (F : FlyO X H h x C fl) (k : ∀ b o, h.get? b = some o → h'.get? b = some o) : FlyO X H h' x C fl := by
  obtain ⟨y, oe, vs, a0, e, c, d, v0, r⟩ := F
  refine ⟨y, oe, vs, a0, k _ _ e, c, d, v0, ?_⟩
  cases fl with
  | none => exact r
  | some v => obtain ⟨T, oT, ts, r1, r2, r3, r4, r5⟩ := r; exact ⟨T, oT, ts, r1, r2, r3, k _ _ r4, r5⟩
theorem flight_ok {v : Value} {fr : Option Addr} {Q : Unit → Shared → Prop} (I : Inv X [] σ H s) (F : FlyO X H s.heap x C (some v))
    (k : ∀ s', Inv X [] σ H s' → FlyO X H s'.heap x C (some (fr.elim .none fun f => rawInt f)) → Q () s') : wpAny M A (setFlight (.ref x) fr) Q E s := by
  obtain ⟨y, oe, vs, a0, e, c, d, v0, T, oT, ts, r1, r2, r3, r4, r5, r6⟩ := F
  have hz : 3 < ts.size := (Array.getElem?_eq_some_iff.mp r6).1
  unfold setFlight
  refine wpAny_bind (wpAny_field e d r1 ?_)
  rw [if_pos (show (Value.ref T != Value.none) = true from by simp)]
  have other : ∀ b, b ≠ T → ∀ z : Value, (s.heap.update T (Obj.mapFields (·.setIfInBounds 3 z))).get? b = s.heap.get? b := fun b hb z => Heap.get?_update_other _ _ (Ne.symm hb)
  have there := fun z : Value => Heap.get?_update_self (Obj.mapFields (·.setIfInBounds 3 z)) r4 (Obj.isFreed_of_fields (Obj.data_mapFields r5 _))
  refine wpAny_setField r4 r5 hz (k _ (I.noted (ch := [T]) (fun b hb => ?_) (fun b o eb hb _ => ?_) fun b o eb hb => ?_) ?_)
  · have z : b = T := by simpa using hb
    rw [z]; exact ⟨r3, oT, ts, r4, r5⟩
  · rw [other b (fun z => hb (by simp [z]))]; exact eb
  · refine ⟨o.slots, ?_⟩
    rw [other b ?_]
    · exact eb
    · intro z
      obtain ⟨_, o', eo, hd⟩ := I.stack.mem hb
      rw [z, r4] at eo; cases eo
      exact hd ts r5
  · refine ⟨y, oe, vs, a0, by rw [other x (Ne.symm r2)]; exact e, c, d, v0, T, _, _, r1, r2, r3, there _, Obj.data_mapFields r5 _, ?_⟩
    simp [hz]
def hidE (s : Shared) (l : List Addr) : Heap := PySem.W.hideAll s.heap l
theorem IsX.eqv {o o' : Obj} (hc : o'.cls = o.cls) (hd : o'.dict = o.dict) : ∀ {C : Value}, IsX o C → IsX o' C := fun {C} h => by
  cases C <;> first
    | exact ⟨hc.trans h.1, hd.trans h.2⟩
    | exact hc.trans h
structure Hung (e : Addr) (oe tb : Obj) (vs : Array Value) (h h' : Heap) : Prop where
  new : h'.get? h.objs.size = some tb
  rest : ∀ b o, b ≠ e → h.get? b = some o → h'.get? b = some o
  at_ : ∃ o', h'.get? e = some o' ∧ o'.cls = oe.cls ∧ o'.dict = oe.dict ∧ o'.data = .fields (vs.setIfInBounds 1 (.ref h.objs.size))
theorem Hung.mk' {e : Addr} {oe tb : Obj} {vs : Array Value} {h : Heap} (he : h.get? e = some oe) (hd : oe.data = .fields vs) (ht : tb.isFreed = false) : Hung e oe tb vs h ((h.push tb).update e (Obj.mapFields (·.setIfInBounds 1 (.ref h.objs.size)))) := by
  obtain ⟨c, d, x, sl⟩ := oe
  cases hd
  have ne := Nat.ne_of_lt (Heap.lt_size he)
  exact ⟨Heap.get?_update_of_ne _ ne (Heap.get?_push_size _ ht), fun b o hb q => Heap.get?_update_of_ne _ (Ne.symm hb) (Heap.get?_push_of_some _ q), _, Heap.get?_update_self _ (Heap.get?_push_of_some _ he) rfl, rfl, rfl, rfl⟩
theorem entryX {base : Heap} {env : Env} {outer : List Env} {L e : Addr} {oe : Obj} {vs : Array Value} {head a0 : Value} {hadNext : Bool} {Q : Unit → Shared → Prop} (hfr : A.frames = some (env :: outer)) (hl : s.heap.FunFrames base (env :: outer)) (hf : env.frame = some L) (he : s.heap.get? e = some oe) (hkb : base.StaysIn s.heap) (hen : base.get? e = none) (hd : oe.data = .fields vs) (hsz : 1 < vs.size) (h0 : vs[0]? = some a0)
    (h : ∀ h', Heap.NotedW base (env :: outer) e oe.cls a0 (rawInt L) s.heap h' → (∃ o', h'.get? e = some o' ∧ o'.dict = oe.dict) → Q () { s with heap := h' }) : wpAny M A (do let a ← frameOf env; let pl ← entryPlaceOf L hadNext; let b ← EntryCells.newEntry head a .none (rawInt L) .none pl; setField (.ref e) 1 b) Q E s := by
  have plain : ∀ {b : Addr} {o : Obj}, s.heap.get? b = some o → (∀ ws, o.data ≠ .fields ws) → b ≠ e := fun q n z => by cases (z ▸ q).symm.trans he; exact n vs hd
  have apart : e ∉ (env :: outer).filterMap (·.frame) := fun m => let ⟨_, _, q, n⟩ := hl.mem m; plain q n rfl
  refine wpAny_bind (wpAny_frameOf_fun hfr hl hf fun hp S => wpAny_bind (wpAny_entryPlaceOf fun pl place => wpAny_bind (wpAny_newObj_type ?_ (place.sizeOk5 _ _ _ _ _))))
  have there := (S.2.1 e apart).trans he
  have low : base.StaysIn hp := fun b o q => (S.2.1 b fun m => nomatch (hl.mem m).1.symm.trans q).trans (hkb b o q)
  refine wpAny_setField (Heap.get?_push_of_some _ there) hd hsz ?_
  have U := Hung.mk' (tb := ⟨.type "traceback", none, .fields ([head, .ref L, .none, rawInt L, .none] ++ (if pl.isEmpty then List.replicate 6 Value.none else pl)).toArray, #[]⟩) there hd rfl
  obtain ⟨o', q1, q2, q3, q4⟩ := U.at_
  have kept : ∀ b o, s.heap.get? b = some o → (∀ ws, o.data ≠ .fields ws) → ∃ sl, _ := fun b o q n => let ⟨sl, z⟩ := S.2.2 b o q; ⟨sl, U.rest b _ (plain q n) z⟩
  refine h _ ⟨fun b o q => U.rest b o (fun z => nomatch (z ▸ hen).symm.trans q) (low b o q), hl.of_keeps fun b o q n => let ⟨_, z⟩ := kept b o q n; ⟨_, z, rfl⟩, ⟨o', _, hp.objs.size, _, _, q1, ⟨q2, ?_⟩, q4, ?_, low.fresh, (Nat.ne_of_lt (Heap.lt_size there)).symm, U.new, rfl, ?_⟩, kept⟩ ⟨o', q1, q3⟩
  · rw [Array.getElem?_setIfInBounds_ne (by decide), h0]
  · rw [Array.getElem?_setIfInBounds_self_of_lt hsz]
  · rw [List.getElem?_toArray]; rfl
theorem note_end {v : Value} {h' : Heap} {l ch : List Addr} {a0 : Value} {ox : Obj} (I : Inv X [] σ H s) (hex : X.ex = []) (y : Yg X H x) (hx : x ∈ ch) (hl : l = ch ++ frs X.stack) (iX : IsX ox C)
    (hch : ∀ b ∈ ch, Yg X H b ∧ ∃ o vs, s.heap.get? b = some o ∧ o.data = .fields vs) (N : Heap.NotedW (hidE s l) X.stack x ox.cls a0 v s.heap h') (hdc : ∃ o', h'.get? x = some o' ∧ o'.dict = ox.dict) :
    Inv X [] σ H { s with heap := h' } ∧ FlyO X H h' x C (some v) := by
  obtain ⟨n1, n2, n3, n4⟩ := N
  subst hl
  have frd : ∀ b o, s.heap.get? b = some o → b ∈ frs X.stack → ∀ vs, o.data ≠ .fields vs := fun b o e hb => by
    obtain ⟨_, o', eo, hd⟩ := I.stack.mem hb
    rw [e] at eo; cases eo
    exact hd
  refine ⟨I.noted (ch := ch) hch (fun b o e hb hs => n1 b o (PySem.W.hideAll_get _ e fun z => (List.mem_append.mp z).elim hb hs)) (fun b o e hb => n4 b o e (frd b o e hb)), y, ?_⟩
  obtain ⟨oe, vs, T, oT, ts, e, ⟨c, v0⟩, d, r1, r2, r3, r4, r5, r6⟩ := n3
  obtain ⟨o', eo', dd⟩ := hdc
  rw [e] at eo'; cases eo'
  refine ⟨oe, vs, a0, e, IsX.eqv c dd iX, d, v0, T, oT, ts, r1, r3, ?_, r4, r5, r6⟩
  cases q : s.heap.get? T with
  | none => exact I.young hex q
  | some o =>
    by_cases hT : T ∈ ch
    · exact (hch T hT).1
    · by_cases hf : T ∈ frs X.stack
      · exfalso
        obtain ⟨sl, z⟩ := n4 T o q (frd T o q hf)
        rw [r4] at z; cases z
        exact frd T o q hf ts r5
      · have := PySem.W.hideAll_get (ch ++ frs X.stack) q fun z => (List.mem_append.mp z).elim hT hf
        rw [show PySem.W.hideAll s.heap (ch ++ frs X.stack) = hidE s (ch ++ frs X.stack) from rfl, r2] at this; cases this
theorem note_ok {fl : Option Value} {L : Addr} {Q : Unit → Shared → Prop} (I : Inv X [] σ H s) (hex : X.ex = []) (hfr : A.frames = some X.stack) (hst : X.stack = X.env :: X.outer) (hL : X.env.frame = some L)
    (F : FlyO X H s.heap x C fl) (hfl : fl = none ∨ fl = some .none ∨ fl = some (rawInt L))
    (k : ∀ s', Inv X [] σ H s' → FlyO X H s'.heap x C (some (rawInt L)) → Q () s') : wpAny M A (noteFrame (.ref x) X.env) Q E s := by
  have hidS : ∀ l, (hidE s l).StaysIn s.heap := fun l b o e => PySem.W.of_hideAll l e
  have hidN : ∀ l b, b ∈ l → (hidE s l).get? b = none := fun l b hb => PySem.W.hideAll_none l hb
  have hidF : ∀ ch, s.heap.FunFrames (hidE s (ch ++ frs X.stack)) X.stack := fun ch => frames_base I.stack fun b hb => hidN _ b (List.mem_append_right _ hb)
  obtain ⟨y, oe, vs, a0, e, c, d, v0, r⟩ := id F
  rcases hfl with rfl | rfl | rfl
  · have hch : ∀ b ∈ [x], Yg X H b ∧ ∃ o vs, s.heap.get? b = some o ∧ o.data = .fields vs := fun b hb => by
      have z : b = x := by simpa using hb
      rw [z]; exact ⟨y, oe, vs, e, d⟩
    have r' : vs[1]? = some Value.none := r
    unfold noteFrame
    simp only [hL]
    refine wpAny_bind (wpAny_field e d r' ?_)
    rw [if_neg (by decide)]
    refine entryX (base := hidE s ([x] ++ frs X.stack)) (outer := X.outer) (by rw [hfr, hst]) (by rw [← hst]; exact hidF [x]) hL e (hidS _) (hidN _ x (by simp)) d (Array.getElem?_eq_some_iff.mp r').1 v0 fun h' N hdc => ?_
    rw [← hst] at N
    obtain ⟨I', F'⟩ := note_end I hex y (by simp) rfl c hch N hdc
    exact k _ I' F'
  · obtain ⟨T, oT, ts, r1, r2, r3, r4, r5, r6⟩ := id r
    have hch : ∀ b ∈ [x, T], Yg X H b ∧ ∃ o vs, s.heap.get? b = some o ∧ o.data = .fields vs := fun b hb => by
      have z : b = x ∨ b = T := by simpa using hb
      rcases z with z | z
      · rw [z]; exact ⟨y, oe, vs, e, d⟩
      · rw [z]; exact ⟨r3, oT, ts, r4, r5⟩
    unfold noteFrame
    simp only [hL]
    refine wpAny_bind (wpAny_field e d r1 ?_)
    rw [if_pos (show (Value.ref T != Value.none) = true from by simp)]; refine wpAny_bind (wpAny_field r4 r5 r6 ?_)
    rw [if_neg (show ¬ ((Value.none == rawInt L) = true) from by simp [rawInt])]; refine wpAny_bind (wpAny_setField r4 r5 (Array.getElem?_eq_some_iff.mp r6).1 ?_)
    have oth : ∀ b, b ≠ T → (s.heap.update T (Obj.mapFields (·.setIfInBounds 3 Value.none))).get? b = s.heap.get? b := fun b hb => Heap.get?_update_other _ _ (Ne.symm hb)
    have nrec : ∀ b o, s.heap.get? b = some o → (∀ vs, o.data ≠ .fields vs) → b ≠ T := fun b o hb hnf q => by
      rw [q, r4] at hb; cases hb; exact hnf ts r5
    have hidT : (hidE s ([x, T] ++ frs X.stack)).get? T = none := hidN _ T (by simp)
    refine entryX (s := { s with heap := s.heap.update T (Obj.mapFields (·.setIfInBounds 3 Value.none)) }) (base := hidE s ([x, T] ++ frs X.stack)) (outer := X.outer) (by rw [hfr, hst]) (by rw [← hst]; exact (hidF [x, T]).of_keeps fun b o hb hnf => ⟨o, (oth b (nrec b o hb hnf)).trans hb, rfl⟩) hL ((oth x (Ne.symm r2)).trans e)
      (fun b o hbo => (oth b fun q => by rw [q, hidT] at hbo; cases hbo).trans (hidS _ b o hbo)) (hidN _ x (by simp)) d (Array.getElem?_eq_some_iff.mp r1).1 v0 fun h' N hdc => ?_
    rw [← hst] at N
    obtain ⟨x1, x2, x3, x4⟩ := N
    obtain ⟨I', F'⟩ := note_end I hex y (by simp) rfl c hch ⟨x1, x2, x3, fun b o hb hnf => x4 b o ((oth b (nrec b o hb hnf)).trans hb) hnf⟩ hdc
    exact k _ I' F'
  · obtain ⟨T, oT, ts, r1, r2, r3, r4, r5, r6⟩ := id r
    refine wpAny_noteFrame_againW (base := hidE s ([x, T] ++ frs X.stack)) (cls := oe.cls) (a0 := a0) hL ?_ (k s I F)
    exact ⟨oe, vs, T, oT, ts, e, ⟨rfl, v0⟩, d, r1, hidN _ T (by simp), r2, r4, r5, r6⟩
end
def FlyE (X : Cx) (Ex : St → Value → Hp → Prop) : Value → Shared → Prop := fun e s' =>
  ∃ (x : Addr) (C : Value) (fl : Option Value) (σ : St) (H : Hp), e = .ref x ∧ Inv X [] σ H s' ∧ FlyO X H s'.heap x C fl ∧ (fl = none ∨ fl = some .none ∨ fl = some (rawInt X.env.locals)) ∧ Ex σ C H
def CXE (P : Program) (w : World) : CXT := fun outer H s E e s' =>
  ∃ (x : Addr) (C : Value) (H' : Hp), e = .ref x ∧ s'.os = s.os ∧ AllBare s'.gens ∧ Un (frs outer) [] H H' s.heap s'.heap ∧ HOk P w H' s'.heap ∧ s.heap.get? x = none ∧ H' x = none ∧
    (∃ oe vs a0 T oT ts, s'.heap.get? x = some oe ∧ IsX oe C ∧ oe.data = .fields vs ∧ vs[0]? = some a0 ∧ vs[1]? = some (.ref T) ∧ T ≠ x ∧ s.heap.get? T = none ∧ H' T = none ∧ s'.heap.get? T = some oT ∧ oT.data = .fields ts ∧ ts[3]? = some .none) ∧
    E C none H'
structure Body (X : Cx) : Prop where
  ex : X.ex = []
  st : X.stack = X.env :: X.outer
  fr : X.env.frame = some X.env.locals
section
variable {X : Cx} {Ex : St → Value → Hp → Prop}
theorem PSs.more {E1 : Value → Shared → Prop} {st : List Stmt} {t : TS} (h : PSs (X.wish E1) st t) (hE : ∀ e s, E1 e s → X.xe e s) : PSs X st t := fun pins s σ H D I hw =>
  wpAny_mono (h pins s σ H D (I.wish _) hw) (fun _ _ q => q.unwish) fun e s z => hE e s z
end
theorem fly_leaves {P : Program} {w : World} {K : PySem.W.Frag} {mg : Str → Option Value} {base : Heap} {N : List Str} {qual : Str} {scope : Scope} {f : Addr} {cd : Value} {A : Around} {outer : List Env} {s : Shared} {H : Hp} {E : XK}
    (B : Body (cxOf (CXE P w) P w K mg base N qual scope f cd A outer s H E)) : ∀ e s', FlyE (cxOf (CXE P w) P w K mg base N qual scope f cd A outer s H E) (fun _ C H' => E C none H') e s' → (cxOf (CXE P w) P w K mg base N qual scope f cd A outer s H E).xe e s' := by
  rintro e s' ⟨x, C, fl, σ, H1, rfl, I, F, hfl, q⟩
  show wpAny _ _ (leaving _ _) _ _ s'
  unfold leaving
  refine wpAny_bind (note_ok I B.ex I.ok.frames B.st B.fr F hfl fun s1 I1 F1 => ?_)
  refine flight_ok I1 F1 fun s2 I2 F2 => ?_
  obtain ⟨y, oe, vs, a0, e1, c, d, v0, T, oT, ts, r1, r2, r3, r4, r5, r6⟩ := id F2
  exact ⟨x, C, H1, rfl, I2.os, I2.bare, I2.base, I2.hok, y.1, y.2.1, ⟨oe, vs, a0, T, oT, ts, e1, c, d, v0, r1, r2, r3.1, r3.2.1, r4, r5, r6⟩, q⟩
section
variable {P : Program} {w : World} {K : PySem.W.Frag} {mg : Str → Option Value} {base : Heap}
abbrev cxE (P : Program) (w : World) (K : PySem.W.Frag) (mg : Str → Option Value) (base : Heap) (N : List Str) (qual : Str) (scope : Scope) (f : Addr) (cd : Value) (A : Around) (outer : List Env) (s : Shared) (H : Hp) (E : XK) : Cx :=
  (cxOf (CXE P w) P w K mg base N qual scope f cd A outer s H E).wish (FlyE (cxOf (CXE P w) P w K mg base N qual scope f cd A outer s H E) (fun _ C H' => E C none H'))
theorem Fun.okE {x qual : Str} {st : Stmt} {f : Addr} {fd : FuncData} {N ps : List Str} {k : Nat} {sp : Sp} (F : Fun K x qual st f fd) (S : FnScope N ps (defScope st)) (len : ∀ vs H Q E, sp vs H Q E → vs.length = ps.length)
    (hbody : ∀ (cdv : Value) (A : Around) (outer : List Env) (s : Shared) (H : Hp) (vs : List V) (Q : VK) (E : XK), Room k (A.deeper (envOfC qual (defScope st) s.heap.objs.size f cdv)) → sp vs H Q E →
      ∃ t, PSs (cxE P w K mg base N qual (defScope st) f cdv A outer s H E) (defBody st) t ∧ t { nx := fun _ H' => Q .non H', rt := Q } (start N vs) H) : FnOk P w K mg base (CXE P w) (k + 1) f fd ps sp := by
  obtain ⟨oc, od, kV, doc, pm, an, cdv, ct, osl, rfl, lk, hcd⟩ := F.ex
  refine fn_of lk hcd S len fun A outer s H vs Q E hr hsp => ?_
  obtain ⟨t, h, q⟩ := hbody cdv A outer s H vs Q E hr hsp
  exact ⟨t, h.more (fly_leaves ⟨rfl, rfl, rfl⟩), q⟩
end
section
variable {X : Cx} {Ex : St → Value → Hp → Prop}
def DefE (P : Program) (w : World) (K : PySem.W.Frag) (mg : Str → Option Value) (base : Heap) (k : Nat) (x : Str) (ps : List Str) (sp : Sp) : Prop :=
  ∃ f fd, FnOk P w K mg base (CXE P w) k f fd ps sp ∧ mg x = some (.ref f) ∧ PySem.W.keepIn K (.ref f) = true ∧ Binds K fd ps []
theorem DefE.of {P : Program} {w : World} {K : PySem.W.Frag} {mg : Str → Option Value} {base : Heap} {k : Nat} {x qual : Str} {ps : List Str} {sp : Sp} {st : Stmt} {f : Addr} {fd : FuncData}
    (F : Fun K x qual st f fd) (m : mg x = some (.ref f)) (b : Binds K fd ps []) (ok : FnOk P w K mg base (CXE P w) k f fd ps sp) : DefE P w K mg base k x ps sp := ⟨f, fd, ok, m, F.kp, b⟩
end
end L2
namespace L2
open PySem PySem.Spec PyProof.Rows
abbrev vErr : List Value := [.type "ValueError", .type "Exception", .type "BaseException", .type "object"]
def IsExc (K : PySem.W.Frag) (C : Addr) : Prop := PySem.W.excIn K C vErr "ValueError.__new__" = true
theorem IsExc.obj {K : PySem.W.Frag} {C : Addr} (q : IsExc K C) {h : Heap} (X : K.In h) : ∃ bm N nm qn bs hd sn sub ab col dd k0 k1 k2 k3 k5 mN,
    h.get? C = some (excClassObj nm qn C N bs bm hd sn sub ab col dd k0 k1 k2 k3 k5 "ValueError.__new__") ∧ h.Ns N mN ∧ mN "__init__" = none ∧ OwnTail h vErr bm ∧ PySem.W.mroIn K C = fun b => some ((Value.ref C :: bm).contains b) := by
  unfold IsExc PySem.W.excIn at q
  split at q
  · next dct cd sl look =>
    split at q
    · next C' tl s0 s1 s2 s3 nn s5 em es =>
      simp only [Bool.and_eq_true, beq_iff_eq, Bool.not_eq_true'] at q
      obtain ⟨⟨⟨⟨⟨e1, e2⟩, e3⟩, e4⟩, e5⟩, e6⟩ := q
      subst e1; subst e2
      have hc : PySem.W.clsIn K C' = some cd := by unfold PySem.W.clsIn; rw [look]
      have hm : PySem.W.mroIn K C' = fun b => some ((Value.ref C' :: tl).contains b) := by
        funext b
        unfold PySem.W.mroIn
        rw [hc, Option.bind_some, em]
        rfl
      obtain ⟨z1, z2, z3, z4, z5, z6, z7, z8, z9, z10, z11⟩ := cd
      dsimp only at em e3 e5 e6
      subst em; subst e3
      obtain ⟨ll⟩ := sl
      simp only at es
      subst es
      exact ⟨tl, _, _, _, _, _, _, _, _, _, _, _, _, _, _, _, _, X _ _ look, .of_isNs (PySem.W.isNs_of_in X e5), PySem.W.nsMap_none_of_in X e5 e6, PySem.W.tail_of_in X e4, hm⟩
    · cases q
  · cases q
section
variable {X : Cx} {Ex : St → Value → Hp → Prop}
def tRaise (C : Addr) (Ex : St → Value → Hp → Prop) (ta : TA) : TS := fun _ σ H => ta σ H fun vs H1 => vs.length ≤ sizeLine ∧ Ex σ (.ref C) H1
theorem ps_raise {x : Str} {C : Addr} {e : Expr} {es : List Expr} {ta : TA} {np cpos pos : Pos} (hc : X.calm = true) (hex : X.ex = []) (hg : Gl X x) (hm : X.mg x = some (.ref C)) (q : IsExc X.K C) (ha : PA (X.wish (FlyE X Ex)) (e :: es) ta)
    (hd : (x == ("__debug__" : Str)) = false := by decide) (he : starEach (e :: es) X.env = (false, eval e X.env) :: starEach es X.env := by rfl) (hpl : (backTo cpos (starEach es X.env)).any (·.1) = false := by rfl) :
    PS (X.wish (FlyE X Ex)) (.Raise (some (.Call (.Name x np) (e :: es) [] cpos)) none pos) (tRaise C Ex ta) := by
  intro pins s σ H D I h
  obtain ⟨bm, N, nm, qn, bs, hdd, sn, sub, ab, col, dd, k0, k1, k2, k3, k5, mN, hC, hN, hni, TL, _⟩ := q.obj I.ok.mod.kin
  refine wpAny_Raise_call_subU (C := C) (nm := nm) (q := qn) (N := N) (bs := bs) (bm := bm) (hdct := hdd) (sn := sn) (sub := sub) (ab := ab) (col := col) (dd := dd) (k0 := k0) (k1 := k1) (k2 := k2) (k3 := k3) (k5 := k5)
    PySem.F.excBase_ValueError (by decide +kernel) PySem.F.excBase_ValueError (mN := mN) (TL.hasType PySem.F.excBase_ValueError.hasBase) (I.ok.hd hc) ?_ hni (ld_glob I hg hm ⟨rfl, ?_⟩ hd)
  · show (backTo cpos (starEach (e :: es) X.env)).any (·.1) = false
    rw [he]
    show (false || (backTo cpos (starEach es X.env)).any (·.1)) = false
    rw [hpl]; rfl
  · have ha' := ha cpos pins s σ H _ I h
    rw [show (X.wish (FlyE X Ex)).env = X.env from rfl] at ha' ⊢
    rw [he] at ha' ⊢
    refine Calls.evalArgs_plain (thn ha' fun us s2 ⟨vs, H1, I2, r, z, qx⟩ => ⟨rfl, by rw [← r.length]; exact z, I2.bk _ _ hC, hN.keeps I2.bk, TL.keeps I2.bk, fun h' x' mk => ?_⟩)
    have I3 := I2.unwish.bareP
    obtain ⟨t, et, _, _⟩ := mk.there
    exact ⟨x', .ref C, none, σ, H1, rfl, I3.kept (t' := s2.toks) mk.keeps, ⟨I3.young hex mk.new, _, _, _, et, rfl, rfl, rfl, rfl⟩, .inl rfl, qx⟩
end
end L2
namespace L2
open PySem PySem.Spec PyProof.Rows
section
variable {X : Cx} {σ : St} {H : Hp} {s : Shared}
end
section
variable {M : Model} {A : Around} {E : Value → Shared → Prop} {nm q nm' q' : Str} {C N C' N' : Addr} {bs bm bs' bm' : List Value} {hd hd' : Bool} {sn sn' : List Str} {sub sub' : List Value} {ab ab' : Bool} {col col' : Option Bool} {dd dd' : Option Addr}
  {k0 k1 k2 k3 k5 l0 l1 l2 l3 l5 : Option Value} {newId newId' : String}
end
section
variable {X : Cx}
theorem Inv.pn {pins : List (Addr × Obj)} {σ : St} {H : Hp} {s : Shared} (I : Inv X pins σ H s) : Inv { X with pn := X.pn ++ pins } [] σ H s :=
  ⟨⟨I.ok.mod, I.ok.kind, I.ok.glob, I.ok.blt, I.ok.above, I.ok.inj, I.ok.has, I.ok.cab, I.ok.hd, I.ok.frames, I.ok.stk, I.ok.exf, I.ok.bs, I.ok.bsz, I.ok.noex, I.ok.exfs, I.ok.funs, I.ok.frf⟩, I.os, I.bare, I.base, I.loc, I.cell, I.free, I.freeC, fun p hp => I.pin p (by simpa using hp), I.hok, I.len⟩
abbrev Cx.held (X : Cx) (x : Addr) : Cx := { X with A := X.A.mark (some (.ref x)), calm := false }
theorem Inv.held {pins : List (Addr × Obj)} {σ : St} {H : Hp} {s : Shared} (I : Inv X pins σ H s) (x : Addr) : Inv (X.held x) pins σ H s :=
  ⟨⟨I.ok.mod, I.ok.kind, I.ok.glob, I.ok.blt, I.ok.above, I.ok.inj, I.ok.has, I.ok.cab, fun z => (Bool.false_ne_true z).elim, I.ok.frames, I.ok.stk, I.ok.exf, I.ok.bs, I.ok.bsz, I.ok.noex, I.ok.exfs, I.ok.funs, I.ok.frf⟩, I.os, I.bare, I.base, I.loc, I.cell, I.free, I.freeC, I.pin, I.hok, I.len⟩
end
end L2
namespace L2
open PySem PySem.Spec PyProof.Rows PySem.W Builtin Builtin.ObjectAttr Builtin.Getset_descriptor
structure ExcC (K : Frag) (A : Addr) : Prop where
  ga : findIn K (.ref A) "__getattribute__" = some (some (.builtin "BaseException.__getattribute__"))
  gn : findIn K (.ref A) "__getattr__" = some none
  cl : findIn K (.ref A) "__class__" = some (some (.builtin "object.__class__"))
  cg : specialIn K (.builtin "object.__class__") "__get__" = some (some (.builtin "getset_descriptor.__get__"))
  ck : takesIn K (.builtin "object.__class__") = some true
  co : mroIn K A (.type "object") = some true
  cb : mroIn K A (.type "BaseException") = some true
  is : (clsIn K A).isSome = true
section
variable {prog : Program} {w : World} {B : Around} {E : Value → Shared → Prop} {K : Frag} {x A : Addr} {o : Obj}
end
section
variable {X : Cx}
end
end L2
namespace L2
open PySem PySem.Spec PyProof.Rows
section
variable {X : Cx}
end
def Big (m : Int) (es : List (Int × Int)) : Prop := m < 1 ∨ 20 < m ∨ 40 < (es.length : Int)
instance (m : Int) (es : List (Int × Int)) : Decidable (Big m es) := by unfold Big; infer_instance
instance (es : List (Int × Int)) (m : Int) : Decidable (EndsIn es m) := by unfold EndsIn; infer_instance
end L2
namespace L2
open PySem PySem.Spec PyProof.Rows
section
variable {K : PySem.W.Frag} {H : Hp}
theorem Pairs.get : ∀ {xs : List V} {es : List (Int × Int)} {i : Nat}, Pairs K H xs es → i < es.length → ∃ r e, xs[i]? = some (.ref r) ∧ SqT K H r [.int e.1, .int e.2] ∧ es[i]? = some e ∧ e ∈ es
  | _, _, _, .nil, h => absurd h (Nat.not_lt_zero _)
  | _, _, 0, .cons ⟨r, e, q⟩ _, _ => ⟨r, _, by rw [e]; rfl, q, rfl, List.mem_cons_self⟩
  | _, _, i + 1, .cons _ t, h => by
    obtain ⟨r, e, h1, h2, h3, h4⟩ := Pairs.get (i := i) t (by simpa using h)
    exact ⟨r, e, by simpa using h1, h2, by simpa using h3, List.mem_cons_of_mem _ h4⟩
theorem Pairs.append : ∀ {xs ys : List V} {es fs : List (Int × Int)}, Pairs K H xs es → Pairs K H ys fs → Pairs K H (xs ++ ys) (es ++ fs)
  | _, _, _, _, .nil, s => s
  | _, _, _, _, .cons r t, s => .cons r (Pairs.append t s)
theorem Pairs.set {r : Addr} {e : Int × Int} (q : SqT K H r [.int e.1, .int e.2]) : ∀ {xs : List V} {es : List (Int × Int)} (i : Nat), Pairs K H xs es → Pairs K H (xs.set i (.ref r)) (es.set i e)
  | _, _, _, .nil => .nil
  | _, _, 0, .cons _ t => .cons ⟨r, rfl, q⟩ t
  | _, _, i + 1, .cons p t => .cons p (Pairs.set q i t)
theorem Pairs.rep {r : Addr} {e : Int × Int} (q : SqT K H r [.int e.1, .int e.2]) : ∀ n : Nat, Pairs K H (List.replicate n [V.ref r]).flatten (List.replicate n e)
  | 0 => .nil
  | n + 1 => by
    rw [List.replicate_succ, List.replicate_succ, List.flatten_cons]
    exact .cons ⟨r, rfl, q⟩ (Pairs.rep q n)
theorem ixN_nat {n : Nat} {i : Int} (h0 : 0 ≤ i) (h : i < (n : Int)) : ixN n i = some i.toNat := by
  unfold ixN; rw [if_pos h0, if_pos h]
theorem atI_int {α : Type} {xs : List α} {i : Int} {v : α} (h0 : 0 ≤ i) (h : xs[i.toNat]? = some v) : atI xs i = some v := by
  have := atI_nat h
  rwa [Int.toNat_of_nonneg h0] at this
theorem at2 {a b : V} {j : Int} (h0 : 0 ≤ j) (h : j < 2) : ∃ v, atI [a, b] j = some v ∧ (v = a ∨ v = b) := by
  have : j = 0 ∨ j = 1 := by omega
  rcases this with rfl | rfl
  · exact ⟨a, rfl, .inl rfl⟩
  · exact ⟨b, rfl, .inr rfl⟩
theorem at3 {a b d : V} {j : Int} (h0 : 0 ≤ j) (h : j < 3) : ∃ v, atI [a, b, d] j = some v ∧ (v = a ∨ v = b ∨ v = d) := by
  have : j = 0 ∨ j = 1 ∨ j = 2 := by omega
  rcases this with rfl | rfl | rfl
  · exact ⟨a, rfl, .inl rfl⟩
  · exact ⟨b, rfl, .inr (.inl rfl)⟩
  · exact ⟨d, rfl, .inr (.inr rfl)⟩
end
end L2
namespace L2
open PySem PySem.Spec PyProof.Rows
section
variable {prog : Program} {w : World} {A : Around} {E : Value → Shared → Prop} {s : Shared}
set_option maxHeartbeats 2000000 in
theorem stepT {it l : Addr} {i : Nat} {items : Array Value} {x : Value} {c d : Option Addr} {sl sl2 : Array (Option Value)} {n : Nat} {P : Fin → Shared → Prop} (hit : s.heap.get? it = some { cls := .type "tuple_iterator", dict := c, data := .fields #[.ref l, .int i 0], slots := sl }) (hl : s.heap.get? l = some { cls := .type "tuple", dict := d, data := .seq items n, slots := sl2 }) (hx : items[i]? = some x)
    (hP : ∀ h', h'.get? it = some { cls := .type "tuple_iterator", dict := c, data := .fields #[.ref l, .int (i + 1 : Nat) 0], slots := sl } → Heap.SameBut it s.heap h' → P (.done (.ret x)) { s with heap := h' }) :
    wpAny (model prog w) A (Builtin.«tuple_iterator.__next__» ⟨[.ref it], []⟩) P E s := by
  obtain ⟨hp, g, dr, tk, os⟩ := s
  unfold Builtin.«tuple_iterator.__next__»
  wp_walk using AutoSeq1.wpAny_loadPart' hit, AutoSeq1.wpAny_loadPart' hl
  rw [Int.toNat_natCast, hx]
  wp_walk
  have up := Heap.get?_update_self (Obj.mapFields fun v => v.setIfInBounds 1 (rawInt ((i : Int) + 1))) hit rfl
  exact hP _ up (Heap.SameBut.update ..)
set_option maxHeartbeats 2000000 in
theorem stopT {it l : Addr} {i : Nat} {items : Array Value} {c d : Option Addr} {sl sl2 : Array (Option Value)} {n : Nat} {P : Fin → Shared → Prop} (hh : A.handled = none) (hit : s.heap.get? it = some { cls := .type "tuple_iterator", dict := c, data := .fields #[.ref l, .int i 0], slots := sl }) (hl : s.heap.get? l = some { cls := .type "tuple", dict := d, data := .seq items n, slots := sl2 }) (hx : items[i]? = none)
    (hE : ∀ h' e, Heap.ExtBut it s.heap h' → (∃ o, h'.get? e = some o ∧ o.cls = .type "StopIteration") → E (.ref e) { s with heap := h' }) :
    wpAny (model prog w) A (Builtin.«tuple_iterator.__next__» ⟨[.ref it], []⟩) P E s := by
  obtain ⟨hp, g, dr, tk, os⟩ := s
  unfold Builtin.«tuple_iterator.__next__»
  wp_walk using AutoSeq1.wpAny_loadPart' hit, AutoSeq1.wpAny_loadPart' hl
  rw [Int.toNat_natCast, hx]
  wp_walk
  refine wpAny_raiseNew_none hh (hE _ _ ?_ ⟨_, Heap.get?_push_size _ rfl, rfl⟩)
  have one := Heap.SameBut.update (h := hp) (a := it) (f := Obj.mapFields fun v => v.setIfInBounds 0 Value.none)
  exact (one.extBut.push _).push _
theorem nextT_item {it l : Addr} {i : Nat} {items : Array Value} {x : Value} {Q : Value → Shared → Prop} (hit : s.heap.IsTupleIter it l i) (hl : s.heap.IsTuple l items) (hx : items[i]? = some x) (hQ : ∀ h', h'.IsTupleIter it l (i + 1) → Heap.SameBut it s.heap h' → Q x { s with heap := h' }) : wpAny (model prog w) A (Builtin.SmallTypes.nextOf (.ref it)) Q E s := by
  have ty := hit.typeIs
  obtain ⟨⟨_, c, _, sl⟩, ho, rfl, rfl⟩ := hit
  obtain ⟨⟨_, d, _, sl2⟩, hol, rfl, n, rfl⟩ := hl
  have walked := wpAny_call_entry (prog := prog) (w := w) (A := A) (E := E) F.slot_tuple_iterator_next ty F.entry_tuple_iterator_next (stepT ho hol hx fun h' e sb => ⟨x, rfl, hQ h' ⟨_, e, rfl, rfl⟩ sb⟩) (F.args_tuple_iterator_next_1 _)
  unfold Builtin.SmallTypes.nextOf
  exact wpAny_bind (wpAny_callSpecial?_slot ty F.slot_tuple_iterator_next (wpAny_mono walked (fun v s' q => wpAny_pure q) fun _ _ z => z))
theorem nextT_end {it l : Addr} {i : Nat} {items : Array Value} {Q : Value → Shared → Prop} (hh : A.handled = none) (hit : s.heap.IsTupleIter it l i) (hl : s.heap.IsTuple l items) (hx : items[i]? = none) (hE : ∀ h' e, Heap.ExtBut it s.heap h' → (∃ o, h'.get? e = some o ∧ o.cls = .type "StopIteration") → E (.ref e) { s with heap := h' }) : wpAny (model prog w) A (Builtin.SmallTypes.nextOf (.ref it)) Q E s := by
  have ty := hit.typeIs
  obtain ⟨⟨_, c, _, sl⟩, ho, rfl, rfl⟩ := hit
  obtain ⟨⟨_, d, _, sl2⟩, hol, rfl, n, rfl⟩ := hl
  have walked := wpAny_call_entry (prog := prog) (w := w) (A := A) (E := E) (Q := fun v s' => Q v s') F.slot_tuple_iterator_next ty F.entry_tuple_iterator_next (stopT (show A.in1.handled = none from hh) ho hol hx hE) (F.args_tuple_iterator_next_1 _)
  unfold Builtin.SmallTypes.nextOf
  exact wpAny_bind (wpAny_callSpecial?_slot ty F.slot_tuple_iterator_next (wpAny_mono walked (fun v s' q => wpAny_pure q) fun _ _ z => z))
theorem tIter_at {h h' : Heap} {it t : Addr} {i : Nat} (x : h.IsTupleIter it t i) (k : ∀ o, h.get? it = some o → h'.get? it = some o) : h'.IsTupleIter it t i := let ⟨o, ho, r⟩ := x; ⟨o, k o ho, r⟩
end
def SIt (b : Bool) (h : Heap) (it l : Addr) (i : Nat) : Prop := match b with | false => h.IsListIter it l i | true => h.IsTupleIter it l i
def SSq (b : Bool) (h : Heap) (l : Addr) (xs : Array Value) : Prop := match b with | false => h.IsList l xs | true => h.IsTuple l xs
theorem SIt.keep {b : Bool} {h h' : Heap} {it l : Addr} {i : Nat} (x : SIt b h it l i) (k : ∀ o, h.get? it = some o → h'.get? it = some o) : SIt b h' it l i := by
  cases b
  · exact Heap.IsListIter.at x k
  · exact tIter_at x k
theorem SSq.keep {b : Bool} {h h' : Heap} {l : Addr} {xs : Array Value} (x : SSq b h l xs) (k : ∀ o, h.get? l = some o → h'.get? l = some o) : SSq b h' l xs := by
  cases b
  · exact Heap.IsList.at x k
  · exact Heap.IsTuple.at x k
theorem SIt.obj {b : Bool} {h : Heap} {it l : Addr} {i : Nat} (x : SIt b h it l i) : ∃ o, h.get? it = some o ∧ ∀ v, o.data ≠ .cell v := by
  cases b
  · obtain ⟨o, e, _, d⟩ := x; exact ⟨o, e, fun v z => by rw [d] at z; cases z⟩
  · obtain ⟨o, e, _, d⟩ := x; exact ⟨o, e, fun v z => by rw [d] at z; cases z⟩
theorem SSq.live {b : Bool} {h : Heap} {l : Addr} {xs : Array Value} (x : SSq b h l xs) : ∃ o, h.get? l = some o := by
  cases b
  · obtain ⟨o, e, _⟩ := x; exact ⟨o, e⟩
  · obtain ⟨o, e, _⟩ := x; exact ⟨o, e⟩
theorem draws_src {prog : Program} {w : World} {A : Around} (hh : A.handled = none) (b : Bool) (it l : Addr) (hne : l ≠ it) (items : Array Value) : Draws prog w A it [it, l] items.size (fun i v => items[i]? = some v) (fun i h => SIt b h it l i ∧ SSq b h l items) := by
  cases b
  · exact Draws.list hh it l hne items
  · exact { live := fun _ _ st => let ⟨o, ho, _⟩ := st.1; ⟨o, ho⟩
            frame := fun _ _ _ st hk => ⟨tIter_at st.1 fun o e => hk it (by simp) o e, Heap.IsTuple.at st.2 fun o e => hk l (by simp) o e⟩
            item := fun i s Q E hi st hQ => nextT_item st.1 st.2 (x := items[i]) (by simp [hi]) fun h' hit' hs' => hQ _ h' s.toks (by simp [hi]) ⟨hit', Heap.IsTuple.extBut st.2 hs'.extBut hne⟩ hs'
            done := fun s Q E st hE => nextT_end hh st.1 st.2 (by simp) hE }
structure ZA (z TO i1 i2 : Addr) (f1 f2 : List Addr) : Prop where
  m1 : i1 ∈ f1
  m2 : i2 ∈ f2
  z1 : z ∉ f1
  z2 : z ∉ f2
  o1 : TO ∉ f1
  o2 : TO ∉ f2
  x1 : i1 ∉ f2
  x2 : i2 ∉ f1
  oz : TO ≠ z
theorem nin {a b : Addr} {l : List Addr} (h : a ∉ l) (hb : b ∈ l) : b ≠ a := fun e => h (e ▸ hb)
section
variable {prog : Program} {w : World} {A : Around} {E : Value → Shared → Prop} {s : Shared} {z TI TO i1 i2 : Addr} {f1 f2 : List Addr} {n1 n2 i : Nat} {P1 P2 : Nat → Value → Prop} {S1 S2 : Nat → Heap → Prop} {a b : Value}
set_option maxHeartbeats 4000000 in
theorem zip_itemD {Q : Value → Shared → Prop} (D1 : Draws prog w A i1 f1 n1 P1 S1) (D2 : Draws prog w A i2 f2 n2 P2 S2) (Z : ZA z TO i1 i2 f1 f2) (hz : IsZip s.heap z TI TO .none) (hTI : IsPair s.heap TI (.ref i1) (.ref i2)) (hTO : IsPair s.heap TO a b) (h1 : S1 i s.heap) (h2 : S2 i s.heap) (l1 : i < n1) (l2 : i < n2)
    (hQ : ∀ x y h' tk, P1 i x → P2 i y → IsZip h' z TI TO (rawInt s.heap.objs.size) → IsPair h' TO x y → S1 (i + 1) h' → S2 (i + 1) h' → IsPair h' s.heap.objs.size x y → h'.objs.size = s.heap.objs.size + 1 →
      (∀ c o, c ≠ z → c ≠ TO → c ≠ i1 → c ≠ i2 → s.heap.get? c = some o → h'.get? c = some o) → Q (.ref s.heap.objs.size) { s with heap := h', toks := tk }) :
    wpAny (model prog w) A (Builtin.«zip.__next__» ⟨[.ref z], []⟩) (fun fin s' => ∃ v, fin = .done (.ret v) ∧ Q v s') E s := by
  obtain ⟨hp, g, d, tk₀, os⟩ := s
  have Oz := Z.oz
  have z1 := nin Z.z1 Z.m1
  have z2 := nin Z.z2 Z.m2
  have O1 := nin Z.o1 Z.m1
  have O2 := nin Z.o2 Z.m2
  have kz := Heap.get?_update_self (Obj.mapFields fun v => v.setIfInBounds 0 Value.ellipsis) hz rfl
  unfold Builtin.«zip.__next__»
  wp_walk using AutoSeq1.wpAny_loadPart' hz, AutoSeq1.wpAny_loadPart' hTI, wpAny_onRaise, D1.item i _ _ _ l1
  · exact D1.frame _ _ _ h1 fun c hc o e => Heap.get?_update_of_ne _ (nin Z.z1 hc).symm e
  intro x h₂ t₂ px s₁ b₂
  have ez := b₂.extBut _ _ z1.symm kz
  have TO2 : IsPair h₂ TO a b := b₂.extBut _ _ O1.symm (Heap.get?_update_of_ne _ Oz.symm hTO)
  have kO := Heap.get?_update_self (Obj.mapSeq fun v => v.setIfInBounds 0 x) TO2 rfl
  wp_walk using AutoSeq1.wpAny_loadPart' TO2, wpAny_onRaise, D2.item i _ _ _ l2
  · exact D2.frame _ _ _ h2 fun c hc o e => Heap.get?_update_of_ne _ (nin Z.o2 hc).symm (b₂.extBut _ _ (nin Z.x1 hc) (Heap.get?_update_of_ne _ (nin Z.z2 hc).symm e))
  intro y h₄ t₄ py s₂ b₄
  have TO4 : IsPair h₄ TO x b := b₄.extBut _ _ O2.symm kO
  have ez4 : IsZip h₄ z TI TO .ellipsis := b₄.extBut _ _ z2.symm (Heap.get?_update_of_ne _ Oz ez)
  have n4 : h₄.objs.size = hp.objs.size := by rw [b₄.1, Heap.size_after_update, b₂.1, Heap.size_after_update]
  have kP := Heap.get?_update_self (Obj.mapSeq fun v => v.setIfInBounds 1 y) TO4 rfl
  wp_walk using AutoSeq1.wpAny_loadPart' TO4, AutoSeq1.wpAny_loadPart' kP
  have n5 : (h₄.update TO (Obj.mapSeq fun v => v.setIfInBounds 1 y)).objs.size = hp.objs.size := Heap.size_after_update .. |>.trans n4
  have zl : z < hp.objs.size := Heap.lt_size hz
  refine ⟨_, rfl, ?_⟩
  rw [n5]
  have on : ∀ {c o} (f : Obj → Obj) (k : Obj → Obj), c ≠ z → ((h₄.update TO (Obj.mapSeq fun v => v.setIfInBounds 1 y)).push { cls := .type "tuple", data := .seq #[x, y] }).get? c = some o →
      ((((h₄.update TO (Obj.mapSeq fun v => v.setIfInBounds 1 y)).push { cls := .type "tuple", data := .seq #[x, y] }).update z f).update z k).get? c = some o := fun f k q e => Heap.get?_update_of_ne _ q.symm (Heap.get?_update_of_ne _ q.symm e)
  refine hQ x y _ t₄ px py ?_ ?_ ?_ ?_ ?_ ?_ ?_
  · exact Heap.get?_update_self _ (Heap.get?_update_self _ (Heap.get?_push_of_some _ (Heap.get?_update_of_ne _ Oz ez4)) rfl) rfl
  · exact on _ _ Oz (Heap.get?_push_of_some _ kP)
  · exact D1.frame _ _ _ s₁ fun c hc o e => on _ _ (nin Z.z1 hc) (Heap.get?_push_of_some _ (Heap.get?_update_of_ne _ (nin Z.o1 hc).symm (b₄.extBut _ _ (nin Z.x2 hc) (Heap.get?_update_of_ne _ (nin Z.o1 hc).symm e))))
  · exact D2.frame _ _ _ s₂ fun c hc o e => on _ _ (nin Z.z2 hc) (Heap.get?_push_of_some _ (Heap.get?_update_of_ne _ (nin Z.o2 hc).symm e))
  · exact on _ _ (Nat.ne_of_gt zl) (Heap.get?_push_at n5.symm rfl)
  · rw [Heap.size_after_update, Heap.size_after_update, Heap.size_push, n5]
  · exact fun c o c1 c2 c3 c4 e => on _ _ c1 (Heap.get?_push_of_some _ (Heap.get?_update_of_ne _ c2.symm (b₄.extBut _ _ c4 (Heap.get?_update_of_ne _ c2.symm (b₂.extBut _ _ c3 (Heap.get?_update_of_ne _ c1.symm e))))))
set_option maxHeartbeats 4000000 in
theorem zip_endD {Q : Fin → Shared → Prop} (D1 : Draws prog w A i1 f1 n1 P1 S1) (D2 : Draws prog w A i2 f2 n2 P2 S2) (Z : ZA z TO i1 i2 f1 f2) (hz : IsZip s.heap z TI TO .none) (hTI : IsPair s.heap TI (.ref i1) (.ref i2)) (hTO : IsPair s.heap TO a b) (h1 : S1 i s.heap) (h2 : S2 i s.heap) (hend : i = n1 ∨ (i < n1 ∧ i = n2))
    (hE : ∀ h' tk e, (∀ c o, c ≠ z → c ≠ TO → c ≠ i1 → c ≠ i2 → s.heap.get? c = some o → h'.get? c = some o) → (∃ o, h'.get? e = some o ∧ o.cls = .type "StopIteration") → E (.ref e) { s with heap := h', toks := tk }) :
    wpAny (model prog w) A (Builtin.«zip.__next__» ⟨[.ref z], []⟩) Q E s := by
  obtain ⟨hp, g, d, tk₀, os⟩ := s
  have Oz := Z.oz
  have z1 := nin Z.z1 Z.m1
  have z2 := nin Z.z2 Z.m2
  have O1 := nin Z.o1 Z.m1
  have O2 := nin Z.o2 Z.m2
  have kz := Heap.get?_update_self (Obj.mapFields fun v => v.setIfInBounds 0 Value.ellipsis) hz rfl
  have first : S1 i (hp.update z (Obj.mapFields fun v => v.setIfInBounds 0 Value.ellipsis)) := D1.frame _ _ _ h1 fun c hc o e => Heap.get?_update_of_ne _ (nin Z.z1 hc).symm e
  unfold Builtin.«zip.__next__»
  rcases hend with rfl | ⟨l1, rfl⟩
  · wp_walk using AutoSeq1.wpAny_loadPart' hz, AutoSeq1.wpAny_loadPart' hTI, wpAny_onRaise, D1.done _ _ _ first
    rintro h₂ e b₂ ⟨o, ho, hc⟩
    have ez : h₂.get? z = _ := b₂ _ _ z1.symm kz
    have ne : e ≠ z := fun q => by rw [q, ez] at ho; cases ho; exact absurd (Value.type.inj hc) (by decide)
    wp_walk using wpAny_updatePart' ez
    exact hE _ _ _ (fun c o c1 c2 c3 c4 q => Heap.get?_update_of_ne _ c1.symm (b₂ _ _ c3 (Heap.get?_update_of_ne _ c1.symm q))) ⟨o, Heap.get?_update_of_ne _ ne.symm ho, hc⟩
  · wp_walk using AutoSeq1.wpAny_loadPart' hz, AutoSeq1.wpAny_loadPart' hTI, wpAny_onRaise, D1.item i _ _ _ l1 first
    intro x h₂ t₂ px s₁ b₂
    have ez : h₂.get? z = _ := b₂.extBut _ _ z1.symm kz
    have TO2 : IsPair h₂ TO a b := b₂.extBut _ _ O1.symm (Heap.get?_update_of_ne _ Oz.symm hTO)
    have last : S2 i (h₂.update TO (Obj.mapSeq fun v => v.setIfInBounds 0 x)) := D2.frame _ _ _ h2 fun c hc o e => Heap.get?_update_of_ne _ (nin Z.o2 hc).symm (b₂.extBut _ _ (nin Z.x1 hc) (Heap.get?_update_of_ne _ (nin Z.z2 hc).symm e))
    wp_walk using AutoSeq1.wpAny_loadPart' TO2, wpAny_onRaise, D2.done _ _ _ last
    rintro h₄ e b₄ ⟨o, ho, hc⟩
    have ez4 : h₄.get? z = _ := b₄ _ _ z2.symm (Heap.get?_update_of_ne _ Oz ez)
    have ne : e ≠ z := fun q => by rw [q, ez4] at ho; cases ho; exact absurd (Value.type.inj hc) (by decide)
    wp_walk using wpAny_updatePart' ez4
    exact hE _ _ _ (fun c o c1 c2 c3 c4 q => Heap.get?_update_of_ne _ c1.symm (b₄ _ _ c4 (Heap.get?_update_of_ne _ c2.symm (b₂.extBut _ _ c3 (Heap.get?_update_of_ne _ c1.symm q))))) ⟨o, Heap.get?_update_of_ne _ ne.symm ho, hc⟩
end
end L2
namespace L2
open PySem PySem.Spec PyProof.Rows
def itC (b : Bool) : String := match b with | false => "list_iterator" | true => "tuple_iterator"
def SqB (b : Bool) (K : PySem.W.Frag) (H : Hp) (a : Addr) (xs : List V) : Prop := match b with | false => SqL K H a xs | true => SqT K H a xs
theorem SqB.of {K : PySem.W.Frag} {H : Hp} {a : Addr} {xs : List V} (h : SqL K H a xs ∨ SqT K H a xs) : ∃ b, SqB b K H a xs := by
  rcases h with h | h
  · exact ⟨false, h⟩
  · exact ⟨true, h⟩
theorem SqB.or {b : Bool} {K : PySem.W.Frag} {H : Hp} {a : Addr} {xs : List V} (h : SqB b K H a xs) : SqL K H a xs ∨ SqT K H a xs := by
  cases b
  · exact .inl h
  · exact .inr h
section
variable {X : Cx} {pins : List (Addr × Obj)} {σ : St} {H : Hp} {s : Shared} {b : Bool} {a c : Addr} {xs : List V}
theorem Inv.src (I : Inv X pins σ H s) (h : SqB b X.K H a xs) : ∃ its : List Value, Vals xs its ∧ SSq b s.heap a its.toArray ∧ xs.length ≤ sizeLine := by
  cases b
  · obtain ⟨its, r, p, z⟩ := I.list h; exact ⟨its, r, p.isList, z⟩
  · obtain ⟨its, r, p, z⟩ := I.tuple h; exact ⟨its, r, p, z⟩
theorem Inv.srcNe (I : Inv X pins σ H s) (h : SqB b X.K H a xs) (f : FpOk X pins H c) : a ≠ c := by
  have known : ∀ o, X.K.lookup a = some o → a ≠ c := fun o hk e => by
    have hb := I.ok.mod.kin a o hk
    subst e
    rcases f.2.2.2.1 with z | z
    · exact I.ok.noex a o hb z
    · exact absurd (Nat.lt_of_lt_of_le (Heap.lt_size hb) (Nat.le_trans I.ok.bsz z)) (Nat.lt_irrefl _)
  have free : ∀ o, H a = some o → a ≠ c := fun o e z => by rw [z, f.1] at e; cases e
  cases b
  · rcases h with (h | ⟨o, h⟩) | ⟨o, _, _, hk, _⟩
    · exact free _ h
    · exact free _ h
    · exact known o hk
  · rcases h with (h | ⟨o, h⟩) | ⟨o, _, _, hk, _⟩
    · exact free _ h
    · exact free _ h
    · exact known o hk
theorem Inv.turnedLaid {h' : Heap} {t' : Nat} {fp : List Addr} {ys : List V} {us : List Value} (I : Inv X pins σ H s) (hf : ∀ b ∈ fp, FpOk X pins H b) (k : ∀ c o, c ∉ fp → s.heap.get? c = some o → h'.get? c = some o) (r : Vals ys us) (hz : ys.length ≤ sizeLine) (hT : IsTup h' s.heap.objs.size us.toArray) :
    Inv X pins σ (upd H s.heap.objs.size (.tup ys)) { s with heap := h', toks := t' } := by
  have hn : H s.heap.objs.size = none := I.hok.fresh (Nat.le_refl _)
  refine I.call' (ch := fp) rfl ⟨fun b o e n hb hx => k b o hx e, fun b o e n hb hx => ⟨o.slots, k b o hx e⟩, fun b o e n hx => ?_, fun b o e hx => ⟨o, k b o hx e⟩, fun b zs e => ?_, fun b o u e => ?_, fun b ps e => ⟨#[], ?_⟩⟩ (fun b u e => ?_) I.bare fun b hb => ?_
  · rw [upd_ne (Nat.ne_of_lt (Heap.lt_size e))]; exact n
  · rw [upd_ne (ne_of_none e hn)]; exact e
  · rw [upd_ne (ne_of_none e hn)]; exact e
  · rw [upd_ne (ne_of_none e hn), e]; simp
  · by_cases hb : b = s.heap.objs.size
    · subst hb; rw [upd_same] at e; cases e
      exact ⟨hz, us, r, hT⟩
    · rw [upd_ne hb] at e
      refine (I.hok b u e).stay (fun c v hc q => k c v (fun z => ?_) q) (fun c q => by rw [upd_ne (ne_of_none q hn)]; exact q) fun c zs q => by rw [upd_ne (ne_of_none q hn)]; exact q
      have z' := (hf c z).1
      rcases hc with hc | hc
      · rw [hc, e] at z'; cases z'
      · rw [hc] at z'; cases z'
  · obtain ⟨f0, f1, f2, f3, f4, f5⟩ := hf b hb
    exact ⟨f3, f1, f4, f5⟩
theorem Inv.turnedAll {h' : Heap} {t' : Nat} {fp : List Addr} (I : Inv X pins σ H s) (hf : ∀ b ∈ fp, FpOk X pins H b) (k : ∀ c o, c ∉ fp → s.heap.get? c = some o → h'.get? c = some o) : Inv X pins σ H { s with heap := h', toks := t' } := by
  refine I.call' (ch := fp) rfl ⟨fun b o e n hb hx => k b o hx e, fun b o e n hb hx => ⟨o.slots, k b o hx e⟩, fun b o e n hx => n, fun b o e hx => ⟨o, k b o hx e⟩, fun b zs e => e, fun b o u e => e, fun b ps e => ⟨#[], by rw [e]; simp⟩⟩ (fun b u e => ?_) I.bare fun b hb => ?_
  · refine (I.hok b u e).stay (fun c v hc q => k c v (fun z => ?_) q) (fun c q => q) fun c zs q => q
    have z' := (hf c z).1
    rcases hc with hc | hc
    · rw [hc, e] at z'; cases z'
    · rw [hc] at z'; cases z'
  · obtain ⟨f0, f1, f2, f3, f4, f5⟩ := hf b hb
    exact ⟨f3, f1, f4, f5⟩
end
section
variable {prog : Program} {w : World} {A : Around} {E : Value → Shared → Prop} {s : Shared}
theorem iter_src {b : Bool} {l : Addr} {xs : Array Value} {Q : Value → Shared → Prop} (h : SSq b s.heap l xs) (q : Q (.ref s.heap.objs.size) { s with heap := s.heap.push { cls := .type (itC b), data := .fields #[.ref l, .int 0 0] } }) : wpAny (model prog w) A (pyIter (.ref l)) Q E s := by
  cases b
  · exact wpAny_pyIter_list h q
  · exact wpAny_pyIter_tuple h q
theorem sit_new {b : Bool} {h h' : Heap} {l a : Addr} (e : h'.get? a = some { cls := .type (itC b), data := .fields #[.ref l, .int 0 0] }) : SIt b h' a l 0 := by
  cases b <;> exact ⟨_, e, rfl, rfl⟩
end
abbrev zA1 (b : Bool) (h : Heap) (l : Addr) : Heap := h.push { cls := .type (itC b), data := .fields #[.ref l, .int 0 0] }
abbrev zA3 (b1 b2 : Bool) (h : Heap) (l1 l2 : Addr) : Heap := (zA1 b2 (zA1 b1 h l1) l2).push { cls := .type "tuple", data := .seq #[.ref h.objs.size, .ref (zA1 b1 h l1).objs.size] }
abbrev zA4 (b1 b2 : Bool) (h : Heap) (l1 l2 : Addr) : Heap := (zA3 b1 b2 h l1 l2).push { cls := .type "tuple", data := .seq #[.none, .none] }
abbrev zA5 (b1 b2 : Bool) (h : Heap) (l1 l2 : Addr) : Heap := (zA4 b1 b2 h l1 l2).push { cls := .type "zip", data := .fields #[.none, .bool false, .bool false, .ref (zA1 b2 (zA1 b1 h l1) l2).objs.size, .ref (zA3 b1 b2 h l1 l2).objs.size] }
theorem meets_zipB (b1 b2 : Bool) (l1 l2 : Addr) (xs ys : Array Value) : Meets (Builtin.«zip.__new__» ⟨[.type "zip", .ref l1, .ref l2], []⟩) (fun _ R s => SSq b1 s.heap l1 xs ∧ SSq b2 s.heap l2 ys ∧ R (.ok (.ret (.ref (zA4 b1 b2 s.heap l1 l2).objs.size))) { s with heap := zA5 b1 b2 s.heap l1 l2 }) :=
  .of_wp fun prog w A R s h => by
    obtain ⟨hp, g, d, tk, os⟩ := s; obtain ⟨hl1, hl2, h⟩ := h; have hsub := sub_zip
    have hL1 : SSq b1 (Shared.heap ⟨hp, g, d, tk, os⟩) l1 xs := hl1
    have hL2 : SSq b2 (Shared.heap ⟨hp.push { cls := .type (itC b1), data := .fields #[.ref l1, .int 0 0] }, g, d, tk, os⟩) l2 ys := SSq.keep hl2 fun o e => Heap.get?_push_of_some _ e
    wp_walk using iter_src hL1, iter_src hL2
    exact ⟨_, rfl, h⟩
section
variable {prog : Program} {w : World} {A : Around} {E : Value → Shared → Prop} {s : Shared}
theorem call_zipB {b1 b2 : Bool} {l1 l2 : Addr} {xs ys : Array Value} {Q : Value → Shared → Prop} (hl1 : SSq b1 s.heap l1 xs) (hl2 : SSq b2 s.heap l2 ys)
    (h : ∀ h', IsZip h' (s.heap.objs.size + 4) (s.heap.objs.size + 2) (s.heap.objs.size + 3) .none → IsPair h' (s.heap.objs.size + 2) (.ref s.heap.objs.size) (.ref (s.heap.objs.size + 1)) →
      IsPair h' (s.heap.objs.size + 3) .none .none → SIt b1 h' s.heap.objs.size l1 0 → SIt b2 h' (s.heap.objs.size + 1) l2 0 → (∀ c o, s.heap.get? c = some o → h'.get? c = some o) → Q (.ref (s.heap.objs.size + 4)) { s with heap := h' }) :
    wpAny (model prog w) A (call (.type "zip") [.ref l1, .ref l2]) Q E s := by
  refine callType_new F.called_zip (by decide) (F.typeCall_zip_2 _ _) (F.newCall_zip_2 _ _) (fun obj => F.args_object_init_3 obj _ _) F.entry_zip_new (meets_zipB b1 b2 l1 l2 xs ys) ⟨hl1, hl2, ?_⟩
  have z1 : (zA1 b1 s.heap l1).objs.size = s.heap.objs.size + 1 := Heap.size_push ..
  have z2 : (zA1 b2 (zA1 b1 s.heap l1) l2).objs.size = s.heap.objs.size + 2 := by rw [Heap.size_push, z1]
  have z3 : (zA3 b1 b2 s.heap l1 l2).objs.size = s.heap.objs.size + 3 := by rw [Heap.size_push, z2]
  have z4 : (zA4 b1 b2 s.heap l1 l2).objs.size = s.heap.objs.size + 4 := by rw [Heap.size_push, z3]
  have g5 : (zA5 b1 b2 s.heap l1 l2).get? (zA4 b1 b2 s.heap l1 l2).objs.size = some _ := Heap.get?_push_size _ rfl
  have g4 : (zA5 b1 b2 s.heap l1 l2).get? (zA3 b1 b2 s.heap l1 l2).objs.size = some _ := Heap.get?_push_of_some _ (Heap.get?_push_size _ rfl)
  have g3 : (zA5 b1 b2 s.heap l1 l2).get? (zA1 b2 (zA1 b1 s.heap l1) l2).objs.size = some _ := Heap.get?_push_of_some _ (Heap.get?_push_of_some _ (Heap.get?_push_size _ rfl))
  have g2 : (zA5 b1 b2 s.heap l1 l2).get? (zA1 b1 s.heap l1).objs.size = some _ := Heap.get?_push_of_some _ (Heap.get?_push_of_some _ (Heap.get?_push_of_some _ (Heap.get?_push_size _ rfl)))
  have g1 : (zA5 b1 b2 s.heap l1 l2).get? s.heap.objs.size = some _ := Heap.get?_push_of_some _ (Heap.get?_push_of_some _ (Heap.get?_push_of_some _ (Heap.get?_push_of_some _ (Heap.get?_push_size _ rfl))))
  show _ ∧ _
  rw [z2, z3, z4] at g5; rw [z1, z2] at g3; rw [z3] at g4; rw [z1] at g2; rw [z4]
  exact ⟨⟨_, g5, rfl⟩, h _ g5 g3 g4 (sit_new (h := s.heap) g1) (sit_new (h := s.heap) g2) fun c o x => Heap.get?_push_of_some _ (Heap.get?_push_of_some _ (Heap.get?_push_of_some _ (Heap.get?_push_of_some _ (Heap.get?_push_of_some _ x))))⟩
end
def Itz (K : PySem.W.Frag) (b1 b2 : Bool) (a1 a2 : Addr) (xs ys : List V) : It :=
  ⟨fun i H => SqB b1 K H a1 xs ∧ SqB b2 K H a2 ys ∧ i < xs.length ∧ i < ys.length, fun i H x H' => ∃ p, x = .ref p ∧ H p = none ∧ H' = upd H p (.tup [xs.getD i .non, ys.getD i .non]),
   fun i H => SqB b1 K H a1 xs ∧ SqB b2 K H a2 ys ∧ i = min xs.length ys.length⟩
theorem getD_val {xs : List V} {its : List Value} {i : Nat} {u : Value} (r : Vals xs its) (e : its.toArray[i]? = some u) : RelV (xs.getD i .non) u := by
  obtain ⟨x, h1, h2⟩ := r.tog (i := i) (u := u) (by simpa using e)
  rw [List.getD_eq_getElem?_getD, h1]; exact h2
theorem zip_ne (n : Nat) : n + 3 ≠ n + 4 ∧ n ≠ n + 4 ∧ n + 1 ≠ n + 4 ∧ n + 2 ≠ n + 4 ∧ n + 2 ≠ n + 3 ∧ n + 2 ≠ n ∧ n + 2 ≠ n + 1 ∧ n + 3 ≠ n ∧ n + 3 ≠ n + 1 ∧ n ≠ n + 1 := by refine ⟨?_, ?_, ?_, ?_, ?_, ?_, ?_, ?_, ?_, ?_⟩ <;> omega
theorem turn_zip {P : Program} {w : World} {K : PySem.W.Frag} {elts : List Expr} {kx} {pos : Pos} (b1 b2 : Bool) (a1 a2 z TI TO i1 i2 : Addr) (xs ys : List V) (ne : TO ≠ z ∧ i1 ≠ z ∧ i2 ≠ z ∧ TI ≠ z ∧ TI ≠ TO ∧ TI ≠ i1 ∧ TI ≠ i2 ∧ TO ≠ i1 ∧ TO ≠ i2 ∧ i1 ≠ i2) :
    Turn P w K (.Tuple elts kx pos) (Itz K b1 b2 a1 a2 xs ys) [z, TI, TO, i1, i2] z (fun i h => IsZip h z TI TO .none ∧ IsPair h TI (.ref i1) (.ref i2) ∧ (∃ a b, IsPair h TO a b) ∧ SIt b1 h i1 a1 i ∧ SIt b2 h i2 a2 i) where
  mem := by simp
  obj := fun i h st b hb => by
    obtain ⟨hz, hTI, ⟨a, b', hTO⟩, h1, h2⟩ := st
    simp only [List.mem_cons, List.not_mem_nil, or_false] at hb
    rcases hb with rfl | rfl | rfl | rfl | rfl
    · exact ⟨_, hz, fun v z => by cases z⟩
    · exact ⟨_, hTI, fun v z => by cases z⟩
    · exact ⟨_, hTO, fun v z => by cases z⟩
    · exact h1.obj
    · exact h2.obj
  keep := fun i h h' st k => by
    obtain ⟨hz, hTI, ⟨a, b', hTO⟩, h1, h2⟩ := st
    exact ⟨k z (by simp) _ hz, k TI (by simp) _ hTI, ⟨a, b', k TO (by simp) _ hTO⟩, h1.keep fun o e => k i1 (by simp) o e, h2.keep fun o e => k i2 (by simp) o e⟩
  item := by
    intro X hP hw hK hc i pins s σ H E I hf st hg
    subst hP hw hK
    obtain ⟨hz, hTI, ⟨a, b', hTO⟩, h1, h2⟩ := st
    obtain ⟨q1, q2, hx, hy⟩ := hg
    obtain ⟨its1, r1, p1, z1⟩ := I.src q1
    obtain ⟨its2, r2, p2, z2⟩ := I.src q2
    have nz1 := I.srcNe q1 (hf z (by simp)); have nz2 := I.srcNe q2 (hf z (by simp)); have no1 := I.srcNe q1 (hf TO (by simp)); have no2 := I.srcNe q2 (hf TO (by simp)); have n11 := I.srcNe q1 (hf i1 (by simp)); have n12 := I.srcNe q1 (hf i2 (by simp)); have n21 := I.srcNe q2 (hf i1 (by simp)); have n22 := I.srcNe q2 (hf i2 (by simp))
    obtain ⟨e1, e2, e3, e4, e5, e6, e7, e8, e9, e10⟩ := ne
    have hT : s.TypeIs (.ref z) "zip" := ⟨_, hz, rfl⟩
    have D1 := draws_src (prog := X.prog) (w := X.w) (A := X.A.in1) (I.ok.hd hc) b1 i1 a1 n11 its1.toArray
    have D2 := draws_src (prog := X.prog) (w := X.w) (A := X.A.in1) (I.ok.hd hc) b2 i2 a2 n22 its2.toArray
    have Z : ZA z TO i1 i2 [i1, a1] [i2, a2] := ⟨by simp, by simp, by simp [e2.symm, nz1.symm], by simp [e3.symm, nz2.symm], by simp [e8, no1.symm], by simp [e9, no2.symm], by simp [e10, n21.symm], by simp [e10.symm, n12.symm], e1⟩
    have len1 := r1.length; have len2 := r2.length
    unfold pyNext
    refine wpAny_bind (wpAny_attempt (wpAny_callSpecial?_slot (name := Str.ofString "__next__") hT F.slot_zip_next (wpAny_call_entry F.slot_zip_next hT F.entry_zip_next
      (zip_itemD D1 D2 Z hz hTI hTO ⟨h1, p1⟩ ⟨h2, p2⟩ (by simp; omega) (by simp; omega) fun x y h' tk px py hz' hTO' s1 s2 hT' hsz hk => wpAny_pure ?_) (F.args_zip_next_1 _))))
    have r : Vals [xs.getD i .non, ys.getD i .non] [x, y] := .cons (getD_val r1 px) (.cons (getD_val r2 py) .nil)
    have I1 : Inv X pins σ (upd H s.heap.objs.size (.tup [xs.getD i .non, ys.getD i .non])) { s with heap := h', toks := tk } :=
      I.turnedLaid (t' := tk) hf (fun c o hc e => hk c o (fun q => hc (by simp [q])) (fun q => hc (by simp [q])) (fun q => hc (by simp [q])) (fun q => hc (by simp [q])) e) r (by show 2 ≤ sizeLine; decide) ⟨_, hT', rfl, _, rfl⟩
    have nH : H s.heap.objs.size = none := I.hok.fresh (Nat.le_refl _)
    have fresh : ∀ b ∈ [z, TI, TO, i1, i2], (upd H s.heap.objs.size (.tup [xs.getD i .non, ys.getD i .non])) b = none := fun b hb => by
      rw [upd_ne ?_]
      · exact (hf b hb).1
      · simp only [List.mem_cons, List.not_mem_nil, or_false] at hb
        rcases hb with rfl | rfl | rfl | rfl | rfl
        · exact Nat.ne_of_lt (Heap.lt_size hz)
        · exact Nat.ne_of_lt (Heap.lt_size hTI)
        · exact Nat.ne_of_lt (Heap.lt_size hTO)
        · obtain ⟨o, e, _⟩ := h1.obj; exact Nat.ne_of_lt (Heap.lt_size e)
        · obtain ⟨o, e, _⟩ := h2.obj; exact Nat.ne_of_lt (Heap.lt_size e)
    obtain ⟨f0, f1, f2, f3, f4, f5⟩ := hf z (by simp)
    refine ⟨_, rfl, wpAny_letOwnedTupleGo_zip hz' fun h2' hz2 sb => ⟨.ref s.heap.objs.size, _, I1.turned (t' := tk) (fun b o hb e => (sb.2 b hb).trans e) (fresh z (by simp)) f1 f3 f4 f5, rfl, ⟨_, rfl, nH, rfl⟩, ⟨hz2, ?_, ⟨x, y, ?_⟩, ?_, ?_⟩, fresh⟩⟩
    · exact (sb.2 TI e4).trans (hk _ _ e4 e5 e6 e7 hTI)
    · exact (sb.2 TO e1).trans hTO'
    · exact s1.1.keep fun o e => (sb.2 i1 e2).trans e
    · exact s2.1.keep fun o e => (sb.2 i2 e3).trans e
  done := by
    intro X hP hw hK hc i pins s σ H E I hf st hg
    subst hP hw hK
    obtain ⟨hz, hTI, ⟨a, b', hTO⟩, h1, h2⟩ := st
    obtain ⟨q1, q2, hx⟩ := hg
    obtain ⟨its1, r1, p1, z1⟩ := I.src q1
    obtain ⟨its2, r2, p2, z2⟩ := I.src q2
    have nz1 := I.srcNe q1 (hf z (by simp)); have nz2 := I.srcNe q2 (hf z (by simp)); have no1 := I.srcNe q1 (hf TO (by simp)); have no2 := I.srcNe q2 (hf TO (by simp)); have n11 := I.srcNe q1 (hf i1 (by simp)); have n12 := I.srcNe q1 (hf i2 (by simp)); have n21 := I.srcNe q2 (hf i1 (by simp)); have n22 := I.srcNe q2 (hf i2 (by simp))
    obtain ⟨e1, e2, e3, e4, e5, e6, e7, e8, e9, e10⟩ := ne
    have hT : s.TypeIs (.ref z) "zip" := ⟨_, hz, rfl⟩
    have D1 := draws_src (prog := X.prog) (w := X.w) (A := X.A.in1) (I.ok.hd hc) b1 i1 a1 n11 its1.toArray
    have D2 := draws_src (prog := X.prog) (w := X.w) (A := X.A.in1) (I.ok.hd hc) b2 i2 a2 n22 its2.toArray
    have Z : ZA z TO i1 i2 [i1, a1] [i2, a2] := ⟨by simp, by simp, by simp [e2.symm, nz1.symm], by simp [e3.symm, nz2.symm], by simp [e8, no1.symm], by simp [e9, no2.symm], by simp [e10, n21.symm], by simp [e10.symm, n12.symm], e1⟩
    have len1 := r1.length; have len2 := r2.length
    unfold pyNext
    refine wpAny_bind (wpAny_attempt (wpAny_callSpecial?_slot (name := Str.ofString "__next__") hT F.slot_zip_next (wpAny_call_entry F.slot_zip_next hT F.entry_zip_next
      (zip_endD D1 D2 Z hz hTI hTO ⟨h1, p1⟩ ⟨h2, p2⟩ (by simp; omega) fun h' tk e hk he => ?_) (F.args_zip_next_1 _))))
    obtain ⟨o, ho, hcl⟩ := he
    refine wpAny_bind (wpAny_isInstance (T := "StopIteration") (b := true) ⟨o, ho, hcl⟩ isSubtype_stop ?_)
    exact wpAny_pure ⟨rfl, I.turnedAll (t' := tk) hf fun c o hc e => hk c o (fun q => hc (by simp [q])) (fun q => hc (by simp [q])) (fun q => hc (by simp [q])) (fun q => hc (by simp [q])) e⟩
  self := fun A i s Q E st h => wpAny_pyIter_zip st.1 h
structure ItP (J : It) (n : Nat) (val : Nat → List V) (C : Hp → Prop) : Prop where
  go : ∀ i H, C H → i < n → J.go i H
  yld : ∀ i H x H', C H → i < n → J.yld i H x H' → ∃ p, x = .ref p ∧ H p = none ∧ H' = upd H p (.tup (val i))
  stop : ∀ H, C H → J.stop n H
theorem itp_zip {K : PySem.W.Frag} {b1 b2 : Bool} {a1 a2 : Addr} {xs ys : List V} : ItP (Itz K b1 b2 a1 a2 xs ys) (min xs.length ys.length) (fun i => [xs.getD i .non, ys.getD i .non]) (fun H => SqB b1 K H a1 xs ∧ SqB b2 K H a2 ys) where
  go := fun i H c hi => ⟨c.1, c.2, by omega, by omega⟩
  yld := fun i H x H' c hi y => y
  stop := fun H c => ⟨c.1, c.2, rfl⟩
theorem SqB.same {b : Bool} {K : PySem.W.Frag} {H H' : Hp} {a : Addr} {xs : List V} (h : SqB b K H a xs) (S : Same H H') : SqB b K H' a xs := by
  cases b
  · exact S.seq h
  · exact S.tup h
def iZip (K : PySem.W.Frag) (ta : TA) : TI := fun σ H R => ta σ H fun vs H1 => ∃ (b1 b2 : Bool) (a1 a2 : Addr) (xs ys : List V), vs = [.ref a1, .ref a2] ∧ SqB b1 K H1 a1 xs ∧ SqB b2 K H1 a2 ys ∧
  ∀ J C, ItP J (min xs.length ys.length) (fun i => [xs.getD i .non, ys.getD i .non]) C → (∀ H2, SqB b1 K H2 a1 xs → SqB b2 K H2 a2 ys → C H2) → R J H1
section
variable {X : Cx} {K : PySem.W.Frag} {elts : List Expr} {kx : Nat} {tpos : Pos}
theorem pi_zip {a b : Expr} {ta : TA} {p pos : Pos} (hK : X.K = K) (hg : Gl X "zip") (hm : X.mg "zip" = none) (ha : PA X [a, b] ta) (hs : starEach [a, b] X.env = [(false, eval a X.env), (false, eval b X.env)] := by rfl) (hs2 : starEach [b] X.env = [(false, eval b X.env)] := by rfl) :
    PI X (.Tuple elts kx tpos) (.Call (.Name "zip" p) [a, b] [] pos) (iZip K ta) := by
  subst hK
  intro pins s σ H R I h
  refine Call_ (ld_blt I hg hm boot_zip (PyProof.Rows.callWith_type1 (thn (ha pos pins s σ H _ I h) fun us s1 ⟨vs, H1, I1, r1, q1⟩ => ?_) (by rw [hs, hs2]) (by rw [hs2]; rfl)))
  obtain ⟨b1, b2, a1, a2, xs, ys, e, q1, q2, q⟩ := q1
  subst e
  obtain ⟨u, u', rfl, rx, ry⟩ := vals2 r1
  cases rx; cases ry
  obtain ⟨its1, rv1, p1, z1⟩ := I1.src q1
  obtain ⟨its2, rv2, p2, z2⟩ := I1.src q2
  refine call_zipB p1 p2 fun h' hz hTI hTO h1 h2 hk => wpAny_pyIter_zip hz ?_
  have I2 : Inv X pins σ H1 { s1 with heap := h' } := I1.kept (t' := s1.toks) hk
  refine ⟨_, [s1.heap.objs.size + 4, s1.heap.objs.size + 2, s1.heap.objs.size + 3, s1.heap.objs.size, s1.heap.objs.size + 1], _, _, H1, rfl, I2, turn_zip b1 b2 a1 a2 _ _ _ _ _ xs ys (zip_ne s1.heap.objs.size), ⟨hz, hTI, ⟨_, _, hTO⟩, h1, h2⟩, fun b hb => ?_, q _ _ itp_zip fun H2 k1 k2 => ⟨k1, k2⟩⟩
  have : s1.heap.objs.size ≤ b := by
    simp only [List.mem_cons, List.not_mem_nil, or_false] at hb
    rcases hb with rfl | rfl | rfl | rfl | rfl <;> first | exact Nat.le_add_right _ _ | exact Nat.le_refl _
  exact I1.fpOk this (I1.hok.fresh this)
end
theorem lc_byP {J : It} {n : Nat} {val : Nat → List V} {C : Hp → Prop} {g : TG} {tt : TT} {te : TE} {σ0 : St} {Q : VK} {H : Hp} (O : ItP J n val C) (Pv : Nat → List V → Hp → Prop) (hn : n ≤ sizeLine) (h0 : Pv 0 [] H) (hl : ∀ i ys H, i ≤ n → Pv i ys H → C H ∧ ys.length ≤ i)
    (hs : ∀ i ys H p, i < n → Pv i ys H → H p = none → g (.ref p) σ0 (upd H p (.tup (val i))) fun σ2 H2 => Wk σ0 σ2 ∧ tt σ2 H2 fun k H3 => if k = true then te σ2 H3 fun v H4 => ys.length < sizeLine ∧ ∃ m', m' < n - i ∧ (m' = n - (i + 1) ∧ i + 1 ≤ n ∧ Pv (i + 1) (ys ++ [v]) H4) else ∃ m', m' < n - i ∧ (m' = n - (i + 1) ∧ i + 1 ≤ n ∧ Pv (i + 1) ys H3))
    (hd : ∀ ys H, Pv n ys H → ∀ p, H p = none → Q (.ref p) (upd H p (.lst ys))) : LcW J g tt te σ0 Q H := by
  refine ⟨fun i m ys H => m = n - i ∧ i ≤ n ∧ Pv i ys H, ⟨n, by simp, Nat.zero_le _, h0⟩, ?_⟩
  rintro i m ys H ⟨rfl, hi, p⟩
  obtain ⟨c, hy⟩ := hl i ys H hi p
  refine ⟨by omega, ?_⟩
  by_cases hlt : i < n
  · refine .inr ⟨O.go i H c hlt, fun x H' y => ?_⟩
    obtain ⟨q, rfl, hq, rfl⟩ := O.yld i H x H' c hlt y
    exact hs i ys _ q hlt p hq
  · obtain rfl : i = n := by omega
    exact .inl ⟨O.stop H c, hd ys H p⟩
theorem for_byP {J : It} {n : Nat} {val : Nat → List V} {C : Hp → Prop} {g : TG} {tb : TS} {D : Ends} {σ : St} {H : Hp} (O : ItP J n val C) (Pv : Nat → St → Hp → Prop) (h0 : Pv 0 σ H) (hl : ∀ i σ H, i ≤ n → Pv i σ H → C H)
    (hs : ∀ i σ H p, i < n → Pv i σ H → H p = none → g (.ref p) σ (upd H p (.tup (val i))) fun σ2 H2 => tb { D with nx := Pv (i + 1), ct := Pv (i + 1), bk := D.nx } σ2 H2) (hd : ∀ σ H, Pv n σ H → D.nx σ H) :
    ∃ W : Nat → Nat → St → Hp → Prop, (∃ m, W 0 m σ H) ∧ ∀ i m σ H, W i m σ H → (J.stop i H ∧ D.nx σ H) ∨ (J.go i H ∧ ∃ N : St → Hp → Prop, (∀ σ' H', N σ' H' → ∃ m', m' < m ∧ W (i + 1) m' σ' H') ∧ ∀ x H', J.yld i H x H' → g x σ H' fun σ2 H2 => tb { D with nx := N, ct := N, bk := D.nx } σ2 H2) := by
  refine ⟨fun i m σ H => m = n - i ∧ i ≤ n ∧ Pv i σ H, ⟨n, by simp, Nat.zero_le _, h0⟩, ?_⟩
  rintro i m σ H ⟨rfl, hi, p⟩
  have c := hl i σ H hi p
  by_cases hlt : i < n
  · refine .inr ⟨O.go i H c hlt, Pv (i + 1), fun σ' H' p' => ⟨n - (i + 1), by omega, rfl, hlt, p'⟩, fun x H' y => ?_⟩
    obtain ⟨q, rfl, hq, rfl⟩ := O.yld i H x H' c hlt y
    exact hs i σ _ q hlt p hq
  · obtain rfl : i = n := by omega
    exact .inl ⟨O.stop H c, hd σ H p⟩
end L2
namespace L2
open PySem PySem.Spec PyProof.Rows
section
variable {X : Cx} {K : PySem.W.Frag}
theorem get_list (hK : X.K = K) : PGet X (fun o i H Q => ∃ p xs k v, o = .ref p ∧ i = .int k ∧ 0 ≤ k ∧ SqL K H p xs ∧ xs[k.toNat]? = some v ∧ Q v H) := by
  subst hK
  intro pins s σ H o i ov iv Q I ro ri h
  obtain ⟨p, xs, k, v, rfl, rfl, h0, hq, hx, q⟩ := h
  cases ro
  obtain ⟨t, rfl⟩ := ri
  obtain ⟨its, r, pl, hz⟩ := I.list hq
  obtain ⟨u, hu, ru⟩ := r.get hx
  have hl : k.toNat < xs.length := (List.getElem?_eq_some_iff.mp hx).1
  have hn := line63
  exact wpAny_getItem_list pl.isList h0 (by omega) (by simpa using hu) ⟨v, H, I, ru, q⟩
end
theorem DefE.calm {P : Program} {w : World} {K : PySem.W.Frag} {mg : Str → Option Value} {base : Heap} {k : Nat} {x : Str} {ps : List Str} {sp : Sp} (D : DefE P w K mg base k x ps sp) : Def P w K mg base k x ps (fun vs H Q _ => sp vs H Q fun _ _ _ => False) := by
  obtain ⟨f, fd, F, m, kp, b⟩ := D
  refine ⟨f, fd, ⟨fun vs H Q E h => F.len _ _ _ _ h, fun A outer s H args us vs Q E hr he hb hv hs => codeAny_mono (F.run A outer s H args us vs Q _ hr he hb hv hs) fun r s' hq => ?_⟩, m, kp, b⟩
  cases r with
  | error e => obtain ⟨_, _, _, _, _, _, _, _, _, _, _, z⟩ := hq; exact z.elim
  | ok fl => cases fl <;> exact hq
theorem SqB.len {b : Bool} {K : PySem.W.Frag} {H : Hp} {a : Addr} {xs : List V} (h : SqB b K H a xs) : SqL K H a xs ∨ SqT K H a xs := h.or
theorem getD_ints {ns : List Int} {i : Nat} (h : i < ns.length) : (ns.map V.int).getD i .non = .int (ns.getD i 0) := by
  rw [List.getD_eq_getElem?_getD, List.getElem?_map, List.getD_eq_getElem?_getD, List.getElem?_eq_getElem h]; rfl
theorem get_ints {ns : List Int} {i : Nat} (h : i < ns.length) : (ns.map V.int)[i]? = some (.int (ns.getD i 0)) := by
  rw [List.getElem?_map, List.getD_eq_getElem?_getD, List.getElem?_eq_getElem h]; rfl
theorem set_ints {ns : List Int} {i : Nat} {v : Int} : (ns.map V.int).set i (.int v) = (ns.set i v).map V.int := by rw [List.map_set]
theorem getD_set {ns : List Int} {i p : Nat} {v : Int} (h : p < ns.length) : (ns.set i v).getD p 0 = if i = p then v else ns.getD p 0 := by
  by_cases e : i = p
  · subst e; rw [if_pos rfl, List.getD_eq_getElem?_getD, List.getElem?_set_self h]; rfl
  · rw [if_neg e, List.getD_eq_getElem?_getD, List.getElem?_set_ne e, List.getD_eq_getElem?_getD]
theorem rep_ints (n : Nat) (v : Int) : (List.replicate n [V.int v]).flatten = (List.replicate n v).map V.int := by
  induction n with
  | zero => rfl
  | succ n ih => rw [List.replicate_succ, List.flatten_cons, ih, List.replicate_succ]; rfl
end L2
namespace L2
open PySem PySem.Spec PyProof.Rows
structure RoomC (k : Nat) (A : Around) : Prop where
  dp : A.depth + 3 * k + 5 < recursionLimit
  un : A.units + 16 * k + 200 < cLine
theorem Room.c {k : Nat} {A : Around} (r : Room k A) : RoomC k A := ⟨r.dp, r.un⟩
theorem Room.held {k : Nat} {A : Around} {v : Option Value} (r : Room k A) : RoomC k (A.mark v) := ⟨r.dp, r.un⟩
theorem RoomC.mono {j k : Nat} {A : Around} (r : RoomC k A) (h : j ≤ k) : RoomC j A := ⟨by have := r.dp; omega, by have := r.un; omega⟩
structure FnOkC (P : Program) (w : World) (K : PySem.W.Frag) (mg : Str → Option Value) (base : Heap) (k : Nat) (f : Addr) (fd : FuncData) (ps : List Str) (sp : Sp) : Prop where
  len : ∀ vs H Q E, sp vs H Q E → vs.length = ps.length
  run : ∀ (A : Around) (outer : List Env) (s : Shared) (H : Hp) (args : Args) (us : List Value) (vs : List V) (Q : VK) (E : XK), RoomC k A → Env0 P w K mg base A outer s H → BindsTo s fd args (ps.zip us) → Vals vs us → sp vs H Q E → codeAny (model P w) A (.call (.ref f) args) (CR CX0 outer P w H s Q E) s
def DefC (P : Program) (w : World) (K : PySem.W.Frag) (mg : Str → Option Value) (base : Heap) (k : Nat) (x : Str) (ps : List Str) (sp : Sp) : Prop :=
  ∃ f fd, FnOkC P w K mg base k f fd ps sp ∧ mg x = some (.ref f) ∧ PySem.W.keepIn K (.ref f) = true ∧ Binds K fd ps []
theorem DefC.of {P : Program} {w : World} {K : PySem.W.Frag} {mg : Str → Option Value} {base : Heap} {k : Nat} {x qual : Str} {ps : List Str} {sp : Sp} {st : Stmt} {f : Addr} {fd : FuncData}
    (F : Fun K x qual st f fd) (m : mg x = some (.ref f)) (b : Binds K fd ps []) (ok : FnOkC P w K mg base k f fd ps sp) : DefC P w K mg base k x ps sp := ⟨f, fd, ok, m, F.kp, b⟩
theorem DefC.calm {P : Program} {w : World} {K : PySem.W.Frag} {mg : Str → Option Value} {base : Heap} {k : Nat} {x : Str} {ps : List Str} {sp : Sp} (D : DefC P w K mg base k x ps sp) : Def P w K mg base k x ps sp := by
  obtain ⟨f, fd, F, r⟩ := D
  exact ⟨f, fd, ⟨F.len, fun A outer s H args us vs Q E hr => F.run A outer s H args us vs Q E hr.c⟩, r⟩
def iSeqB (K : PySem.W.Frag) (tl : TE) : TI := fun σ H R => tl σ H fun x H1 => ∃ b a xs, x = .ref a ∧ SqB b K H1 a xs ∧ ∀ J C, ItOk J xs.length (fun i => xs.getD i .non) C → (∀ H2, SqB b K H2 a xs → C H2) → R J H1
theorem piSeqB {X : Cx} {K : PySem.W.Frag} {tg l : Expr} {tl : TE} (hK : X.K = K) (hl : PE X l tl) : PI X tg l (iSeqB K tl) := by
  subst hK
  intro pins s σ H R I h
  refine thn (hl pins s σ H _ I h) fun v s1 ⟨x, H1, I1, r1, q1⟩ => ?_
  obtain ⟨b, a, xs, e, hq, q⟩ := q1
  subst e
  cases r1
  have fp : ∀ b ∈ [s1.heap.objs.size], FpOk X pins H1 b := fun b hb => by
    have e : b = s1.heap.objs.size := by simpa using hb
    rw [e]; exact I1.fpOk (Nat.le_refl _) (I1.hok.fresh (Nat.le_refl _))
  cases b
  · obtain ⟨its, rv, p, hz⟩ := I1.list hq
    exact wpAny_pyIter_list p.isList ⟨s1.heap.objs.size, [s1.heap.objs.size], _, _, H1, rfl, I1.kept (t' := s1.toks) fun b o e => Heap.get?_push_of_some _ e, turn_list a _, ⟨_, Heap.get?_push_size _ rfl, rfl, rfl⟩, fp, q _ _ itok_list fun H2 S => S⟩
  · obtain ⟨its, rv, p, hz⟩ := I1.tuple hq
    exact wpAny_pyIter_tuple (show s1.heap.IsTuple a its.toArray from p) ⟨s1.heap.objs.size, [s1.heap.objs.size], _, _, H1, rfl, I1.kept (t' := s1.toks) fun b o e => Heap.get?_push_of_some _ e, turn_tuple a _, ⟨_, Heap.get?_push_size _ rfl, rfl, rfl⟩, fp, q _ _ itok_tup fun H2 S => S⟩
end L2
namespace L2
open PySem PySem.Spec PyProof.Rows
set_option maxRecDepth 100000
section
variable {prog : Program} {w : World} {A : Around} {E : Value → Shared → Prop} {s : Shared}
end
section
variable {prog : Program} {w : World} {A : Around} {E : Value → Shared → Prop} {s : Shared}
end
section
variable {X : Cx} {K : PySem.W.Frag}
end
end L2
namespace L2
open PySem PySem.Spec PyProof.Rows
section
variable {X : Cx}
theorem op_mulB : OpR X (binaryOp .Mult) (rI (fun i j => i.natAbs < 2 ^ 200 ∧ j.natAbs < 2 ^ 200) fun i j => .int (i * j)) := opI fun i j _ _ _ _ _ hc q => mul_int q (by
  have h1 := intBits_le hc.1
  have h2 := intBits_le hc.2
  unfold IntMulOk
  intro h
  rw [Bool.and_eq_true] at h
  have h3 : ((Builtin.Int.intBits i + Builtin.Int.intBits j : Nat) : Int) > bitsLine := of_decide_eq_true h.2
  have h4 : (400 : Int) ≤ bitsLine := by decide
  omega)
end
end L2
namespace L2
open PySem PySem.Spec PyProof.Rows
open AutoSeq1 (wpAny_loadPart')
set_option maxRecDepth 100000
set_option maxHeartbeats 1000000 in
theorem meets_enumT (l : Addr) (items : Array Value) (n : Nat) (dct : Option Addr) (sl : Array (Option Value)) : Meets (Builtin.«enumerate.__new__» ⟨[.type "enumerate", .ref l], []⟩) (fun _ R s => s.heap.get? l = some { cls := .type "tuple", dict := dct, data := .seq items n, slots := sl } ∧
      R (.ok (.ret (.ref (s.heap.push { cls := .type "tuple_iterator", data := .fields #[.ref l, .int 0 0] }).objs.size))) { s with heap := (s.heap.push { cls := .type "tuple_iterator", data := .fields #[.ref l, .int 0 0] }).push { cls := .type "enumerate", data := .fields #[.none, .bool false, .ref s.heap.objs.size, rawInt 0, .none, .none] } }) :=
  .of_wp fun prog w A R s h => by
    obtain ⟨at_, told⟩ := h
    obtain ⟨hp, gs, dn, tk, os⟩ := s
    have self := sub_enumerate
    have seq : Heap.IsTuple (Shared.heap ⟨hp, gs, dn, tk, os⟩) l items := ⟨_, at_, rfl, n, rfl⟩
    wp_walk using AutoSeq1.wpAny_loadPart' at_
    apply wpAny_stack_any
    intro rows
    apply wpAny_pure
    split
    rename_i cl _ _ _ _ _
    rcases Bool.eq_false_or_eq_true (cl == Value.type "enumerate") with q | q <;> rw [q]
    all_goals wp_walk using AutoSeq1.wpAny_loadPart' at_, wpAny_pyIter_tuple seq
    all_goals exact ⟨_, rfl, told⟩
section
variable {prog : Program} {w : World} {A : Around} {E : Value → Shared → Prop} {s : Shared}
theorem call_enumT {l : Addr} {items : Array Value} {Q : Value → Shared → Prop} (hL : s.heap.IsTuple l items)
    (h : ∀ h', IsEnum h' (s.heap.objs.size + 1) s.heap.objs.size 0 .none → h'.IsTupleIter s.heap.objs.size l 0 → (∀ b o, s.heap.get? b = some o → h'.get? b = some o) → Q (.ref (s.heap.objs.size + 1)) { s with heap := h' }) : wpAny (model prog w) A (call (.type "enumerate") [.ref l]) Q E s := by
  obtain ⟨⟨cc, dct, dt, sl⟩, hl, hc, n, hd⟩ := hL
  replace hc : cc = .type "tuple" := hc; replace hd : dt = .seq items n := hd; subst hc hd
  refine callType_new F.called_enumerate (by decide) (F.typeCall_enumerate_1 _) (F.newCall_enumerate_1 _) (fun obj => F.args_object_init_2 obj _) F.entry_enumerate_new (meets_enumT l items n dct sl) ⟨hl, ?_⟩
  have hz : (s.heap.push { cls := .type "tuple_iterator", data := .fields #[.ref l, .int 0 0] }).objs.size = s.heap.objs.size + 1 := Heap.size_push ..
  show _ ∧ _
  rw [hz]
  have he : IsEnum ((s.heap.push { cls := .type "tuple_iterator", data := .fields #[.ref l, .int 0 0] }).push { cls := .type "enumerate", data := .fields #[.none, .bool false, .ref s.heap.objs.size, rawInt 0, .none, .none] }) (s.heap.objs.size + 1) s.heap.objs.size 0 .none := by
    have := Heap.get?_push_size (s.heap.push { cls := .type "tuple_iterator", data := .fields #[.ref l, .int 0 0] }) (o := { cls := .type "enumerate", data := .fields #[.none, .bool false, .ref s.heap.objs.size, rawInt 0, .none, .none] }) rfl
    rw [hz] at this; exact this
  exact ⟨⟨_, he, rfl⟩, h _ he ⟨_, Heap.get?_push_of_some _ (Heap.get?_push_size _ rfl), rfl, rfl⟩ fun b o x => Heap.get?_push_of_some _ (Heap.get?_push_of_some _ x)⟩
theorem call_enumB {b : Bool} {l : Addr} {items : Array Value} {Q : Value → Shared → Prop} (hL : SSq b s.heap l items)
    (h : ∀ h', IsEnum h' (s.heap.objs.size + 1) s.heap.objs.size 0 .none → SIt b h' s.heap.objs.size l 0 → (∀ b o, s.heap.get? b = some o → h'.get? b = some o) → Q (.ref (s.heap.objs.size + 1)) { s with heap := h' }) : wpAny (model prog w) A (call (.type "enumerate") [.ref l]) Q E s := by
  cases b
  · exact call_enumerate_list hL fun h' h1 h2 _ h3 => h h' h1 h2 h3
  · exact call_enumT hL fun h' h1 h2 h3 => h h' h1 h2 h3
end
def Ite (K : PySem.W.Frag) (b : Bool) (a : Addr) (xs : List V) : It :=
  ⟨fun i H => SqB b K H a xs ∧ i < xs.length, fun i H x H' => ∃ p, x = .ref p ∧ H p = none ∧ H' = upd H p (.tup [.int (i : Nat), xs.getD i .non]), fun i H => SqB b K H a xs ∧ i = xs.length⟩
theorem turn_enum {P : Program} {w : World} {K : PySem.W.Frag} {elts : List Expr} {kx} {pos : Pos} (b : Bool) (a e it : Addr) (xs : List V) (ne : e ≠ it) :
    Turn P w K (.Tuple elts kx pos) (Ite K b a xs) [e, it] e (fun i h => (∃ old, IsEnum h e it (i : Nat) old) ∧ SIt b h it a i) where
  mem := by simp
  obj := fun i h st c hc => by
    obtain ⟨⟨old, he⟩, h1⟩ := st
    simp only [List.mem_cons, List.not_mem_nil, or_false] at hc
    rcases hc with rfl | rfl
    · exact ⟨_, he, fun v z => by cases z⟩
    · exact h1.obj
  keep := fun i h h' st k => by
    obtain ⟨⟨old, he⟩, h1⟩ := st
    exact ⟨⟨old, k e (by simp) _ he⟩, h1.keep fun o x => k it (by simp) o x⟩
  item := by
    intro X hP hw hK hc i pins s σ H E I hf st hg
    subst hP hw hK
    obtain ⟨⟨old, he⟩, h1⟩ := st
    obtain ⟨q1, hx⟩ := hg
    obtain ⟨its, r1, p1, z1⟩ := I.src q1
    have na := I.srcNe q1 (hf it (by simp)); have nb := I.srcNe q1 (hf e (by simp)); have len1 := r1.length
    have D := draws_src (prog := X.prog) (w := X.w) (A := X.A.in1) (I.ok.hd hc) b it a na its.toArray
    refine wpAny_pyNext_enum_itemD D he ⟨h1, p1⟩ (by simp; omega) ne (by simp [ne, nb.symm]) fun x h' tk hPx ho hs' hT hsz hk => ?_
    have r : Vals [V.int (i : Nat), xs.getD i .non] [Value.int (i : Nat) tk, x] := .cons ⟨tk, rfl⟩ (.cons (getD_val r1 hPx) .nil)
    have I1 : Inv X pins σ (upd H s.heap.objs.size (.tup [.int (i : Nat), xs.getD i .non])) { s with heap := h', toks := tk + 1 } :=
      I.turnedLaid (t' := tk + 1) hf (fun c o hc e' => hk c o (fun q => hc (by simp [q])) (fun q => hc (by simp [q])) e') r (by show 2 ≤ sizeLine; decide) ⟨_, hT, rfl, _, rfl⟩
    have nH : H s.heap.objs.size = none := I.hok.fresh (Nat.le_refl _)
    have fresh : ∀ c ∈ [e, it], (upd H s.heap.objs.size (.tup [.int (i : Nat), xs.getD i .non])) c = none := fun c hc => by
      rw [upd_ne ?_]
      · exact (hf c hc).1
      · simp only [List.mem_cons, List.not_mem_nil, or_false] at hc
        rcases hc with rfl | rfl
        · exact Nat.ne_of_lt (Heap.lt_size he)
        · obtain ⟨o, e', _⟩ := h1.obj; exact Nat.ne_of_lt (Heap.lt_size e')
    obtain ⟨f0, f1, f2, f3, f4, f5⟩ := hf e (by simp)
    refine ⟨_, rfl, wpAny_letOwnedTupleGo_enum ho fun h2 he2 sb => ⟨.ref s.heap.objs.size, _, I1.turned (t' := tk + 1) (fun b o hb e' => (sb.2 b hb).trans e') (fresh e (by simp)) f1 f3 f4 f5, rfl, ⟨_, rfl, nH, rfl⟩, ⟨⟨x, by simpa using he2⟩, ?_⟩, fresh⟩⟩
    exact hs'.1.keep fun o e' => (sb.2 it ne.symm).trans e'
  done := by
    intro X hP hw hK hc i pins s σ H E I hf st hg
    subst hP hw hK
    obtain ⟨⟨old, he⟩, h1⟩ := st
    obtain ⟨q1, hx⟩ := hg
    obtain ⟨its, r1, p1, z1⟩ := I.src q1
    have na := I.srcNe q1 (hf it (by simp)); have len1 := r1.length
    have D := draws_src (prog := X.prog) (w := X.w) (A := X.A.in1) (I.ok.hd hc) b it a na its.toArray
    have hs : SIt b s.heap it a its.toArray.size := by rw [List.size_toArray, ← len1, ← hx]; exact h1
    refine wpAny_pyNext_enum_endD D he ⟨hs, p1⟩ fun h' eb => ⟨rfl, I.turnedAll (t' := s.toks) hf fun c o hc e' => eb c o (fun q => hc (by simp [q])) e'⟩
  self := fun A i s Q E st h => by obtain ⟨⟨old, he⟩, _⟩ := st; exact wpAny_pyIter_enum he h
theorem itp_enum {K : PySem.W.Frag} {b : Bool} {a : Addr} {xs : List V} : ItP (Ite K b a xs) xs.length (fun i => [.int (i : Nat), xs.getD i .non]) (fun H => SqB b K H a xs) where
  go := fun i H c hi => ⟨c, hi⟩
  yld := fun i H x H' c hi y => y
  stop := fun H c => ⟨c, rfl⟩
def iEnum (K : PySem.W.Frag) (ta : TA) : TI := fun σ H R => ta σ H fun vs H1 => ∃ (b : Bool) (a : Addr) (xs : List V), vs = [.ref a] ∧ SqB b K H1 a xs ∧ ∀ J C, ItP J xs.length (fun i => [.int (i : Nat), xs.getD i .non]) C → (∀ H2, SqB b K H2 a xs → C H2) → R J H1
theorem pi_enum {X : Cx} {K : PySem.W.Frag} {elts : List Expr} {kx : Nat} {tpos : Pos} {a : Expr} {ta : TA} {p pos : Pos} (hK : X.K = K) (hg : Gl X "enumerate") (hm : X.mg "enumerate" = none) (ha : PA X [a] ta) (hs : starEach [a] X.env = [(false, eval a X.env)] := by rfl) :
    PI X (.Tuple elts kx tpos) (.Call (.Name "enumerate" p) [a] [] pos) (iEnum K ta) := by
  subst hK
  intro pins s σ H R I h
  refine Call_ (ld_blt I hg hm boot_enumerate (PyProof.Rows.callWith_type1 (thn (ha pos pins s σ H _ I h) fun us s1 ⟨vs, H1, I1, r1, q1⟩ => ?_) hs rfl))
  obtain ⟨b, a1, xs, e, q1, q⟩ := q1
  subst e
  obtain ⟨u, rfl, rx⟩ := vals1 r1
  cases rx
  obtain ⟨its, rv1, p1, z1⟩ := I1.src q1
  refine call_enumB p1 fun h' he h1 hk => wpAny_pyIter_enum he ?_
  have I2 : Inv X pins σ H1 { s1 with heap := h' } := I1.kept (t' := s1.toks) hk
  refine ⟨_, [s1.heap.objs.size + 1, s1.heap.objs.size], _, _, H1, rfl, I2, turn_enum b a1 _ _ xs (Nat.ne_of_gt (Nat.lt_succ_self _)), ⟨⟨_, he⟩, h1⟩, fun c hc => ?_, q _ _ itp_enum fun H2 k1 => k1⟩
  have : s1.heap.objs.size ≤ c := by
    simp only [List.mem_cons, List.not_mem_nil, or_false] at hc
    rcases hc with rfl | rfl <;> first | exact Nat.le_add_right _ _ | exact Nat.le_refl _
  exact I1.fpOk this (I1.hok.fresh this)
end L2
namespace L2
open PySem PySem.Spec PyProof.Rows
def Thin (H : Hp) (v : V) : Prop := ∃ r o xs, v = .ref r ∧ H r = some (.frz o (.tup xs)) ∧ o.dict = none
theorem Thin.same {H H' : Hp} {v : V} (S : Same H H') (h : Thin H v) : Thin H' v := by
  obtain ⟨r, o, xs, e, h1, h2⟩ := h
  exact ⟨r, o, xs, e, S _ _ h1, h2⟩
def WebD (K : PySem.W.Frag) (C : Addr) (H : Hp) (a : Addr) (m : Int) (es : List (Int × Int)) : Prop := ∃ dx t xs, H a = some (.ins C dx (wFs m t)) ∧ H t = some (.tup xs) ∧ Pairs K H xs es ∧ ∀ v ∈ xs, Thin H v
theorem WebD.at {K : PySem.W.Frag} {C : Addr} {H : Hp} {a : Addr} {m : Int} {es : List (Int × Int)} (h : WebD K C H a m es) : WebAt K C H a m es := by
  obtain ⟨dx, t, xs, h1, h2, h3, _⟩ := h
  exact ⟨dx, t, xs, h1, h2, h3⟩
theorem WebD.same {K : PySem.W.Frag} {C : Addr} {H H' : Hp} {a : Addr} {m : Int} {es : List (Int × Int)} (h : WebD K C H a m es) (S : Same H H') : WebD K C H' a m es := by
  obtain ⟨dx, t, xs, h1, h2, h3, h4⟩ := h
  exact ⟨dx, t, xs, S _ _ h1, S _ _ h2, h3.same S, fun v hv => (h4 v hv).same S⟩
section
variable {X : Cx} {K : PySem.W.Frag}
end
end L2
namespace L2
open PySem PySem.Spec PyProof.Rows
section
variable {prog : Program} {w : World} {A : Around} {E : Value → Shared → Prop} {s : Shared}
end
section
variable {X : Cx} {K : PySem.W.Frag}
theorem rng_acc {lo : Int} {n : Nat} {acc : Array Value} (h : ItemsOf (fun i v => ∃ t, v = .int (lo + i * 1) t) acc n) : Vals (((List.range n).map fun i => lo + ((i : Nat) : Int)).map V.int) acc.toList := by
  obtain ⟨h1, h2⟩ := h
  have key : ∀ (us : List Value) (k m : Nat), us.length = m → (∀ (j : Nat) v, us[j]? = some v → ∃ t, v = .int (lo + ((k + j : Nat) : Int)) t) → Vals (((List.range' k m).map fun i => lo + ((i : Nat) : Int)).map V.int) us := by
    intro us
    induction us with
    | nil => intro k m hm _; cases hm; exact .nil
    | cons u us ih =>
      intro k m hm hv
      cases m with
      | zero => cases hm
      | succ m =>
        rw [List.range'_succ, List.map_cons, List.map_cons]
        refine .cons ?_ (ih (k + 1) m (by simpa using hm) fun j v e => ?_)
        · obtain ⟨t, e⟩ := hv 0 u rfl
          exact ⟨t, by rw [e, Nat.add_zero]⟩
        · obtain ⟨t, e'⟩ := hv (j + 1) v (by simpa using e)
          exact ⟨t, by rw [e', show k + (j + 1) = k + 1 + j by omega]⟩
  rw [List.range_eq_range']
  refine key acc.toList 0 n (by simpa using h1) fun j v e => ?_
  obtain ⟨t, e'⟩ := h2 j v (by simpa using e)
  exact ⟨t, by rw [e', Int.mul_one, Nat.zero_add]⟩
theorem listrange_ok {pins : List (Addr × Obj)} {σ : St} {H : Hp} {s : Shared} {E : Value → Shared → Prop} {lo hi : Int} {t u v : Tok} {tk : Nat} {Q : VK} (hh : X.A.handled = none) (I : Inv X pins σ H s) (h1 : -(2 ^ 62) ≤ lo) (h2 : lo < 2 ^ 62) (h3 : -(2 ^ 62) ≤ hi) (h4 : hi < 2 ^ 62) (hn : (hi - lo).toNat ≤ 1000)
    (q : ∀ l, H l = none → Q (.ref l) (upd H l (.lst (((List.range (hi - lo).toNat).map fun i => lo + ((i : Nat) : Int)).map V.int)))) :
    wpAny (model X.prog X.w) X.A (call (.type "list") [.ref s.heap.objs.size]) (EP X pins σ Q) E { s with heap := s.heap.push { cls := .type "range", data := .fields #[.int lo t, .int hi u, .int 1 v] }, toks := tk } := by
  refine call_list_range (n := (hi - lo).toNat) hh (IsRange.new ..) (small_one h1 h2 h3 h4) (by rw [rangeSize_one]; split <;> omega) (Nat.le_trans hn (by decide)) fun h' tk' acc' c' hk hS hacc => ?_
  have fr : s.heap.objs.size ≤ (s.heap.push { cls := .type "range", data := .fields #[.int lo t, .int hi u, .int 1 v] }).objs.size := by rw [Heap.size_push]; exact Nat.le_succ _
  have ea : acc' = acc'.toList.toArray := rfl
  refine ⟨.ref _, _, I.laid (t' := tk') (fun b o e => hk b o (Heap.get?_push_of_some _ e)) fr (show ObjOk X.prog X.w _ h' _ (.lst _) from ⟨?_, acc'.toList, c', rng_acc hacc, hS⟩), rfl, q _ (I.hok.fresh fr)⟩
  rw [List.length_map, List.length_map, List.length_range]; exact Nat.le_of_lt (small1000 hn)
def tLr1 (ta : TA) : TE := fun σ H Q => ta σ H fun vs H1 => ∃ j : Int, vs = [.int j] ∧ -(2 ^ 62) ≤ j ∧ j ≤ 1000 ∧ ∀ l, H1 l = none → Q (.ref l) (upd H1 l (.lst (((List.range j.toNat).map fun i => 0 + ((i : Nat) : Int)).map V.int)))
theorem pe_listrange1 {e : Expr} {ta : TA} {p1 p2 pos1 pos2 : Pos} (hc : X.calm = true) (hg : Gl X "list") (hm : X.mg "list" = none) (hg2 : Gl X "range") (hm2 : X.mg "range" = none) (ha : PA X [e] ta)
    (hs : starEach [.Call (.Name "range" p2) [e] [] pos2] X.env = [(false, eval (.Call (.Name "range" p2) [e] [] pos2) X.env)] := by rfl) (hs2 : starEach [e] X.env = [(false, eval e X.env)] := by rfl) :
    PE X (.Call (.Name "list" p1) [.Call (.Name "range" p2) [e] [] pos2] [] pos1) (tLr1 ta) := by
  intro pins s σ H Q I h
  refine Call_ (ld_blt I hg hm boot_list (PyProof.Rows.callWith_type1 ?_ hs rfl))
  rw [hs]
  refine Calls.spliced_cons ?_
  refine Call_ (ld_blt I hg2 hm2 boot_range (PyProof.Rows.callWith_type1 (thn (ha pos2 pins s σ H _ I h) fun us s1 ⟨vs, H1, I1, r1, q1⟩ => ?_) hs2 rfl))
  obtain ⟨j, rfl, b1, b2, q⟩ := q1
  obtain ⟨u, rfl, t, rfl⟩ := vals1 r1
  refine call_range_1 (Calls.spliced_nil ?_)
  exact listrange_ok (I.ok.hd hc) I1 (by decide) (by decide) b1 (by omega) (by omega) fun l nl => by rw [Int.sub_zero]; exact q l nl
end
theorem Pairs.take {K : PySem.W.Frag} {H : Hp} : ∀ {xs : List V} {es : List (Int × Int)} (i : Nat), Pairs K H xs es → Pairs K H (xs.take i) (es.take i)
  | _, _, _, .nil => by rw [List.take_nil, List.take_nil]; exact .nil
  | _, _, 0, .cons _ _ => .nil
  | _, _, i + 1, .cons p t => .cons p (Pairs.take i t)
theorem Pairs.drop {K : PySem.W.Frag} {H : Hp} : ∀ {xs : List V} {es : List (Int × Int)} (i : Nat), Pairs K H xs es → Pairs K H (xs.drop i) (es.drop i)
  | _, _, _, .nil => by rw [List.drop_nil, List.drop_nil]; exact .nil
  | _, _, 0, .cons p t => .cons p t
  | _, _, i + 1, .cons _ t => Pairs.drop i t
end L2
namespace L2
open PySem PySem.Spec PyProof.Rows
section
variable {X : Cx} {tg : Expr}
end
end L2
namespace L2
open PySem PySem.Spec PyProof.Rows
section
variable {κ : Type} [DecidableEq κ]
def valV (kvs : List (κ × V)) (k : κ) : Option V := (kvs.find? fun kv => decide (kv.1 = k)).map (·.2)
def putK (kvs : List (κ × V)) (k : κ) (v : V) : List (κ × V) :=
  if (kvs.any fun kv => decide (kv.1 = k)) = true then kvs.map (fun kv => if kv.1 = k then (kv.1, v) else kv) else kvs ++ [(k, v)]
def dropK (kvs : List (κ × V)) (k : κ) : List (κ × V) := kvs.filter fun kv => decide (kv.1 ≠ k)
theorem valV_pos {p : κ × V} {r : List (κ × V)} {k : κ} (e : p.1 = k) : valV (p :: r) k = some p.2 := by simp [valV, List.find?_cons, e]
theorem valV_neg {p : κ × V} {r : List (κ × V)} {k : κ} (e : ¬ p.1 = k) : valV (p :: r) k = valV r k := by simp [valV, List.find?_cons, e]
theorem valV_any (k : κ) : ∀ kvs : List (κ × V), (kvs.any fun kv => decide (kv.1 = k)) = (valV kvs k).isSome
  | [] => rfl
  | p :: r => by
    rw [List.any_cons]
    by_cases e : p.1 = k
    · simp only [valV_pos e, decide_eq_true e, Bool.true_or, Option.isSome_some]
    · rw [valV_neg e, decide_eq_false e, Bool.false_or]; exact valV_any k r
theorem length_putK (kvs : List (κ × V)) (k : κ) (v : V) : (putK kvs k v).length ≤ kvs.length + 1 := by
  unfold putK
  split
  · rw [List.length_map]; omega
  · rw [List.length_append, List.length_cons, List.length_nil]; omega
theorem putK_new {kvs : List (κ × V)} {k : κ} (v : V) (h : valV kvs k = none) : putK kvs k v = kvs ++ [(k, v)] := by
  unfold putK
  rw [valV_any, h]
  exact if_neg (by decide)
theorem RelO.isSome_eq {o : Option V} {u : Option Value} (r : RelO o u) : o.isSome = u.isSome := by
  cases o with
  | none => cases u with
    | none => rfl
    | some _ => exact (show False from r).elim
  | some _ => cases u with
    | none => exact (show False from r).elim
    | some _ => rfl
theorem RelO.getD {o : Option V} {u : Option Value} {d : V} {d' : Value} (r : RelO o u) (rd : RelV d d') : RelV (o.getD d) (u.getD d') := by
  cases o with
  | none => cases u with
    | none => exact rd
    | some _ => exact (show False from r).elim
  | some _ => cases u with
    | none => exact (show False from r).elim
    | some _ => exact r
theorem KV.val {kvs : List (κ × V)} {vs : List (κ × Value)} (r : KV kvs vs) (k : κ) : RelO (valV kvs k) (valueAt vs k) := by
  unfold KV at r
  induction r with
  | nil => exact True.intro
  | @cons p q ps qs h t ih =>
    obtain ⟨h1, h2⟩ := h
    by_cases e : p.1 = k
    · have e' : q.1 = k := h1.symm.trans e
      have b : valueAt (q :: qs) k = some q.2 := by simp [valueAt, List.find?_cons, e']
      rw [valV_pos e, b]; exact h2
    · have e' : ¬ q.1 = k := fun z => e (h1.trans z)
      have b : valueAt (q :: qs) k = valueAt qs k := by simp [valueAt, List.find?_cons, e']
      rw [valV_neg e, b]; exact ih
theorem KV.any {kvs : List (κ × V)} {vs : List (κ × Value)} (r : KV kvs vs) (k : κ) : (kvs.any fun kv => decide (kv.1 = k)) = vs.any fun kv => decide (kv.1 = k) := by
  unfold KV at r
  induction r with
  | nil => rfl
  | cons h t ih => rw [List.any_cons, List.any_cons, ih, h.1]
theorem KV.repl {kvs : List (κ × V)} {vs : List (κ × Value)} (r : KV kvs vs) (k : κ) {y : V} {u : Value} (ry : RelV y u) :
    KV (kvs.map fun kv => if kv.1 = k then (kv.1, y) else kv) (vs.map fun kv => if kv.1 = k then (kv.1, u) else kv) := by
  unfold KV at r ⊢
  induction r with
  | nil => exact .nil
  | @cons p q ps qs h t ih =>
    rw [List.map_cons, List.map_cons]
    refine .cons ?_ ih
    obtain ⟨h1, h2⟩ := h
    by_cases e : p.1 = k
    · rw [if_pos e, if_pos (h1.symm.trans e)]; exact ⟨h1, ry⟩
    · rw [if_neg e, if_neg (fun z => e (h1.trans z))]; exact ⟨h1, h2⟩
theorem KV.put {kvs : List (κ × V)} {vs : List (κ × Value)} (r : KV kvs vs) (k : κ) {y : V} {u : Value} (ry : RelV y u) : KV (putK kvs k y) (stored vs k u) := by
  unfold putK stored
  rw [r.any k]
  by_cases e : (vs.any fun kv => decide (kv.1 = k)) = true
  · rw [if_pos e, if_pos e]; exact r.repl k ry
  · rw [if_neg e, if_neg e]; exact Paired.snoc r ⟨rfl, ry⟩
theorem KV.drop {kvs : List (κ × V)} {vs : List (κ × Value)} (r : KV kvs vs) (k : κ) : KV (dropK kvs k) (without vs k) := by
  unfold KV at r ⊢
  unfold dropK without
  induction r with
  | nil => exact .nil
  | @cons p q ps qs h t ih =>
    obtain ⟨h1, h2⟩ := h
    rw [List.filter_cons, List.filter_cons]
    by_cases e : p.1 = k
    · have a : ¬ decide (p.1 ≠ k) = true := by simp [e]
      have b : ¬ decide (q.1 ≠ k) = true := by simp [h1.symm.trans e]
      rw [if_neg a, if_neg b]; exact ih
    · have e' : ¬ q.1 = k := fun z => e (h1.trans z)
      have a : decide (p.1 ≠ k) = true := by simp [e]
      have b : decide (q.1 ≠ k) = true := by simp [e']
      rw [if_pos a, if_pos b]; exact .cons ⟨h1, h2⟩ ih
theorem KV.keys {kvs : List (κ × V)} {vs : List (κ × Value)} (r : KV kvs vs) : kvs.map (·.1) = vs.map (·.1) := by
  unfold KV at r
  induction r with
  | nil => rfl
  | cons h t ih => rw [List.map_cons, List.map_cons, ih, h.1]
theorem KV.length {kvs : List (κ × V)} {vs : List (κ × Value)} (r : KV kvs vs) : kvs.length = vs.length := Paired.length r
end
theorem kV_is {P : Program} {w : World} {k : Key} {u : Value} (r : RelV (kV k) u) : (mixKind P w).is k u = true := by
  cases k with
  | inl i => obtain ⟨t, e⟩ := (show ∃ t, u = Value.int i t from r); subst e; exact mixKind_int P w i t
  | inr x => obtain ⟨t, e⟩ := (show ∃ t, u = Value.str x t from r); subst e; exact mixKind_str P w x t
theorem items_are {P : Program} {w : World} : ∀ {ks : List Key} {us : List Value}, Vals (ks.map kV) us → ItemsAre (mixKind P w) ks us
  | [], _, r => by rw [List.map_nil] at r; cases r; exact .nil
  | k :: ks, _, r => by
    rw [List.map_cons] at r
    cases r with
    | cons h t => exact .cons (kV_is h) (items_are t)
abbrev KT (H : Hp) : List (List Key × V) → List (List Key × Addr × Value) → Prop := Paired fun p q => p.1 = q.1 ∧ H q.2.1 = some (.tup (p.1.map kV)) ∧ RelV p.2 q.2.2
theorem KT.val {H : Hp} {kvs : List (List Key × V)} {xs : List (List Key × Addr × Value)} (r : KT H kvs xs) (k : List Key) : RelO (valV kvs k) ((atKey xs k).map (·.2)) := by
  induction r with
  | nil => exact True.intro
  | @cons p q ps qs h t ih =>
    obtain ⟨h1, _, h2⟩ := h
    by_cases e : p.1 = k
    · have e' : q.1 = k := h1.symm.trans e
      have b : atKey (q :: qs) k = some q.2 := by simp [atKey, List.find?_cons, e']
      rw [valV_pos e, b]; exact h2
    · have e' : ¬ q.1 = k := fun z => e (h1.trans z)
      have b : atKey (q :: qs) k = atKey qs k := by simp [atKey, List.find?_cons, e']
      rw [valV_neg e, b]; exact ih
theorem KT.repl {H : Hp} {kvs : List (List Key × V)} {xs : List (List Key × Addr × Value)} (r : KT H kvs xs) (k : List Key) {y : V} {u : Value} (ry : RelV y u) :
    KT H (kvs.map fun kv => if kv.1 = k then (kv.1, y) else kv) (xs.map (putAt k u)) := by
  induction r with
  | nil => exact .nil
  | @cons p q ps qs h t ih =>
    rw [List.map_cons, List.map_cons]
    refine .cons ?_ ih
    obtain ⟨h1, h2, h3⟩ := h
    unfold putAt
    by_cases e : p.1 = k
    · rw [if_pos e, if_pos (h1.symm.trans e)]; exact ⟨h1, h2, ry⟩
    · rw [if_neg e, if_neg (fun z => e (h1.trans z))]; exact ⟨h1, h2, h3⟩
theorem KT.put {H : Hp} {kvs : List (List Key × V)} {xs : List (List Key × Addr × Value)} (r : KT H kvs xs) (k : List Key) {b : Addr} {y : V} {u : Value} (hb : H b = some (.tup (k.map kV))) (ry : RelV y u) :
    KT H (putK kvs k y) (storedH xs k b u) := by
  have e : (kvs.any fun kv => decide (kv.1 = k)) = (atKey xs k).isSome := by
    rw [valV_any, (r.val k).isSome_eq, Option.isSome_map]
  unfold putK storedH
  rw [e]
  by_cases q : (atKey xs k).isSome = true
  · rw [if_pos q, if_pos q]; exact r.repl k ry
  · rw [if_neg q, if_neg q]; exact Paired.snoc r ⟨rfl, hb, ry⟩
theorem KT.keeps {H H' : Hp} {kvs : List (List Key × V)} {xs : List (List Key × Addr × Value)} (r : KT H kvs xs) (ht : ∀ b ys, H b = some (.tup ys) → H' b = some (.tup ys)) : KT H' kvs xs :=
  Paired.mapP r fun _ _ z => ⟨z.1, ht _ _ z.2.1, z.2.2⟩
section
variable {P : Program} {w : World} {H : Hp} {h : Heap} {a : Addr}
theorem rd_of {u : HO} (ok : HOk P w H h) (e : Rd H a u) : ObjOk P w H h a u := e.ok ok
theorem dk_rd {kvs : List (Key × V)} (ok : HOk P w H h) (e : Rd H a (.dK kvs)) : kvs.length ≤ sizeLine ∧ (a == sysModules) = false ∧ ∃ vs, KV kvs vs ∧ h.DictOf (mixKind P w) a vs :=
  show ObjOk P w H h a (.dK kvs) from rd_of ok e
theorem dk_of {kvs : List (Key × V)} (ok : HOk P w H h) (e : H a = some (.dK kvs)) : kvs.length ≤ sizeLine ∧ (a == sysModules) = false ∧ ∃ vs, KV kvs vs ∧ h.DictOf (mixKind P w) a vs := dk_rd ok (.inl e)
theorem key_of {ks : List Key} (ok : HOk P w H h) (e : H a = some (.tup (ks.map kV))) : (tupleKind (mixKind P w)).is h ks a := by
  obtain ⟨_, its, r, o, h1, h2, n, h3⟩ := (show ObjOk P w H h a (.tup (ks.map kV)) from ok a _ e)
  exact ⟨o, its.toArray, n, h1, h2, h3, by simpa using items_are r⟩
theorem dt_rd {kvs : List (List Key × V)} (ok : HOk P w H h) (e : Rd H a (.dT kvs)) : kvs.length ≤ sizeLine ∧ (a == sysModules) = false ∧
    ∃ xs, KT H kvs xs ∧ h.DictOfH (tupleKind (mixKind P w)) a xs := by
  obtain ⟨z, y, xs, r, o, es, ep, h1, h2, h3, h4, h5⟩ := (show ObjOk P w H h a (.dT kvs) from rd_of ok e)
  refine ⟨z, y, xs, r, o, es, ep, h1, h2, h3, h4, fun x hx => ?_, h5⟩
  have all : ∀ {l : List (List Key × V)} {m : List (List Key × Addr × Value)}, KT H l m → ∀ x ∈ m, (tupleKind (mixKind P w)).is h x.1 x.2.1 := by
    intro l m q
    induction q with
    | nil => intro x hx; exact nomatch hx
    | @cons p q ps qs hq t ih =>
      intro x hx
      rcases List.mem_cons.mp hx with e | hx
      · subst e
        exact key_of ok (by rw [← hq.1]; exact hq.2.1)
      · exact ih x hx
  exact all r x hx
theorem dt_of {kvs : List (List Key × V)} (ok : HOk P w H h) (e : H a = some (.dT kvs)) : kvs.length ≤ sizeLine ∧ (a == sysModules) = false ∧
    ∃ xs, KT H kvs xs ∧ h.DictOfH (tupleKind (mixKind P w)) a xs := dt_rd ok (.inl e)
end
def DGet (H : Hp) (a : Addr) (y : V) (r : Option V) : Prop :=
  (∃ kvs k, Rd H a (.dK kvs) ∧ y = kV k ∧ r = valV kvs k) ∨ ∃ kvs k b, Rd H a (.dT kvs) ∧ y = .ref b ∧ H b = some (.tup (k.map kV)) ∧ r = valV kvs k
def DPut (H : Hp) (a : Addr) (y v : V) (H' : Hp) : Prop :=
  (∃ kvs k, H a = some (.dK kvs) ∧ y = kV k ∧ kvs.length < sizeLine ∧ H' = upd H a (.dK (putK kvs k v))) ∨
  ∃ kvs k b, H a = some (.dT kvs) ∧ y = .ref b ∧ H b = some (.tup (k.map kV)) ∧ kvs.length < sizeLine ∧ H' = upd H a (.dT (putK kvs k v))
theorem DGet.k {H : Hp} {a : Addr} {kvs : List (Key × V)} {k : Key} (e : H a = some (.dK kvs)) : DGet H a (kV k) (valV kvs k) := .inl ⟨kvs, k, .inl e, rfl, rfl⟩
theorem DGet.t {H : Hp} {a b : Addr} {kvs : List (List Key × V)} {k : List Key} (e : H a = some (.dT kvs)) (eb : H b = some (.tup (k.map kV))) : DGet H a (.ref b) (valV kvs k) := .inr ⟨kvs, k, b, .inl e, rfl, eb, rfl⟩
theorem DPut.k {H : Hp} {a : Addr} {kvs : List (Key × V)} {k : Key} {v : V} (e : H a = some (.dK kvs)) (hl : kvs.length < sizeLine) : DPut H a (kV k) v (upd H a (.dK (putK kvs k v))) := .inl ⟨kvs, k, e, rfl, hl, rfl⟩
theorem DPut.t {H : Hp} {a b : Addr} {kvs : List (List Key × V)} {k : List Key} {v : V} (e : H a = some (.dT kvs)) (eb : H b = some (.tup (k.map kV))) (hl : kvs.length < sizeLine) :
    DPut H a (.ref b) v (upd H a (.dT (putK kvs k v))) := .inr ⟨kvs, k, b, e, rfl, eb, hl, rfl⟩
section
variable {X : Cx} {pins : List (Addr × Obj)} {σ : St} {H : Hp} {s : Shared} {a : Addr} {y v : V} {u r : Value} {o : Option V} {A : Around} {E : Value → Shared → Prop}
theorem Inv.big (I : Inv X pins σ H s) : sysModules < s.heap.objs.size := by
  have h : mainGlobals < s.heap.objs.size := (I.mod.glob.keeps I.bk).lt
  exact Nat.lt_trans (by decide) h
theorem d_getItem {Q : Value → Shared → Prop} (hu : A.units + 1 < cLine) (I : Inv X pins σ H s) (g : DGet H a y (some v)) (ry : RelV y u) (h : ∀ w' s', Inv X pins σ H s' → RelV v w' → Q w' s') :
    wpAny (model X.prog X.w) A (getItem (.ref a) u) Q E s := by
  rcases g with ⟨kvs, k, e, ey, l⟩ | ⟨kvs, k, b, e, ey, eb, l⟩
  · subst ey
    obtain ⟨z, hd, vs, rel, dd⟩ := dk_rd I.hok e
    obtain ⟨w', hw, rw'⟩ := RelO.some_of (v := v) (o := valueAt vs k) (by rw [l]; exact rel.val k)
    exact wpAny_getItem_of (kV_is ry) dd.mapOf hw (h w' _ (I.tok _) rw')
  · subst ey
    cases (show u = Value.ref b from ry)
    obtain ⟨z, hd, xs, rel, dd⟩ := dt_rd I.hok e
    obtain ⟨w', hw, rw'⟩ := RelO.some_of (v := v) (o := (atKey xs k).map (·.2)) (by rw [l]; exact rel.val k)
    obtain ⟨p, hp, hp2⟩ := Option.map_eq_some_iff.mp hw
    refine wpAny_getItem_heap (tupleKind_room_in1 hu) (key_of I.hok eb) dd hp ?_
    rw [hp2]
    exact h w' _ (I.tok _) rw'
theorem d_notIn {Q : Value → Shared → Prop} (hu : A.units + 1 < cLine) (I : Inv X pins σ H s) (g : DGet H a y o) (ry : RelV y u) (h : ∀ s', Inv X pins σ H s' → Q (.bool (!o.isSome)) s') :
    wpAny (model X.prog X.w) A (compareOp .NotIn u (.ref a)) Q E s := by
  rcases g with ⟨kvs, k, e, ey, l⟩ | ⟨kvs, k, b, e, ey, eb, l⟩
  · subst ey
    obtain ⟨z, hd, vs, rel, dd⟩ := dk_rd I.hok e
    refine wpAny_notIn_of (kV_is ry) hd dd.mapOf ?_
    rw [← (rel.val k).isSome_eq, ← l]
    exact h _ (I.tok _)
  · subst ey
    cases (show u = Value.ref b from ry)
    obtain ⟨z, hd, xs, rel, dd⟩ := dt_rd I.hok e
    refine wpAny_notIn_heap (tupleKind_room_in1 hu) (key_of I.hok eb) hd dd ?_
    have q := (rel.val k).isSome_eq
    rw [Option.isSome_map] at q
    rw [← q, ← l]
    exact h _ (I.tok _)
theorem d_write {h' : Heap} {t' : Nat} {ob : HO} (I : Inv X pins σ H s) (mu : Mut (H a)) (hs : Heap.SameBut a s.heap h') (he : ∃ q, h'.get? a = some q) (new : ObjOk X.prog X.w (upd H a ob) h' a ob) :
    Inv X pins σ (upd H a ob) { s with heap := h', toks := t' } :=
  I.write (x := a) (e := a) mu (.inl rfl) (fun b q hb z => (hs.2 b hb).trans z) he new
theorem dk_new {P : Program} {w : World} {H' : Hp} {h' : Heap} {kvs : List (Key × V)} {vs : List (Key × Value)} (z : kvs.length ≤ sizeLine) (hd : (a == sysModules) = false) (rel : KV kvs vs) (dd : h'.DictOf (mixKind P w) a vs) :
    ObjOk P w H' h' a (.dK kvs) := ⟨z, hd, vs, rel, dd⟩
theorem d_setItem {H' : Hp} {Q : Unit → Shared → Prop} (hu : A.units + 1 < cLine) (I : Inv X pins σ H s) (g : DPut H a y v H') (ry : RelV y u) (rv : RelV v r) (h : ∀ s', Inv X pins σ H' s' → Q () s') :
    wpAny (model X.prog X.w) A (setItem (.ref a) u r) Q E s := by
  rcases g with ⟨kvs, k, e, ey, l, eH⟩ | ⟨kvs, k, b, e, ey, eb, l, eH⟩
  · subst ey eH
    obtain ⟨z, hd, vs, rel, dd⟩ := dk_of I.hok e
    have hz : vs.length ≤ sizeLine := by rw [← rel.length]; exact z
    have hl : (putK kvs k v).length ≤ sizeLine := by have := length_putK kvs k v; omega
    refine wpAny_setItem_pairs (hsz := hz) (kV_is ry) dd fun h' dd' hs => h _ ?_
    have he : ∃ q, h'.get? a = some q := let ⟨q, _, _, hq, _⟩ := dd'; ⟨q, hq⟩
    exact d_write I (by rw [e]; exact True.intro) hs he (dk_new hl hd (rel.put k rv) dd')
  · subst ey eH
    cases (show u = Value.ref b from ry)
    obtain ⟨z, hd, xs, rel, dd⟩ := dt_of I.hok e
    have hz : xs.length ≤ sizeLine := by rw [← Paired.length rel]; exact z
    have hl : (putK kvs k v).length ≤ sizeLine := by have := length_putK kvs k v; omega
    refine wpAny_setItem_heap (hsz := hz) (tupleKind_room_in1 hu) (key_of I.hok eb) dd fun h' dd' hs => h _ ?_
    obtain ⟨q, es, ep, hq, h2, h3, h4, _, h5⟩ := dd'
    refine d_write I (by rw [e]; exact True.intro) hs ⟨q, hq⟩ ⟨hl, hd, _, (rel.put k eb rv).keeps fun c ys ec => ?_, q, es, ep, hq, h2, h3, h4, h5⟩
    rw [upd_ne (ne_of ec e (fun z => nomatch z))]
    exact ec
end
section
variable {X : Cx} {pins : List (Addr × Obj)} {σ : St} {H : Hp} {s : Shared} {a : Addr} {kvs : List (Key × V)} {k : Key} {u : Value} {A : Around} {E : Value → Shared → Prop}
end
def NoSl (i : Expr) : Prop := ∀ ov iv, subscripted i false ov iv = operate [ov, iv] (getItem ov iv)
theorem subD_of {prog : Program} {w : World} {A : Around} {E : Value → Shared → Prop} {s : Shared} {env : Env} {value slice : Expr} {pos : Pos} {T id : String} {Q : Value → Shared → Prop}
    (hl : typeLookup (.type T) "__getitem__" = pure (some (.builtin id))) (hs : NoSl slice)
    (h : wpAny (model prog w) A (eval value env) (fun o s₁ => wpAny (model prog w) A (eval slice env) (fun i s₂ => s₂.TypeIs o T ∧ wpAny (model prog w) A (getItem o i) Q E s₂) E s₁) E s) :
    wpAny (model prog w) A (eval (.Subscript value slice pos) env) Q E s := by
  refine Subscript_ (wpAny_mono h (fun o s₁ h₁ => wpAny_mono h₁ (fun i s₂ h₂ => ?_) fun _ _ x => x) fun _ _ x => x)
  obtain ⟨hT, h₂⟩ := h₂
  unfold subscriptTail
  refine wpAny_bind ?_
  rw [getitemInPython_of_ne hT.not_modules]
  refine wpAny_bind (wpAny_specialOf hT hl ?_)
  have fin : wpAny (model prog w) A (subscripted slice false o i) (fun r s₃ => wpAny (model prog w) A (letTemporaryGo value o r >>= fun _ => pure r) Q E s₃) E s₂ := by
    rw [hs o i]
    exact wpAny_operating (wpAny_mono h₂ (fun r s₃ h₃ => wpAny_bind (wpAny_letTemporaryGo (wpAny_pure h₃))) fun _ _ x => x)
  first
    | exact wpAny_pure (wpAny_bind fin)
    | exact wpAny_bind (wpAny_pure (wpAny_bind fin))
    | exact wpAny_bind fin
theorem dict_typeIs {X : Cx} {pins : List (Addr × Obj)} {σ : St} {H : Hp} {s : Shared} {a : Addr} {y : V} {o : Option V} (I : Inv X pins σ H s) (g : DGet H a y o) : s.TypeIs (.ref a) "dict" := by
  rcases g with ⟨kvs, k, e, _, _⟩ | ⟨kvs, k, b, e, _, _, _⟩
  · obtain ⟨_, _, vs, _, dd⟩ := dk_rd I.hok e
    exact dd.typeIs
  · obtain ⟨_, _, xs, _, dd⟩ := dt_rd I.hok e
    exact dd.typeIs
def tDGet (td ty : TE) : TE := fun σ H Q => td σ H fun x H1 => ty σ H1 fun y H2 => ∃ a v, x = .ref a ∧ DGet H2 a y (some v) ∧ Q v H2
def tDNotIn (ty td : TE) : TE := fun σ H Q => ty σ H fun y H1 => td σ H1 fun x H2 => ∃ a o, x = .ref a ∧ DGet H2 a y o ∧ Q (.bl (!o.isSome)) H2
def sDPut (td ty tv : TE) : TS := fun D σ H => tv σ H fun v H1 => td σ H1 fun x H2 => ty σ H2 fun y H3 => ∃ a H4, x = .ref a ∧ DPut H3 a y v H4 ∧ D.nx σ H4
section
variable {X : Cx} {o i e value : Expr} {pos pos' tpos : Pos} {td ty tv : TE}
theorem pe_dget (hu : X.A.units + 1 < cLine) (ho : PE X o td) (hi : PE X i ty) (hs : NoSl i) : PE X (.Subscript o i pos) (tDGet td ty) := by
  intro pins s σ H Q I h
  refine subD_of PySem.F.slot_dict_getitem.lookup hs (thn (ho pins s σ H _ I h) fun u s1 ⟨x, H1, I1, rx, q1⟩ => thn (hi pins s1 σ H1 _ I1 q1) fun iv s2 ⟨y, H2, I2, ry, a, v, ex, g, q2⟩ => ?_)
  subst ex
  obtain rfl : u = Value.ref a := rx
  exact ⟨dict_typeIs I2 g, d_getItem hu I2 g ry fun w' s3 I3 rw' => ⟨v, H2, I3, rw', q2⟩⟩
theorem pc_dnotin (hu : X.A.units + 1 < cLine) (hi : PE X i ty) (ho : PE X o td) : PC X .NotIn i o (tDNotIn ty td) := by
  intro pins s σ H Q I h
  refine thn (hi pins s σ H _ I h) fun iv s1 ⟨y, H1, I1, ry, q1⟩ => thn (ho pins s1 σ H1 _ I1 q1) fun u s2 ⟨x, H2, I2, rx, a, ov, ex, g, q2⟩ => ?_
  subst ex
  obtain rfl : u = Value.ref a := rx
  exact d_notIn hu I2 g ry fun s3 I3 => ⟨.bl (!ov.isSome), H2, I3, rfl, q2⟩
theorem ps_dput (hu : X.A.units + 1 < cLine) (ho : PE X o td) (hi : PE X i ty) (hv : PE X value tv) (hs : swapsWith value (some (.Subscript o i pos')) pos.line X.env = pure false) :
    PS X (.Assign [.Subscript o i pos'] value pos) (sDPut td ty tv) := by
  intro pins s σ H D I h
  refine wpAny_Assign_Subscript (thn (hv pins s σ H _ I h) fun r s1 ⟨v, H1, I1, rv, q1⟩ => thn (ho pins s1 σ H1 _ I1 q1) fun u s2 ⟨x, H2, I2, rx, q2⟩ => thn (hi pins s2 σ H2 _ I2 q2) fun iv s3 ⟨y, H3, I3, ry, a, H4, ex, g, q3⟩ => ?_) hs
  subst ex
  obtain rfl : u = Value.ref a := rx
  exact d_setItem hu I3 g ry rv fun s4 I4 => ⟨σ, H4, I4, q3⟩
end
theorem dk_empty {P : Program} {w : World} {H : Hp} (h : Heap) (hb : sysModules < h.objs.size) : ObjOk P w H (h.push { cls := .type "dict", data := .dict #[] }) h.objs.size (.dK []) :=
  ⟨Nat.zero_le _, beq_eq_false_iff_ne.mpr (Ne.symm (Nat.ne_of_lt hb)), [], .nil, Heap.DictOf.new h⟩
section
variable {X : Cx} {pos : Pos}
end
def tPairs : List (TE × TE) → St → Hp → (List (V × V) → Hp → Prop) → Prop
  | [], _, H, Q => Q [] H
  | (tk, tv) :: r, σ, H, Q => tk σ H fun x H1 => tv σ H1 fun y H2 => tPairs r σ H2 fun ps H3 => Q ((x, y) :: ps) H3
abbrev VV : List (V × V) → List (Value × Value) → Prop := Paired fun p q => RelV p.1 q.1 ∧ RelV p.2 q.2
def PPs (X : Cx) (pos : Pos) (keys : List (Option Expr)) (values : List Expr) (trs : List (TE × TE)) : Prop :=
  ∀ (pins : List (Addr × Obj)) (s : Shared) (σ : St) (H : Hp) (Q : List (V × V) → Hp → Prop), Inv X pins σ H s → tPairs trs σ H Q →
    wpAny (model X.prog X.w) X.A (evalPairs (pairTrees keys values X.env pos)) (fun vs s' => ∃ ps H', Inv X pins σ H' s' ∧ VV ps vs ∧ Q ps H') X.xe s
theorem pps_nil {X : Cx} {pos : Pos} : PPs X pos [] [] [] := fun pins s σ H Q I h => pairTrees_nil_walk ⟨[], H, I, .nil, h⟩
theorem pps_cons {X : Cx} {pos : Pos} {k v : Expr} {ks : List (Option Expr)} {vs : List Expr} {tk tv : TE} {trs : List (TE × TE)} (hk : PE X k tk) (hv : PE X v tv) (hr : PPs X pos ks vs trs) :
    PPs X pos (some k :: ks) (v :: vs) ((tk, tv) :: trs) := fun pins s σ H Q I h =>
  pairTrees_cons_walk (thn (hk pins s σ H _ I h) fun u s1 ⟨x, H1, I1, rx, q1⟩ => thn (hv pins s1 σ H1 _ I1 q1) fun w2 s2 ⟨y, H2, I2, ry, q2⟩ =>
    thn (hr pins s2 σ H2 _ I2 q2) fun ws s3 ⟨ps, H3, I3, rel, q3⟩ => ⟨(x, y) :: ps, H3, I3, .cons ⟨rx, ry⟩ rel, q3⟩)
def mergeK (kvs more : List (Key × V)) : List (Key × V) := more.foldl (fun acc kv => putK acc kv.1 kv.2) kvs
theorem KV.merge : ∀ {more : List (Key × V)} {rs : List (Key × Value)} {kvs : List (Key × V)} {vs : List (Key × Value)}, KV more rs → KV kvs vs → KV (mergeK kvs more) (merged vs rs) := by
  intro more rs kvs vs r
  unfold KV at r
  induction r generalizing kvs vs with
  | nil => intro q; exact q
  | @cons p q ps qs h t ih =>
    intro r0
    have e : KV (putK kvs p.1 p.2) (stored vs q.1 q.2) := by
      have := r0.put p.1 h.2
      rw [← h.1]; exact this
    exact ih e
theorem length_mergeK : ∀ (more kvs : List (Key × V)), (mergeK kvs more).length ≤ kvs.length + more.length
  | [], kvs => by show kvs.length ≤ kvs.length + 0; omega
  | p :: r, kvs => by
    have h1 := length_mergeK r (putK kvs p.1 p.2)
    have h2 := length_putK kvs p.1 p.2
    show (mergeK (putK kvs p.1 p.2) r).length ≤ _
    rw [List.length_cons]; omega
theorem carries_of {P : Program} {w : World} : ∀ {kvs : List (Key × V)} {ws : List (Value × Value)}, VV (kvs.map fun kv => (kV kv.1, kv.2)) ws → ∃ rs, Carries (mixKind P w) ws rs ∧ KV kvs rs
  | [], _, r => by rw [List.map_nil] at r; cases r; exact ⟨[], True.intro, .nil⟩
  | p :: kvs, _, r => by
    rw [List.map_cons] at r
    cases r with
    | @cons a b as bs h t =>
      obtain ⟨rs, c, q⟩ := carries_of (P := P) (w := w) t
      obtain ⟨b1, b2⟩ := b
      exact ⟨(p.1, b2) :: rs, ⟨kV_is h.1, rfl, c⟩, .cons ⟨rfl, h.2⟩ q⟩
def tDisp (trs : List (TE × TE)) : TE := fun σ H Q => ∀ p, H p = none → tPairs trs σ (upd H p (.dK [])) fun ps H2 => H2 p = some (.dK []) ∧ ∃ kvs : List (Key × V), ps = kvs.map (fun kv => (kV kv.1, kv.2)) ∧ kvs.length ≤ 15 ∧ Q (.ref p) (upd H2 p (.dK (mergeK [] kvs)))
theorem pe_disp {X : Cx} {pos : Pos} {keys : List (Option Expr)} {values : List Expr} {trs : List (TE × TE)} (h : PPs X pos keys values trs) (hall : keys.all (·.isSome) = true) (hl : keys.length = values.length) (h0 : keys ≠ [])
    (h15 : keys.length ≤ 15) : PE X (.Dict keys values pos) (tDisp trs) := by
  intro pins s σ H Q I q
  have hn := I.hok.fresh (Nat.le_refl s.heap.objs.size)
  have I1 := I.laid (a := s.heap.objs.size) (o := .dK []) (h' := s.heap.push { cls := .type "dict", data := .dict #[] }) (t' := s.toks) (fun _ _ q => Heap.get?_push_of_some _ q) (Nat.le_refl _) (dk_empty s.heap I.big)
  refine wpAny_Dict_walk (knd := mixKind X.prog X.w) hall hl h0 h15 (thn (h pins _ σ _ _ I1 (q _ hn)) fun ws s2 ⟨ps, H2, I2, rel, e, kvs, ep, lk, q2⟩ => ?_)
  subst ep
  obtain ⟨rs, c, rk⟩ := carries_of (P := X.prog) (w := X.w) rel
  obtain ⟨z, hd, vs0, r0, dd⟩ := dk_of I2.hok e
  cases r0
  refine ⟨rs, c, dd, fun h' dd' hs => ⟨.ref s.heap.objs.size, _, ?_, rfl, q2⟩⟩
  have hz : (mergeK [] kvs).length ≤ sizeLine := by
    have h1 := length_mergeK kvs []
    rw [List.length_nil] at h1
    rw [sizeLine_eq]; omega
  have he : ∃ q, h'.get? s.heap.objs.size = some q := let ⟨q, _, _, hq, _⟩ := dd'; ⟨q, hq⟩
  exact d_write I2 (by rw [e]; exact True.intro) hs he (dk_new hz hd (rk.merge .nil) dd')
structure M1 (X : Cx) (o : Expr) (m : Str) (apos : Pos) (e : Expr) (cpos : Pos) : Prop where
  base : attributeBase o m X.env (eval o X.env) = eval o X.env
  few : ((backTo cpos (starEach [e] X.env)).all (fun x => !x.1) && (backToKw cpos (keywordEach [] X.env)).all (fun x => x.1.isSome)
    && decide (([e] : List Expr).length + ([] : List Keyword).length + (if ([] : List Keyword).isEmpty then 0 else 1) < 30)) = true
  line : (apos.endLine == cpos.line) = true
  trees : backTo cpos (starEach [e] X.env) = [(false, eval e X.env)]
structure M2 (X : Cx) (o : Expr) (m : Str) (apos : Pos) (e f : Expr) (cpos : Pos) : Prop where
  base : attributeBase o m X.env (eval o X.env) = eval o X.env
  few : ((backTo cpos (starEach [e, f] X.env)).all (fun x => !x.1) && (backToKw cpos (keywordEach [] X.env)).all (fun x => x.1.isSome)
    && decide (([e, f] : List Expr).length + ([] : List Keyword).length + (if ([] : List Keyword).isEmpty then 0 else 1) < 30)) = true
  line : (apos.endLine == cpos.line) = true
  trees : backTo cpos (starEach [e, f] X.env) = [(false, eval e X.env), (false, eval f X.env)]
section
variable {X : Cx} {pins : List (Addr × Obj)} {σ : St} {H : Hp} {s : Shared} {a : Addr} {y d : V} {u r : Value} {o : Option V} {A : Around} {E : Value → Shared → Prop}
end
section
variable {X : Cx} {o e f : Expr} {apos cpos : Pos} {td ty tx : TE}
end
section
variable {X : Cx} {pins : List (Addr × Obj)} {σ : St} {H : Hp} {s : Shared} {a : Addr} {kvs : List (Key × V)} {A : Around} {E : Value → Shared → Prop}
end
section
variable {X : Cx} {pins : List (Addr × Obj)} {σ : St} {H : Hp} {s : Shared} {a : Addr} {y : V} {u : Value} {A : Around} {E : Value → Shared → Prop}
end
end L2
namespace L2
open PySem PySem.Spec PyProof.Rows
section
variable {κ : Type} [DecidableEq κ]
end
end L2
namespace L2
open PySem PySem.Spec PyProof.Rows
section
variable {X : Cx} {pins : List (Addr × Obj)} {σ : St} {H : Hp} {s : Shared} {a : Addr} {kvs : List (Key × V)} {k : Key} {u r : Value} {z : V} {A : Around} {E : Value → Shared → Prop}
end
section
variable {X : Cx} {o e f : Expr} {apos cpos p1 pos1 : Pos} {td ty tx : TE}
end
end L2
namespace L2
inductive Cn (es : List (Int × Int)) : Int → Int → Prop
  | refl (a : Int) : Cn es a a
  | fwd {a : Int} {e : Int × Int} : Cn es a e.1 → e ∈ es → Cn es a e.2
  | bwd {a : Int} {e : Int × Int} : Cn es a e.2 → e ∈ es → Cn es a e.1
theorem Cn.trans {es : List (Int × Int)} {a b c : Int} (h : Cn es a b) (h2 : Cn es b c) : Cn es a c := by
  induction h2 with
  | refl => exact h
  | fwd _ he ih => exact .fwd ih he
  | bwd _ he ih => exact .bwd ih he
theorem Cn.tie {es : List (Int × Int)} {e : Int × Int} (h : e ∈ es) : Cn es e.1 e.2 := .fwd (.refl _) h
theorem Cn.eit {es : List (Int × Int)} {e : Int × Int} (h : e ∈ es) : Cn es e.2 e.1 := .bwd (.refl _) h
theorem Cn.symm {es : List (Int × Int)} {a b : Int} (h : Cn es a b) : Cn es b a := by
  induction h with
  | refl => exact .refl _
  | fwd _ he ih => exact (Cn.eit he).trans ih
  | bwd _ he ih => exact (Cn.tie he).trans ih
theorem Cn.map {es es' : List (Int × Int)} {g : Int → Int} (hg : ∀ e ∈ es, Cn es' (g e.1) (g e.2)) {a b : Int} (h : Cn es a b) : Cn es' (g a) (g b) := by
  induction h with
  | refl => exact .refl _
  | fwd _ he ih => exact ih.trans (hg _ he)
  | bwd _ he ih => exact ih.trans (hg _ he).symm
theorem Cn.mono {es es' : List (Int × Int)} (hs : ∀ e ∈ es, e ∈ es') {a b : Int} (h : Cn es a b) : Cn es' a b := Cn.map (g := id) (fun e he => Cn.tie (hs e he)) h
structure Lab (n : Int) (es : List (Int × Int)) (f : Int → Int) : Prop where
  conn : ∀ p, 0 ≤ p → p < n → Cn es p (f p)
  same : ∀ e ∈ es, f e.1 = f e.2
  low : ∀ p, 0 ≤ p → p < n → 0 ≤ f p ∧ f p ≤ p
theorem lab_cn {es : List (Int × Int)} {f : Int → Int} (h : ∀ e ∈ es, f e.1 = f e.2) {a b : Int} (c : Cn es a b) : f a = f b := by
  induction c with
  | refl => rfl
  | fwd _ he ih => rw [ih, h _ he]
  | bwd _ he ih => rw [ih, ← h _ he]
theorem Lab.le {n : Int} {es : List (Int × Int)} {f g : Int → Int} (F : Lab n es f) (G : Lab n es g) {p : Int} (p0 : 0 ≤ p) (p1 : p < n) : g p ≤ f p := by
  have l := F.low p p0 p1
  have e := lab_cn G.same (F.conn p p0 p1)
  have := G.low (f p) l.1 (by omega)
  omega
theorem Lab.uniq {n : Int} {es : List (Int × Int)} {f g : Int → Int} (F : Lab n es f) (G : Lab n es g) {p : Int} (p0 : 0 ≤ p) (p1 : p < n) : f p = g p := Int.le_antisymm (G.le F p0 p1) (F.le G p0 p1)
theorem Lab.iff {n : Int} {es : List (Int × Int)} {f : Int → Int} (F : Lab n es f) {p q : Int} (p0 : 0 ≤ p) (p1 : p < n) (q0 : 0 ≤ q) (q1 : q < n) : f p = f q ↔ Cn es p q :=
  ⟨fun e => (F.conn p p0 p1).trans (by rw [e]; exact (F.conn q q0 q1).symm), fun c => lab_cn F.same c⟩
theorem Lab.nil (n : Int) : Lab n [] (fun p => p) := ⟨fun p _ _ => .refl p, fun e he => (nomatch he), fun p h _ => ⟨h, Int.le_refl _⟩⟩
theorem Lab.congr {n : Int} {es : List (Int × Int)} {f g : Int → Int} (F : Lab n es f) (hE : ∀ e ∈ es, 0 ≤ e.1 ∧ e.1 < n ∧ 0 ≤ e.2 ∧ e.2 < n) (h : ∀ p, 0 ≤ p → p < n → f p = g p) : Lab n es g :=
  ⟨fun p p0 p1 => by rw [← h p p0 p1]; exact F.conn p p0 p1, fun e he => by
    have := hE e he
    rw [← h _ this.1 this.2.1, ← h _ this.2.2.1 this.2.2.2]; exact F.same e he, fun p p0 p1 => by rw [← h p p0 p1]; exact F.low p p0 p1⟩
def mrg (f : Int → Int) (e : Int × Int) (p : Int) : Int := if f p = max (f e.1) (f e.2) then min (f e.1) (f e.2) else f p
theorem Lab.merge {n : Int} {es : List (Int × Int)} {f : Int → Int} {e : Int × Int} (F : Lab n es f) (b : 0 ≤ e.1 ∧ e.1 < n ∧ 0 ≤ e.2 ∧ e.2 < n) : Lab n (es ++ [e]) (mrg f e) := by
  have l1 := F.low e.1 b.1 b.2.1
  have l2 := F.low e.2 b.2.2.1 b.2.2.2
  have up : ∀ {x y : Int}, Cn es x y → Cn (es ++ [e]) x y := fun c => c.mono fun a ha => List.mem_append_left _ ha
  have me : e ∈ es ++ [e] := List.mem_append_right _ (List.mem_singleton.mpr rfl)
  have c1 : Cn (es ++ [e]) (f e.1) (f e.2) := (up (F.conn e.1 b.1 b.2.1)).symm.trans ((Cn.tie me).trans (up (F.conn e.2 b.2.2.1 b.2.2.2)))
  refine ⟨fun p p0 p1 => ?_, fun a ha => ?_, fun p p0 p1 => ?_⟩
  · have cp := up (F.conn p p0 p1)
    unfold mrg
    by_cases h : f p = max (f e.1) (f e.2)
    · rw [if_pos h]
      rw [h] at cp
      by_cases g : f e.1 ≤ f e.2
      · rw [Int.max_eq_right g] at cp; rw [Int.min_eq_left g]; exact cp.trans c1.symm
      · rw [Int.max_eq_left (by omega)] at cp; rw [Int.min_eq_right (by omega)]; exact cp.trans c1
    · rw [if_neg h]; exact cp
  · rcases List.mem_append.mp ha with y | y
    · unfold mrg; rw [F.same a y]
    · have ea : a = e := List.mem_singleton.mp y
      subst ea
      unfold mrg
      have h1 : f a.1 ≤ f a.2 ∨ f a.2 < f a.1 := by omega
      rcases h1 with g | g
      · rw [Int.max_eq_right g, Int.min_eq_left g, if_pos rfl]; split <;> omega
      · rw [Int.max_eq_left (by omega), Int.min_eq_right (by omega), if_pos rfl]; split <;> omega
  · have := F.low p p0 p1
    unfold mrg
    by_cases h : f p = max (f e.1) (f e.2)
    · rw [if_pos h]; omega
    · rw [if_neg h]; exact this
def grp (n : Nat) (f : Int → Int) (r : Int) : List Int := ((List.range n).filter fun (p : Nat) => decide (f (p : Int) = r)).map fun (p : Nat) => (p : Int)
theorem mem_grp {n : Nat} {f : Int → Int} {r p : Int} : p ∈ grp n f r ↔ 0 ≤ p ∧ p < n ∧ f p = r := by
  unfold grp
  rw [List.mem_map]
  constructor
  · rintro ⟨m, hm, rfl⟩
    rw [List.mem_filter, List.mem_range, decide_eq_true_eq] at hm
    exact ⟨by omega, by omega, hm.2⟩
  · rintro ⟨h0, h1, h2⟩
    refine ⟨p.toNat, ?_, by omega⟩
    rw [List.mem_filter, List.mem_range, decide_eq_true_eq]
    have e : ((p.toNat : Nat) : Int) = p := by omega
    rw [e]; exact ⟨by omega, h2⟩
end L2
namespace L2
open PySem
theorem nodup_sub {α : Type} [DecidableEq α] : ∀ {l l' : List α}, l.Nodup → (∀ a ∈ l, a ∈ l') → l.length ≤ l'.length
  | [], _, _, _ => Nat.zero_le _
  | a :: l, l', h, s => by
    rw [List.nodup_cons] at h
    have ha := s a List.mem_cons_self
    have := nodup_sub (l := l) (l' := l'.erase a) h.2 fun b hb => (List.mem_erase_of_ne (fun (z : b = a) => h.1 (z ▸ hb))).mpr (s b (List.mem_cons_of_mem _ hb))
    rw [List.length_erase_of_mem ha] at this
    have : 0 < l'.length := List.length_pos_of_mem ha
    rw [List.length_cons]; omega
theorem nodup_len {rs : List Int} {m : Int} (h : rs.Nodup) (b : ∀ p ∈ rs, 0 ≤ p ∧ p < m) : rs.length ≤ m.toNat := by
  have := nodup_sub (l' := (List.range m.toNat).map fun (i : Nat) => (i : Int)) h fun p hp => by
    have := b p hp
    exact List.mem_map.mpr ⟨p.toNat, List.mem_range.mpr (by omega), by omega⟩
  rwa [List.length_map, List.length_range] at this
theorem nodup_snoc {α : Type} {l : List α} {a : α} (h : l.Nodup) (n : ¬ a ∈ l) : (l ++ [a]).Nodup := by
  rw [List.nodup_append]
  refine ⟨h, by simp, fun x hx y hy e => ?_⟩
  rw [List.mem_singleton.mp hy] at e
  exact n (e ▸ hx)
def atP (p : Int) (e : Int × Int) : Bool := e.1 == p || e.2 == p
theorem atP_iff {p : Int} {e : Int × Int} : atP p e = true ↔ e.1 = p ∨ e.2 = p := by
  unfold atP
  rw [Bool.or_eq_true, beq_iff_eq, beq_iff_eq]
def far (e : Int × Int) (p : Int) : Int := if e.1 = p then e.2 else e.1
def tieOf (es : List (Int × Int)) (t : Int) : Int × Int := es.getD t.toNat (0, 0)
def sub (es : List (Int × Int)) (ss : List Int) : List (Int × Int) := ss.map (tieOf es)
theorem far_cn {es : List (Int × Int)} {e : Int × Int} (h : e ∈ es) {p : Int} (hp : e.1 = p ∨ e.2 = p) : Cn es p (far e p) := by
  unfold far
  by_cases c : e.1 = p
  · rw [if_pos c, ← c]; exact Cn.tie h
  · rw [if_neg c]
    rcases hp with y | y
    · exact absurd y c
    · rw [← y]; exact Cn.eit h
theorem far_end (e : Int × Int) {p : Int} (hp : e.1 = p ∨ e.2 = p) : e.1 = far e p ∨ e.2 = far e p := by
  unfold far
  by_cases c : e.1 = p
  · rw [if_pos c]; exact .inr rfl
  · rw [if_neg c]; exact .inl rfl
inductive Way (es : List (Int × Int)) (ss : List Int) (a : Int) : List Int → List Int → Int → Prop
  | nil : Way es ss a [] [] a
  | snoc {ts ps : List Int} {p t : Int} : Way es ss a ts ps p → t ∈ ss → 0 ≤ t → t < (es.length : Int) → ((tieOf es t).1 = p ∨ (tieOf es t).2 = p) → ¬ far (tieOf es t) p ∈ ps ++ [p] → Way es ss a (ts ++ [t]) (ps ++ [p]) (far (tieOf es t) p)
theorem Way.nd {es : List (Int × Int)} {ss ts ps : List Int} {a p : Int} (h : Way es ss a ts ps p) : (ps ++ [p]).Nodup := by
  induction h with
  | nil => simp
  | snoc _ _ _ _ _ hn ih => exact nodup_snoc ih hn
theorem Way.len {es : List (Int × Int)} {ss ts ps : List Int} {a p : Int} (h : Way es ss a ts ps p) : ts.length = ps.length := by
  induction h with
  | nil => rfl
  | snoc _ _ _ _ _ _ ih => rw [List.length_append, List.length_append, ih]; rfl
theorem Way.ends {es : List (Int × Int)} {ss ts ps : List Int} {a p : Int} (h : Way es ss a ts ps p) : ∀ t ∈ ts, (tieOf es t).1 ∈ ps ++ [p] ∧ (tieOf es t).2 ∈ ps ++ [p] := by
  induction h with
  | nil => exact fun t ht => nomatch ht
  | @snoc ts ps p t _ _ _ _ hp _ ih =>
    intro t' ht'
    rcases List.mem_append.mp ht' with y | y
    · exact ⟨List.mem_append_left _ (ih t' y).1, List.mem_append_left _ (ih t' y).2⟩
    · rw [List.mem_singleton.mp y]
      have mp : p ∈ (ps ++ [p]) ++ [far (tieOf es t) p] := List.mem_append_left _ (List.mem_append_right _ (List.mem_singleton.mpr rfl))
      have mf : far (tieOf es t) p ∈ (ps ++ [p]) ++ [far (tieOf es t) p] := List.mem_append_right _ (List.mem_singleton.mpr rfl)
      by_cases c : (tieOf es t).1 = p
      · have e2 : far (tieOf es t) p = (tieOf es t).2 := if_pos c
        rw [c]; exact ⟨mp, by rw [← e2]; exact mf⟩
      · have e1 : far (tieOf es t) p = (tieOf es t).1 := if_neg c
        have e2 : (tieOf es t).2 = p := hp.resolve_left c
        rw [e2]; exact ⟨by rw [← e1]; exact mf, mp⟩
theorem Way.fresh {es : List (Int × Int)} {ss ts ps : List Int} {a p t : Int} (h : Way es ss a ts ps p) (hp : (tieOf es t).1 = p ∨ (tieOf es t).2 = p) (hn : ¬ far (tieOf es t) p ∈ ps ++ [p]) : ¬ t ∈ ts := fun ht => by
  have := h.ends t ht
  rcases far_end (tieOf es t) hp with y | y
  · exact hn (y ▸ this.1)
  · exact hn (y ▸ this.2)
theorem Way.tnd {es : List (Int × Int)} {ss ts ps : List Int} {a p : Int} (h : Way es ss a ts ps p) : ts.Nodup := by
  induction h with
  | nil => simp
  | snoc h _ _ _ hp hn ih => exact nodup_snoc ih (h.fresh hp hn)
theorem Way.sub {es : List (Int × Int)} {ss ts ps : List Int} {a p : Int} (h : Way es ss a ts ps p) : ∀ t ∈ ts, t ∈ ss ∧ 0 ≤ t ∧ t < (es.length : Int) := by
  induction h with
  | nil => exact fun t ht => nomatch ht
  | snoc _ h1 h2 h3 _ _ ih =>
    intro t' ht'
    rcases List.mem_append.mp ht' with y | y
    · exact ih t' y
    · rw [List.mem_singleton.mp y]; exact ⟨h1, h2, h3⟩
theorem valV_key (ad : Int → Addr) (k : Int) : ∀ R : List Int, valV (R.map fun r => ((Sum.inl r : Key), V.ref (ad r))) (Sum.inl k) = if k ∈ R then some (V.ref (ad k)) else none
  | [] => rfl
  | r :: R => by
    rw [List.map_cons]
    by_cases e : r = k
    · subst e
      rw [valV_pos rfl, if_pos List.mem_cons_self]
    · rw [valV_neg (fun z => e (Sum.inl.inj z)), valV_key ad k R]
      by_cases h : k ∈ R
      · rw [if_pos h, if_pos (List.mem_cons_of_mem _ h)]
      · rw [if_neg h, if_neg (fun z => (List.mem_cons.mp z).elim (fun y => e y.symm) h)]
theorem cn_closed {es : List (Int × Int)} {R : List Int} {a b : Int} (ha : a ∈ R) (hc : ∀ e ∈ es, ∀ p ∈ R, (e.1 = p ∨ e.2 = p) → far e p ∈ R) (h : Cn es a b) : b ∈ R := by
  induction h with
  | refl => exact ha
  | fwd _ he ih => have := hc _ he _ ih (.inl rfl); rwa [show far _ _ = _ from if_pos rfl] at this
  | @bwd e _ he ih =>
    have := hc _ he _ ih (.inr rfl)
    unfold far at this
    by_cases c : e.1 = e.2
    · rw [if_pos c] at this; rw [c]; exact this
    · rwa [if_neg c] at this
end L2
namespace L2
structure Nam (n : Int) (es : List (Int × Int)) (f : Int → Int) : Prop where
  conn : ∀ p, 0 ≤ p → p < n → Cn es p (f p)
  same : ∀ e ∈ es, f e.1 = f e.2
  rng : ∀ p, 0 ≤ p → p < n → 0 ≤ f p ∧ f p < n
theorem Nam.iff {n : Int} {es : List (Int × Int)} {f : Int → Int} (F : Nam n es f) {p q : Int} (p0 : 0 ≤ p) (p1 : p < n) (q0 : 0 ≤ q) (q1 : q < n) : f p = f q ↔ Cn es p q :=
  ⟨fun e => (F.conn p p0 p1).trans (by rw [e]; exact (F.conn q q0 q1).symm), fun c => lab_cn F.same c⟩
theorem Nam.nil (n : Int) : Nam n [] (fun p => p) := ⟨fun p _ _ => .refl p, fun e he => (nomatch he), fun p h h' => ⟨h, h'⟩⟩
theorem Nam.congr {n : Int} {es : List (Int × Int)} {f g : Int → Int} (F : Nam n es f) (hE : ∀ e ∈ es, 0 ≤ e.1 ∧ e.1 < n ∧ 0 ≤ e.2 ∧ e.2 < n) (h : ∀ p, 0 ≤ p → p < n → f p = g p) : Nam n es g :=
  ⟨fun p p0 p1 => by rw [← h p p0 p1]; exact F.conn p p0 p1, fun e he => by
    have := hE e he
    rw [← h _ this.1 this.2.1, ← h _ this.2.2.1 this.2.2.2]; exact F.same e he, fun p p0 p1 => by rw [← h p p0 p1]; exact F.rng p p0 p1⟩
theorem Nam.put {n : Int} {es : List (Int × Int)} {f : Int → Int} {e : Int × Int} (F : Nam n es f) (b : 0 ≤ e.1 ∧ e.1 < n ∧ 0 ≤ e.2 ∧ e.2 < n) : Nam n (es ++ [e]) (fun p => if f p = f e.2 then f e.1 else f p) := by
  have up : ∀ {x y : Int}, Cn es x y → Cn (es ++ [e]) x y := fun c => c.mono fun a ha => List.mem_append_left _ ha
  have me : e ∈ es ++ [e] := List.mem_append_right _ (List.mem_singleton.mpr rfl)
  refine ⟨fun p p0 p1 => ?_, fun a ha => ?_, fun p p0 p1 => ?_⟩
  · have cp := up (F.conn p p0 p1)
    by_cases h : f p = f e.2
    · try dsimp only
      rw [if_pos h]
      rw [h] at cp
      exact cp.trans ((up (F.conn e.2 b.2.2.1 b.2.2.2)).symm.trans ((Cn.eit me).trans (up (F.conn e.1 b.1 b.2.1))))
    · try dsimp only
      rw [if_neg h]; exact cp
  · rcases List.mem_append.mp ha with y | y
    · try dsimp only
      rw [F.same a y]
    · have ea : a = e := List.mem_singleton.mp y
      subst ea
      try dsimp only
      rw [if_pos rfl]; split
      · rfl
      · rfl
  · try dsimp only
    split
    · exact F.rng _ b.1 b.2.1
    · exact F.rng p p0 p1
noncomputable def inF (es : List (Int × Int)) (i : Nat) : Bool := @decide (¬ Cn (es.take i) (es.getD i (0, 0)).1 (es.getD i (0, 0)).2) (Classical.propDecidable _)
theorem inF_iff {es : List (Int × Int)} {i : Nat} : inF es i = true ↔ ¬ Cn (es.take i) (es.getD i (0, 0)).1 (es.getD i (0, 0)).2 := by
  unfold inF; exact @decide_eq_true_iff _ (Classical.propDecidable _)
noncomputable def frN (es : List (Int × Int)) (n : Nat) : List Int := ((List.range n).filter fun i => inF es i).map fun (i : Nat) => (i : Int)
noncomputable def frst (es : List (Int × Int)) : List Int := frN es es.length
theorem frN_succ (es : List (Int × Int)) (n : Nat) : frN es (n + 1) = frN es n ++ (if inF es n = true then [(n : Int)] else []) := by
  unfold frN
  rw [List.range_succ, List.filter_append, List.map_append]
  by_cases h : inF es n = true
  · rw [if_pos h, List.filter_cons_of_pos h]; rfl
  · rw [if_neg h, List.filter_cons_of_neg h]; rfl
theorem mem_frN {es : List (Int × Int)} {n : Nat} {t : Int} : t ∈ frN es n ↔ 0 ≤ t ∧ t < n ∧ inF es t.toNat = true := by
  unfold frN
  rw [List.mem_map]
  constructor
  · rintro ⟨m, hm, rfl⟩
    rw [List.mem_filter, List.mem_range] at hm
    exact ⟨by omega, by omega, hm.2⟩
  · rintro ⟨h0, h1, h2⟩
    exact ⟨t.toNat, List.mem_filter.mpr ⟨List.mem_range.mpr (by omega), h2⟩, by omega⟩
def upto (n : Nat) : List Int := (List.range n).map fun (i : Nat) => (i : Int)
def oth (n : Nat) (t : Int) : List Int := (upto n).filter fun z => decide (z ≠ t)
theorem upto_succ (n : Nat) : upto (n + 1) = upto n ++ [(n : Int)] := by unfold upto; rw [List.range_succ, List.map_append]; rfl
theorem upto_len (n : Nat) : (upto n).length = n := by unfold upto; rw [List.length_map, List.length_range]
theorem upto_get {n i : Nat} (h : i < n) : (upto n)[i]? = some (i : Int) := by unfold upto; rw [List.getElem?_map, List.getElem?_range h]; rfl
theorem mem_upto {n : Nat} {t : Int} : t ∈ upto n ↔ 0 ≤ t ∧ t < n := by
  unfold upto
  rw [List.mem_map]
  constructor
  · rintro ⟨m, hm, rfl⟩
    rw [List.mem_range] at hm
    omega
  · rintro ⟨h0, h1⟩
    exact ⟨t.toNat, List.mem_range.mpr (by omega), by omega⟩
noncomputable def fre (es : List (Int × Int)) : List Int := (upto es.length).filter fun z => !((frst es).any (· == z))
end L2
namespace L2
open PySem PySem.Spec PyProof.Rows
theorem Vals.intsAre : ∀ {ns : List Int} {us : List Value}, Vals (ns.map V.int) us → IntsAre us ns
  | [], _, .nil => .nil
  | _ :: _, _, .cons r t => by obtain ⟨k, rfl⟩ := r; exact .cons _ _ (Vals.intsAre t)
theorem IntsAre.vals : ∀ {ns : List Int} {us : List Value}, IntsAre us ns → Vals (ns.map V.int) us
  | _, _, .nil => .nil
  | _, _, .cons _ _ t => .cons ⟨_, rfl⟩ (IntsAre.vals t)
section
variable {X : Cx} {K : PySem.W.Frag}
end
theorem sorted_uniq : ∀ {a b : List Int}, a.Perm b → a.Pairwise (· ≤ ·) → b.Pairwise (· ≤ ·) → a = b := fun h ha hb => h.eq_of_pairwise (le := (· ≤ ·)) (fun _ _ _ _ x y => Int.le_antisymm x y) ha hb
end L2
namespace L2
open PySem PySem.Spec PyProof.Rows
def lf (ls : List Int) (p : Int) : Int := ls.getD p.toNat 0
theorem lf_range (n : Nat) (p : Int) (p0 : 0 ≤ p) (p1 : p < n) : lf ((List.range n).map fun i => 0 + ((i : Nat) : Int)) p = p := by
  unfold lf
  rw [List.getD_eq_getElem?_getD, List.getElem?_map, List.getElem?_range (by omega)]
  show 0 + ((p.toNat : Nat) : Int) = p
  omega
theorem lf_map (ls : List Int) (g : Int → Int) (p : Int) (p0 : 0 ≤ p) (p1 : p < ls.length) : lf (ls.map g) p = g (lf ls p) := by
  unfold lf
  rw [List.getD_eq_getElem?_getD, List.getElem?_map, List.getD_eq_getElem?_getD, List.getElem?_eq_getElem (show p.toNat < ls.length by omega)]; rfl
theorem none_back {H0 H' : Hp} {l : Addr} (s : Same H0 H') (n : H' l = none) : H0 l = none := by
  cases e : H0 l with
  | none => rfl
  | some o => have := s _ _ e; rw [n] at this; cases this
theorem tie_get {K : PySem.W.Frag} {H : Hp} {ys : List V} {es : List (Int × Int)} {t : Int} (hp : Pairs K H ys es) (h0 : 0 ≤ t) (h1 : t < (es.length : Int)) : ∃ r, atI ys t = some (.ref r) ∧ SqT K H r [.int (tieOf es t).1, .int (tieOf es t).2] ∧ tieOf es t ∈ es := by
  have hi : t.toNat < es.length := by omega
  obtain ⟨r, e, er, hr, ei, he⟩ := hp.get hi
  have e0 : tieOf es t = e := by unfold tieOf; rw [List.getD_eq_getElem?_getD, ei]; rfl
  rw [e0]
  exact ⟨r, atI_int h0 er, hr, he⟩
theorem Nam.start (n : Nat) (m : Int) (h : m.toNat = n) : Nam m [] (lf ((List.range n).map fun i => 0 + ((i : Nat) : Int))) := (Nam.nil m).congr (fun e he => (nomatch he)) fun p p0 p1 => (lf_range n p p0 (by omega)).symm
def dT (es : List (Int × Int)) : PyData := .tuple (es.map dP)
end L2
namespace L2
open PySem
def dp (p : Int) (es : List (Int × Int)) (fs : List Int) : Nat → Int
  | 0 => 0
  | i + 1 => dp p es fs i + (if (es.getD i (0, 0)).2 = p then fs.getD i 0 else 0) - (if (es.getD i (0, 0)).1 = p then fs.getD i 0 else 0)
theorem dp_step {es : List (Int × Int)} {fs zs : List Int} {n i : Nat} {e : Int × Int} (hz : zs.length = n) (hi : es[i]? = some e) (b1 : 0 ≤ e.1) (b2 : e.1 < (n : Int)) (b3 : 0 ≤ e.2) (b4 : e.2 < (n : Int)) (h : ∀ p : Nat, p < n → zs.getD p 0 = dp p es fs i) (p : Nat) (hp : p < n) :
    ((zs.set e.1.toNat (zs.getD e.1.toNat 0 - fs.getD i 0)).set e.2.toNat ((zs.set e.1.toNat (zs.getD e.1.toNat 0 - fs.getD i 0)).getD e.2.toNat 0 + fs.getD i 0)).getD p 0 = dp p es fs (i + 1) := by
  have hE : es.getD i (0, 0) = e := by rw [List.getD_eq_getElem?_getD, hi]; rfl
  have h0 := h p hp
  rw [getD_set (by rw [List.length_set]; omega), getD_set (by omega), getD_set (by omega)]
  show _ = dp p es fs i + _ - _
  rw [hE, ← h0]
  generalize fs.getD i 0 = a
  have t1 : e.1.toNat = p ↔ e.1 = (p : Int) := by omega
  have t2 : e.2.toNat = p ↔ e.2 = (p : Int) := by omega
  by_cases c2 : e.2 = (p : Int)
  · rw [if_pos (t2.mpr c2), if_pos c2, t2.mpr c2]
    by_cases c1 : e.1 = (p : Int)
    · rw [if_pos (t1.mpr c1), if_pos c1, t1.mpr c1]; omega
    · rw [if_neg (fun z => c1 (t1.mp z)), if_neg c1]; omega
  · rw [if_neg (fun z => c2 (t2.mp z)), if_neg c2]
    by_cases c1 : e.1 = (p : Int)
    · rw [if_pos (t1.mpr c1), if_pos c1, t1.mpr c1]; omega
    · rw [if_neg (fun z => c1 (t1.mp z)), if_neg c1]; omega
def memI (ps : List Int) (z : Int) : Bool := ps.any (· == z)
def ac (ps : List Int) (es : List (Int × Int)) (fs : List Int) : Nat → Int
  | 0 => 0
  | i + 1 => ac ps es fs i + (if (memI ps (es.getD i (0, 0)).1 && !memI ps (es.getD i (0, 0)).2) = true then fs.getD i 0 else 0) - (if (memI ps (es.getD i (0, 0)).2 && !memI ps (es.getD i (0, 0)).1) = true then fs.getD i 0 else 0)
theorem getD_map0 (z : Int) (fs : List Int) (n : Nat) : (fs.map (z * ·)).getD n 0 = z * fs.getD n 0 := by
  rw [List.getD_eq_getElem?_getD, List.getElem?_map, List.getD_eq_getElem?_getD]
  cases fs[n]? with
  | none => exact (Int.mul_zero z).symm
  | some v => rfl
theorem dp_map (p z : Int) (es : List (Int × Int)) (fs : List Int) : ∀ n, dp p es (fs.map (z * ·)) n = z * dp p es fs n
  | 0 => (Int.mul_zero z).symm
  | n + 1 => by
    show dp p es (fs.map (z * ·)) n + _ - _ = z * (dp p es fs n + _ - _)
    rw [dp_map p z es fs n, getD_map0, Int.mul_sub, Int.mul_add]
    by_cases c1 : (es.getD n (0, 0)).2 = p <;> by_cases c2 : (es.getD n (0, 0)).1 = p <;> simp only [c1, c2, if_true, if_false, Int.mul_zero]
theorem getD_zip (fs gs : List Int) (h : fs.length = gs.length) (n : Nat) : (List.zipWith (· + ·) fs gs).getD n 0 = fs.getD n 0 + gs.getD n 0 := by
  rw [List.getD_eq_getElem?_getD, List.getElem?_zipWith, List.getD_eq_getElem?_getD, List.getD_eq_getElem?_getD]
  by_cases hn : n < fs.length
  · rw [List.getElem?_eq_getElem hn, List.getElem?_eq_getElem (show n < gs.length by omega)]; rfl
  · rw [List.getElem?_eq_none (by omega), List.getElem?_eq_none (show gs.length ≤ n by omega)]; rfl
theorem dp_zip (p : Int) (es : List (Int × Int)) (fs gs : List Int) (h : fs.length = gs.length) : ∀ n, dp p es (List.zipWith (· + ·) fs gs) n = dp p es fs n + dp p es gs n
  | 0 => rfl
  | n + 1 => by
    show dp p es (List.zipWith (· + ·) fs gs) n + _ - _ = (dp p es fs n + _ - _) + (dp p es gs n + _ - _)
    rw [dp_zip p es fs gs h n, getD_zip fs gs h]
    by_cases c1 : (es.getD n (0, 0)).2 = p <;> by_cases c2 : (es.getD n (0, 0)).1 = p <;> simp only [c1, c2, if_true, if_false] <;> omega
theorem sum_pick (a z : Int) : ∀ ps : List Int, ps.Nodup → (ps.map fun p => if z = p then a else 0).sum = if memI ps z = true then a else 0
  | [], _ => rfl
  | p :: ps, h => by
    rw [List.nodup_cons] at h
    rw [List.map_cons, List.sum_cons, sum_pick a z ps h.2]
    show _ = if ((p == z) || memI ps z) = true then a else 0
    by_cases c : z = p
    · subst c
      have hn : memI ps z = false := by
        unfold memI
        rw [List.any_eq_false]
        intro y hy e
        rw [beq_iff_eq] at e
        exact h.1 (e ▸ hy)
      rw [hn, if_pos rfl, beq_self_eq_true]; simp
    · have hb : (p == z) = false := by rw [beq_eq_false_iff_ne]; exact fun e => c e.symm
      rw [if_neg c, hb, Bool.false_or, Int.zero_add]
theorem sum_three (A B C : Int → Int) : ∀ ps : List Int, (ps.map fun p => A p + B p - C p).sum = (ps.map A).sum + (ps.map B).sum - (ps.map C).sum
  | [] => rfl
  | p :: ps => by
    rw [List.map_cons, List.sum_cons, sum_three A B C ps, List.map_cons, List.map_cons, List.map_cons, List.sum_cons, List.sum_cons, List.sum_cons]; omega
theorem ac_dp (ps : List Int) (hN : ps.Nodup) (es : List (Int × Int)) (fs : List Int) : ∀ n, ac ps es fs n = -(ps.map fun p => dp p es fs n).sum
  | 0 => by
    have : ∀ ps : List Int, (ps.map fun _ => (0 : Int)).sum = 0 := fun ps => by
      induction ps with
      | nil => rfl
      | cons p ps ih => rw [List.map_cons, List.sum_cons, ih]; rfl
    show (0 : Int) = -(ps.map fun _ => (0 : Int)).sum
    rw [this]; rfl
  | n + 1 => by
    have e := sum_three (fun p => dp p es fs n) (fun p => if (es.getD n (0, 0)).2 = p then fs.getD n 0 else 0) (fun p => if (es.getD n (0, 0)).1 = p then fs.getD n 0 else 0) ps
    rw [sum_pick _ _ _ hN, sum_pick _ _ _ hN] at e
    show ac ps es fs n + _ - _ = -(ps.map fun p => dp p es fs n + (if (es.getD n (0, 0)).2 = p then fs.getD n 0 else 0) - (if (es.getD n (0, 0)).1 = p then fs.getD n 0 else 0)).sum
    rw [e, ac_dp ps hN es fs n]
    cases memI ps (es.getD n (0, 0)).1 <;> cases memI ps (es.getD n (0, 0)).2 <;> simp <;> omega
theorem ac_zero {ps : List Int} (hN : ps.Nodup) {es : List (Int × Int)} {fs : List Int} {n : Nat} (h : ∀ p : Int, dp p es fs n = 0) : ac ps es fs n = 0 := by
  rw [ac_dp ps hN es fs n]
  have : ∀ ps : List Int, (ps.map fun p => dp p es fs n).sum = 0 := fun ps => by
    induction ps with
    | nil => rfl
    | cons p ps ih => rw [List.map_cons, List.sum_cons, ih, h]; rfl
  rw [this]; rfl
theorem getDi_set (fs : List Int) (i n : Nat) (v : Int) (h : i < fs.length) : (fs.set i v).getD n 0 = if i = n then v else fs.getD n 0 := by
  rw [List.getD_eq_getElem?_getD, List.getElem?_set, List.getD_eq_getElem?_getD]
  by_cases c : i = n
  · rw [if_pos c, if_pos c, if_pos h]; rfl
  · rw [if_neg c, if_neg c]
theorem dp_set (p : Int) (es : List (Int × Int)) (fs : List Int) (k : Nat) (v : Int) (hk : k < fs.length) : ∀ n, dp p es (fs.set k v) n = dp p es fs n + (if k < n then (if (es.getD k (0, 0)).2 = p then v - fs.getD k 0 else 0) - (if (es.getD k (0, 0)).1 = p then v - fs.getD k 0 else 0) else 0)
  | 0 => by show (0 : Int) = 0 + _; rw [if_neg (Nat.not_lt_zero _)]; rfl
  | n + 1 => by
    show dp p es (fs.set k v) n + _ - _ = dp p es fs n + _ - _ + _
    rw [dp_set p es fs k v hk n, getDi_set fs k n v hk]
    by_cases c : k = n
    · subst c
      rw [if_neg (Nat.lt_irrefl _), if_pos rfl, if_pos (Nat.lt_succ_self _)]
      by_cases c1 : (es.getD k (0, 0)).2 = p <;> by_cases c2 : (es.getD k (0, 0)).1 = p <;> simp only [c1, c2, if_true, if_false] <;> omega
    · rw [if_neg c]
      by_cases c3 : k < n
      · rw [if_pos c3, if_pos (show k < n + 1 by omega)]; omega
      · rw [if_neg c3, if_neg (show ¬ k < n + 1 by omega)]; omega
theorem dp_nil (p : Int) (es : List (Int × Int)) (k : Nat) : ∀ n, dp p es (List.replicate k 0) n = 0
  | 0 => rfl
  | n + 1 => by
    show dp p es (List.replicate k 0) n + _ - _ = 0
    have e : (List.replicate k (0 : Int)).getD n 0 = 0 := by
      rw [List.getD_eq_getElem?_getD, List.getElem?_replicate]; split <;> rfl
    rw [dp_nil p es k n, e]; simp
theorem lab_ex {m : Int} : ∀ {es : List (Int × Int)}, (∀ e ∈ es, 0 ≤ e.1 ∧ e.1 < m ∧ 0 ≤ e.2 ∧ e.2 < m) → ∀ n, ∃ f, Lab m (es.take n) f
  | es, hE, 0 => ⟨_, Lab.nil m⟩
  | es, hE, n + 1 => by
    obtain ⟨f, F⟩ := lab_ex hE n
    rw [List.take_add_one]
    cases h : es[n]? with
    | none => exact ⟨f, by simpa using F⟩
    | some e => exact ⟨_, F.merge (hE e (List.mem_of_getElem? h))⟩
theorem memI_iff {ps : List Int} {z : Int} : memI ps z = true ↔ z ∈ ps := by
  unfold memI
  rw [List.any_eq_true]
  constructor
  · rintro ⟨x, hx, e⟩; rw [← beq_iff_eq.mp e]; exact hx
  · exact fun h => ⟨z, h, beq_iff_eq.mpr rfl⟩
theorem grp_nd (n : Nat) (f : Int → Int) (r : Int) : (grp n f r).Nodup := by
  unfold grp
  rw [List.nodup_iff_pairwise_ne, List.pairwise_map]
  exact (List.Pairwise.filter _ List.pairwise_lt_range).imp fun h z => by omega
theorem flow_zero {m : Int} {es : List (Int × Int)} {fs : List Int} (hE : ∀ e ∈ es, 0 ≤ e.1 ∧ e.1 < m ∧ 0 ≤ e.2 ∧ e.2 < m) (hd : ∀ p : Int, dp p es fs es.length = 0) (h0 : ∀ t, t < es.length → ¬ inF es t = true → fs.getD t 0 = 0) : ∀ t, t < es.length → fs.getD t 0 = 0 := by
  have key : ∀ k t, t < es.length → es.length ≤ t + k → fs.getD t 0 = 0 := by
    intro k
    induction k with
    | zero => intro t ht h; omega
    | succ k ih =>
      intro t ht h
      by_cases hF : inF es t = true
      · obtain ⟨f, F⟩ := lab_ex hE t
        have hg : es[t]? = some (es.getD t (0, 0)) := by rw [List.getD_eq_getElem?_getD, List.getElem?_eq_getElem ht]; rfl
        obtain ⟨b1, b2, b3, b4⟩ := hE _ (List.mem_of_getElem? hg)
        have hne : ¬ f (es.getD t (0, 0)).1 = f (es.getD t (0, 0)).2 := fun z => inF_iff.mp hF ((F.iff b1 b2 b3 b4).mp z)
        have hz := ac_zero (grp_nd m.toNat f (f (es.getD t (0, 0)).1)) hd
        have hmem : ∀ z : Int, 0 ≤ z → z < m → memI (grp m.toNat f (f (es.getD t (0, 0)).1)) z = decide (f z = f (es.getD t (0, 0)).1) := fun z z0 z1 => by
          rw [Bool.eq_iff_iff, memI_iff, mem_grp, decide_eq_true_iff]
          exact ⟨fun h => h.2.2, fun h => ⟨z0, by omega, h⟩⟩
        have st : ∀ n, n ≤ es.length → ac (grp m.toNat f (f (es.getD t (0, 0)).1)) es fs n = if t < n then fs.getD t 0 else 0 := by
          intro n
          induction n with
          | zero => intro _; rw [if_neg (Nat.not_lt_zero _)]; rfl
          | succ n ihn =>
            intro hn
            show ac _ es fs n + _ - _ = _
            rw [ihn (by omega)]
            have hgn : es[n]? = some (es.getD n (0, 0)) := by rw [List.getD_eq_getElem?_getD, List.getElem?_eq_getElem (show n < es.length by omega)]; rfl
            obtain ⟨d1, d2, d3, d4⟩ := hE _ (List.mem_of_getElem? hgn)
            rw [hmem _ d1 d2, hmem _ d3 d4]
            by_cases c : n < t
            · have es1 : f (es.getD n (0, 0)).1 = f (es.getD n (0, 0)).2 := F.same _ (List.mem_take_iff_getElem.mpr ⟨n, by omega, by rw [List.getD_eq_getElem?_getD, List.getElem?_eq_getElem (show n < es.length by omega)]; rfl⟩)
              rw [es1, if_neg (show ¬ t < n by omega), if_neg (show ¬ t < n + 1 by omega)]
              cases decide (f (es.getD n (0, 0)).2 = f (es.getD t (0, 0)).1) <;> simp
            · by_cases c2 : n = t
              · subst c2
                rw [decide_eq_true rfl, decide_eq_false (fun z => hne z.symm), if_neg (Nat.lt_irrefl _), if_pos (Nat.lt_succ_self _)]; simp
              · have hzn : fs.getD n 0 = 0 := ih n (by omega) (by omega)
                rw [if_pos (show t < n by omega), if_pos (show t < n + 1 by omega), hzn]; simp
        rw [st es.length (Nat.le_refl _), if_pos ht] at hz
        exact hz
      · exact h0 t ht hF
  exact fun t ht => key es.length t ht (by omega)
theorem flow_uniq {m : Int} {es : List (Int × Int)} {fs gs : List Int} (hE : ∀ e ∈ es, 0 ≤ e.1 ∧ e.1 < m ∧ 0 ≤ e.2 ∧ e.2 < m) (h1 : fs.length = es.length) (h2 : gs.length = es.length) (hf : ∀ p : Int, dp p es fs es.length = 0) (hg : ∀ p : Int, dp p es gs es.length = 0) (h0 : ∀ t, t < es.length → ¬ inF es t = true → fs.getD t 0 = gs.getD t 0) : fs = gs := by
  have hz := flow_zero (fs := List.zipWith (· + ·) fs (gs.map ((-1) * ·))) hE (fun p => by rw [dp_zip p es _ _ (by rw [List.length_map]; omega), dp_map, hf p, hg p]; rfl) fun t ht hn => by
    rw [getD_zip _ _ (by rw [List.length_map]; omega), getD_map0, h0 t ht hn]; omega
  apply List.ext_getElem (by omega)
  intro t ht1 ht2
  have := hz t (by omega)
  rw [getD_zip _ _ (by rw [List.length_map]; omega), getD_map0, List.getD_eq_getElem?_getD, List.getElem?_eq_getElem ht1, List.getD_eq_getElem?_getD, List.getElem?_eq_getElem ht2] at this
  have e : fs[t] + -1 * gs[t] = 0 := this
  omega
theorem frst_cn (es : List (Int × Int)) : ∀ n, n ≤ es.length → ∀ {a b : Int}, Cn (es.take n) a b → Cn (sub es (frN es n)) a b
  | 0, _, _, _, h => h.mono fun e he => (by simp at he)
  | n + 1, hn, a, b, h => by
    have ih : ∀ {a b : Int}, Cn (es.take n) a b → Cn (sub es (frN es (n + 1))) a b := fun h => (frst_cn es n (by omega) h).mono fun e he => by
      rw [frN_succ]; unfold sub at *; rw [List.map_append]; exact List.mem_append_left _ he
    have hg : es[n]? = some (es.getD n (0, 0)) := by rw [List.getD_eq_getElem?_getD, List.getElem?_eq_getElem (show n < es.length by omega)]; rfl
    refine Cn.map (g := id) (fun e he => ?_) h
    rw [List.take_add_one, hg] at he
    rcases List.mem_append.mp he with y | y
    · exact ih (Cn.tie y)
    · have ee : e = es.getD n (0, 0) := by simpa using y
      subst ee
      by_cases c : inF es n = true
      · refine Cn.tie ?_
        rw [frN_succ, if_pos c]
        unfold sub
        rw [List.map_append]
        exact List.mem_append_right _ (List.mem_singleton.mpr rfl)
      · exact ih (Classical.byContradiction fun z => c (inF_iff.mpr z))
def cur (es : List (Int × Int)) (a : Int) (ts : List Int) : Int := ts.foldl (fun p t => far (tieOf es t) p) a
theorem cur_snoc (es : List (Int × Int)) (a : Int) (ts : List Int) (t : Int) : cur es a (ts ++ [t]) = far (tieOf es t) (cur es a ts) := by unfold cur; rw [List.foldl_append]; rfl
theorem Way.cur {es : List (Int × Int)} {ss ts ps : List Int} {a p : Int} (h : Way es ss a ts ps p) : L2.cur es a ts = p := by
  induction h with
  | nil => rfl
  | snoc _ _ _ _ _ _ ih => rw [cur_snoc, ih]
theorem Way.step {es : List (Int × Int)} {ss ts ps : List Int} {a p : Int} (h : Way es ss a ts ps p) : ∀ i t, ts[i]? = some t → (tieOf es t).1 = L2.cur es a (ts.take i) ∨ (tieOf es t).2 = L2.cur es a (ts.take i) := by
  induction h with
  | nil => intro i t e; simp at e
  | @snoc ts ps p t h _ _ _ hp _ ih =>
    intro i t' e
    by_cases c : i < ts.length
    · rw [List.getElem?_append_left c] at e
      rw [List.take_append_of_le_length (by omega)]
      exact ih i t' e
    · have hi : i = ts.length := by
        have := (List.getElem?_eq_some_iff.mp e).1
        rw [List.length_append] at this
        have e1 : [t].length = 1 := rfl
        omega
      subst hi
      rw [List.getElem?_append_right (Nat.le_refl _), Nat.sub_self] at e
      have et : t = t' := by simpa using e
      rw [List.take_left, h.cur, ← et]
      exact hp
end L2
namespace L2
open PySem PySem.Spec PyProof.Rows
section
variable {X : Cx}
end
end L2
namespace L2
open PySem PySem.Spec PyProof.Rows
section
variable {X : Cx}
theorem op_fdivB : OpR X (binaryOp .FloorDiv) (rI (fun _ j => 0 < j ∧ j < 2 ^ 200) fun i j => .int (i / j)) := opI fun i j _ _ _ _ _ hc q => by
  have h1 : (0 : Int) < j := hc.1
  have h2 : j < 2 ^ 200 := hc.2
  have h3 : j.natAbs ≠ 0 := by omega
  have h4 : j.natAbs < 2 ^ 200 := by omega
  exact floordiv_int (by omega) (by rw [Int.fdiv_eq_ediv_of_nonneg i (by omega)]; exact q) (.inl (PyProof.noPylong_of_log2 (Nat.lt_of_lt_of_le ((Nat.log2_lt h3).mpr h4) (by decide))))
end
theorem flow_dvd {m k : Int} {es : List (Int × Int)} {fs : List Int} (hE : ∀ e ∈ es, 0 ≤ e.1 ∧ e.1 < m ∧ 0 ≤ e.2 ∧ e.2 < m) (hd : ∀ p : Int, dp p es fs es.length = 0) (h0 : ∀ t, t < es.length → ¬ inF es t = true → k ∣ fs.getD t 0) : ∀ t, t < es.length → k ∣ fs.getD t 0 := by
  have key : ∀ n t, t < es.length → es.length ≤ t + n → k ∣ fs.getD t 0 := by
    intro n
    induction n with
    | zero => intro t ht h; omega
    | succ n ih =>
      intro t ht h
      by_cases hF : inF es t = true
      · obtain ⟨f, F⟩ := lab_ex hE t
        have hg : es[t]? = some (es.getD t (0, 0)) := by rw [List.getD_eq_getElem?_getD, List.getElem?_eq_getElem ht]; rfl
        obtain ⟨b1, b2, b3, b4⟩ := hE _ (List.mem_of_getElem? hg)
        have hne : ¬ f (es.getD t (0, 0)).1 = f (es.getD t (0, 0)).2 := fun z => inF_iff.mp hF ((F.iff b1 b2 b3 b4).mp z)
        have hz := ac_zero (grp_nd m.toNat f (f (es.getD t (0, 0)).1)) hd
        have hmem : ∀ z : Int, 0 ≤ z → z < m → memI (grp m.toNat f (f (es.getD t (0, 0)).1)) z = decide (f z = f (es.getD t (0, 0)).1) := fun z z0 z1 => by
          rw [Bool.eq_iff_iff, memI_iff, mem_grp, decide_eq_true_iff]
          exact ⟨fun h => h.2.2, fun h => ⟨z0, by omega, h⟩⟩
        have st : ∀ j, j ≤ es.length → k ∣ (ac (grp m.toNat f (f (es.getD t (0, 0)).1)) es fs j - if t < j then fs.getD t 0 else 0) := by
          intro j
          induction j with
          | zero => intro _; rw [if_neg (Nat.not_lt_zero _)]; exact ⟨0, by rw [Int.mul_zero]; rfl⟩
          | succ j ihj =>
            intro hj
            have ih1 := ihj (by omega)
            show k ∣ (ac _ es fs j + _ - _ - _)
            have hgn : es[j]? = some (es.getD j (0, 0)) := by rw [List.getD_eq_getElem?_getD, List.getElem?_eq_getElem (show j < es.length by omega)]; rfl
            obtain ⟨d1, d2, d3, d4⟩ := hE _ (List.mem_of_getElem? hgn)
            rw [hmem _ d1 d2, hmem _ d3 d4]
            by_cases c : j < t
            · have es1 : f (es.getD j (0, 0)).1 = f (es.getD j (0, 0)).2 := F.same _ (List.mem_take_iff_getElem.mpr ⟨j, by omega, by rw [List.getD_eq_getElem?_getD, List.getElem?_eq_getElem (show j < es.length by omega)]; rfl⟩)
              rw [es1, if_neg (show ¬ t < j + 1 by omega)]
              rw [if_neg (show ¬ t < j by omega)] at ih1
              cases decide (f (es.getD j (0, 0)).2 = f (es.getD t (0, 0)).1) <;> simpa using ih1
            · by_cases c2 : j = t
              · subst c2
                rw [decide_eq_true rfl, decide_eq_false (fun z => hne z.symm), if_pos (Nat.lt_succ_self _)]
                rw [if_neg (Nat.lt_irrefl _)] at ih1
                have e : ∀ A B : Int, A + (if (true && !false) = true then B else 0) - (if (false && !true) = true then B else 0) - B = A - 0 := fun A B => by simp
                rw [e]; exact ih1
              · obtain ⟨u, hu⟩ : k ∣ fs.getD j 0 := ih j (by omega) (by omega)
                rw [if_pos (show t < j + 1 by omega)]
                rw [if_pos (show t < j by omega)] at ih1
                obtain ⟨v, hv⟩ := ih1
                have e : ∀ (x y : Bool) (A B C : Int), A + (if (x && !y) = true then C else 0) - (if (y && !x) = true then C else 0) - B = (A - B) + C * ((if x = true then 1 else 0) - (if y = true then 1 else 0)) := fun x y A B C => by
                  cases x <;> cases y <;> simp <;> omega
                rw [hu, e, hv, Int.mul_assoc, ← Int.mul_add]
                exact ⟨_, rfl⟩
        have := st es.length (Nat.le_refl _)
        rw [if_pos ht, hz] at this
        obtain ⟨v, hv⟩ := this
        exact ⟨-v, by rw [Int.mul_neg]; omega⟩
      · exact h0 t ht hF
  exact fun t ht => key es.length t ht (by omega)
theorem fre_iff {es : List (Int × Int)} {k : Nat} (hk : k < es.length) : (k : Int) ∈ fre es ↔ ¬ inF es k = true := by
  unfold fre
  rw [List.mem_filter, mem_upto]
  have : (frst es).any (· == (k : Int)) = true ↔ inF es k = true := by
    rw [show (frst es).any (· == (k : Int)) = memI (frst es) (k : Int) from rfl, memI_iff]
    unfold frst
    rw [mem_frN]
    exact ⟨fun h => h.2.2, fun h => ⟨by omega, by omega, h⟩⟩
  constructor
  · rintro ⟨_, h⟩ z
    rw [this.mpr z] at h; cases h
  · intro h
    refine ⟨⟨by omega, by omega⟩, ?_⟩
    rw [Bool.eq_false_iff.mpr fun z => h (this.mp z)]; rfl
theorem fre_len (es : List (Int × Int)) : (fre es).length ≤ es.length := Nat.le_trans (List.length_filter_le _ _) (by rw [upto_len]; exact Nat.le_refl _)
theorem mem_fre {es : List (Int × Int)} {t : Int} (h : t ∈ fre es) : 0 ≤ t ∧ t < (es.length : Int) := mem_upto.mp (List.mem_filter.mp h).1
def FW (es : List (Int × Int)) (vs fs : List Int) : Prop := fs.length = es.length ∧ (∀ p : Int, dp p es fs es.length = 0) ∧ ∀ j, j < (fre es).length → fs.getD ((fre es).getD j 0).toNat 0 = vs.getD j 0
theorem fre_at {es : List (Int × Int)} {t : Nat} (ht : t < es.length) (hn : ¬ inF es t = true) : ∃ j, j < (fre es).length ∧ (fre es).getD j 0 = (t : Int) := by
  obtain ⟨j, hj, e⟩ := List.mem_iff_getElem.mp ((fre_iff ht).mpr hn)
  exact ⟨j, hj, by rw [List.getD_eq_getElem?_getD, List.getElem?_eq_getElem hj]; exact e⟩
theorem FW.uniq {m : Int} {es : List (Int × Int)} {vs fs gs : List Int} (hE : ∀ e ∈ es, 0 ≤ e.1 ∧ e.1 < m ∧ 0 ≤ e.2 ∧ e.2 < m) (hf : FW es vs fs) (hg : FW es vs gs) : fs = gs := flow_uniq hE hf.1 hg.1 hf.2.1 hg.2.1 fun t ht hn => by
  obtain ⟨j, hj, e⟩ := fre_at ht hn
  have h1 := hf.2.2 j hj
  have h2 := hg.2.2 j hj
  rw [e, show ((t : Nat) : Int).toNat = t by omega] at h1 h2
  rw [h1, h2]
theorem FW.rest {m k : Int} {es : List (Int × Int)} {vs ws fs gs : List Int} (hE : ∀ e ∈ es, 0 ≤ e.1 ∧ e.1 < m ∧ 0 ≤ e.2 ∧ e.2 < m) (hf : FW es vs fs) (hg : FW es ws gs) (h : ∀ j, j < (fre es).length → k ∣ ws.getD j 0 - vs.getD j 0) : (gs.map (· % k)) = (fs.map (· % k)) := by
  have hl : gs.length = (fs.map ((-1) * ·)).length := by rw [List.length_map, hf.1, hg.1]
  have hz := flow_dvd (k := k) (fs := List.zipWith (· + ·) gs (fs.map ((-1) * ·))) hE (fun p => by rw [dp_zip p es _ _ hl, dp_map, hf.2.1 p, hg.2.1 p]; rfl) fun t ht hn => by
    obtain ⟨j, hj, e⟩ := fre_at ht hn
    have h1 := hf.2.2 j hj
    have h2 := hg.2.2 j hj
    rw [e, show ((t : Nat) : Int).toNat = t by omega] at h1 h2
    rw [getD_zip _ _ hl, getD_map0, h1, h2, show ws.getD j 0 + -1 * vs.getD j 0 = ws.getD j 0 - vs.getD j 0 by omega]
    exact h j hj
  apply List.ext_getElem (by rw [List.length_map, List.length_map, hf.1, hg.1])
  intro t h1 h2
  rw [List.length_map] at h1 h2
  rw [List.getElem_map, List.getElem_map]
  have hg1 := hg.1
  obtain ⟨u, hu⟩ := hz t (by omega)
  rw [getD_zip _ _ hl, getD_map0, List.getD_eq_getElem?_getD, List.getElem?_eq_getElem h1, List.getD_eq_getElem?_getD, List.getElem?_eq_getElem h2] at hu
  have hu' : gs[t] + -1 * fs[t] = k * u := hu
  rw [show gs[t] = fs[t] + k * u by omega, Int.add_mul_emod_self_left]
end L2
namespace L2
end L2
namespace L2
open PySem PySem.Spec PyProof.Rows
section
variable {X : Cx}
end
def Tch (es : List (Int × Int)) (L : List Int) (p : Int) : Prop := ∃ t ∈ L, (tieOf es t).1 = p ∨ (tieOf es t).2 = p
theorem cn_alone {es : List (Int × Int)} {L : List Int} {p q : Int} (h : ¬ Tch es L p) (c : Cn (sub es L) p q) : q = p := by
  have := cn_closed (R := [p]) (List.mem_singleton.mpr rfl) (fun e he r hr hx => by
    obtain ⟨t, ht, rfl⟩ := List.mem_map.mp he
    rw [List.mem_singleton.mp hr] at hx
    exact absurd ⟨t, ht, hx⟩ h) c
  exact List.mem_singleton.mp this
theorem dp_loops {es : List (Int × Int)} {fs : List Int} {p : Int} : ∀ n, (∀ k, k < n → ((es.getD k (0, 0)).1 = p ↔ (es.getD k (0, 0)).2 = p)) → dp p es fs n = 0
  | 0, _ => rfl
  | n + 1, h => by
    show dp p es fs n + _ - _ = 0
    rw [dp_loops n fun k hk => h k (by omega)]
    have := h n (by omega)
    by_cases c : (es.getD n (0, 0)).2 = p
    · rw [if_pos c, if_pos (this.mpr c)]; omega
    · rw [if_neg c, if_neg (fun z => c (this.mp z))]; rfl
structure FlI (m : Int) (es : List (Int × Int)) (as : List Int) (L fs : List Int) : Prop where
  len : fs.length = es.length
  nd : L.Nodup
  fr : ∀ t ∈ L, 0 ≤ t ∧ t < (es.length : Int) ∧ inF es t.toNat = true
  free : ∀ k, k < es.length → ¬ inF es k = true → fs.getD k 0 = as.getD k 0
  nought : ∀ t ∈ L, fs.getD t.toNat 0 = 0
  done : ∀ p, 0 ≤ p → p < m → ¬ Tch es L p → dp p es fs es.length = 0
  held : ∀ p q, Tch es L p → Tch es L q → Cn es p q → Cn (sub es L) p q
theorem frst_nd (es : List (Int × Int)) : (frst es).Nodup := by
  unfold frst frN
  rw [List.nodup_iff_pairwise_ne, List.pairwise_map]
  exact (List.Pairwise.filter _ List.pairwise_lt_range).imp fun h z => by omega
theorem FlI.start {m : Int} {es : List (Int × Int)} {as : List Int} (hl : as.length = es.length) (h0 : ∀ k, k < es.length → inF es k = true → as.getD k 0 = 0) : FlI m es as (frst es) as := by
  have hin : ∀ t ∈ frst es, 0 ≤ t ∧ t < (es.length : Int) ∧ inF es t.toNat = true := fun t ht => mem_frN.mp ht
  have hcn : ∀ {p q : Int}, Cn es p q → Cn (sub es (frst es)) p q := fun {p q} c => frst_cn es es.length (Nat.le_refl _) (by rw [List.take_length]; exact c)
  refine ⟨hl, frst_nd es, hin, fun k _ _ => rfl, fun t ht => h0 _ (by have := hin t ht; omega) (hin t ht).2.2, fun p p0 p1 hp => ?_, fun p q _ _ c => hcn c⟩
  refine dp_loops es.length fun k hk => ?_
  have hm : es.getD k (0, 0) ∈ es := by rw [List.getD_eq_getElem?_getD, List.getElem?_eq_getElem hk]; exact List.getElem_mem hk
  constructor
  · intro e
    have := cn_alone hp (hcn (show Cn es p (es.getD k (0, 0)).2 by rw [← e]; exact Cn.tie hm))
    exact this
  · intro e
    have := cn_alone hp (hcn (show Cn es p (es.getD k (0, 0)).1 by rw [← e]; exact Cn.eit hm))
    exact this
theorem FlI.step {m : Int} {es : List (Int × Int)} {as L fs : List Int} {u t w : Int} (hE : ∀ e ∈ es, 0 ≤ e.1 ∧ e.1 < m ∧ 0 ≤ e.2 ∧ e.2 < m) (I : FlI m es as L fs) (ht : t ∈ L) (hf : L.filter (fun s => atP u (tieOf es s)) = [t])
    (hw : w = if (tieOf es t).1 = u then dp u es fs es.length else -(dp u es fs es.length)) : FlI m es as (L.erase t) (fs.set t.toNat w) := by
  have htF := I.fr t ht
  have htl : t.toNat < fs.length := by rw [I.len]; omega
  have hmt : tieOf es t ∈ es := by unfold tieOf; rw [List.getD_eq_getElem?_getD, List.getElem?_eq_getElem (show t.toNat < es.length by omega)]; exact List.getElem_mem _
  obtain ⟨b1, b2, b3, b4⟩ := hE _ hmt
  have hut : (tieOf es t).1 = u ∨ (tieOf es t).2 = u := by
    have : t ∈ L.filter (fun s => atP u (tieOf es s)) := by rw [hf]; exact List.mem_singleton.mpr rfl
    exact atP_iff.mp (List.mem_filter.mp this).2
  have honly : ∀ s ∈ L, ((tieOf es s).1 = u ∨ (tieOf es s).2 = u) → s = t := fun s hs hx => by
    have : s ∈ L.filter (fun s => atP u (tieOf es s)) := List.mem_filter.mpr ⟨hs, atP_iff.mpr hx⟩
    rw [hf] at this
    exact List.mem_singleton.mp this
  have hne : (tieOf es t).1 ≠ (tieOf es t).2 := fun z => inF_iff.mp htF.2.2 (by
    show Cn _ (tieOf es t).1 (tieOf es t).2
    rw [← z]; exact Cn.refl _)
  obtain ⟨v, hv⟩ : ∃ v, v = far (tieOf es t) u := ⟨_, rfl⟩
  have huv : u ≠ v := by
    rw [hv]; unfold far
    by_cases c : (tieOf es t).1 = u
    · rw [if_pos c, ← c]; exact hne
    · rw [if_neg c]; exact fun z => c z.symm
  have hends : ∀ x, ((tieOf es t).1 = x ∨ (tieOf es t).2 = x) → x = u ∨ x = v := fun x hx => by
    rw [hv]; unfold far
    by_cases c : (tieOf es t).1 = u
    · rw [if_pos c]
      rcases hx with y | y
      · exact .inl (y.symm.trans c)
      · exact .inr y.symm
    · rw [if_neg c]
      have c2 := hut.resolve_left c
      rcases hx with y | y
      · exact .inr y.symm
      · exact .inl (y.symm.trans c2)
  have hcuv : Cn es u v := by rw [hv]; exact far_cn hmt hut
  have hsub : ∀ s ∈ L.erase t, s ∈ L ∧ s ≠ t := fun s hs => ⟨List.mem_of_mem_erase hs, fun z => by
    rw [z] at hs
    exact (List.Nodup.not_mem_erase I.nd) hs⟩
  have hback : ∀ s ∈ L, s ≠ t → s ∈ L.erase t := fun s hs z => (List.mem_erase_of_ne z).mpr hs
  have hnu : ¬ Tch es (L.erase t) u := fun ⟨s, hs, hx⟩ => (hsub s hs).2 (honly s (hsub s hs).1 hx)
  have hdp : ∀ p : Int, dp p es (fs.set t.toNat w) es.length = dp p es fs es.length + ((if (tieOf es t).2 = p then w else 0) - (if (tieOf es t).1 = p then w else 0)) := fun p => by
    rw [dp_set p es fs t.toNat w htl, I.nought t ht, if_pos (show t.toNat < es.length by omega)]
    show _ + ((if (tieOf es t).2 = p then w - 0 else 0) - (if (tieOf es t).1 = p then w - 0 else 0)) = _
    rw [Int.sub_zero]
  have hdu : dp u es (fs.set t.toNat w) es.length = 0 := by
    rw [hdp u, hw]
    by_cases c : (tieOf es t).1 = u
    · rw [if_pos c, if_pos c, if_neg (fun z => hne (c.trans z.symm))]; omega
    · rw [if_neg c, if_neg c, if_pos (hut.resolve_left c)]; omega
  have hother : ∀ p, p ≠ u → p ≠ v → dp p es (fs.set t.toNat w) es.length = dp p es fs es.length := fun p h1 h2 => by
    rw [hdp p, if_neg (fun z => (hends p (.inr z)).elim h1 h2), if_neg (fun z => (hends p (.inl z)).elim h1 h2)]; omega
  have hmap : ∀ {p q : Int}, p ≠ u → q ≠ u → Cn (sub es L) p q → Cn (sub es (L.erase t)) p q := fun {p q} h1 h2 c => by
    have := Cn.map (es' := sub es (L.erase t)) (g := fun x => if x = u then v else x) (fun e he => by
      obtain ⟨s, hs, rfl⟩ := List.mem_map.mp he
      by_cases cs : s = t
      · subst cs
        have e1 : (if (tieOf es s).1 = u then v else (tieOf es s).1) = v := by
          by_cases c : (tieOf es s).1 = u
          · rw [if_pos c]
          · rw [if_neg c]; exact ((hends _ (.inl rfl)).resolve_left c)
        have e2 : (if (tieOf es s).2 = u then v else (tieOf es s).2) = v := by
          by_cases c : (tieOf es s).2 = u
          · rw [if_pos c]
          · rw [if_neg c]; exact ((hends _ (.inr rfl)).resolve_left c)
        show Cn _ (if (tieOf es s).1 = u then v else (tieOf es s).1) (if (tieOf es s).2 = u then v else (tieOf es s).2)
        rw [e1, e2]; exact Cn.refl _
      · have n1 : ¬ (tieOf es s).1 = u := fun z => cs (honly s hs (.inl z))
        have n2 : ¬ (tieOf es s).2 = u := fun z => cs (honly s hs (.inr z))
        show Cn _ (if (tieOf es s).1 = u then v else (tieOf es s).1) (if (tieOf es s).2 = u then v else (tieOf es s).2)
        rw [if_neg n1, if_neg n2]
        exact Cn.tie (List.mem_map.mpr ⟨s, hback s hs cs, rfl⟩)) c
    have e : Cn (sub es (L.erase t)) (if p = u then v else p) (if q = u then v else q) := this
    rwa [if_neg h1, if_neg h2] at e
  refine ⟨by rw [List.length_set]; exact I.len, I.nd.erase t, fun s hs => I.fr s (hsub s hs).1, fun k hk hn => ?_, fun s hs => ?_, fun p p0 p1 hp => ?_, fun p q hp hq c => ?_⟩
  · rw [getDi_set fs t.toNat k w htl, if_neg (show ¬ t.toNat = k from fun z => hn (z ▸ htF.2.2))]
    exact I.free k hk hn
  · have h1 := hsub s hs
    have h2 := I.fr s h1.1
    rw [getDi_set fs t.toNat s.toNat w htl, if_neg (fun z => h1.2 (by omega))]
    exact I.nought s h1.1
  · by_cases c1 : p = u
    · rw [c1]; exact hdu
    · by_cases c2 : p = v
      · subst c2
        obtain ⟨f, F⟩ := lab_ex hE es.length
        rw [List.take_length] at F
        have hz : ac (grp m.toNat f (f p)) es (fs.set t.toNat w) es.length = 0 := by
          have : ∀ n, n ≤ es.length → ac (grp m.toNat f (f p)) es (fs.set t.toNat w) n = 0 := by
            intro n
            induction n with
            | zero => intro _; rfl
            | succ n ih =>
              intro hn
              show ac _ es (fs.set t.toNat w) n + _ - _ = 0
              have hmn : es.getD n (0, 0) ∈ es := by rw [List.getD_eq_getElem?_getD, List.getElem?_eq_getElem (show n < es.length by omega)]; exact List.getElem_mem _
              obtain ⟨d1, d2, d3, d4⟩ := hE _ hmn
              have es1 := F.same _ hmn
              have hmm : memI (grp m.toNat f (f p)) (es.getD n (0, 0)).1 = memI (grp m.toNat f (f p)) (es.getD n (0, 0)).2 := by
                rw [Bool.eq_iff_iff, memI_iff, memI_iff, mem_grp, mem_grp, es1]
                exact ⟨fun h => ⟨d3, by omega, h.2.2⟩, fun h => ⟨d1, by omega, h.2.2⟩⟩
              rw [ih (by omega), hmm]
              cases memI (grp m.toNat f (f p)) (es.getD n (0, 0)).2 <;> simp
          exact this es.length (Nat.le_refl _)
        rw [ac_dp _ (grp_nd _ _ _)] at hz
        have hq0 : ∀ q ∈ grp m.toNat f (f p), q ≠ p → dp q es (fs.set t.toNat w) es.length = 0 := fun q hq hqp => by
          have hq' := mem_grp.mp hq
          by_cases c3 : q = u
          · rw [c3]; exact hdu
          · rw [hother q c3 hqp]
            refine I.done q hq'.1 (by omega) fun hT => ?_
            have hTp : Tch es L p := ⟨t, ht, by
              rcases hut with y | y
              · exact .inr (by rw [hv]; unfold far; rw [if_pos y])
              · by_cases c : (tieOf es t).1 = u
                · exact .inr (by rw [hv]; unfold far; rw [if_pos c])
                · exact .inl (by rw [hv]; unfold far; rw [if_neg c])⟩
            have hc := I.held p q hTp hT ((F.iff p0 p1 hq'.1 (by omega)).mp hq'.2.2.symm)
            have := cn_alone hp (hmap c1 c3 hc)
            exact hqp this
        have hsum : ∀ R : List Int, R.Nodup → (∀ q ∈ R, q ≠ p → dp q es (fs.set t.toNat w) es.length = 0) → (R.map fun q => dp q es (fs.set t.toNat w) es.length).sum = if p ∈ R then dp p es (fs.set t.toNat w) es.length else 0 := by
          intro R
          induction R with
          | nil => intro _ _; rfl
          | cons q R ih =>
            intro hn hq
            rw [List.nodup_cons] at hn
            rw [List.map_cons, List.sum_cons, ih hn.2 fun r hr => hq r (List.mem_cons_of_mem _ hr)]
            by_cases e : q = p
            · subst e
              rw [if_neg hn.1, if_pos List.mem_cons_self]; omega
            · rw [hq q List.mem_cons_self e]
              by_cases e2 : p ∈ R
              · rw [if_pos e2, if_pos (List.mem_cons_of_mem _ e2)]; omega
              · rw [if_neg e2, if_neg (fun z => (List.mem_cons.mp z).elim (fun y => e y.symm) e2)]; rfl
        rw [hsum _ (grp_nd _ _ _) hq0, if_pos (mem_grp.mpr ⟨p0, by omega, rfl⟩)] at hz
        omega
      · rw [hother p c1 c2]
        refine I.done p p0 p1 fun ⟨s, hs, hx⟩ => ?_
        by_cases cs : s = t
        · subst cs
          exact (hends p hx).elim c1 c2
        · exact hp ⟨s, hback s hs cs, hx⟩
  · have h1 : p ≠ u := fun z => hnu (z ▸ hp)
    have h2 : q ≠ u := fun z => hnu (z ▸ hq)
    obtain ⟨s, hs, hx⟩ := hp
    obtain ⟨s', hs', hx'⟩ := hq
    exact hmap h1 h2 (I.held p q ⟨s, (hsub s hs).1, hx⟩ ⟨s', (hsub s' hs').1, hx'⟩ c)
end L2
namespace L2
open PySem PySem.Spec PyProof.Rows
end L2
namespace L2
open PySem PySem.Spec PyProof.Rows
def en (p : Int) (e : Int × Int) : Int := (if e.1 = p then 1 else 0) + (if e.2 = p then 1 else 0)
def ens (es : List (Int × Int)) (p : Int) (ts : List Int) : Int := (ts.map fun t => en p (tieOf es t)).sum
end L2
namespace L2
open PySem PySem.Spec PyProof.Rows
section
variable {X : Cx}
end
noncomputable def frv (es : List (Int × Int)) (rs : List Int) : List Int := (fre es).map fun t => rs.getD t.toNat 0
theorem getD_map_mod (fs : List Int) (k : Int) (n : Nat) : (fs.map (· % k)).getD n 0 = fs.getD n 0 % k := by
  rw [List.getD_eq_getElem?_getD, List.getElem?_map, List.getD_eq_getElem?_getD]
  cases fs[n]? with
  | none => exact (Int.zero_emod k).symm
  | some v => rfl
theorem gD_at {xs : List Int} {i : Nat} (h : i < xs.length) : xs.getD i 0 = xs[i] := by rw [List.getD_eq_getElem?_getD, List.getElem?_eq_getElem h]; rfl
theorem FW.frv {k : Int} {es : List (Int × Int)} {ws fs : List Int} (hl : ws.length = (fre es).length) (hw : ∀ d ∈ ws, 0 ≤ d ∧ d < k) (h : FW es ws fs) : frv es (fs.map (· % k)) = ws := by
  unfold L2.frv
  apply List.ext_getElem (by rw [List.length_map]; exact hl.symm)
  intro i h1 h2
  rw [List.length_map] at h1
  have e := h.2.2 i h1
  rw [gD_at h1, gD_at h2] at e
  obtain ⟨b1, b2⟩ := hw ws[i] (List.getElem_mem h2)
  rw [List.getElem_map, getD_map_mod, e, Int.emod_eq_of_lt b1 b2]
end L2
namespace L2
open PySem PySem.Spec PyProof.Rows PySem.W Builtin Builtin.ObjectAttr
structure ExI (K : Frag) (A F f : Addr) : Prop where
  lk : ∃ nm qn N bs sn sub ab col dd k0 k1 k2 k3 k5, K.lookup A = some (excClassObj nm qn A N bs (.ref F :: vErr) true sn sub ab col dd k0 k1 k2 k3 k5 "ValueError.__new__")
  up : IsExc K F
  ini : findIn K (.ref A) "__init__" = some (some (.ref f))
  fn : isFn K (.ref f) = true
  sa : findIn K (.ref A) "__setattr__" = some (some (.builtin "object.__setattr__"))
  nt : findIn K (.ref A) "tie" = some none
theorem ExI.mro {K : Frag} {A F f : Addr} (c : ExI K A F f) : mroIn K A = fun b => some ((Value.ref A :: .ref F :: vErr).contains b) := by
  obtain ⟨nm, qn, N, bs, sn, sub, ab, col, dd, k0, k1, k2, k3, k5, look⟩ := c.lk
  funext b
  unfold mroIn clsIn
  rw [look]; rfl
theorem ExI.dict {K : Frag} {A F f : Addr} (c : ExI K A F f) : hasDictIn K A = true := by
  obtain ⟨nm, qn, N, bs, sn, sub, ab, col, dd, k0, k1, k2, k3, k5, look⟩ := c.lk
  unfold hasDictIn clsIn
  rw [look]; rfl
section
variable {prog : Program} {w : World} {B : Around} {E : Value → Shared → Prop} {K : Frag} {A F f : Addr} {h : Heap} {g : Array GenState} {d : Drawn} {t : Nat} {os : OsState}
end
section
variable {prog : Program} {w : World} {M : Model} {B : Around} {E : Value → Shared → Prop} {env : Env}
variable {nm q : Str} {C N : Addr} {bs bm : List Value} {hdct : Bool} {sn : List Str} {sub : List Value} {ab : Bool} {col : Option Bool} {dd : Option Addr} {k0 k1 k2 k3 k5 : Option Value} {newId : String}
end
end L2
namespace L2
open PySem PySem.Spec PyProof.Rows PySem.W Builtin Builtin.ObjectAttr
section
variable {prog : Program} {w : World} {B : Around} {E : Value → Shared → Prop} {K : Frag} {A F f x : Addr} {s : Shared}
end
section
variable {X : Cx} {σ : St} {H : Hp} {s : Shared} {A F f x : Addr}
end
section
variable {X : Cx} {Ex : St → Value → Hp → Prop}
end
section
variable {X : Cx}
end
section
variable {prog : Program} {w : World} {B : Around} {E : Value → Shared → Prop} {K : Frag} {A x : Addr} {s : Shared}
end
section
variable {X : Cx}
end
end L2
namespace L2
open PySem PySem.Spec PyProof.Rows PySem.W
def ClsX (C : Value) (A : Addr) : Prop := C = .ref A ∨ ∃ d, C = .int d A
theorem ClsX.cls {o : Obj} {C : Value} {A : Addr} (h : ClsX C A) (i : IsX o C) : o.cls = .ref A := by
  rcases h with rfl | ⟨d, rfl⟩
  · exact i
  · exact i.1
section
variable {X : Cx}
end
end L2
namespace L2
open PySem PySem.Spec PyProof.Rows PySem.W
section
variable {X : Cx}
end
end L2
namespace L2
open PySem
end L2
namespace L2
open PySem PySem.Spec PyProof.Rows
abbrev IsTri (h : Heap) (T : Addr) (a b c : Value) : Prop := h.get? T = some { cls := .type "tuple", data := .seq #[a, b, c] }
structure ZA3 (z TO i1 i2 i3 : Addr) (f1 f2 f3 : List Addr) : Prop where
  m1 : i1 ∈ f1
  m2 : i2 ∈ f2
  m3 : i3 ∈ f3
  z1 : z ∉ f1
  z2 : z ∉ f2
  z3 : z ∉ f3
  o1 : TO ∉ f1
  o2 : TO ∉ f2
  o3 : TO ∉ f3
  x12 : i1 ∉ f2
  x13 : i1 ∉ f3
  x21 : i2 ∉ f1
  x23 : i2 ∉ f3
  x31 : i3 ∉ f1
  x32 : i3 ∉ f2
  oz : TO ≠ z
section
variable {prog : Program} {w : World} {A : Around} {E : Value → Shared → Prop} {s : Shared} {z TI TO i1 i2 i3 : Addr} {f1 f2 f3 : List Addr} {n1 n2 n3 i : Nat} {P1 P2 P3 : Nat → Value → Prop} {S1 S2 S3 : Nat → Heap → Prop} {a b c : Value}
set_option maxHeartbeats 8000000 in
theorem zip3_itemD {Q : Value → Shared → Prop} (D1 : Draws prog w A i1 f1 n1 P1 S1) (D2 : Draws prog w A i2 f2 n2 P2 S2) (D3 : Draws prog w A i3 f3 n3 P3 S3) (Z : ZA3 z TO i1 i2 i3 f1 f2 f3) (hz : IsZip s.heap z TI TO .none) (hTI : IsTri s.heap TI (.ref i1) (.ref i2) (.ref i3)) (hTO : IsTri s.heap TO a b c) (h1 : S1 i s.heap) (h2 : S2 i s.heap) (h3 : S3 i s.heap) (l1 : i < n1) (l2 : i < n2) (l3 : i < n3)
    (hQ : ∀ x y u h' tk, P1 i x → P2 i y → P3 i u → IsZip h' z TI TO (rawInt s.heap.objs.size) → IsTri h' TO x y u → S1 (i + 1) h' → S2 (i + 1) h' → S3 (i + 1) h' → IsTri h' s.heap.objs.size x y u →
      (∀ c o, c ≠ z → c ≠ TO → c ≠ i1 → c ≠ i2 → c ≠ i3 → s.heap.get? c = some o → h'.get? c = some o) → Q (.ref s.heap.objs.size) { s with heap := h', toks := tk }) :
    wpAny (model prog w) A (Builtin.«zip.__next__» ⟨[.ref z], []⟩) (fun fin s' => ∃ v, fin = .done (.ret v) ∧ Q v s') E s := by
  obtain ⟨hp, g, d, tk₀, os⟩ := s
  have Oz := Z.oz
  have kz := Heap.get?_update_self (Obj.mapFields fun v => v.setIfInBounds 0 Value.ellipsis) hz rfl
  unfold Builtin.«zip.__next__»
  wp_walk using AutoSeq1.wpAny_loadPart' hz, AutoSeq1.wpAny_loadPart' hTI, wpAny_onRaise, D1.item i _ _ _ l1
  · exact D1.frame _ _ _ h1 fun c hc o e => Heap.get?_update_of_ne _ (nin Z.z1 hc).symm e
  intro x h₂ t₂ px s₁ b₂
  have q2 : ∀ c o, c ≠ z → c ≠ i1 → hp.get? c = some o → h₂.get? c = some o := fun c o cz c1 e => b₂.extBut _ _ c1 (Heap.get?_update_of_ne _ cz.symm e)
  have ez := b₂.extBut _ _ (nin Z.z1 Z.m1).symm kz
  have TO2 : IsTri h₂ TO a b c := q2 _ _ Z.oz (nin Z.o1 Z.m1).symm hTO
  have kO := Heap.get?_update_self (Obj.mapSeq fun v => v.setIfInBounds 0 x) TO2 rfl
  wp_walk using AutoSeq1.wpAny_loadPart' TO2, wpAny_onRaise, D2.item i _ _ _ l2
  · exact D2.frame _ _ _ h2 fun c hc o e => Heap.get?_update_of_ne _ (nin Z.o2 hc).symm (q2 _ _ (nin Z.z2 hc) (nin Z.x12 hc) e)
  intro y h₄ t₄ py s₂ b₄
  have q4 : ∀ c o, c ≠ TO → c ≠ i2 → h₂.get? c = some o → h₄.get? c = some o := fun c o co c2 e => b₄.extBut _ _ c2 (Heap.get?_update_of_ne _ co.symm e)
  have ez4 := q4 _ _ Z.oz.symm (nin Z.z2 Z.m2).symm ez
  have TO4 : IsTri h₄ TO x b c := b₄.extBut _ _ (nin Z.o2 Z.m2).symm kO
  have kP := Heap.get?_update_self (Obj.mapSeq fun v => v.setIfInBounds 1 y) TO4 rfl
  wp_walk using AutoSeq1.wpAny_loadPart' TO4, wpAny_onRaise, D3.item i _ _ _ l3
  · exact D3.frame _ _ _ h3 fun c hc o e => Heap.get?_update_of_ne _ (nin Z.o3 hc).symm (q4 _ _ (nin Z.o3 hc) (nin Z.x23 hc) (q2 _ _ (nin Z.z3 hc) (nin Z.x13 hc) e))
  intro u h₆ t₆ pu s₃ b₆
  have q6 : ∀ c o, c ≠ TO → c ≠ i3 → h₄.get? c = some o → h₆.get? c = some o := fun c o co c3 e => b₆.extBut _ _ c3 (Heap.get?_update_of_ne _ co.symm e)
  have ez6 : IsZip h₆ z TI TO .ellipsis := q6 _ _ Z.oz.symm (nin Z.z3 Z.m3).symm ez4
  have TO6 : IsTri h₆ TO x y c := b₆.extBut _ _ (nin Z.o3 Z.m3).symm kP
  have n6 : h₆.objs.size = hp.objs.size := by rw [b₆.1, Heap.size_after_update, b₄.1, Heap.size_after_update, b₂.1, Heap.size_after_update]
  have kR := Heap.get?_update_self (Obj.mapSeq fun v => v.setIfInBounds 2 u) TO6 rfl
  wp_walk using AutoSeq1.wpAny_loadPart' TO6, AutoSeq1.wpAny_loadPart' kR
  have n7 : (h₆.update TO (Obj.mapSeq fun v => v.setIfInBounds 2 u)).objs.size = hp.objs.size := Heap.size_after_update .. |>.trans n6
  have zl : z < hp.objs.size := Heap.lt_size hz
  refine ⟨_, rfl, ?_⟩
  rw [n7]
  have on : ∀ {c o} (f k : Obj → Obj), c ≠ z → ((h₆.update TO (Obj.mapSeq fun v => v.setIfInBounds 2 u)).push { cls := .type "tuple", data := .seq #[x, y, u] }).get? c = some o →
      ((((h₆.update TO (Obj.mapSeq fun v => v.setIfInBounds 2 u)).push { cls := .type "tuple", data := .seq #[x, y, u] }).update z f).update z k).get? c = some o := fun f k q e => Heap.get?_update_of_ne _ q.symm (Heap.get?_update_of_ne _ q.symm e)
  have up : ∀ {c o} (f k : Obj → Obj), c ≠ z → c ≠ TO → h₆.get? c = some o → ((((h₆.update TO (Obj.mapSeq fun v => v.setIfInBounds 2 u)).push { cls := .type "tuple", data := .seq #[x, y, u] }).update z f).update z k).get? c = some o :=
    fun f k q q' e => on f k q (Heap.get?_push_of_some _ (Heap.get?_update_of_ne _ q'.symm e))
  refine hQ x y u _ t₆ px py pu ?_ ?_ ?_ ?_ ?_ ?_ ?_
  · exact Heap.get?_update_self _ (Heap.get?_update_self _ (Heap.get?_push_of_some _ (Heap.get?_update_of_ne _ Z.oz ez6)) rfl) rfl
  · exact on _ _ Z.oz (Heap.get?_push_of_some _ kR)
  · exact D1.frame _ _ _ s₁ fun c hc o e => up _ _ (nin Z.z1 hc) (nin Z.o1 hc) (q6 _ _ (nin Z.o1 hc) (nin Z.x31 hc) (q4 _ _ (nin Z.o1 hc) (nin Z.x21 hc) e))
  · exact D2.frame _ _ _ s₂ fun c hc o e => up _ _ (nin Z.z2 hc) (nin Z.o2 hc) (q6 _ _ (nin Z.o2 hc) (nin Z.x32 hc) e)
  · exact D3.frame _ _ _ s₃ fun c hc o e => up _ _ (nin Z.z3 hc) (nin Z.o3 hc) e
  · exact on _ _ (Nat.ne_of_gt zl) (Heap.get?_push_at n7.symm rfl)
  · exact fun c o c1 c2 c3 c4 c5 e => up _ _ c1 c2 (q6 _ _ c2 c5 (q4 _ _ c2 c4 (q2 _ _ c1 c3 e)))
set_option maxHeartbeats 4000000 in
theorem zip3_endD {Q : Fin → Shared → Prop} (D1 : Draws prog w A i1 f1 n1 P1 S1) (m1 : i1 ∈ f1) (z1 : z ∉ f1) (hz : IsZip s.heap z TI TO .none) (hTI : IsTri s.heap TI (.ref i1) (.ref i2) (.ref i3)) (h1 : S1 n1 s.heap)
    (hE : ∀ h' tk e, (∀ c o, c ≠ z → c ≠ i1 → s.heap.get? c = some o → h'.get? c = some o) → (∃ o, h'.get? e = some o ∧ o.cls = .type "StopIteration") → E (.ref e) { s with heap := h', toks := tk }) :
    wpAny (model prog w) A (Builtin.«zip.__next__» ⟨[.ref z], []⟩) Q E s := by
  obtain ⟨hp, g, d, tk₀, os⟩ := s
  have kz := Heap.get?_update_self (Obj.mapFields fun v => v.setIfInBounds 0 Value.ellipsis) hz rfl
  have first : S1 n1 (hp.update z (Obj.mapFields fun v => v.setIfInBounds 0 Value.ellipsis)) := D1.frame _ _ _ h1 fun c hc o e => Heap.get?_update_of_ne _ (nin z1 hc).symm e
  unfold Builtin.«zip.__next__»
  wp_walk using AutoSeq1.wpAny_loadPart' hz, AutoSeq1.wpAny_loadPart' hTI, wpAny_onRaise, D1.done _ _ _ first
  rintro h₂ e b₂ ⟨o, ho, hc⟩
  have ez : h₂.get? z = _ := b₂ _ _ (nin z1 m1).symm kz
  have ne : e ≠ z := fun q => by rw [q, ez] at ho; cases ho; exact absurd (Value.type.inj hc) (by decide)
  wp_walk using wpAny_updatePart' ez
  exact hE _ _ _ (fun c o c1 c2 q => Heap.get?_update_of_ne _ c1.symm (b₂ _ _ c2 (Heap.get?_update_of_ne _ c1.symm q))) ⟨o, Heap.get?_update_of_ne _ ne.symm ho, hc⟩
end
end L2
namespace L2
open PySem PySem.Spec PyProof.Rows
abbrev z3I (h : Heap) (l : Addr) : Heap := h.push { cls := .type "list_iterator", data := .fields #[.ref l, .int 0 0] }
abbrev z3L (h : Heap) (l1 l2 l3 : Addr) : Heap := z3I (z3I (z3I h l1) l2) l3
abbrev z3T (h : Heap) (l1 l2 l3 : Addr) : Heap := (z3L h l1 l2 l3).push { cls := .type "tuple", data := .seq #[.ref h.objs.size, .ref (z3I h l1).objs.size, .ref (z3I (z3I h l1) l2).objs.size] }
abbrev z3O (h : Heap) (l1 l2 l3 : Addr) : Heap := (z3T h l1 l2 l3).push { cls := .type "tuple", data := .seq #[.none, .none, .none] }
abbrev z3Z (h : Heap) (l1 l2 l3 : Addr) : Heap := (z3O h l1 l2 l3).push { cls := .type "zip", data := .fields #[.none, .bool false, .bool false, .ref (z3L h l1 l2 l3).objs.size, .ref (z3T h l1 l2 l3).objs.size] }
set_option maxHeartbeats 8000000 in
theorem meets_zip3 (l1 l2 l3 : Addr) (xs ys zs : Array Value) : Meets (Builtin.«zip.__new__» ⟨[.type "zip", .ref l1, .ref l2, .ref l3], []⟩) (fun _ R s => SSq false s.heap l1 xs ∧ SSq false s.heap l2 ys ∧ SSq false s.heap l3 zs ∧ R (.ok (.ret (.ref (z3O s.heap l1 l2 l3).objs.size))) { s with heap := z3Z s.heap l1 l2 l3 }) :=
  .of_wp fun prog w A R s h => by
    obtain ⟨hp, g, d, tk, os⟩ := s; obtain ⟨hl1, hl2, hl3, h⟩ := h; have hsub := sub_zip
    have A1 : (Shared.heap ⟨hp, g, d, tk, os⟩).IsList l1 xs := hl1
    have A2 : (Shared.heap ⟨z3I hp l1, g, d, tk, os⟩).IsList l2 ys := SSq.keep (b := false) hl2 fun o e => Heap.get?_push_of_some _ e
    have A3 : (Shared.heap ⟨z3I (z3I hp l1) l2, g, d, tk, os⟩).IsList l3 zs := SSq.keep (b := false) hl3 fun o e => Heap.get?_push_of_some _ (Heap.get?_push_of_some _ e)
    wp_walk using wpAny_pyIter_list A1, wpAny_pyIter_list A2, wpAny_pyIter_list A3
    exact ⟨_, rfl, h⟩
theorem typeCall_z3 (a b c : Value) : checkTypeCall "zip" ⟨[a, b, c], []⟩ = pure () := by kernel_rfl
theorem newCall_z3 (a b c : Value) : checkBuiltinCall "zip.__new__" ⟨[.type "zip", a, b, c], []⟩ = pure () := by kernel_rfl
theorem init_z3 (o a b c : Value) : argsOk "object.__init__" ⟨[o, a, b, c], []⟩ := by unfold argsOk; kernel_rfl
section
variable {prog : Program} {w : World} {A : Around} {E : Value → Shared → Prop} {s : Shared}
theorem call_zip3 {l1 l2 l3 : Addr} {xs ys zs : Array Value} {Q : Value → Shared → Prop} (hl1 : SSq false s.heap l1 xs) (hl2 : SSq false s.heap l2 ys) (hl3 : SSq false s.heap l3 zs)
    (h : ∀ n h', n = s.heap.objs.size → IsZip h' (n + 5) (n + 3) (n + 4) .none → IsTri h' (n + 3) (.ref n) (.ref (n + 1)) (.ref (n + 2)) → IsTri h' (n + 4) .none .none .none → SIt false h' n l1 0 → SIt false h' (n + 1) l2 0 → SIt false h' (n + 2) l3 0 → (∀ c o, s.heap.get? c = some o → h'.get? c = some o) → Q (.ref (n + 5)) { s with heap := h' }) :
    wpAny (model prog w) A (call (.type "zip") [.ref l1, .ref l2, .ref l3]) Q E s := by
  refine callType_new F.called_zip (by decide) (typeCall_z3 _ _ _) (newCall_z3 _ _ _) (fun obj => init_z3 obj _ _ _) F.entry_zip_new (meets_zip3 l1 l2 l3 xs ys zs) ⟨hl1, hl2, hl3, ?_⟩
  have sz : ∀ (h : Heap) (o : Obj) (n : Nat), h.objs.size = n → (h.push o).objs.size = n + 1 := fun h o n e => by rw [Heap.size_push, e]
  have old : ∀ {h : Heap} {o u : Obj} {a : Addr}, h.get? a = some u → (h.push o).get? a = some u := fun e => Heap.get?_push_of_some _ e
  obtain ⟨n, hn⟩ : ∃ n, n = s.heap.objs.size := ⟨_, rfl⟩
  have z1 := sz s.heap { cls := .type "list_iterator", data := .fields #[.ref l1, .int 0 0] } n hn.symm
  have z2 := sz _ { cls := .type "list_iterator", data := .fields #[.ref l2, .int 0 0] } _ z1
  have z3 := sz _ { cls := .type "list_iterator", data := .fields #[.ref l3, .int 0 0] } _ z2
  have z4 := sz (z3L s.heap l1 l2 l3) { cls := .type "tuple", data := .seq #[.ref s.heap.objs.size, .ref (z3I s.heap l1).objs.size, .ref (z3I (z3I s.heap l1) l2).objs.size] } _ z3
  have z5 := sz (z3T s.heap l1 l2 l3) { cls := .type "tuple", data := .seq #[.none, .none, .none] } _ z4
  have k1 : (z3I s.heap l1).get? n = some { cls := .type "list_iterator", data := .fields #[.ref l1, .int 0 0] } := Heap.get?_push_at hn rfl
  have k2 : (z3I (z3I s.heap l1) l2).get? (n + 1) = some { cls := .type "list_iterator", data := .fields #[.ref l2, .int 0 0] } := Heap.get?_push_at z1.symm rfl
  have k3 : (z3L s.heap l1 l2 l3).get? (n + 2) = some { cls := .type "list_iterator", data := .fields #[.ref l3, .int 0 0] } := Heap.get?_push_at z2.symm rfl
  have k4 : IsTri (z3T s.heap l1 l2 l3) (n + 3) (.ref n) (.ref (n + 1)) (.ref (n + 2)) := (Heap.get?_push_at z3.symm rfl).trans (by rw [← hn, z1, z2])
  have k5 : IsTri (z3O s.heap l1 l2 l3) (n + 4) .none .none .none := Heap.get?_push_at z4.symm rfl
  have k6 : IsZip (z3Z s.heap l1 l2 l3) (n + 5) (n + 3) (n + 4) .none := (Heap.get?_push_at z5.symm rfl).trans (by rw [z3, z4])
  show _ ∧ _
  rw [z5]
  exact ⟨⟨_, k6, rfl⟩, h n _ hn k6 (old (old k4)) (old k5) ⟨_, old (old (old (old (old k1)))), rfl, rfl⟩ ⟨_, old (old (old (old k2))), rfl, rfl⟩ ⟨_, old (old (old k3)), rfl, rfl⟩ fun c o x => old (old (old (old (old (old x)))))⟩
end
def Itz3 (K : PySem.W.Frag) (a1 a2 a3 : Addr) (xs ys zs : List V) : It :=
  ⟨fun i H => SqL K H a1 xs ∧ SqL K H a2 ys ∧ SqL K H a3 zs ∧ i < xs.length, fun i H x H' => ∃ p, x = .ref p ∧ H p = none ∧ H' = upd H p (.tup [xs.getD i .non, ys.getD i .non, zs.getD i .non]), fun i H => SqL K H a1 xs ∧ SqL K H a2 ys ∧ SqL K H a3 zs ∧ i = xs.length⟩
set_option maxHeartbeats 4000000 in
theorem turn_zip3 {P : Program} {w : World} {K : PySem.W.Frag} {elts : List Expr} {kx} {pos : Pos} (a1 a2 a3 n : Addr) (xs ys zs : List V) (hy : ys.length = xs.length) (hz : zs.length = xs.length) :
    Turn P w K (.Tuple elts kx pos) (Itz3 K a1 a2 a3 xs ys zs) [n + 5, n + 3, n + 4, n, n + 1, n + 2] (n + 5) (fun i h => IsZip h (n + 5) (n + 3) (n + 4) .none ∧ IsTri h (n + 3) (.ref n) (.ref (n + 1)) (.ref (n + 2)) ∧ (∃ a b c, IsTri h (n + 4) a b c) ∧ SIt false h n a1 i ∧ SIt false h (n + 1) a2 i ∧ SIt false h (n + 2) a3 i) where
  mem := by simp
  obj := fun i h st b hb => by
    obtain ⟨k1, k2, ⟨a, b', c', k3⟩, k4, k5, k6⟩ := st
    simp only [List.mem_cons, List.not_mem_nil, or_false] at hb
    rcases hb with rfl | rfl | rfl | rfl | rfl | rfl
    · exact ⟨_, k1, fun v z => by cases z⟩
    · exact ⟨_, k2, fun v z => by cases z⟩
    · exact ⟨_, k3, fun v z => by cases z⟩
    · exact k4.obj
    · exact k5.obj
    · exact k6.obj
  keep := fun i h h' st k => by
    obtain ⟨k1, k2, ⟨a, b', c', k3⟩, k4, k5, k6⟩ := st
    exact ⟨k _ (by simp) _ k1, k _ (by simp) _ k2, ⟨a, b', c', k _ (by simp) _ k3⟩, k4.keep fun o e => k _ (by simp) o e, k5.keep fun o e => k _ (by simp) o e, k6.keep fun o e => k _ (by simp) o e⟩
  item := by
    intro X hP hw hK hc i pins s σ H E I hf st hg
    subst hP hw hK
    obtain ⟨k1, k2, ⟨a, b', c', k3⟩, k4, k5, k6⟩ := st
    obtain ⟨q1, q2, q3, hx⟩ := hg
    obtain ⟨its1, r1, p1, w1⟩ := I.src (b := false) q1
    obtain ⟨its2, r2, p2, w2⟩ := I.src (b := false) q2
    obtain ⟨its3, r3, p3, w3⟩ := I.src (b := false) q3
    have fz := hf (n + 5) (by simp); have fo := hf (n + 4) (by simp); have f1 := hf n (by simp); have f2 := hf (n + 1) (by simp); have f3 := hf (n + 2) (by simp)
    have hT : s.TypeIs (.ref (n + 5)) "zip" := ⟨_, k1, rfl⟩
    have D1 := draws_src (prog := X.prog) (w := X.w) (A := X.A.in1) (I.ok.hd hc) false n a1 (I.srcNe (b := false) q1 f1) its1.toArray
    have D2 := draws_src (prog := X.prog) (w := X.w) (A := X.A.in1) (I.ok.hd hc) false (n + 1) a2 (I.srcNe (b := false) q2 f2) its2.toArray
    have D3 := draws_src (prog := X.prog) (w := X.w) (A := X.A.in1) (I.ok.hd hc) false (n + 2) a3 (I.srcNe (b := false) q3 f3) its3.toArray
    have g : ∀ {d b : Addr} {us : List V}, SqL X.K H d us → FpOk X pins H b → b ≠ d := fun q f => (I.srcNe (b := false) q f).symm
    have Z : ZA3 (n + 5) (n + 4) n (n + 1) (n + 2) [n, a1] [n + 1, a2] [n + 2, a3] := ⟨by simp, by simp, by simp, by simp [g q1 fz], by simp [g q2 fz], by simp [g q3 fz], by simp [g q1 fo], by simp [g q2 fo], by simp [g q3 fo], by simp [g q2 f1], by simp [g q3 f1], by simp [g q1 f2], by simp [g q3 f2], by simp [g q1 f3], by simp [g q2 f3], by simp⟩
    have len1 := r1.length; have len2 := r2.length; have len3 := r3.length
    unfold pyNext
    refine wpAny_bind (wpAny_attempt (wpAny_callSpecial?_slot (name := Str.ofString "__next__") hT F.slot_zip_next (wpAny_call_entry F.slot_zip_next hT F.entry_zip_next
      (zip3_itemD D1 D2 D3 Z k1 k2 k3 ⟨k4, p1⟩ ⟨k5, p2⟩ ⟨k6, p3⟩ (by simp; omega) (by simp; omega) (by simp; omega) fun x y u h' tk px py pu hz' hTO' s1 s2 s3 hT' hk => wpAny_pure ?_) (F.args_zip_next_1 _))))
    have r : Vals [xs.getD i .non, ys.getD i .non, zs.getD i .non] [x, y, u] := .cons (getD_val r1 px) (.cons (getD_val r2 py) (.cons (getD_val r3 pu) .nil))
    have I1 : Inv X pins σ (upd H s.heap.objs.size (.tup [xs.getD i .non, ys.getD i .non, zs.getD i .non])) { s with heap := h', toks := tk } :=
      I.turnedLaid (t' := tk) hf (fun c o hc e => hk c o (fun q => hc (by simp [q])) (fun q => hc (by simp [q])) (fun q => hc (by simp [q])) (fun q => hc (by simp [q])) (fun q => hc (by simp [q])) e) r (by show 3 ≤ sizeLine; decide) ⟨_, hT', rfl, _, rfl⟩
    have nH : H s.heap.objs.size = none := I.hok.fresh (Nat.le_refl _)
    have fresh : ∀ b ∈ [n + 5, n + 3, n + 4, n, n + 1, n + 2], (upd H s.heap.objs.size (.tup [xs.getD i .non, ys.getD i .non, zs.getD i .non])) b = none := fun b hb => by
      rw [upd_ne ?_]
      · exact (hf b hb).1
      · have hl := Heap.lt_size k1
        simp only [List.mem_cons, List.not_mem_nil, or_false] at hb
        have le : ∀ j, j ≤ 5 → n + j ≠ s.heap.objs.size := fun j hj => Nat.ne_of_lt (Nat.lt_of_le_of_lt (Nat.add_le_add_left hj n) hl)
        rcases hb with rfl | rfl | rfl | rfl | rfl | rfl <;> first | exact le 5 (by decide) | exact le 3 (by decide) | exact le 4 (by decide) | exact le 0 (by decide) | exact le 1 (by decide) | exact le 2 (by decide)
    obtain ⟨f0, f1', f2', f3', f4', f5'⟩ := fz
    refine ⟨_, rfl, wpAny_letOwnedTupleGo_zip hz' fun h2' hz2 sb => ⟨.ref s.heap.objs.size, _, I1.turned (t' := tk) (fun b o hb e => (sb.2 b hb).trans e) (fresh (n + 5) (by simp)) f1' f3' f4' f5', rfl, ⟨_, rfl, nH, rfl⟩, ⟨hz2, ?_, ⟨x, y, u, ?_⟩, ?_, ?_, ?_⟩, fresh⟩⟩
    · exact (sb.2 (n + 3) (by simp)).trans (hk _ _ (by simp) (by simp) (by simp) (by simp) (by simp) k2)
    · exact (sb.2 (n + 4) (by simp)).trans hTO'
    · exact s1.1.keep fun o e => (sb.2 n (by simp)).trans e
    · exact s2.1.keep fun o e => (sb.2 (n + 1) (by simp)).trans e
    · exact s3.1.keep fun o e => (sb.2 (n + 2) (by simp)).trans e
  done := by
    intro X hP hw hK hc i pins s σ H E I hf st hg
    subst hP hw hK
    obtain ⟨k1, k2, ⟨a, b', c', k3⟩, k4, k5, k6⟩ := st
    obtain ⟨q1, q2, q3, rfl⟩ := hg
    obtain ⟨its1, r1, p1, w1⟩ := I.src (b := false) q1
    have fz := hf (n + 5) (by simp); have f1 := hf n (by simp)
    have hT : s.TypeIs (.ref (n + 5)) "zip" := ⟨_, k1, rfl⟩
    have D1 := draws_src (prog := X.prog) (w := X.w) (A := X.A.in1) (I.ok.hd hc) false n a1 (I.srcNe (b := false) q1 f1) its1.toArray
    have len1 : its1.toArray.size = xs.length := by simp [r1.length]
    rw [len1] at D1
    unfold pyNext
    refine wpAny_bind (wpAny_attempt (wpAny_callSpecial?_slot (name := Str.ofString "__next__") hT F.slot_zip_next (wpAny_call_entry F.slot_zip_next hT F.entry_zip_next
      (zip3_endD D1 (by simp) (by simp [(I.srcNe (b := false) q1 fz).symm]) k1 k2 ⟨k4, p1⟩ fun h' tk e hk he => ?_) (F.args_zip_next_1 _))))
    obtain ⟨o, ho, hcl⟩ := he
    refine wpAny_bind (wpAny_isInstance (T := "StopIteration") (b := true) ⟨o, ho, hcl⟩ isSubtype_stop ?_)
    exact wpAny_pure ⟨rfl, I.turnedAll (t' := tk) hf fun c o hc e => hk c o (fun q => hc (by simp [q])) (fun q => hc (by simp [q])) e⟩
  self := fun A i s Q E st h => wpAny_pyIter_zip st.1 h
theorem itp_zip3 {K : PySem.W.Frag} {a1 a2 a3 : Addr} {xs ys zs : List V} : ItP (Itz3 K a1 a2 a3 xs ys zs) xs.length (fun i => [xs.getD i .non, ys.getD i .non, zs.getD i .non]) (fun H => SqL K H a1 xs ∧ SqL K H a2 ys ∧ SqL K H a3 zs) where
  go := fun i H c hi => ⟨c.1, c.2.1, c.2.2, hi⟩
  yld := fun i H x H' c hi y => y
  stop := fun H c => ⟨c.1, c.2.1, c.2.2, rfl⟩
def iZip3 (K : PySem.W.Frag) (ta : TA) : TI := fun σ H R => ta σ H fun vs H1 => ∃ (a1 a2 a3 : Addr) (xs ys zs : List V), vs = [.ref a1, .ref a2, .ref a3] ∧ SqL K H1 a1 xs ∧ SqL K H1 a2 ys ∧ SqL K H1 a3 zs ∧ ys.length = xs.length ∧ zs.length = xs.length ∧
  ∀ J C, ItP J xs.length (fun i => [xs.getD i .non, ys.getD i .non, zs.getD i .non]) C → (∀ H2, SqL K H2 a1 xs → SqL K H2 a2 ys → SqL K H2 a3 zs → C H2) → R J H1
theorem vals3 {x y z : V} {us : List Value} (h : Vals [x, y, z] us) : ∃ u v t, us = [u, v, t] ∧ RelV x u ∧ RelV y v ∧ RelV z t := by
  obtain _ | ⟨a, h⟩ := h
  obtain _ | ⟨b, h⟩ := h
  obtain _ | ⟨c, h⟩ := h
  cases h
  exact ⟨_, _, _, rfl, a, b, c⟩
section
variable {X : Cx} {K : PySem.W.Frag} {elts : List Expr} {kx : Nat} {tpos : Pos}
theorem pi_zip3 {a b d : Expr} {ta : TA} {p pos : Pos} (hK : X.K = K) (hg : Gl X "zip") (hm : X.mg "zip" = none) (ha : PA X [a, b, d] ta) (hs : starEach [a, b, d] X.env = [(false, eval a X.env), (false, eval b X.env), (false, eval d X.env)] := by rfl) (hs2 : starEach [b, d] X.env = [(false, eval b X.env), (false, eval d X.env)] := by rfl) :
    PI X (.Tuple elts kx tpos) (.Call (.Name "zip" p) [a, b, d] [] pos) (iZip3 K ta) := by
  subst hK
  intro pins s σ H R I h
  refine Call_ (ld_blt I hg hm boot_zip (PyProof.Rows.callWith_type1 (thn (ha pos pins s σ H _ I h) fun us s1 ⟨vs, H1, I1, r1, q1⟩ => ?_) (by rw [hs, hs2]) (by rw [hs2]; rfl)))
  obtain ⟨a1, a2, a3, xs, ys, zs, e, q1, q2, q3, hy, hz, q⟩ := q1
  subst e
  obtain ⟨u, v, t, rfl, rx, ry, rz⟩ := vals3 r1
  cases rx; cases ry; cases rz
  obtain ⟨its1, rv1, p1, _⟩ := I1.src (b := false) q1
  obtain ⟨its2, rv2, p2, _⟩ := I1.src (b := false) q2
  obtain ⟨its3, rv3, p3, _⟩ := I1.src (b := false) q3
  refine call_zip3 p1 p2 p3 fun n h' hn k1 k2 k3 k4 k5 k6 hk => wpAny_pyIter_zip k1 ?_
  have I2 : Inv X pins σ H1 { s1 with heap := h' } := I1.kept (t' := s1.toks) hk
  refine ⟨_, [n + 5, n + 3, n + 4, n, n + 1, n + 2], _, _, H1, rfl, I2, turn_zip3 a1 a2 a3 n xs ys zs hy hz, ⟨k1, k2, ⟨_, _, _, k3⟩, k4, k5, k6⟩, fun b hb => ?_, q _ _ itp_zip3 fun H2 g1 g2 g3 => ⟨g1, g2, g3⟩⟩
  have : s1.heap.objs.size ≤ b := by
    rw [← hn]
    simp only [List.mem_cons, List.not_mem_nil, or_false] at hb
    rcases hb with rfl | rfl | rfl | rfl | rfl | rfl <;> first | exact Nat.le_add_right _ _ | exact Nat.le_refl _
  exact I1.fpOk this (I1.hok.fresh this)
end
end L2
namespace L2
open PySem
def stE (es : List (Int × Int)) (s : Int × Int) : Int := if s.2 = 1 then (tieOf es s.1).2 else (tieOf es s.1).1
def stB (es : List (Int × Int)) (s : Int × Int) : Int := if s.2 = 1 then (tieOf es s.1).1 else (tieOf es s.1).2
def StV (es : List (Int × Int)) (s : Int × Int) : Prop := 0 ≤ s.1 ∧ s.1 < (es.length : Int) ∧ (s.2 = 1 ∨ s.2 = -1)
def rmN (as lo hi : List Int) : List (Int × Int) := (List.range as.length).map fun i => (hi.getD i 0 - as.getD i 0, as.getD i 0 - lo.getD i 0)
def rmA (rm : List (Int × Int)) (s : Int × Int) : Int := if s.2 = 1 then (rm.getD s.1.toNat (0, 0)).1 else (rm.getD s.1.toNat (0, 0)).2
theorem rmN_len (as lo hi : List Int) : (rmN as lo hi).length = as.length := by unfold rmN; rw [List.length_map, List.length_range]
theorem rmN_at {as lo hi : List Int} {i : Nat} (h : i < as.length) : (rmN as lo hi).getD i (0, 0) = (hi.getD i 0 - as.getD i 0, as.getD i 0 - lo.getD i 0) := by
  unfold rmN
  rw [List.getD_eq_getElem?_getD, List.getElem?_map, List.getElem?_range h]; rfl
def stN (es rm : List (Int × Int)) (p : Int) : Nat → List (Int × Int)
  | 0 => []
  | i + 1 => (stN es rm p i ++ if (es.getD i (0, 0)).1 = p ∧ 0 < (rm.getD i (0, 0)).1 then [((i : Int), (1 : Int))] else []) ++ if (es.getD i (0, 0)).2 = p ∧ 0 < (rm.getD i (0, 0)).2 then [((i : Int), (-1 : Int))] else []
theorem mem_stN {es rm : List (Int × Int)} {p : Int} {s : Int × Int} : ∀ {n : Nat}, n ≤ es.length → s ∈ stN es rm p n → StV es s ∧ stB es s = p ∧ 0 < rmA rm s
  | 0, _, h => nomatch h
  | n + 1, hn, h => by
    rcases List.mem_append.mp h with h | h
    · rcases List.mem_append.mp h with h | h
      · exact mem_stN (by omega) h
      · split at h
        · rename_i c
          rw [List.mem_singleton.mp h]
          exact ⟨⟨by show 0 ≤ (n : Int); omega, by show (n : Int) < _; omega, .inl rfl⟩, c.1, c.2⟩
        · cases h
    · split at h
      · rename_i c
        rw [List.mem_singleton.mp h]
        exact ⟨⟨by show 0 ≤ (n : Int); omega, by show (n : Int) < _; omega, .inr rfl⟩, c.1, c.2⟩
      · cases h
theorem stN_has {es rm : List (Int × Int)} {p : Int} {i : Nat} : ∀ {n : Nat}, i < n → ((es.getD i (0, 0)).1 = p → 0 < (rm.getD i (0, 0)).1 → ((i : Int), (1 : Int)) ∈ stN es rm p n) ∧ ((es.getD i (0, 0)).2 = p → 0 < (rm.getD i (0, 0)).2 → ((i : Int), (-1 : Int)) ∈ stN es rm p n)
  | 0, h => absurd h (Nat.not_lt_zero _)
  | n + 1, h => by
    by_cases c : i < n
    · obtain ⟨h1, h2⟩ := stN_has (es := es) (rm := rm) (p := p) c
      exact ⟨fun a b => List.mem_append_left _ (List.mem_append_left _ (h1 a b)), fun a b => List.mem_append_left _ (List.mem_append_left _ (h2 a b))⟩
    · obtain rfl : i = n := by omega
      refine ⟨fun a b => List.mem_append_left _ (List.mem_append_right _ ?_), fun a b => List.mem_append_right _ ?_⟩
      · rw [if_pos ⟨a, b⟩]; exact List.mem_singleton.mpr rfl
      · rw [if_pos ⟨a, b⟩]; exact List.mem_singleton.mpr rfl
def stpS (es : List (Int × Int)) (p : Int) (S : List Int × (Int → List (Int × Int))) (s : Int × Int) : List Int × (Int → List (Int × Int)) :=
  if stE es s ∈ S.1 then S else (S.1 ++ [stE es s], fun z => if z = stE es s then S.2 p ++ [s] else S.2 z)
def rndS (es rm : List (Int × Int)) (S : List Int × (Int → List (Int × Int))) (k : Nat) : List Int × (Int → List (Int × Int)) := (stN es rm (S.1.getD k 0) es.length).foldl (stpS es (S.1.getD k 0)) S
def runS (es rm : List (Int × Int)) : Nat → List Int × (Int → List (Int × Int)) → Nat → List Int × (Int → List (Int × Int))
  | 0, S, _ => S
  | n + 1, S, k => if k < S.1.length then runS es rm n (rndS es rm S k) (k + 1) else S
def wwr (es rm : List (Int × Int)) (a : Int) (m : Nat) : List Int × (Int → List (Int × Int)) := runS es rm m ([a], fun _ => []) 0
theorem runS_end {es rm : List (Int × Int)} {S : List Int × (Int → List (Int × Int))} {k : Nat} (h : ¬ k < S.1.length) : ∀ n, runS es rm n S k = S
  | 0 => rfl
  | n + 1 => if_neg h
inductive WayS (es rm : List (Int × Int)) (a : Int) : List (Int × Int) → List Int → Int → Prop
  | nil : WayS es rm a [] [] a
  | snoc {ss : List (Int × Int)} {ps : List Int} {p : Int} {s : Int × Int} : WayS es rm a ss ps p → StV es s → stB es s = p → 0 < rmA rm s → ¬ stE es s ∈ ps ++ [p] → WayS es rm a (ss ++ [s]) (ps ++ [p]) (stE es s)
section
variable {es rm : List (Int × Int)} {a p : Int} {ss : List (Int × Int)} {ps : List Int}
theorem WayS.nd (h : WayS es rm a ss ps p) : (ps ++ [p]).Nodup := by
  induction h with
  | nil => simp
  | snoc _ _ _ _ hn ih => exact nodup_snoc ih hn
theorem WayS.len (h : WayS es rm a ss ps p) : ss.length = ps.length := by
  induction h with
  | nil => rfl
  | snoc _ _ _ _ _ ih => rw [List.length_append, List.length_append, ih]; rfl
theorem WayS.first (h : WayS es rm a ss ps p) : a ∈ ps ++ [p] := by
  induction h with
  | nil => exact List.mem_singleton.mpr rfl
  | snoc _ _ _ _ _ ih => exact List.mem_append_left _ ih
theorem WayS.step (h : WayS es rm a ss ps p) : ∀ s ∈ ss, StV es s ∧ 0 < rmA rm s ∧ stE es s ≠ a ∧ stE es s ∈ ps ++ [p] ∧ stB es s ∈ ps ++ [p] := by
  induction h with
  | nil => exact fun s hs => nomatch hs
  | @snoc ss ps p s h hv hb hr hn ih =>
    intro t ht
    rcases List.mem_append.mp ht with y | y
    · obtain ⟨h1, h2, h3, h4, h5⟩ := ih t y
      exact ⟨h1, h2, h3, List.mem_append_left _ h4, List.mem_append_left _ h5⟩
    · rw [List.mem_singleton.mp y]
      exact ⟨hv, hr, fun e => hn (e ▸ h.first), List.mem_append_right _ (List.mem_singleton.mpr rfl), by rw [hb]; exact List.mem_append_left _ (List.mem_append_right _ (List.mem_singleton.mpr rfl))⟩
theorem st_ends {s t : Int × Int} (e : s.1 = t.1) : stE es s = stE es t ∨ stE es s = stB es t := by
  unfold stE stB
  rw [e]
  by_cases c1 : s.2 = 1 <;> by_cases c2 : t.2 = 1 <;> simp [c1, c2]
theorem WayS.tnd (h : WayS es rm a ss ps p) : (ss.map (·.1)).Nodup := by
  induction h with
  | nil => simp
  | @snoc ss ps p s h hv hb hr hn ih =>
    rw [List.map_append]
    refine nodup_snoc ih fun ht => ?_
    obtain ⟨t, h1, h2⟩ := List.mem_map.mp ht
    obtain ⟨_, _, _, q1, q2⟩ := h.step t h1
    rcases st_ends (es := es) (show s.1 = t.1 from h2.symm) with e | e
    · exact hn (e ▸ q1)
    · exact hn (e ▸ q2)
end
def psh (as : List Int) (ss : List (Int × Int)) (z : Int) : List Int := ss.foldl (fun as s => as.set s.1.toNat (as.getD s.1.toNat 0 + s.2 * z)) as
theorem psh_snoc (as : List Int) (ss : List (Int × Int)) (s : Int × Int) (z : Int) : psh as (ss ++ [s]) z = (psh as ss z).set s.1.toNat ((psh as ss z).getD s.1.toNat 0 + s.2 * z) := by unfold psh; rw [List.foldl_append]; rfl
theorem psh_len (as : List Int) (z : Int) (ss : List (Int × Int)) : (psh as ss z).length = as.length := by
  induction ss generalizing as with
  | nil => rfl
  | cons s ss ih => exact (ih _).trans (List.length_set ..)
theorem dp_step1 {es : List (Int × Int)} {as : List Int} {s : Int × Int} {z : Int} (hl : as.length = es.length) (hv : StV es s) (p : Int) : dp p es (as.set s.1.toNat (as.getD s.1.toNat 0 + s.2 * z)) es.length = dp p es as es.length + (if stE es s = p then z else 0) - (if stB es s = p then z else 0) := by
  obtain ⟨h0, h1, h2⟩ := hv
  rw [dp_set p es as _ _ (by omega), if_pos (by omega)]
  unfold stE stB tieOf
  have e : as.getD s.1.toNat 0 + s.2 * z - as.getD s.1.toNat 0 = s.2 * z := by omega
  rw [e]
  rcases h2 with c | c
  · rw [c, if_pos rfl, if_pos rfl, Int.one_mul]; omega
  · rw [c, if_neg (show ¬ (-1 : Int) = 1 by decide), if_neg (show ¬ (-1 : Int) = 1 by decide), Int.neg_mul, Int.one_mul]
    split <;> split <;> omega
theorem WayS.dp {es rm : List (Int × Int)} {a q : Int} {ss : List (Int × Int)} {ps : List Int} (h : WayS es rm a ss ps q) {as : List Int} {z : Int} (hl : as.length = es.length) (p : Int) : dp p es (psh as ss z) es.length = L2.dp p es as es.length + (if q = p then z else 0) - (if a = p then z else 0) := by
  induction h with
  | nil => show L2.dp p es as _ = _; omega
  | @snoc ss ps q s h hv hb hr hn ih =>
    rw [psh_snoc, dp_step1 ((psh_len ..).trans hl) hv p, ih, hb]; omega
theorem WayS.ring {es rm : List (Int × Int)} {ss : List (Int × Int)} {ps : List Int} {s : Int × Int} (h : WayS es rm (stE es s) ss ps (stB es s)) (hv : StV es s) {as : List Int} {z : Int} (hl : as.length = es.length) (p : Int) : L2.dp p es (psh as (ss ++ [s]) z) es.length = L2.dp p es as es.length := by
  rw [psh_snoc, dp_step1 ((psh_len ..).trans hl) hv p, h.dp hl p]; omega
theorem psh_out {z : Int} {t : Nat} {ss : List (Int × Int)} : ∀ {as : List Int}, (∀ s ∈ ss, s.1.toNat ≠ t) → (psh as ss z).getD t 0 = as.getD t 0 := by
  induction ss with
  | nil => intro as _; rfl
  | cons s ss ih =>
    intro as h
    have e := ih (as := as.set s.1.toNat (as.getD s.1.toNat 0 + s.2 * z)) fun u hu => h u (List.mem_cons_of_mem _ hu)
    refine Eq.trans e ?_
    rw [List.getD_eq_getElem?_getD, List.getElem?_set_ne (h s List.mem_cons_self), List.getD_eq_getElem?_getD]
theorem psh_in {es : List (Int × Int)} {z : Int} {s : Int × Int} {ss : List (Int × Int)} : ∀ {as : List Int}, as.length = es.length → (∀ u ∈ ss, StV es u) → (ss.map (·.1)).Nodup → s ∈ ss → (psh as ss z).getD s.1.toNat 0 = as.getD s.1.toNat 0 + s.2 * z := by
  induction ss with
  | nil => intro as _ _ _ h; cases h
  | cons u ss ih =>
    intro as hl hv hn hs
    rw [List.map_cons, List.nodup_cons] at hn
    have hu := hv u List.mem_cons_self
    have hl2 : (as.set u.1.toNat (as.getD u.1.toNat 0 + u.2 * z)).length = es.length := (List.length_set ..).trans hl
    rcases List.mem_cons.mp hs with y | y
    · subst y
      have e := psh_out (z := z) (t := s.1.toNat) (ss := ss) (as := as.set s.1.toNat (as.getD s.1.toNat 0 + s.2 * z)) fun v hv' e => by
        have := hv v (List.mem_cons_of_mem _ hv')
        have e' : v.1 = s.1 := by have := this.1; have := hu.1; omega
        exact hn.1 (e' ▸ List.mem_map.mpr ⟨v, hv', rfl⟩)
      refine Eq.trans e ?_
      rw [getDi_set _ _ _ _ (by have := hu.1; have := hu.2.1; omega), if_pos rfl]
    · have e := ih hl2 (fun v h => hv v (List.mem_cons_of_mem _ h)) hn.2 y
      refine Eq.trans e ?_
      have hne : u.1.toNat ≠ s.1.toNat := fun e => by
        have e' : s.1 = u.1 := by have := (hv s (List.mem_cons_of_mem _ y)).1; have := hu.1; omega
        exact hn.1 (e' ▸ List.mem_map.mpr ⟨s, y, rfl⟩)
      rw [List.getD_eq_getElem?_getD, List.getElem?_set_ne hne, List.getD_eq_getElem?_getD]
def dueI (a l h : Int) : Int := if a < l then l - a else if a > h then h - a else 0
def dueN (as lo hi : List Int) (i : Nat) : Int := dueI (as.getD i 0) (lo.getD i 0) (hi.getD i 0)
theorem dueI_zero {a l h : Int} (e : dueI a l h = 0) : l ≤ a ∧ a ≤ h := by
  unfold dueI at e
  split at e
  · omega
  · split at e <;> omega
def stpD (i : Nat) (d : Int) : Int × Int := ((i : Int), if d > 0 then 1 else -1)
theorem stpD_v {es : List (Int × Int)} {i : Nat} (h : i < es.length) (d : Int) : StV es (stpD i d) := by
  refine ⟨by show 0 ≤ (i : Int); omega, by show (i : Int) < _; omega, ?_⟩
  show (if d > 0 then (1 : Int) else -1) = 1 ∨ (if d > 0 then (1 : Int) else -1) = -1
  split
  · exact .inl rfl
  · exact .inr rfl
theorem dueI_next {a l h d z : Int} (hlh : l ≤ h) (e : dueI a l h = d) (hd : d ≠ 0) (z0 : 0 < z) (z1 : z ≤ (if d < 0 then -d else d)) : (dueI (a + (if d > 0 then 1 else -1) * z) l h).natAbs < d.natAbs := by
  unfold dueI at e
  by_cases c : a < l
  · rw [if_pos c] at e
    rw [if_neg (show ¬ d < 0 by omega)] at z1
    rw [if_pos (show d > 0 by omega), Int.one_mul]
    unfold dueI
    split
    · omega
    · split <;> omega
  · rw [if_neg c] at e
    by_cases c2 : a > h
    · rw [if_pos c2] at e
      rw [if_pos (show d < 0 by omega)] at z1
      rw [if_neg (show ¬ d > 0 by omega), Int.neg_mul, Int.one_mul]
      unfold dueI
      split
      · omega
      · split <;> omega
    · rw [if_neg c2] at e; exact absurd e.symm hd
structure BtI (es : List (Int × Int)) (lo hi : List Int) (i : Nat) (as : List Int) : Prop where
  len : as.length = es.length
  flow : ∀ p : Int, dp p es as es.length = 0
  past : ∀ t, t < i → lo.getD t 0 ≤ as.getD t 0 ∧ as.getD t 0 ≤ hi.getD t 0
theorem sz_pos {rm : List (Int × Int)} {d z : Int} {ss : List (Int × Int)} (hd : d ≠ 0) (hr : ∀ s ∈ ss, 0 < rmA rm s) (h : z ∈ (if d < 0 then -d else d) :: ss.map (rmA rm)) : 0 < z := by
  rcases List.mem_cons.mp h with y | y
  · rw [y]; split <;> omega
  · obtain ⟨s, h1, h2⟩ := List.mem_map.mp y
    rw [← h2]; exact hr s h1
theorem way_not {es : List (Int × Int)} {as lo hi : List Int} {i : Nat} {ss : List (Int × Int)} {ps : List Int} {q : Int} (hi' : i < es.length) (hl : as.length = es.length) (hd : dueN as lo hi i ≠ 0) (hlh : lo.getD i 0 ≤ hi.getD i 0)
    (h : WayS es (rmN as lo hi) (stE es (stpD i (dueN as lo hi i))) ss ps q) : ∀ s ∈ ss, s.1 ≠ (i : Int) := fun s hs e => by
  obtain ⟨hv, hr, hne, _⟩ := h.step s hs
  unfold rmA at hr
  rw [e, Int.toNat_natCast, rmN_at (by omega)] at hr
  unfold dueN dueI at hd hne
  unfold stE stpD at hne
  rw [e] at hne
  rcases hv.2.2 with c | c
  · rw [c, if_pos rfl] at hne
    rw [c, if_pos rfl] at hr
    split at hd
    · rename_i c1
      rw [if_pos c1] at hne
      rw [if_pos (show lo.getD i 0 - as.getD i 0 > 0 by omega)] at hne
      exact hne (by simp)
    · split at hd
      · dsimp only at hr; omega
      · exact hd rfl
  · rw [c, if_neg (by decide)] at hne hr
    split at hd
    · dsimp only at hr; omega
    · split at hd
      · rename_i c1 c2
        rw [if_neg c1, if_pos c2] at hne
        rw [if_neg (show ¬ hi.getD i 0 - as.getD i 0 > 0 by omega)] at hne
        exact hne (by simp)
      · exact hd rfl
theorem BtI.next {es : List (Int × Int)} {lo hi as : List Int} {i : Nat} {z : Int} {ss : List (Int × Int)} {ps : List Int} (I : BtI es lo hi i as) (hi' : i < es.length) (hlh : ∀ t, t < es.length → lo.getD t 0 ≤ hi.getD t 0) (hd : dueN as lo hi i ≠ 0)
    (h : WayS es (rmN as lo hi) (stE es (stpD i (dueN as lo hi i))) ss ps (stB es (stpD i (dueN as lo hi i)))) (hz : z ∈ (if dueN as lo hi i < 0 then -dueN as lo hi i else dueN as lo hi i) :: ss.map (rmA (rmN as lo hi))) (hm : ∀ y ∈ (if dueN as lo hi i < 0 then -dueN as lo hi i else dueN as lo hi i) :: ss.map (rmA (rmN as lo hi)), z ≤ y) :
    BtI es lo hi i (psh as (ss ++ [stpD i (dueN as lo hi i)]) z) ∧ (dueN (psh as (ss ++ [stpD i (dueN as lo hi i)]) z) lo hi i).natAbs < (dueN as lo hi i).natAbs := by
  have z0 : 0 < z := sz_pos hd (fun s hs => (h.step s hs).2.1) hz
  have hv := stpD_v hi' (dueN as lo hi i)
  have hno := way_not hi' I.len hd (hlh i hi') h
  have hvs : ∀ u ∈ ss, StV es u := fun u hu => (h.step u hu).1
  have ei : (psh as ss z).getD i 0 = as.getD i 0 := psh_out fun s hs e => hno s hs (by have := (hvs s hs).1; omega)
  have gi : (psh as (ss ++ [stpD i (dueN as lo hi i)]) z).getD i 0 = as.getD i 0 + (if dueN as lo hi i > 0 then 1 else -1) * z := by
    rw [psh_snoc]
    show ((psh as ss z).set ((i : Int)).toNat _).getD i 0 = _
    rw [Int.toNat_natCast, getDi_set _ _ _ _ (by rw [psh_len, I.len]; exact hi'), if_pos rfl]
    show (psh as ss z).getD ((i : Int)).toNat 0 + _ = _
    rw [Int.toNat_natCast, ei]; rfl
  refine ⟨⟨(psh_len ..).trans I.len, fun p => (h.ring hv I.len p).trans (I.flow p), fun t ht => ?_⟩, ?_⟩
  · have gt : (psh as (ss ++ [stpD i (dueN as lo hi i)]) z).getD t 0 = (psh as ss z).getD t 0 := by
      rw [psh_snoc]
      show ((psh as ss z).set ((i : Int)).toNat _).getD t 0 = _
      rw [Int.toNat_natCast, getDi_set _ _ _ _ (by rw [psh_len, I.len]; exact hi'), if_neg (by omega)]
    rw [gt]
    obtain ⟨b1, b2⟩ := I.past t ht
    by_cases hs : ∃ s ∈ ss, s.1.toNat = t
    · obtain ⟨s, hs, es'⟩ := hs
      have e := psh_in (z := z) I.len hvs h.tnd hs
      rw [es'] at e
      rw [e]
      have hr := hm (rmA (rmN as lo hi) s) (List.mem_cons_of_mem _ (List.mem_map.mpr ⟨s, hs, rfl⟩))
      unfold rmA at hr
      rw [es', rmN_at (by rw [I.len]; omega)] at hr
      rcases (hvs s hs).2.2 with c | c
      · rw [c, if_pos rfl] at hr
        rw [c, Int.one_mul]
        have hr' : z ≤ hi.getD t 0 - as.getD t 0 := hr
        omega
      · rw [c, if_neg (by decide)] at hr
        rw [c, Int.neg_mul, Int.one_mul]
        have hr' : z ≤ as.getD t 0 - lo.getD t 0 := hr
        omega
    · rw [psh_out fun s h1 h2 => hs ⟨s, h1, h2⟩]
      exact ⟨b1, b2⟩
  · show (dueI ((psh as (ss ++ [stpD i (dueN as lo hi i)]) z).getD i 0) (lo.getD i 0) (hi.getD i 0)).natAbs < _
    rw [gi]
    exact dueI_next (hlh i hi') rfl hd z0 (hm _ List.mem_cons_self)
theorem BtI.sml {es : List (Int × Int)} {lo hi as : List Int} {i : Nat} {z B : Int} {ss : List (Int × Int)} {ps : List Int} (I : BtI es lo hi i as) (hi' : i < es.length) (hlh : ∀ t, t < es.length → lo.getD t 0 ≤ hi.getD t 0) (hd : dueN as lo hi i ≠ 0)
    (h : WayS es (rmN as lo hi) (stE es (stpD i (dueN as lo hi i))) ss ps (stB es (stpD i (dueN as lo hi i)))) (hz : z ∈ (if dueN as lo hi i < 0 then -dueN as lo hi i else dueN as lo hi i) :: ss.map (rmA (rmN as lo hi))) (hm : ∀ y ∈ (if dueN as lo hi i < 0 then -dueN as lo hi i else dueN as lo hi i) :: ss.map (rmA (rmN as lo hi)), z ≤ y)
    (hB : ∀ t, t < es.length → -B ≤ lo.getD t 0 ∧ hi.getD t 0 ≤ B) (hs : ∀ t, t < es.length → -B ≤ as.getD t 0 ∧ as.getD t 0 ≤ B) :
    z.natAbs ≤ (2 * B).toNat ∧ ∀ t, t < es.length → -B ≤ (psh as (ss ++ [stpD i (dueN as lo hi i)]) z).getD t 0 ∧ (psh as (ss ++ [stpD i (dueN as lo hi i)]) z).getD t 0 ≤ B := by
  have z0 : 0 < z := sz_pos hd (fun s hs => (h.step s hs).2.1) hz
  have hno := way_not hi' I.len hd (hlh i hi') h
  have hvs : ∀ u ∈ ss, StV es u := fun u hu => (h.step u hu).1
  have zd := hm _ List.mem_cons_self
  have hbi := hB i hi'
  have hsi := hs i hi'
  have hli := hlh i hi'
  have dd : (as.getD i 0 < lo.getD i 0 ∧ dueN as lo hi i = lo.getD i 0 - as.getD i 0) ∨ (hi.getD i 0 < as.getD i 0 ∧ dueN as lo hi i = hi.getD i 0 - as.getD i 0) := by
    unfold dueN dueI at hd ⊢
    split
    · exact .inl ⟨by assumption, rfl⟩
    · rename_i c1
      rw [if_neg c1] at hd
      split
      · exact .inr ⟨by assumption, rfl⟩
      · rename_i c2; rw [if_neg c2] at hd; exact absurd rfl hd
  have ei : (psh as ss z).getD i 0 = as.getD i 0 := psh_out fun s hs e => hno s hs (by have := (hvs s hs).1; omega)
  refine ⟨?_, fun t ht => ?_⟩
  · rcases dd with ⟨c, e⟩ | ⟨c, e⟩ <;> rw [e] at zd <;> split at zd <;> omega
  rw [psh_snoc]
  show -B ≤ ((psh as ss z).set ((i : Int)).toNat _).getD t 0 ∧ ((psh as ss z).set ((i : Int)).toNat _).getD t 0 ≤ B
  rw [Int.toNat_natCast, getDi_set _ _ _ _ (by rw [psh_len, I.len]; exact hi')]
  by_cases c : i = t
  · subst c
    rw [if_pos rfl]
    show -B ≤ (psh as ss z).getD ((i : Int)).toNat 0 + (if dueN as lo hi i > 0 then 1 else -1) * z ∧ (psh as ss z).getD ((i : Int)).toNat 0 + (if dueN as lo hi i > 0 then 1 else -1) * z ≤ B
    rw [Int.toNat_natCast, ei]
    rcases dd with ⟨c, e⟩ | ⟨c, e⟩
    · rw [e, if_neg (by omega)] at zd
      rw [e, if_pos (by omega), Int.one_mul]; omega
    · rw [e, if_pos (by omega)] at zd
      rw [e, if_neg (by omega), Int.neg_mul, Int.one_mul]; omega
  · rw [if_neg c]
    have hbt := hB t ht
    have hst := hs t ht
    by_cases hs : ∃ s ∈ ss, s.1.toNat = t
    · obtain ⟨s, hs, es'⟩ := hs
      have e := psh_in (z := z) I.len hvs h.tnd hs
      rw [es'] at e
      rw [e]
      have hr := hm (rmA (rmN as lo hi) s) (List.mem_cons_of_mem _ (List.mem_map.mpr ⟨s, hs, rfl⟩))
      unfold rmA at hr
      rw [es', rmN_at (by rw [I.len]; omega)] at hr
      rcases (hvs s hs).2.2 with c | c
      · rw [c, if_pos rfl] at hr
        rw [c, Int.one_mul]
        have hr' : z ≤ hi.getD t 0 - as.getD t 0 := hr
        omega
      · rw [c, if_neg (by decide)] at hr
        rw [c, Int.neg_mul, Int.one_mul]
        have hr' : z ≤ as.getD t 0 - lo.getD t 0 := hr
        omega
    · rw [psh_out fun s h1 h2 => hs ⟨s, h1, h2⟩]
      exact hst
def rst (m : Nat) (R : List Int) : List Int := ((List.range m).map fun (j : Nat) => (j : Int)).filter fun p => !decide (p ∈ R)
theorem mem_rst {m : Nat} {R : List Int} {p : Int} : p ∈ rst m R ↔ 0 ≤ p ∧ p < m ∧ ¬ p ∈ R := by
  unfold rst
  rw [List.mem_filter, List.mem_map]
  constructor
  · rintro ⟨⟨j, hj, rfl⟩, h⟩
    rw [List.mem_range] at hj
    exact ⟨by omega, by omega, by simpa using h⟩
  · rintro ⟨h0, h1, h2⟩
    exact ⟨⟨p.toNat, List.mem_range.mpr (by omega), by omega⟩, by simpa using h2⟩
theorem rst_succ (m : Nat) (R : List Int) : rst (m + 1) R = rst m R ++ if (m : Int) ∈ R then [] else [(m : Int)] := by
  unfold rst
  rw [List.range_succ, List.map_append, List.filter_append]
  congr 1
  by_cases c : (m : Int) ∈ R
  · rw [if_pos c]
    exact List.filter_cons_of_neg (by simpa using c)
  · rw [if_neg c]
    exact List.filter_cons_of_pos (by simpa using c)
theorem rst_len (m : Nat) (R : List Int) : (rst m R).length ≤ m := by
  unfold rst
  exact Nat.le_trans (List.length_filter_le _ _) (by rw [List.length_map, List.length_range]; exact Nat.le_refl _)
theorem rst_up (m : Nat) (R : List Int) : (rst m R).Pairwise (· < ·) := by
  unfold rst
  refine List.Pairwise.filter _ ?_
  rw [List.pairwise_map]
  exact List.pairwise_lt_range.imp fun h => by omega
theorem rst_nd (m : Nat) (R : List Int) : (rst m R).Nodup := by
  rw [List.nodup_iff_pairwise_ne]
  exact (rst_up m R).imp fun h e => by omega
def shS (ps : List Int) (es : List (Int × Int)) (lo hi : List Int) : Nat → Int
  | 0 => 0
  | i + 1 => shS ps es lo hi i + (if (memI ps (es.getD i (0, 0)).1 && !memI ps (es.getD i (0, 0)).2) = true then lo.getD i 0 else 0) - (if (memI ps (es.getD i (0, 0)).2 && !memI ps (es.getD i (0, 0)).1) = true then hi.getD i 0 else 0)
theorem shS_le {ps : List Int} {es : List (Int × Int)} {lo hi fs : List Int} {k : Int} (h : ∀ t, t < es.length → k * lo.getD t 0 ≤ fs.getD t 0 ∧ fs.getD t 0 ≤ k * hi.getD t 0) : ∀ n, n ≤ es.length → k * shS ps es lo hi n ≤ ac ps es fs n
  | 0, _ => by show k * 0 ≤ 0; omega
  | n + 1, hn => by
    have ih := shS_le (ps := ps) h n (by omega)
    obtain ⟨h1, h2⟩ := h n (by omega)
    show k * (shS ps es lo hi n + _ - _) ≤ ac ps es fs n + _ - _
    rw [Int.mul_sub, Int.mul_add]
    cases memI ps (es.getD n (0, 0)).1 <;> cases memI ps (es.getD n (0, 0)).2 <;> simp only [Bool.not_true, Bool.not_false, Bool.and_self, Bool.and_true, Bool.and_false, Bool.false_and, Bool.true_and, Bool.false_eq_true, if_true, if_false, reduceIte, Int.mul_zero] <;> omega
theorem not_shut {ps : List Int} {es : List (Int × Int)} {lo hi fs : List Int} {k : Int} (k0 : 0 < k) (hN : ps.Nodup) (hf : ∀ p : Int, dp p es fs es.length = 0) (h : ∀ t, t < es.length → k * lo.getD t 0 ≤ fs.getD t 0 ∧ fs.getD t 0 ≤ k * hi.getD t 0) : ¬ 0 < shS ps es lo hi es.length := fun c => by
  have e := shS_le (ps := ps) h es.length (Nat.le_refl _)
  rw [ac_zero hN hf] at e
  have := Int.mul_pos k0 c
  omega
theorem shut_of {es : List (Int × Int)} {m : Nat} {lo hi as : List Int} {i : Nat} {R : List Int} (hE : ∀ e ∈ es, 0 ≤ e.1 ∧ e.1 < (m : Int) ∧ 0 ≤ e.2 ∧ e.2 < (m : Int)) (I : BtI es lo hi i as) (hi' : i < es.length) (hd : dueN as lo hi i ≠ 0)
    (h0 : stE es (stpD i (dueN as lo hi i)) ∈ R) (h1 : ¬ stB es (stpD i (dueN as lo hi i)) ∈ R) (hc : ∀ p ∈ R, ∀ s ∈ stN es (rmN as lo hi) p es.length, stE es s ∈ R) : 0 < shS (rst m R) es lo hi es.length := by
  have hmem : ∀ z : Int, 0 ≤ z → z < m → memI (rst m R) z = !decide (z ∈ R) := fun z z0 z1 => by
    rw [Bool.eq_iff_iff, memI_iff, mem_rst]
    simp only [Bool.not_eq_true', decide_eq_false_iff_not]
    exact ⟨fun h => h.2.2, fun h => ⟨z0, z1, h⟩⟩
  have key : ∀ n, n ≤ es.length → (if i < n then 1 else 0) ≤ shS (rst m R) es lo hi n - ac (rst m R) es as n := by
    intro n
    induction n with
    | zero => intro _; rw [if_neg (Nat.not_lt_zero _)]; exact Int.le_refl 0
    | succ n ih =>
      intro hn
      have ih := ih (by omega)
      have hg : es[n]? = some (es.getD n (0, 0)) := by rw [List.getD_eq_getElem?_getD, List.getElem?_eq_getElem (show n < es.length by omega)]; rfl
      obtain ⟨d1, d2, d3, d4⟩ := hE _ (List.mem_of_getElem? hg)
      have r1 := stN_has (es := es) (rm := rmN as lo hi) (p := (es.getD n (0, 0)).1) (show n < es.length by omega)
      have r2 := stN_has (es := es) (rm := rmN as lo hi) (p := (es.getD n (0, 0)).2) (show n < es.length by omega)
      rw [rmN_at (by rw [I.len]; omega)] at r1 r2
      have f1 : (es.getD n (0, 0)).1 ∈ R → ¬ (es.getD n (0, 0)).2 ∈ R → hi.getD n 0 ≤ as.getD n 0 := fun a b => Classical.byContradiction fun c => b (by
        have := hc _ a _ (r1.1 rfl (by show 0 < hi.getD n 0 - as.getD n 0; omega))
        exact this)
      have f2 : (es.getD n (0, 0)).2 ∈ R → ¬ (es.getD n (0, 0)).1 ∈ R → as.getD n 0 ≤ lo.getD n 0 := fun a b => Classical.byContradiction fun c => b (by
        have := hc _ a _ (r2.2 rfl (by show 0 < as.getD n 0 - lo.getD n 0; omega))
        exact this)
      show _ ≤ (shS (rst m R) es lo hi n + _ - _) - (ac (rst m R) es as n + _ - _)
      rw [hmem _ d1 d2, hmem _ d3 d4]
      by_cases c : i = n
      · subst c
        rw [if_pos (Nat.lt_succ_self _)]
        rw [if_neg (Nat.lt_irrefl _)] at ih
        unfold stE tieOf at h0
        unfold stB tieOf at h1
        unfold dueN dueI at hd h0 h1
        have ei : (stpD i (if as.getD i 0 < lo.getD i 0 then lo.getD i 0 - as.getD i 0 else if as.getD i 0 > hi.getD i 0 then hi.getD i 0 - as.getD i 0 else 0)).1.toNat = i := Int.toNat_natCast i
        rw [ei] at h0 h1
        split at hd
        · rename_i c1
          have e2 : (stpD i (lo.getD i 0 - as.getD i 0)).2 = 1 := if_pos (by omega)
          rw [if_pos c1, e2, if_pos rfl] at h0 h1
          rw [decide_eq_true h0, decide_eq_false h1]
          simp only [Bool.not_true, Bool.not_false, Bool.and_self, Bool.and_true, Bool.and_false, Bool.false_and, Bool.true_and, Bool.false_eq_true, if_true, if_false, reduceIte, Int.mul_zero]; omega
        · rename_i c1
          split at hd
          · rename_i c2
            have e2 : (stpD i (hi.getD i 0 - as.getD i 0)).2 = -1 := if_neg (by omega)
            rw [if_neg c1, if_pos c2, e2, if_neg (show ¬ (-1 : Int) = 1 by decide)] at h0 h1
            rw [decide_eq_true h0, decide_eq_false h1]
            simp only [Bool.not_true, Bool.not_false, Bool.and_self, Bool.and_true, Bool.and_false, Bool.false_and, Bool.true_and, Bool.false_eq_true, if_true, if_false, reduceIte, Int.mul_zero]; omega
          · exact absurd rfl hd
      · have e : (if i < n + 1 then (1 : Int) else 0) = if i < n then 1 else 0 := by
          by_cases c2 : i < n
          · rw [if_pos c2, if_pos (by omega)]
          · rw [if_neg c2, if_neg (by omega)]
        rw [e]
        by_cases a1 : (es.getD n (0, 0)).1 ∈ R <;> by_cases a2 : (es.getD n (0, 0)).2 ∈ R
        · rw [decide_eq_true a1, decide_eq_true a2]; simp only [Bool.not_true, Bool.not_false, Bool.and_self, Bool.and_true, Bool.and_false, Bool.false_and, Bool.true_and, Bool.false_eq_true, if_true, if_false, reduceIte, Int.mul_zero]; omega
        · rw [decide_eq_true a1, decide_eq_false a2]; have := f1 a1 a2; simp only [Bool.not_true, Bool.not_false, Bool.and_self, Bool.and_true, Bool.and_false, Bool.false_and, Bool.true_and, Bool.false_eq_true, if_true, if_false, reduceIte, Int.mul_zero]; omega
        · rw [decide_eq_false a1, decide_eq_true a2]; have := f2 a2 a1; simp only [Bool.not_true, Bool.not_false, Bool.and_self, Bool.and_true, Bool.and_false, Bool.false_and, Bool.true_and, Bool.false_eq_true, if_true, if_false, reduceIte, Int.mul_zero]; omega
        · rw [decide_eq_false a1, decide_eq_false a2]; simp only [Bool.not_true, Bool.not_false, Bool.and_self, Bool.and_true, Bool.and_false, Bool.false_and, Bool.true_and, Bool.false_eq_true, if_true, if_false, reduceIte, Int.mul_zero]; omega
  have := key es.length (Nat.le_refl _)
  rw [if_pos hi', ac_zero (rst_nd m R) I.flow] at this
  omega
inductive WhR (es : List (Int × Int)) (lo hi : List Int) (m i : Nat) : List Int → Bool × List Int → Prop
  | done {as : List Int} : dueN as lo hi i = 0 → WhR es lo hi m i as (true, as)
  | shut {as : List Int} : dueN as lo hi i ≠ 0 → ¬ stB es (stpD i (dueN as lo hi i)) ∈ (wwr es (rmN as lo hi) (stE es (stpD i (dueN as lo hi i))) m).1 → WhR es lo hi m i as (false, rst m (wwr es (rmN as lo hi) (stE es (stpD i (dueN as lo hi i))) m).1)
  | next {as ws : List Int} {z : Int} {ss : List (Int × Int)} {r : Bool × List Int} : dueN as lo hi i ≠ 0 → stB es (stpD i (dueN as lo hi i)) ∈ (wwr es (rmN as lo hi) (stE es (stpD i (dueN as lo hi i))) m).1 →
      ss = (wwr es (rmN as lo hi) (stE es (stpD i (dueN as lo hi i))) m).2 (stB es (stpD i (dueN as lo hi i))) → z ∈ (if dueN as lo hi i < 0 then -dueN as lo hi i else dueN as lo hi i) :: ss.map (rmA (rmN as lo hi)) → (∀ y ∈ (if dueN as lo hi i < 0 then -dueN as lo hi i else dueN as lo hi i) :: ss.map (rmA (rmN as lo hi)), z ≤ y) →
      ws = psh as (ss ++ [stpD i (dueN as lo hi i)]) z → WhR es lo hi m i ws r → WhR es lo hi m i as r
theorem WhR.det {es : List (Int × Int)} {lo hi : List Int} {m i : Nat} {as : List Int} {r r' : Bool × List Int} (h : WhR es lo hi m i as r) (h' : WhR es lo hi m i as r') : r = r' := by
  induction h with
  | done e =>
    cases h' with
    | done _ => rfl
    | shut d _ => exact absurd e d
    | next d _ _ _ _ _ _ => exact absurd e d
  | shut d n =>
    cases h' with
    | done e => exact absurd e d
    | shut _ _ => rfl
    | next _ q _ _ _ _ _ => exact absurd q n
  | next d q es' hz hm ew _ ih =>
    cases h' with
    | done e => exact absurd e d
    | shut _ n => exact absurd q n
    | next _ _ es2 hz2 hm2 ew2 h2 =>
      subst es'; subst es2
      have e := Int.le_antisymm (hm _ hz2) (hm2 _ hz)
      subst e
      subst ew; subst ew2
      exact ih h2
inductive BtR (es : List (Int × Int)) (lo hi : List Int) (m : Nat) : Nat → Bool × List Int → Prop
  | nil : BtR es lo hi m 0 (true, List.replicate es.length 0)
  | next {i : Nat} {as : List Int} {r : Bool × List Int} : BtR es lo hi m i (true, as) → WhR es lo hi m i as r → BtR es lo hi m (i + 1) r
  | stop {i : Nat} {x : List Int} : BtR es lo hi m i (false, x) → BtR es lo hi m (i + 1) (false, x)
theorem BtR.det {es : List (Int × Int)} {lo hi : List Int} {m n : Nat} {r r' : Bool × List Int} (h : BtR es lo hi m n r) (h' : BtR es lo hi m n r') : r = r' := by
  induction h generalizing r' with
  | nil => cases h'; rfl
  | next _ hw ih =>
    cases h' with
    | next h2 hw2 =>
      have e := ih h2
      injection e with _ e
      subst e
      exact hw.det hw2
    | stop h2 =>
      have e := ih h2
      injection e with e _
      cases e
  | stop _ ih =>
    cases h' with
    | next h2 _ =>
      have e := ih h2
      injection e with e _
      cases e
    | stop h2 => exact ih h2
theorem BtR.shut {es : List (Int × Int)} {lo hi : List Int} {m i n : Nat} {x : List Int} (h : BtR es lo hi m i (false, x)) (hn : i ≤ n) : BtR es lo hi m n (false, x) := by
  induction n with
  | zero => obtain rfl : i = 0 := by omega
            exact h
  | succ n ih =>
    by_cases c : i = n + 1
    · exact c ▸ h
    · exact .stop (ih (by omega))
end L2
namespace L2
open PySem
def tS (fs : List Int) : Nat → Nat → Int
  | _, 0 => 0
  | t, k + 1 => ((fs.getD t 0).natAbs : Int) + tS fs (t + 1) k
theorem tS_snoc (fs : List Int) : ∀ k t, tS fs t (k + 1) = tS fs t k + ((fs.getD (t + k) 0).natAbs : Int)
  | 0, t => by show _ + 0 = 0 + _; rw [Nat.add_zero]; omega
  | k + 1, t => by
    show ((fs.getD t 0).natAbs : Int) + tS fs (t + 1) (k + 1) = (((fs.getD t 0).natAbs : Int) + tS fs (t + 1) k) + _
    rw [tS_snoc fs k (t + 1), show t + 1 + k = t + (k + 1) by omega]; omega
theorem tS_cut {m : Int} {es : List (Int × Int)} {fs : List Int} (hE : ∀ e ∈ es, 0 ≤ e.1 ∧ e.1 < m ∧ 0 ≤ e.2 ∧ e.2 < m) (hd : ∀ p : Int, dp p es fs es.length = 0) {t k : Nat} (ht : t + 1 + k = es.length) (hF : inF es t = true) : ((fs.getD t 0).natAbs : Int) ≤ tS fs (t + 1) k := by
  obtain ⟨f, F⟩ := lab_ex hE t
  have gE : ∀ j, j < es.length → es[j]? = some (es.getD j (0, 0)) := fun j hj => by rw [List.getD_eq_getElem?_getD, List.getElem?_eq_getElem hj]; rfl
  obtain ⟨b1, b2, b3, b4⟩ := hE _ (List.mem_of_getElem? (gE t (by omega)))
  have hne : ¬ f (es.getD t (0, 0)).1 = f (es.getD t (0, 0)).2 := fun z => inF_iff.mp hF ((F.iff b1 b2 b3 b4).mp z)
  have hz := ac_zero (grp_nd m.toNat f (f (es.getD t (0, 0)).1)) hd
  have hmem : ∀ z : Int, 0 ≤ z → z < m → memI (grp m.toNat f (f (es.getD t (0, 0)).1)) z = decide (f z = f (es.getD t (0, 0)).1) := fun z z0 z1 => by
    rw [Bool.eq_iff_iff, memI_iff, mem_grp, decide_eq_true_iff]
    exact ⟨fun h => h.2.2, fun h => ⟨z0, by omega, h⟩⟩
  have bef : ∀ n, n ≤ t → ac (grp m.toNat f (f (es.getD t (0, 0)).1)) es fs n = 0 := by
    intro n
    induction n with
    | zero => intro _; rfl
    | succ n ih =>
      intro hn
      show ac _ es fs n + _ - _ = _
      obtain ⟨d1, d2, d3, d4⟩ := hE _ (List.mem_of_getElem? (gE n (by omega)))
      have es1 : f (es.getD n (0, 0)).1 = f (es.getD n (0, 0)).2 := F.same _ (List.mem_take_iff_getElem.mpr ⟨n, by omega, by rw [List.getD_eq_getElem?_getD, List.getElem?_eq_getElem (show n < es.length by omega)]; rfl⟩)
      rw [ih (by omega), hmem _ d1 d2, hmem _ d3 d4, es1]
      cases decide (f (es.getD n (0, 0)).2 = f (es.getD t (0, 0)).1) <;> simp
  have aft : ∀ j, j ≤ k → fs.getD t 0 - tS fs (t + 1) j ≤ ac (grp m.toNat f (f (es.getD t (0, 0)).1)) es fs (t + 1 + j) ∧ ac (grp m.toNat f (f (es.getD t (0, 0)).1)) es fs (t + 1 + j) ≤ fs.getD t 0 + tS fs (t + 1) j := by
    intro j
    induction j with
    | zero =>
      intro _
      have e : ac (grp m.toNat f (f (es.getD t (0, 0)).1)) es fs (t + 1) = fs.getD t 0 := by
        show ac _ es fs t + _ - _ = _
        rw [bef t (Nat.le_refl _), hmem _ b1 b2, hmem _ b3 b4, decide_eq_true rfl, decide_eq_false (fun z => hne z.symm)]
        simp only [Bool.not_false, Bool.not_true, Bool.and_true, Bool.and_false, Bool.false_eq_true, if_true, if_false, reduceIte]
        omega
      rw [Nat.add_zero, e]
      show _ - 0 ≤ _ ∧ _ ≤ _ + 0
      omega
    | succ j ih =>
      intro hj
      obtain ⟨i1, i2⟩ := ih (by omega)
      rw [tS_snoc]
      have e0 : ∀ G : List Int, ac G es fs (t + 1 + (j + 1)) = ac G es fs (t + 1 + j) + (if (memI G (es.getD (t + 1 + j) (0, 0)).1 && !memI G (es.getD (t + 1 + j) (0, 0)).2) = true then fs.getD (t + 1 + j) 0 else 0) - (if (memI G (es.getD (t + 1 + j) (0, 0)).2 && !memI G (es.getD (t + 1 + j) (0, 0)).1) = true then fs.getD (t + 1 + j) 0 else 0) := fun _ => rfl
      rw [e0]
      have hb : -((fs.getD (t + 1 + j) 0).natAbs : Int) ≤ fs.getD (t + 1 + j) 0 ∧ fs.getD (t + 1 + j) 0 ≤ ((fs.getD (t + 1 + j) 0).natAbs : Int) := by omega
      generalize memI (grp m.toNat f (f (es.getD t (0, 0)).1)) (es.getD (t + 1 + j) (0, 0)).1 = x
      generalize memI (grp m.toNat f (f (es.getD t (0, 0)).1)) (es.getD (t + 1 + j) (0, 0)).2 = y
      cases x <;> cases y <;> simp only [Bool.not_false, Bool.not_true, Bool.and_true, Bool.and_false, Bool.true_and, Bool.false_and, Bool.false_eq_true, if_true, if_false, reduceIte] <;> omega
  have := aft k (Nat.le_refl _)
  rw [ht, hz] at this
  omega
theorem tS_bound {m B : Int} {es : List (Int × Int)} {fs : List Int} (hE : ∀ e ∈ es, 0 ≤ e.1 ∧ e.1 < m ∧ 0 ≤ e.2 ∧ e.2 < m) (hd : ∀ p : Int, dp p es fs es.length = 0) (hB : 0 ≤ B) (h0 : ∀ t, t < es.length → ¬ inF es t = true → ((fs.getD t 0).natAbs : Int) ≤ B) : ∀ k t, t + k = es.length → tS fs t k ≤ 2 ^ k * B - B
  | 0, t, _ => by show 0 ≤ 1 * B - B; omega
  | k + 1, t, ht => by
    have ih := tS_bound hE hd hB h0 k (t + 1) (by omega)
    show ((fs.getD t 0).natAbs : Int) + tS fs (t + 1) k ≤ 2 ^ (k + 1) * B - B
    rw [Int.pow_succ, Int.mul_comm (2 ^ k) 2, Int.mul_assoc]
    have hp : B ≤ 2 ^ k * B := by
      have h1 : (1 : Int) ≤ 2 ^ k := Int.pow_pos (by decide)
      have := Int.mul_le_mul_of_nonneg_right h1 hB
      omega
    generalize (2 : Int) ^ k * B = X at ih hp
    by_cases hF : inF es t = true
    · have := tS_cut hE hd (t := t) (k := k) (by omega) hF
      omega
    · have := h0 t (by omega) hF
      omega
theorem tS_one (fs : List Int) : ∀ k t j, t ≤ j → j < t + k → ((fs.getD j 0).natAbs : Int) ≤ tS fs t k
  | 0, t, j, h1, h2 => by omega
  | k + 1, t, j, h1, h2 => by
    have hn : ∀ k t, 0 ≤ tS fs t k := fun k => by
      induction k with
      | zero => intro t; exact Int.le_refl 0
      | succ k ih => intro t; show 0 ≤ _ + tS fs (t + 1) k; have := ih (t + 1); omega
    show _ ≤ ((fs.getD t 0).natAbs : Int) + tS fs (t + 1) k
    by_cases c : t = j
    · subst c; have := hn k (t + 1); omega
    · have := tS_one fs k (t + 1) j (by omega) (by omega); omega
theorem flow_bound {m B : Int} {es : List (Int × Int)} {fs : List Int} (hE : ∀ e ∈ es, 0 ≤ e.1 ∧ e.1 < m ∧ 0 ≤ e.2 ∧ e.2 < m) (hd : ∀ p : Int, dp p es fs es.length = 0) (hB : 0 ≤ B) (hz : es.length ≤ 40) (h0 : ∀ t, t < es.length → ¬ inF es t = true → ((fs.getD t 0).natAbs : Int) ≤ B) : ∀ t, t < es.length → ((fs.getD t 0).natAbs : Int) ≤ 2 ^ 40 * B := fun t ht => by
  have h1 := tS_one fs es.length 0 t (Nat.zero_le _) (by omega)
  have h2 := tS_bound hE hd hB h0 es.length 0 (Nat.zero_add _)
  have h3 : (2 : Int) ^ es.length ≤ 2 ^ 40 := by exact_mod_cast Nat.pow_le_pow_right (n := 2) (by decide) hz
  have h4 := Int.mul_le_mul_of_nonneg_right h3 hB
  omega
def lwK (fs : List Int) (k : Int) : List Int := fs.map (· / k)
def hgK (fs : List Int) (k : Int) : List Int := fs.map fun a => -(-a / k)
def rdK (fs as : List Int) (k : Int) : List Int := List.zipWith (· + ·) fs (as.map (-k * ·))
structure RdF (es : List (Int × Int)) (rs : List Int) (k : Int) (gs : List Int) : Prop where
  len : gs.length = es.length
  flow : ∀ p : Int, dp p es gs es.length = 0
  zero : ∀ t, t < es.length → rs.getD t 0 = 0 → gs.getD t 0 = 0
  pos : ∀ t, t < es.length → rs.getD t 0 ≠ 0 → gs.getD t 0 = rs.getD t 0 ∨ gs.getD t 0 = rs.getD t 0 - k
def RdR (m : Int) (es : List (Int × Int)) (fs : List Int) (k : Int) (gs : List Int) : Prop := ∃ as, BtR es (lwK fs k) (hgK fs k) m.toNat es.length (true, as) ∧ gs = rdK fs as k
theorem RdR.det {m k : Int} {es : List (Int × Int)} {fs gs gs' : List Int} (h : RdR m es fs k gs) (h' : RdR m es fs k gs') : gs = gs' := by
  obtain ⟨as, h1, rfl⟩ := h
  obtain ⟨as', h2, rfl⟩ := h'
  have e := h1.det h2
  injection e with _ e
  rw [e]
theorem FW.bound {m B : Int} {es : List (Int × Int)} {vs fs : List Int} (hE : ∀ e ∈ es, 0 ≤ e.1 ∧ e.1 < m ∧ 0 ≤ e.2 ∧ e.2 < m) (h : FW es vs fs) (hl : vs.length = (fre es).length) (hB : 0 ≤ B) (hz : es.length ≤ 40) (hv : ∀ v ∈ vs, (v.natAbs : Int) ≤ B) : ∀ t, t < es.length → ((fs.getD t 0).natAbs : Int) ≤ 2 ^ 40 * B :=
  flow_bound hE h.2.1 hB hz fun t ht hn => by
    obtain ⟨j, hj, e⟩ := fre_at ht hn
    have e1 := h.2.2 j hj
    rw [e, Int.toNat_natCast] at e1
    rw [e1, gD_at (by omega)]
    exact hv _ (List.getElem_mem _)
def LtR (m : Int) (es : List (Int × Int)) (rs : List Int) (k : Int) (gs : List Int) : Prop := ∃ fs, FW es (frv es rs) fs ∧ RdR m es fs k gs
theorem LtR.det {m k : Int} {es : List (Int × Int)} {rs gs gs' : List Int} (hE : ∀ e ∈ es, 0 ≤ e.1 ∧ e.1 < m ∧ 0 ≤ e.2 ∧ e.2 < m) (h : LtR m es rs k gs) (h' : LtR m es rs k gs') : gs = gs' := by
  obtain ⟨fs, h1, h2⟩ := h
  obtain ⟨fs', h1', h2'⟩ := h'
  have e := h1.uniq hE h1'
  subst e
  exact h2.det h2'
end L2
namespace L2
open PySem PySem.Spec PyProof.Rows
def bs (m : Nat) : List Nat := (List.range 7).filter fun i => m.testBit i
def tbP (led : Bool) (ps : List Nat) : SetTable := { mask := if ps.length < 5 then 7 else 31, place := ps.toArray, dummies := #[], finger := 0, led := led, moves := if ps.length < 5 then 0 else 1, plain := true }
def hsh (ps : List Nat) : Array Int := (ps.map Int.ofNat).toArray
def sl (ps : List Nat) : Nat → Nat
  | 0 => 0
  | i + 1 => ps.getD i 0 + 1
instance : DecidableEq (Option (SetTable × Array Nat)) := inferInstance
theorem tb_free : ∀ led : Bool, ∀ m, m < 128 → ∀ p, p < 7 → (∀ q ∈ bs m, q < p) → (tbP led (bs m)).freeSlot (Int.ofNat p) = some (p, false) := by decide +kernel
theorem tb_at : ∀ led : Bool, ∀ m, m < 128 → ∀ p, p < 7 → (∀ q ∈ bs m, q < p) → ((tbP led (bs m)).put p).2 = (bs m).length := by decide +kernel
theorem tb_fits : ∀ led : Bool, ∀ m, m < 128 → ∀ p, p < 7 → (∀ q ∈ bs m, q < p) → ((tbP led (bs m)).put p).1.fits ((bs m).length + 1) = true ∧ ((tbP led (bs m)).put p).1.plain = true := by decide +kernel
set_option synthInstance.maxSize 512 in
set_option synthInstance.maxHeartbeats 200000 in
theorem tb_full : ∀ led : Bool, ∀ m, m < 128 → ∀ p, p < 7 → (∀ q ∈ bs m, q < p) → ((tbP led (bs m)).put p).1.tooFull = true → ((tbP led (bs m)).put p).1.relaid (hsh (bs m ++ [p])) (SetTable.grown ((bs m).length + 1)) = some (tbP led (bs m ++ [p]), Array.range ((bs m).length + 1)) := by decide +kernel
theorem tb_thin : ∀ led : Bool, ∀ m, m < 128 → ∀ p, p < 7 → (∀ q ∈ bs m, q < p) → ((tbP led (bs m)).put p).1.tooFull = false → ((tbP led (bs m)).put p).1 = tbP led (bs m ++ [p]) := by decide +kernel
theorem tb_ok : ∀ led : Bool, ∀ m, m < 128 → (tbP led (bs m)).fits (bs m).length = true := by decide +kernel
theorem tb_next : ∀ m, m < 128 → ∀ i, i ≤ (bs m).length → SetTable.below (bs m).toArray (sl (bs m) i) = i := by decide +kernel
theorem bs_put : ∀ m, m < 128 → ∀ p, p < 7 → (∀ q ∈ bs m, q < p) → bs (m + 2 ^ p) = bs m ++ [p] ∧ m + 2 ^ p < 128 := by decide +kernel
theorem bs_nil : bs 0 = [] := by decide +kernel
structure EsA (ps : List Nat) (es : Array (Int × Value)) : Prop where
  hs : es.toList.map (·.1) = ps.map Int.ofNat
  vs : IntsAre (es.toList.map (·.2)) (ps.map Int.ofNat)
theorem EsA.size {ps : List Nat} {es : Array (Int × Value)} (h : EsA ps es) : es.size = ps.length := by
  have := congrArg List.length h.hs
  simpa using this
theorem ints_snoc : ∀ {vs : List Value} {ns : List Int} (n : Int) (t : Tok), IntsAre vs ns → IntsAre (vs ++ [.int n t]) (ns ++ [n])
  | _, _, n, t, .nil => .cons n t .nil
  | _, _, n, t, .cons k u r => .cons k u (ints_snoc n t r)
theorem EsA.push {ps : List Nat} {es : Array (Int × Value)} (h : EsA ps es) (p : Nat) (t : Tok) : EsA (ps ++ [p]) (es.push (Int.ofNat p, .int (Int.ofNat p) t)) := by
  refine ⟨?_, ?_⟩
  · rw [Array.toList_push, List.map_append, List.map_append, h.hs]; rfl
  · rw [Array.toList_push, List.map_append, List.map_append]; exact ints_snoc _ t h.vs
theorem ints_in : ∀ {vs : List Value} {ns : List Int}, IntsAre vs ns → ∀ v ∈ vs, ∃ n t, n ∈ ns ∧ v = .int n t
  | _, _, .nil, v, h => nomatch h
  | _, _, .cons n t r, v, h => by
    rcases List.mem_cons.mp h with e | e
    · exact ⟨n, t, List.mem_cons_self, e⟩
    · obtain ⟨k, u, h1, h2⟩ := ints_in r v e
      exact ⟨k, u, List.mem_cons_of_mem _ h1, h2⟩
theorem sm_hash {prog : Program} {w : World} {p : Nat} (hp : p < 7) : (intKind prog w).hash (Int.ofNat p) = Int.ofNat p := by
  have : p = 0 ∨ p = 1 ∨ p = 2 ∨ p = 3 ∨ p = 4 ∨ p = 5 ∨ p = 6 := by omega
  rcases this with rfl | rfl | rfl | rfl | rfl | rfl | rfl <;> rfl
theorem es_elems {prog : Program} {w : World} : ∀ {l : List (Int × Value)} {ps : List Nat}, (∀ p ∈ ps, p < 7) → l.map (·.1) = ps.map Int.ofNat → IntsAre (l.map (·.2)) (ps.map Int.ofNat) → ElemsOf (intKind prog w) l := by
  intro l
  induction l with
  | nil => intro ps _ _ _ e he; cases he
  | cons e l ih =>
    intro ps hp h1 h2
    cases ps with
    | nil => cases h1
    | cons p ps =>
      obtain ⟨h, v⟩ := e
      simp only [List.map_cons] at h1 h2
      injection h1 with h1 h1'
      cases h2 with
      | cons _ t r =>
        intro x hx
        rcases List.mem_cons.mp hx with e | e
        · subst e
          exact ⟨⟨Int.ofNat p, intKind_is _ _ _ _, by rw [sm_hash (hp p List.mem_cons_self)]; exact h1⟩, rfl⟩
        · exact ih (fun q hq => hp q (List.mem_cons_of_mem _ hq)) h1' r x e
end L2
namespace L2
open PySem PySem.Spec PyProof.Rows
abbrev setO (es : Array (Int × Value)) (ep : Nat) (t : SetTable) : Obj := { cls := .type "set", dict := none, data := .set es ep t }
theorem insert_end {α : Type} (xs : Array α) (x : α) : SetTable.insertAt xs xs.size x = xs.push x := by
  apply Array.ext'
  rw [SetTable.toList_insertAt, ← Array.length_toList, List.take_length, List.drop_length, Array.toList_push]
theorem lay_sm {led : Bool} {m p : Nat} {es : Array (Int × Value)} {x : Value} (hm : m < 128) (hp : p < 7) (hq : ∀ q ∈ bs m, q < p) (hn : es.size = (bs m).length) : layNew (tbP led (bs m)) es (Int.ofNat p) x = (es.push (Int.ofNat p, x), ((tbP led (bs m)).put p).1, false, false) := by
  have hf := (tb_fits led m hm p hp hq).1
  unfold layNew
  rw [tb_free led m hm p hp hq]
  dsimp only
  rw [tb_at led m hm p hp hq, ← hn, insert_end]
  have e : (es.push (Int.ofNat p, x)).size = (bs m).length + 1 := by rw [Array.size_push, hn]
  unfold SetTable.orStandIn
  rw [e, hf]
  rfl
theorem lay_all {led : Bool} {m p : Nat} {es : Array (Int × Value)} (hm : m < 128) (hp : p < 7) (hq : ∀ q ∈ bs m, q < p) (hs : es.toList.map (·.1) = (bs m ++ [p]).map Int.ofNat) (hf : ((tbP led (bs m)).put p).1.tooFull = true) : relayAll ((tbP led (bs m)).put p).1 es (SetTable.grown es.size) = (es, tbP led (bs m ++ [p]), false) := by
  have hz : es.size = (bs m).length + 1 := by have := congrArg List.length hs; simpa using this
  have hh : es.map (·.1) = hsh (bs m ++ [p]) := by apply Array.ext'; rw [Array.toList_map, hs]; rfl
  unfold relayAll
  rw [hh, hz, tb_full led m hm p hp hq hf]
  dsimp only
  have e1 : coversAll (Array.range ((bs m).length + 1)) ((bs m).length + 1) = true := by
    unfold coversAll
    rw [Array.toList_range, List.isPerm_iff]
  have e2 : (Array.range ((bs m).length + 1)).filterMap (es[·]?) = es := by
    apply Array.ext'
    rw [Array.toList_filterMap, Array.toList_range, ← hz]
    exact filterMap_getElem?_range es
  have e3 : (tbP led (bs m ++ [p])).fits ((bs m).length + 1) = true := by
    obtain ⟨h1, h2⟩ := bs_put m hm p hp hq
    have := tb_ok led (m + 2 ^ p) h2
    rw [h1] at this
    simpa using this
  rw [e1, e2, hz, e3]
  rfl
section
variable {prog : Program} {w : World} {A : Around} {E : Value → Shared → Prop} {s : Shared}
theorem add_sm {a : Addr} {led : Bool} {m p ep : Nat} {es : Array (Int × Value)} {t : Tok} {Q : Bool → Shared → Prop} (hm : m < 128) (hp : p < 7) (hq : ∀ q ∈ bs m, q < p) (hE : EsA (bs m) es) (h7 : ∀ q ∈ bs m, q < 7) (ho : s.heap.get? a = some (setO es ep (tbP led (bs m))))
    (h : ∀ h' ep', (∀ b o, b ≠ a → s.heap.get? b = some o → h'.get? b = some o) → h'.get? a = some (setO (es.push (Int.ofNat p, .int (Int.ofNat p) t)) ep' (tbP led (bs m ++ [p]))) → Q true { s with heap := h' }) :
    wpAny (model prog w) A (setAddHashed a (.int (Int.ofNat p) t) (Int.ofNat p)) Q E s := by
  have hel : ElemsOf (intKind prog w) es.toList := es_elems h7 hE.hs hE.vs
  have hz := hE.size
  have hlen : (bs m).length ≤ 7 := by unfold bs; exact Nat.le_trans (List.length_filter_le _ _) (by simp)
  have hb : es.size < scanBound := by rw [hz]; exact Nat.lt_of_le_of_lt hlen (by decide)
  have hf : (tbP led (bs m)).fits es.size = true := by rw [hz]; exact tb_ok led m hm
  have hB : byScan (.int (Int.ofNat p) t) es = true := byScan_of (knd := intKind prog w) rfl hb hel
  have hL := lay_sm (led := led) (x := Value.int (Int.ofNat p) t) hm hp hq hz
  have hE' := hE.push p t
  have hnf : es.toList.findIdx? (fun e => (intKind prog w).is (Int.ofNat p) e.2) = none := by
    rw [List.findIdx?_eq_none_iff]
    intro e he
    obtain ⟨n, u, h1, h2⟩ := ints_in hE.vs e.2 (List.mem_map.mpr ⟨e, he, rfl⟩)
    obtain ⟨q, h3, h4⟩ := List.mem_map.mp h1
    rw [h2, ← h4]
    have := hq q h3
    rw [KeyKind.is_eq_decide (intKind_is _ _ _ _) (Int.ofNat p)]
    exact decide_eq_false fun z => by have : p = q := Int.ofNat.inj z; omega
  have S1 : ∀ Q' : _ → Shared → Prop, Q' (es, ep, tbP led (bs m)) s → wpAny (model prog w) A (setState a) Q' E s := fun Q' hq => wpAny_setState_of ho rfl hf hq
  have S2 : ∀ Q' : _ → Shared → Prop, Q' .absent s → wpAny (model prog w) A (setScan a (.int (Int.ofNat p) t) (Int.ofNat p) true es) Q' E s := fun Q' hQ => by
    have := wpAny_setScan_of (knd := intKind prog w) (adding := true) (A := A) (E := E) (k := Int.ofNat p) (x := .int (Int.ofNat p) t) (Q := Q') (intKind_is _ _ _ _) ho rfl hf hel (by rw [hnf]; exact hQ)
    rw [sm_hash hp] at this
    exact this
  unfold setAddHashed setAddHashedIn
  repeat (first | refine S1 _ ?_ | refine S2 _ ?_ | wp_step)
  rw [if_pos hB]
  unfold setAddByScan
  repeat (first | refine S1 _ ?_ | refine S2 _ ?_ | wp_step)
  rw [hL]
  dsimp only
  obtain ⟨es', ee⟩ : ∃ es', es' = es.push (Int.ofNat p, Value.int (Int.ofNat p) t) := ⟨_, rfl⟩
  have hpl := (tb_fits led m hm p hp hq).2
  have hfu := lay_all (led := led) (es := es') hm hp hq (by rw [ee]; exact hE'.hs)
  have hth := tb_thin led m hm p hp hq
  rw [← ee] at h ⊢
  have hz' : es'.size ≤ sizeLine := fits_of_scanBound (by rw [ee, Array.size_push, hz]; exact Nat.lt_of_le_of_lt (Nat.succ_le_succ hlen) (by decide))
  generalize ((tbP led (bs m)).put p).1 = t1 at hpl hfu hth
  have hv : hashByValue 8 (Value.int (Int.ofNat p) t) = pure true := hashByValue_scannable 8 rfl
  refine wpAny_pure ?_
  rw [if_pos hpl, hv]
  repeat wp_step
  rw [if_pos rfl]
  have g1 : (s.heap.update a (Obj.putSet es' t1)).get? a = some (setO es' (ep + 1) t1) := Heap.get?_update_self (Obj.putSet es' t1) ho rfl
  have g2 : ∀ b o, b ≠ a → s.heap.get? b = some o → (s.heap.update a (Obj.putSet es' t1)).get? b = some o := fun b o hb q => Heap.get?_update_of_ne _ hb.symm q
  rw [if_neg (Nat.not_lt.mpr hz')]
  refine wpAny_update ho ?_
  cases hc : t1.tooFull
  · rw [hth hc] at g1 g2 ⊢
    exact wpAny_pure (wpAny_pure (h _ _ g2 g1))
  rw [hfu hc]
  refine wpAny_bind (wpAny_pure ?_)
  refine wpAny_bind (wpAny_storeSet_of g1 rfl (wpAny_pure (wpAny_pure (h _ (ep + 2) (fun b o hb q => Heap.get?_update_of_ne _ hb.symm (g2 b o hb q)) ?_))) hz')
  exact Heap.get?_update_self (Obj.putSet es' (tbP led (bs m ++ [p]))) g1 rfl
end
end L2
namespace L2
open PySem PySem.Spec PyProof.Rows
section
variable {prog : Program} {w : World} {A : Around} {R : Result → Shared → Prop} {I S : Addr} {fp wr : List Addr} {G : Array GenState → Array GenState → Prop} {P : Nat → Value → Prop} {St : Nat → Shared → Prop} {ps : List Nat} {led : Bool}
theorem set_round (W : WalksS prog w A.in1 I fp wr G ps.length P St) (hS : S ∉ fp) (hv : ∀ i v, P i v → ∃ t, v = .int (Int.ofNat (ps.getD i 0)) t) (hup : ps.Pairwise (· < ·)) (h7 : ∀ p ∈ ps, p < 7) (s0 : Shared)
    (hR : ∀ s' es' ep' m, m < 128 → bs m = ps → EsA ps es' → s'.heap.get? S = some (setO es' ep' (tbP led ps)) → Moved (S :: wr) G s0 s' → R (.ok (.ret .none)) s') :
    ∀ (k i : Nat) (s : Shared) (m ep : Nat) (es : Array (Int × Value)), k + i = ps.length → St i s → m < 128 → bs m = ps.take i → EsA (bs m) es → s.heap.get? S = some (setO es ep (tbP led (bs m))) → Moved (S :: wr) G s0 s → codeAny (model prog w) A (.builtin "set.update.loop" ⟨[.ref S, .ref I], []⟩) R s := by
  have hsub : ∀ b ∈ wr, b ∈ S :: wr := fun b hb => List.mem_cons_of_mem _ hb
  have hSw : S ∉ wr := fun h => hS (W.sub _ h)
  intro k
  induction k with
  | zero =>
    intro i s m ep es hk hst hm hb hE ho mv
    have e : ps.take i = ps := List.take_of_length_le (by omega)
    rw [e] at hb
    refine codeAny_builtin F.entry_set_update_loop ?_
    rw [Around.under_plainId F.plain_set_update_loop _]
    have N : ∀ (Q : Option Value → Shared → Prop) (E : Value → Shared → Prop), (∀ s', Moved wr G s s' → Q none s') → wpAny (model prog w) A.in1 (pyNext (.ref I)) Q E s := fun Q E h => W.done s Q E (by rw [show ps.length = i by omega]; exact hst) h
    unfold Builtin.«set.update.loop»
    repeat (first | refine N _ _ ?_ | wp_step)
    intro s' mv'
    rw [hb] at hE ho
    exact wpAny_pure (hR s' es ep m hm hb hE (mv'.heap S _ hSw ho) (Moved.trans W.gtrans mv (mv'.mono hsub)))
  | succ k ih =>
    intro i s m ep es hk hst hm hb hE ho mv
    have hi : i < ps.length := by omega
    refine codeAny_builtin F.entry_set_update_loop ?_
    rw [Around.under_plainId F.plain_set_update_loop _]
    have N : ∀ (Q : Option Value → Shared → Prop) (E : Value → Shared → Prop), (∀ v s', P i v → St (i + 1) s' → Moved wr G s s' → Q (some v) s') → wpAny (model prog w) A.in1 (pyNext (.ref I)) Q E s := fun Q E h => W.item i s Q E hi hst h
    unfold Builtin.«set.update.loop»
    repeat (first | refine N _ _ ?_ | wp_step)
    intro v s' hP hst' mv'
    obtain ⟨t, rfl⟩ := hv i v hP
    obtain ⟨p, ep'⟩ : ∃ p, p = ps.getD i 0 := ⟨_, rfl⟩
    have pi : ps[i]? = some p := by rw [ep', List.getD_eq_getElem?_getD, List.getElem?_eq_getElem hi]; rfl
    have p7 : p < 7 := h7 p (List.mem_of_getElem? pi)
    rw [← ep']
    have tk : ps.take (i + 1) = bs m ++ [p] := by rw [hb, List.take_succ, pi]; rfl
    have hq : ∀ q ∈ bs m, q < p := fun q hq => by
      have := (List.pairwise_append.mp (show (bs m ++ [p]).Pairwise (· < ·) from tk ▸ hup.sublist (List.take_sublist _ _))).2.2 q hq p (List.mem_singleton.mpr rfl)
      exact this
    have ho' := mv'.heap S _ hSw ho
    have H1 : ∀ (Q : Int → Shared → Prop) (E : Value → Shared → Prop), Q (Int.ofNat p) { s' with toks := s'.toks + 1 } → wpAny (model prog w) A.in1 (pyHash (.int (Int.ofNat p) t)) Q E s' := fun Q E h => (intKind prog w).pyHash (k := Int.ofNat p) (intKind_is _ _ _ _) (by rw [sm_hash p7]; exact h)
    have H2 : ∀ (Q : Bool → Shared → Prop) (E : Value → Shared → Prop), (∀ h' ep', (∀ b o, b ≠ S → s'.heap.get? b = some o → h'.get? b = some o) → h'.get? S = some (setO (es.push (Int.ofNat p, .int (Int.ofNat p) t)) ep' (tbP led (bs m ++ [p]))) → Q true { { s' with toks := s'.toks + 1 } with heap := h' }) → wpAny (model prog w) A.in1 (setAddHashed S (.int (Int.ofNat p) t) (Int.ofNat p)) Q E { s' with toks := s'.toks + 1 } := fun Q E h =>
      add_sm (s := { s' with toks := s'.toks + 1 }) hm p7 hq hE (fun q hq' => Nat.lt_trans (hq q hq') p7) ho' h
    unfold setAdd
    repeat (first | refine H1 _ _ ?_ | refine H2 _ _ ?_ | wp_step)
    intro h' ep2 k1 k2
    obtain ⟨b1, b2⟩ := bs_put m hm p p7 hq
    refine wpAny_pure ⟨plainId_quiet F.plain_set_update_loop _, ih (i + 1) _ (m + 2 ^ p) ep2 _ (by omega) (W.frame _ s' h' _ hst' (Nat.le_succ _) fun b hb o e => k1 b o (fun z => hS (z ▸ hb)) e) b2 (b1.trans tk.symm) (by rw [b1]; exact hE.push p t) (by rw [b1]; exact k2) (Moved.trans W.gtrans mv ((mv'.mono hsub).then_heap (Nat.le_succ _) fun b o hb e => k1 b o (fun z => hb (z ▸ List.mem_cons_self)) e))⟩
end
end L2
namespace L2
open PySem PySem.Spec PyProof.Rows
section
variable {prog : Program} {w : World} {A : Around} {E : Value → Shared → Prop} {s : Shared}
def ledW (w : World) : Bool := !w.params.followText "set-order"
abbrev set0 (w : World) : Obj := setO #[] 0 (.fresh 0 0 (ledW w))
theorem set_made {a : Value} {R : Result → Shared → Prop} (h : R (.ok (.ret (.ref s.heap.objs.size))) { s with heap := s.heap.push (set0 w) }) : codeAny (model prog w) A (.call (.builtin "set.__new__") ⟨[.type "set", a], []⟩) R s := by
  have hsub := sub_set_self
  apply codeAny_call_builtin_at (plainId_quiet F.plain_set_new _) F.entry_set_new
  apply wpAny_of_eq (F.newCall_set_1 a)
  rw [Around.under_plainId F.plain_set_new]
  unfold Builtin.«set.__new__»
  wp_walk
  apply wpAny_askSetting
  wp_walk
  exact h
set_option maxHeartbeats 4000000 in
theorem set_filled {S l : Addr} {items : Array Value} {ps : List Nat} {Q : Fin → Shared → Prop} (hh : A.handled = none) (at0 : s.heap.get? S = some (set0 w)) (hl : s.heap.IsList l items) (hne : l ≠ S) (hi : IntsAre items.toList (ps.map Int.ofNat)) (hup : ps.Pairwise (· < ·)) (h7 : ∀ p ∈ ps, p < 7)
    (h : ∀ (h' : Heap) (tk ep : Nat) (es : Array (Int × Value)) (m : Nat), m < 128 → bs m = ps → EsA ps es → h'.get? S = some (setO es ep (tbP (ledW w) ps)) → (∀ b o, b ≠ S → s.heap.get? b = some o → h'.get? b = some o) → Q (.done (.ret .none)) { s with heap := h', toks := tk }) :
    wpAny (model prog w) A (Builtin.«set.__init__» ⟨[.ref S, .ref l], []⟩) Q E s := by
  have hT : s.TypeIs (.ref S) "set" := ⟨_, at0, rfl⟩
  have f1 := F.sub_list_set
  have f2 := F.sub_list_frozenset
  have hTl := hl.typeIs
  have n1 : (Value.type "list" == Value.type "dict") = false := by decide
  have I1 : ∀ (Q' : Value → Shared → Prop), Q' (.ref s.heap.objs.size) { s with heap := s.heap.push { cls := .type "list_iterator", data := .fields #[.ref l, .int 0 0] } } → wpAny (model prog w) A (pyIter (.ref l)) Q' E s := fun Q' hq => wpAny_pyIter_list hl hq
  unfold Builtin.«set.__init__»
  repeat (first | refine I1 _ ?_ | assumption | wp_step)
  obtain ⟨n, en⟩ : ∃ n, n = s.heap.objs.size := ⟨_, rfl⟩
  obtain ⟨s1, e1⟩ : ∃ s1 : Shared, s1 = { s with heap := s.heap.push { cls := .type "list_iterator", data := .fields #[.ref l, .int 0 0] } } := ⟨_, rfl⟩
  have lt1 : l < n := by rw [en]; obtain ⟨o, q, _⟩ := hl; exact Heap.lt_size q
  have lt2 : S < n := by rw [en]; exact Heap.lt_size at0
  have hz : items.size = ps.length := by have := hi.length; simpa using this
  have W := (Walks.list (prog := prog) (w := w) (A := A.in1) hh n l (Nat.ne_of_lt lt1) items).toS
  rw [hz] at W
  rw [← en, ← e1]
  refine set_round (S := S) (led := ledW w) W (by simp [Nat.ne_of_lt lt2, hne.symm]) (fun i v hv => ?_) hup h7 s1 (fun s' es' ep' m hm hb hE ho mv => ?_) ps.length 0 s1 0 0 #[] rfl ?_ (by decide) (by rw [bs_nil]; rfl) ⟨rfl, by rw [bs_nil]; exact .nil⟩ (by rw [bs_nil, e1]; exact Heap.get?_push_of_some _ at0) (Moved.refl fun _ => rfl)
  · obtain ⟨t, e⟩ := hi.int_at i v (by rw [Array.getElem?_toList]; exact hv)
    refine ⟨t, e.trans ?_⟩
    rw [List.getD_eq_getElem?_getD, List.getElem?_map, List.getD_eq_getElem?_getD]
    cases ps[i]? <;> rfl
  · obtain ⟨h', gs, dr, tk, os⟩ := s'
    have x1 := mv.gens
    have x2 := mv.drawn
    have x3 := mv.os
    have x4 := mv.heap
    rw [e1] at x1 x2 x3 x4
    dsimp only at x1 x2 x3 x4
    subst x1 x2 x3
    refine wpAny_pure (wpAny_pure (h h' tk ep' es' m hm hb hE ho fun b o hb q => x4 b o ?_ (Heap.get?_push_of_some _ q)))
    have : b ≠ n := fun z => by rw [z, en] at q; exact absurd (Heap.lt_size q) (Nat.lt_irrefl _)
    simp [hb, this]
  · rw [e1, en]
    exact ⟨⟨_, Heap.get?_push_size _ rfl, rfl, rfl⟩, hl.push _⟩
set_option maxHeartbeats 4000000 in
theorem mk_set7 {l : Addr} {items : Array Value} {ps : List Nat} {Q : Value → Shared → Prop} (hh : A.handled = none) (hl : s.heap.IsList l items) (hi : IntsAre items.toList (ps.map Int.ofNat)) (hup : ps.Pairwise (· < ·)) (h7 : ∀ p ∈ ps, p < 7)
    (h : ∀ (h' : Heap) (tk ep : Nat) (es : Array (Int × Value)) (m : Nat), m < 128 → bs m = ps → EsA ps es → h'.get? s.heap.objs.size = some (setO es ep (tbP (ledW w) ps)) → (∀ b o, s.heap.get? b = some o → h'.get? b = some o) → Q (.ref s.heap.objs.size) { s with heap := h', toks := tk }) :
    wpAny (model prog w) A (call (.type "set") [.ref l]) Q E s := by
  have f1 := F.called_set.notType
  have f2 := F.called_set.canCreate
  have f3 := F.called_set.made
  have f4 := F.called_set.sub
  obtain ⟨c, tl, f5⟩ := F.called_set.mro
  have f6 := F.typeCall_set_1 (.ref l)
  apply wpAny_call
  apply codeAny_of_tree
  wp_walk
  refine ⟨Code.quiet_builtin _ (by decide +kernel), codeAny_builtin F.entry_type_call ?_⟩
  rw [Around.under_plain (weight_type_call_type "set" _ []) rfl]
  repeat (any_goals (first | assumption | wp_step))
  apply set_made
  have at0 : (s.heap.push (set0 w)).get? s.heap.objs.size = some (set0 w) := Heap.get?_push_size _ rfl
  have hT : Shared.TypeIs { s with heap := s.heap.push (set0 w) } (.ref s.heap.objs.size) "set" := ⟨_, at0, rfl⟩
  have f7 := F.called_set.init.lookup
  have f8 := F.called_set.init.bind (.ref s.heap.objs.size)
  dsimp only
  repeat (any_goals (first | assumption | wp_step))
  apply codeAny_call_builtin_at (plainId_quiet F.called_set.init.plain _) F.entry_set_init
  apply check_set_init_1 hT
  rw [Around.under_plainId F.called_set.init.plain]
  have lt : l ≠ s.heap.objs.size := by obtain ⟨o, q, _⟩ := hl; exact Nat.ne_of_lt (Heap.lt_size q)
  refine set_filled (S := s.heap.objs.size) hh at0 (hl.push _) lt hi hup h7 fun h' tk ep es m hm hb hE ho kp => ?_
  refine wpAny_pure (wpAny_pure ?_)
  exact h h' tk ep es m hm hb hE ho fun b o q => kp b o (fun z => by rw [z] at q; exact absurd (Heap.lt_size q) (Nat.lt_irrefl _)) (Heap.get?_push_of_some _ q)
end
end L2
namespace L2
open PySem PySem.Spec PyProof.Rows
theorem si_next : Slot "set_iterator" "__next__" "set_iterator.__next__" := by
  apply Slot.of (owner := "set_iterator") (n := "__next__")
  all_goals first | decide +kernel | exact .inl (by decide +kernel) | exact .inr (by decide +kernel) | (rw [isSubtype_type]; kernel_rfl) | (rw [typeLookup_type, builtinLookup_eq_fast]; kernel_rfl)
theorem si_iter : Slot "set_iterator" "__iter__" "set_iterator.__iter__" := by
  apply Slot.of (owner := "set_iterator") (n := "__iter__")
  all_goals first | decide +kernel | exact .inl (by decide +kernel) | exact .inr (by decide +kernel) | (rw [isSubtype_type]; kernel_rfl) | (rw [typeLookup_type, builtinLookup_eq_fast]; kernel_rfl)
theorem si_entry : entryFor table "set_iterator.__next__" = some Builtin.«set_iterator.__next__» := entryFor_of_tree (by kernel_rfl)
theorem si_args (a : Value) : argsOk "set_iterator.__next__" ⟨[a], []⟩ := by unfold argsOk; kernel_rfl
theorem st_entry : entryFor table "set.__iter__" = some Builtin.«frozenset.__iter__» := entryFor_alias (id' := "frozenset.__iter__") (by kernel_rfl) (by first | rfl | decide +kernel) (by decide +kernel) (by kernel_rfl)
theorem si_ientry : entryFor table "set_iterator.__iter__" = some Builtin.«dict_keyiterator.__iter__» := entryFor_alias (id' := "dict_keyiterator.__iter__") (by kernel_rfl) (by first | rfl | decide +kernel) (by decide +kernel) (by kernel_rfl)
theorem si_iargs (a : Value) : argsOk "set_iterator.__iter__" ⟨[a], []⟩ := by unfold argsOk; kernel_rfl
theorem er_perm {α : Type} : ∀ {l : List α} {i : Nat} (h : i < l.length), (l[i] :: l.eraseIdx i).Perm l
  | a :: l, 0, _ => List.Perm.refl _
  | a :: l, i + 1, h => (List.Perm.swap a _ _).trans (List.Perm.cons a (er_perm (l := l) (i := i) (Nat.lt_of_succ_lt_succ h)))
theorem pick_perm {α : Type} (next : Nat → Nat) : ∀ (f k : Nat) (left : List α) (out : Array α), f = left.length → (pickOrder.go next f k left out).toList.Perm (out.toList ++ left)
  | 0, _, left, out, h => by
    have : left = [] := List.eq_nil_of_length_eq_zero h.symm
    rw [this, List.append_nil]; exact List.Perm.refl _
  | f + 1, k, left, out, h => by
    have hl : next k % left.length < left.length := Nat.mod_lt _ (by omega)
    unfold pickOrder.go
    rw [List.getElem?_eq_getElem hl]
    refine (pick_perm next f (k + 1) _ _ (by rw [List.length_eraseIdx, if_pos hl]; omega)).trans ?_
    rw [Array.toList_push, List.append_assoc]
    exact List.Perm.append_left _ (er_perm hl)
def ordW (w : World) (a : Addr) (ep : Nat) (es : Array (Int × Value)) : List Value := (if w.params.followText "set-order" then (pickOrder (w.params.setOrder a ep) es).toList else es.toList).map (·.2)
def slW (w : World) (ps : List Nat) (i : Nat) : Nat := if w.params.followText "set-order" then 0 else sl ps i
theorem ord_perm (w : World) (a : Addr) (ep : Nat) (es : Array (Int × Value)) : (ordW w a ep es).Perm (es.toList.map (·.2)) := by
  unfold ordW
  split
  · exact (pick_perm _ _ _ _ _ (by simp)).map _
  · exact List.Perm.refl _
section
variable {prog : Program} {w : World} {A : Around} {E : Value → Shared → Prop} {s : Shared}
theorem next_sm {a : Addr} {es : Array (Int × Value)} {ep m i : Nat} {ps : List Nat} {Q : Option (Value × Nat) → Shared → Prop} (hm : m < 128) (hb : bs m = ps) (hE : EsA ps es) (ho : s.heap.get? a = some (setO es ep (tbP (ledW w) ps))) (hi : i ≤ ps.length)
    (h : Q ((ordW w a ep es)[i]?.map fun v => (v, slW w ps (i + 1))) s) : wpAny (model prog w) A (setNext a (slW w ps i) i ep) Q E s := by
  subst hb
  have hz := hE.size
  have hf : (tbP (ledW w) (bs m)).fits es.size = true := by rw [hz]; exact tb_ok _ m hm
  have S1 : ∀ Q' : _ → Shared → Prop, Q' (es, ep, tbP (ledW w) (bs m)) s → wpAny (model prog w) A (setState a) Q' E s := fun Q' hq => wpAny_setState_of ho rfl hf hq
  have S2 : ∀ Q' : _ → Shared → Prop, Q' (w.params.followText "set-order") s → wpAny (model prog w) A setsByText Q' E s := fun Q' hq => wpAny_bind (wpAny_askSetting (wpAny_pure hq))
  unfold setNext
  unfold ordW slW at *
  cases hT : w.params.followText "set-order"
  · rw [hT] at S2 h
    have hled : ledW w = true := by unfold ledW; rw [hT]; rfl
    rw [hled] at S1
    repeat (first | refine S1 _ ?_ | refine S2 _ ?_ | wp_step)
    simp only [Bool.false_eq_true, if_false, reduceIte] at h ⊢
    rw [show (tbP true (bs m)).place = (bs m).toArray from rfl, tb_next m hm i hi]
    rw [List.getElem?_map, Option.map_map, Array.getElem?_toList] at h
    by_cases c : i < (bs m).length
    · have c2 : i < es.size := by omega
      rw [Array.getElem?_eq_getElem c2] at h ⊢
      rw [List.getElem?_toArray, List.getElem?_eq_getElem c]
      have e : sl (bs m) (i + 1) = (bs m)[i] + 1 := by show (bs m).getD i 0 + 1 = _; rw [List.getD_eq_getElem?_getD, List.getElem?_eq_getElem c]; rfl
      rw [e] at h
      exact h
    · rw [Array.getElem?_eq_none (by omega)] at h ⊢
      exact h
  · rw [hT] at S2 h
    repeat (first | refine S1 _ ?_ | refine S2 _ ?_ | wp_step)
    refine wpAny_askSetting (wpAny_pure (wpAny_pure ?_))
    rw [if_pos rfl, if_pos rfl, List.getElem?_map, Option.map_map, Array.getElem?_toList] at h
    exact h
def siO (w : World) (a : Addr) (n ep : Nat) (ps : List Nat) (i : Nat) : Obj := { cls := .type "set_iterator", data := .fields #[rawInt (slW w ps i), rawInt i, .ref a, rawInt n, rawInt ep] }
set_option maxHeartbeats 4000000 in
theorem pyNext_sm {I a : Addr} {es : Array (Int × Value)} {ep m i : Nat} {ps : List Nat} {Q : Option Value → Shared → Prop} (hm : m < 128) (hb : bs m = ps) (hE : EsA ps es) (ho : s.heap.get? a = some (setO es ep (tbP (ledW w) ps))) (hI : s.heap.get? I = some (siO w a ps.length ep ps i)) (hi : i < ps.length)
    (h : ∀ h' v, (ordW w a ep es)[i]? = some v → (∀ b o, b ≠ I → s.heap.get? b = some o → h'.get? b = some o) → h'.get? I = some (siO w a ps.length ep ps (i + 1)) → Q (some v) { s with heap := h' }) : wpAny (model prog w) A (pyNext (.ref I)) Q E s := by
  have hz := hE.size
  have hf : (tbP (ledW w) ps).fits es.size = true := by rw [hz, ← hb]; exact tb_ok _ m hm
  have hol : (ordW w a ep es).length = ps.length := by rw [(ord_perm w a ep es).length_eq, List.length_map, Array.length_toList, hz]
  obtain ⟨v, ev⟩ : ∃ v, (ordW w a ep es)[i]? = some v := ⟨_, List.getElem?_eq_getElem (by omega)⟩
  have S1 : ∀ (A' : Around) (E' : Value → Shared → Prop) (Q' : _ → Shared → Prop), Q' es s → wpAny (model prog w) A' (setEntries a) Q' E' s := fun A' E' Q' hq => wpAny_setEntries_of ho rfl hf hq
  have S2 : ∀ (A' : Around) (E' : Value → Shared → Prop) (Q' : Option (Value × Nat) → Shared → Prop), Q' (some (v, slW w ps (i + 1))) s → wpAny (model prog w) A' (setNext a (slW w ps i) i ep) Q' E' s := fun A' E' Q' hq => next_sm hm hb hE ho (by omega) (by rw [ev]; exact hq)
  have hT : s.TypeIs (.ref I) "set_iterator" := ⟨_, hI, rfl⟩
  unfold pyNext
  refine wpAny_bind (wpAny_attempt (wpAny_callSpecial?_slot (name := Str.ofString "__next__") hT si_next (wpAny_call_entry si_next hT si_entry ?_ (si_args _))))
  unfold Builtin.«set_iterator.__next__»
  repeat (first | refine S1 _ _ _ ?_ | refine S2 _ _ _ ?_ | wp_step)
  have g1 := Heap.get?_update_self (Obj.mapFields fun x => x.setIfInBounds 0 (rawInt (slW w ps (i + 1) : Nat))) hI rfl
  have g2 := Heap.get?_update_self (Obj.mapFields fun x => x.setIfInBounds 1 (rawInt ((i : Int) + 1))) g1 rfl
  exact ⟨v, rfl, wpAny_pure (h _ v ev (fun b o hb q => Heap.get?_update_of_ne _ hb.symm (Heap.get?_update_of_ne _ hb.symm q)) g2)⟩
set_option maxHeartbeats 4000000 in
theorem pyNext_sm_end {I a : Addr} {es : Array (Int × Value)} {ep m : Nat} {ps : List Nat} {Q : Option Value → Shared → Prop} (hh : A.handled = none) (hm : m < 128) (hb : bs m = ps) (hE : EsA ps es) (ho : s.heap.get? a = some (setO es ep (tbP (ledW w) ps))) (hI : s.heap.get? I = some (siO w a ps.length ep ps ps.length))
    (h : ∀ h' tk, (∀ b o, b ≠ I → s.heap.get? b = some o → h'.get? b = some o) → Q none { s with heap := h', toks := tk }) : wpAny (model prog w) A (pyNext (.ref I)) Q E s := by
  have hz := hE.size
  have hf : (tbP (ledW w) ps).fits es.size = true := by rw [hz, ← hb]; exact tb_ok _ m hm
  have hol : (ordW w a ep es).length = ps.length := by rw [(ord_perm w a ep es).length_eq, List.length_map, Array.length_toList, hz]
  have S1 : ∀ (A' : Around) (E' : Value → Shared → Prop) (Q' : _ → Shared → Prop), Q' es s → wpAny (model prog w) A' (setEntries a) Q' E' s := fun A' E' Q' hq => wpAny_setEntries_of ho rfl hf hq
  have S2 : ∀ (A' : Around) (E' : Value → Shared → Prop) (Q' : Option (Value × Nat) → Shared → Prop), Q' none s → wpAny (model prog w) A' (setNext a (slW w ps ps.length) ps.length ep) Q' E' s := fun A' E' Q' hq => next_sm hm hb hE ho (Nat.le_refl _) (by rw [List.getElem?_eq_none (by omega)]; exact hq)
  have hT : s.TypeIs (.ref I) "set_iterator" := ⟨_, hI, rfl⟩
  have hh1 : A.in1.handled = none := hh
  unfold pyNext
  refine wpAny_bind (wpAny_attempt (wpAny_callSpecial?_slot (name := Str.ofString "__next__") hT si_next (wpAny_call_entry si_next hT si_entry ?_ (si_args _))))
  unfold Builtin.«set_iterator.__next__»
  repeat (first | refine S1 _ _ _ ?_ | refine S2 _ _ _ ?_ | wp_step)
  unfold raiseNew
  apply wpAny_bind
  apply wpAny_handled
  rw [hh1]
  have hx := isSubtype_stop
  have kp : ∀ b o, b ≠ I → s.heap.get? b = some o → ((s.heap.update I (Obj.mapFields fun x => x.setIfInBounds 2 Value.none)).push { cls := Value.type "tuple", data := Data.seq #[] }).get? b = some o := fun b o hb q => Heap.get?_push_of_some _ (Heap.get?_update_of_ne _ hb.symm q)
  generalize ((s.heap.update I (Obj.mapFields fun x => x.setIfInBounds 2 Value.none)).push { cls := Value.type "tuple", data := Data.seq #[] }) = G1 at kp
  refine wpAny_throw ?_
  dsimp only
  apply wpAny_bind
  refine wpAny_isInstance (T := "StopIteration") (b := true) ⟨_, Heap.get?_push_size _ rfl, rfl⟩ hx (wpAny_pure ?_)
  exact h _ _ fun b o hb q => Heap.get?_push_of_some _ (kp b o hb q)
def siS (w : World) (a I : Addr) (es : Array (Int × Value)) (ep : Nat) (ps : List Nat) (i : Nat) (h : Heap) : Prop := h.get? I = some (siO w a ps.length ep ps i) ∧ h.get? a = some (setO es ep (tbP (ledW w) ps))
theorem walk_set {I a : Addr} {es : Array (Int × Value)} {ep m : Nat} {ps : List Nat} (hh : A.handled = none) (hne : a ≠ I) (hm : m < 128) (hb : bs m = ps) (hE : EsA ps es) : Walks prog w A I [I, a] [I] ps.length (fun i v => (ordW w a ep es)[i]? = some v) (siS w a I es ep ps) where
  sub := fun b hb => by rw [List.mem_singleton.mp hb]; exact List.mem_cons_self
  frame := fun i h h' st k => ⟨k _ List.mem_cons_self _ st.1, k _ (List.mem_cons_of_mem _ List.mem_cons_self) _ st.2⟩
  item := fun i s Q E hi st k => pyNext_sm hm hb hE st.2 st.1 hi fun h' v ev kp g => k v h' s.toks ev ⟨g, kp _ _ hne st.2⟩ fun b o hb q => kp b o (fun z => hb (List.mem_singleton.mpr z)) q
  done := fun s Q E st k => pyNext_sm_end hh hm hb hE st.2 st.1 fun h' tk kp => k h' tk fun b o hb q => kp b o (fun z => hb (List.mem_singleton.mpr z)) q
  self := fun i s Q E st k => by
    have hT : s.TypeIs (.ref I) "set_iterator" := ⟨_, st.1, rfl⟩
    apply wpAny_pyIter_slot hT si_iter
    apply wpAny_call_entry si_iter hT si_ientry _ (si_iargs _)
    exact wpAny_pure ⟨_, rfl, "set_iterator", _, hT, si_next.lookup, k⟩
end
end L2
namespace L2
open PySem PySem.Spec PyProof.Rows
section
variable {prog : Program} {w : World} {A : Around} {E : Value → Shared → Prop} {s : Shared}
set_option maxHeartbeats 4000000 in
theorem iter_set {a : Addr} {es : Array (Int × Value)} {ep m : Nat} {ps : List Nat} {Q : Value → Shared → Prop} (hm : m < 128) (hb : bs m = ps) (hE : EsA ps es) (ho : s.heap.get? a = some (setO es ep (tbP (ledW w) ps)))
    (h : Q (.ref s.heap.objs.size) { s with heap := s.heap.push (siO w a ps.length ep ps 0) }) : wpAny (model prog w) A (pyIter (.ref a)) Q E s := by
  have hz := hE.size
  have hf : (tbP (ledW w) ps).fits es.size = true := by rw [hz, ← hb]; exact tb_ok _ m hm
  have hT : s.TypeIs (.ref a) "set" := ⟨_, ho, rfl⟩
  have S1 : ∀ (A' : Around) (E' : Value → Shared → Prop) (Q' : _ → Shared → Prop), Q' (es, ep, tbP (ledW w) ps) s → wpAny (model prog w) A' (setState a) Q' E' s := fun A' E' Q' hq => wpAny_setState_of ho rfl hf hq
  have S2 : ∀ (A' : Around) (E' : Value → Shared → Prop) (Q' : _ → Shared → Prop), Q' (w.params.followText "set-order") s → wpAny (model prog w) A' setsByText Q' E' s := fun A' E' Q' hq => wpAny_bind (wpAny_askSetting (wpAny_pure hq))
  apply wpAny_pyIter_slot hT F.slot_set_iter
  refine wpAny_call_entry F.slot_set_iter hT st_entry ?_ (F.args_set_iter_1 _)
  unfold Builtin.«frozenset.__iter__»
  repeat (first | refine S1 _ _ _ ?_ | refine S2 _ _ _ ?_ | wp_step)
  apply wpAny_ite_false
  · show decide ((!w.params.followText "set-order" && (!true && decide (es.size > 1))) = true) = false
    cases w.params.followText "set-order" <;> rfl
  repeat (first | refine S1 _ _ _ ?_ | wp_step)
  have e0 : siO w a ps.length ep ps 0 = { cls := .type "set_iterator", data := .fields #[rawInt 0, rawInt 0, .ref a, rawInt (es.size : Nat), rawInt (ep : Nat)] } := by
    unfold siO slW sl; rw [hz]; split <;> rfl
  rw [e0] at h
  exact ⟨_, rfl, "set_iterator", _, ⟨_, Heap.get?_push_size _ rfl, rfl⟩, si_next.lookup, h⟩
theorem hint_set {I : Addr} {Q : Bool → Shared → Prop} (hT : s.TypeIs (.ref I) "set") (h : Q false s) : wpAny (model prog w) A (Builtin.List.listLengthHint (.ref I)) Q E s := by
  obtain ⟨f, hf⟩ : ∃ f, f = "set.__len__" := ⟨_, rfl⟩
  have a1 := F.slot_set_len.lookup
  have a3 : splitId f = some ("set", "__len__") := by rw [hf]; decide +kernel
  have a4 := sub_set_self
  rw [← hf] at a1
  wp_walk
  rw [a3]
  wp_walk
  subst hf
  apply wpAny_ite_true
  · decide +kernel
  wp_walk
  exact h
theorem touch_nil {L : Addr} {Q : Unit → Shared → Prop} (h0 : s.heap.get? L = some (seqObj "list" #[] 0)) (h : ∀ h' c, (∀ b o, b ≠ L → s.heap.get? b = some o → h'.get? b = some o) → h'.get? L = some (seqObj "list" #[] c) → Q () { s with heap := h' }) : wpAny (model prog w) A (Builtin.List.listTouch (.ref L)) Q E s := by
  have g1 := get?_update_seq h0 (·.push Value.none)
  have g2 := get?_update_seq g1 (·.pop)
  unfold Builtin.List.listTouch
  apply wpAny_bind
  apply wpAny_updateSeq h0 rfl _ (by decide) (by decide)
  apply wpAny_updateSeq g1 rfl _ (by decide) (by decide)
  exact h _ _ (fun b o hb q => Heap.get?_update_of_ne _ hb.symm (Heap.get?_update_of_ne _ hb.symm q)) g2
set_option maxHeartbeats 4000000 in
theorem collect_set {a : Addr} {es : Array (Int × Value)} {ep m : Nat} {ps : List Nat} {Q : List Value → Shared → Prop} (hh : A.handled = none) (hm : m < 128) (hb : bs m = ps) (hE : EsA ps es) (ho : s.heap.get? a = some (setO es ep (tbP (ledW w) ps)))
    (h : ∀ h' tk, (∀ b o, s.heap.get? b = some o → h'.get? b = some o) → s.heap.objs.size ≤ h'.objs.size → Q (ordW w a ep es) { s with heap := h', toks := tk }) : wpAny (model prog w) A (collect (.ref a)) Q E s := by
  have hz := hE.size
  have hol : (ordW w a ep es).length = ps.length := by rw [(ord_perm w a ep es).length_eq, List.length_map, Array.length_toList, hz]
  obtain ⟨L, eL⟩ : ∃ L, L = s.heap.objs.size := ⟨_, rfl⟩
  have alt : a < L := by rw [eL]; exact Heap.lt_size ho
  obtain ⟨s1, e1⟩ : ∃ s1 : Shared, s1 = { s with heap := s.heap.push { cls := .type "list", data := .seq #[] } } := ⟨_, rfl⟩
  have o1 : s1.heap.get? a = some (setO es ep (tbP (ledW w) ps)) := by rw [e1]; exact Heap.get?_push_of_some _ ho
  have z1 : s1.heap.objs.size = L + 1 := by rw [e1, eL]; exact Heap.size_push ..
  have hT : s1.TypeIs (.ref a) "set" := ⟨_, o1, rfl⟩
  have n1 : Builtin.List.listSameRef (.ref L) (.ref a) = false := by simp [Builtin.List.listSameRef, Nat.ne_of_gt alt]
  have n2 : (Value.type "set" == Value.type "list") = false := by decide
  have n3 : (Value.type "set" == Value.type "tuple") = false := by decide
  obtain ⟨s2, e2⟩ : ∃ s2 : Shared, s2 = { s1 with heap := s1.heap.push (siO w a ps.length ep ps 0) } := ⟨_, rfl⟩
  have T2 : s2.TypeIs (.ref a) "set" := ⟨_, by rw [e2]; exact Heap.get?_push_of_some _ o1, rfl⟩
  have C1 : ∀ (A' : Around) (E' : Value → Shared → Prop) (Q' : Value → Shared → Prop), Q' (.ref (L + 1)) s2 → wpAny (model prog w) A' (pyIter (.ref a)) Q' E' s1 := fun A' E' Q' hq => iter_set hm hb hE o1 (by rw [z1, ← e2]; exact hq)
  have C2 : ∀ (A' : Around) (E' : Value → Shared → Prop) (Q' : Bool → Shared → Prop), Q' false s2 → wpAny (model prog w) A' (Builtin.List.listLengthHint (.ref a)) Q' E' s2 := fun A' E' Q' hq => hint_set T2 hq
  have at1 : s2.heap.get? L = some (seqObj "list" #[] 0) := by rw [e2, e1, eL]; exact Heap.get?_push_of_some _ (Heap.get?_push_size _ rfl)
  have C3 : ∀ (A' : Around) (E' : Value → Shared → Prop) (Q' : Unit → Shared → Prop), (∀ h' c, (∀ b o, b ≠ L → s2.heap.get? b = some o → h'.get? b = some o) → h'.get? L = some (seqObj "list" #[] c) → Q' () { s2 with heap := h' }) → wpAny (model prog w) A' (Builtin.List.listTouch (.ref L)) Q' E' s2 := fun A' E' Q' hq => touch_nil at1 hq
  unfold collect
  apply wpAny_bind
  apply wpAny_runValue
  apply codeAny_builtin F.entry_proto_collect
  rw [Around.under_plainId F.plain_proto_collect]
  unfold Builtin.«proto.collect»
  repeat wp_step
  rw [← eL]
  refine ⟨plainId_quiet F.plain_list_iadd _, codeAny_builtin F.entry_list_iadd ?_⟩
  rw [Around.under_plainId F.plain_list_iadd]
  rw [← e1]
  unfold Builtin.«list.__iadd__»
  repeat (first | refine C1 _ _ _ ?_ | refine C2 _ _ _ ?_ | wp_step)
  apply wpAny_ite_false
  · rw [n1, n2, n3]; rfl
  repeat (first | refine C1 _ _ _ ?_ | refine C2 _ _ _ ?_ | refine C3 _ _ _ ?_ | wp_step)
  intro h3 c3 k3 at3
  obtain ⟨s3, e3⟩ : ∃ s3 : Shared, s3 = { s2 with heap := h3 } := ⟨_, rfl⟩
  rw [← e3]
  repeat wp_step
  constructor
  · exact plainId_quiet F.plain_extend_loop _
  have hh2 : A.in1.handled = none := hh
  have W := (walk_set (prog := prog) (w := w) (A := A.in1) (I := L + 1) (a := a) (ep := ep) hh2 (Nat.ne_of_lt (Nat.lt_succ_of_lt alt)) hm hb hE).toS
  have nL : L ∉ [L + 1, a] := by simp [Nat.ne_of_gt alt]
  have st3 : siS w a (L + 1) es ep ps 0 s3.heap := by
    rw [e3]
    exact ⟨k3 _ _ (Nat.ne_of_gt (Nat.lt_succ_self _)) (by rw [e2, ← z1]; exact Heap.get?_push_size _ rfl), k3 _ _ (Nat.ne_of_lt alt) (by rw [e2]; exact Heap.get?_push_of_some _ o1)⟩
  have k03 : ∀ b o, s.heap.get? b = some o → s3.heap.get? b = some o := fun b o q => by
    rw [e3]
    exact k3 b o (by rw [eL]; exact Nat.ne_of_lt (Heap.lt_size q)) (by rw [e2, e1]; exact Heap.get?_push_of_some _ (Heap.get?_push_of_some _ q))
  have f3 : s3.gens = s.gens ∧ s3.drawn = s.drawn ∧ s3.os = s.os := by rw [e3, e2, e1]; exact ⟨rfl, rfl, rfl⟩
  refine codeAny_extend_loopS W (by rw [← hz]; exact fits_of_scanBound (by rw [hz, ← hb]; exact Nat.lt_of_le_of_lt (by unfold bs; exact Nat.le_trans (List.length_filter_le _ _) (Nat.le_refl 7)) (by decide))) L nL _ ps.length 0 s3 #[] c3 rfl (Nat.zero_le _) st3 (by rw [e3]; exact at3) (ItemsOf.nil _) fun s' acc c mv at2 all => ?_
  have eacc : acc.toList = ordW w a ep es := by
    apply List.ext_getElem?
    intro i
    rw [Array.getElem?_toList]
    by_cases c : i < ps.length
    · have hi : i < acc.size := by rw [all.1]; exact c
      have := all.2 i acc[i] (Array.getElem?_eq_getElem hi)
      rw [this, Array.getElem?_eq_getElem hi]
    · rw [Array.getElem?_eq_none (by rw [all.1]; omega), List.getElem?_eq_none (by omega)]
  obtain ⟨h', gs, dr, tk, os⟩ := s'
  have x1 : gs = s.gens := mv.gens.trans f3.1
  have x2 : dr = s.drawn := mv.drawn.trans f3.2.1
  have x3 : os = s.os := mv.os.trans f3.2.2
  subst x1 x2 x3
  dsimp only
  refine wpAny_bind (wpAny_load at2 (wpAny_pure ?_))
  rw [eacc]
  refine h h' tk (fun b o q => mv.heap b o ?_ (k03 b o q)) ?_
  · have lt : b < L := by rw [eL]; exact Heap.lt_size q
    simp [Nat.ne_of_lt lt, Nat.ne_of_lt (Nat.lt_succ_of_lt lt)]
  · rw [← eL]
    exact Nat.le_of_lt (Heap.lt_size at2)
theorem ints_perm {us vs : List Value} {ns : List Int} (h : IntsAre vs ns) (p : us.Perm vs) : ∃ ms : List Int, IntsAre us ms ∧ ms.Perm ns := by
  induction p generalizing ns with
  | nil => exact ⟨ns, h, List.Perm.refl _⟩
  | cons x _ ih =>
    cases h with
    | cons n t r =>
      obtain ⟨ms, h1, h2⟩ := ih r
      exact ⟨n :: ms, .cons n t h1, h2.cons n⟩
  | swap x y l =>
    cases h with
    | cons n t r =>
      cases r with
      | cons n' t' r' => exact ⟨n' :: n :: _, .cons n' t' (.cons n t r'), List.Perm.swap ..⟩
  | trans _ _ ih1 ih2 =>
    obtain ⟨ms, h1, h2⟩ := ih2 h
    obtain ⟨ms', h3, h4⟩ := ih1 h1
    exact ⟨ms', h3, h4.trans h2⟩
set_option maxHeartbeats 4000000 in
theorem sorted_set {a : Addr} {es : Array (Int × Value)} {ep m : Nat} {ps : List Nat} {Q : Value → Shared → Prop} (hh : A.handled = none) (hm : m < 128) (hb : bs m = ps) (hE : EsA ps es) (ho : s.heap.get? a = some (setO es ep (tbP (ledW w) ps)))
    (h : ∀ (h' : Heap) (tk : Nat) (l : Addr) (out : Array Value) (ns' : List Int) (e : Nat), s.heap.objs.size ≤ l → (∀ b o, s.heap.get? b = some o → h'.get? b = some o) → h'.get? l = some (seqObj "list" out e) → IntsAre out.toList ns' → ns'.Perm (ps.map Int.ofNat) → ns'.Pairwise (· ≤ ·) → Q (.ref l) { s with heap := h', toks := tk }) : wpAny (model prog w) A (call (.builtin "sorted") [.ref a]) Q E s := by
  apply Calls.call_function_entry kind_sorted plain_sorted entry_sorted (args_sorted1 _)
  unfold Builtin.«sorted»
  have hh2 : A.in1.handled = none := hh
  have C : ∀ (E' : Value → Shared → Prop) (Q' : List Value → Shared → Prop), (∀ h' tk, (∀ b o, s.heap.get? b = some o → h'.get? b = some o) → s.heap.objs.size ≤ h'.objs.size → Q' (ordW w a ep es) { s with heap := h', toks := tk }) → wpAny (model prog w) A.in1 (collect (.ref a)) Q' E' s := fun E' Q' hq => collect_set hh2 hm hb hE ho hq
  repeat (first | refine C _ _ ?_ | wp_step)
  intro h1 tk1 kp1 z1
  obtain ⟨s1, e1⟩ : ∃ s1 : Shared, s1 = { s with heap := h1.push (seqObj "list" (ordW w a ep es).toArray 0), toks := tk1 } := ⟨_, rfl⟩
  have at1 : s1.heap.get? h1.objs.size = some (seqObj "list" (ordW w a ep es).toArray 0) := by rw [e1]; exact Heap.get?_push_size _ rfl
  have vi : ∃ ms : List Int, IntsAre (ordW w a ep es) ms ∧ ms.Perm (ps.map Int.ofNat) := ints_perm hE.vs (ord_perm w a ep es)
  obtain ⟨ms, m1, m2⟩ := vi
  have hol : (ordW w a ep es).length < 64 := by
    rw [(ord_perm w a ep es).length_eq, List.length_map, Array.length_toList, hE.size, ← hb]
    unfold bs; exact Nat.lt_of_le_of_lt (List.length_filter_le _ _) (by decide)
  have C2 : ∀ (E' : Value → Shared → Prop) (Q' : Value → Shared → Prop), (∀ (out : Array Value) (ns' : List Int), IntsAre out.toList ns' → ns'.Perm ms → ns'.Pairwise (· ≤ ·) → Q' .none { s1 with heap := sortedHeap s1.heap h1.objs.size (ordW w a ep es) out }) → wpAny (model prog w) A.in1 (call (.builtin "list.sort") [.ref h1.objs.size]) Q' E' s1 := fun E' Q' hq =>
    wpAny_call_entry slot_list_sort ⟨_, at1, rfl⟩ entry_list_sort (list_sort_tree at1 m1 hol fun out ns' a1 a2 a3 => ⟨_, rfl, hq out ns' a1 a2 a3⟩) (args_list_sort _)
  apply wpAny_bind
  refine wpAny_newList ?_ (Nat.le_trans (Nat.le_of_lt hol) (by decide))
  rw [← e1]
  repeat (first | refine C2 _ _ ?_ | wp_step)
  intro out ns' b1 b2 b3
  obtain ⟨e, he⟩ := sortedHeap_at at1 (out := out)
  subst e1
  refine wpAny_pure ⟨_, rfl, h _ tk1 h1.objs.size out ns' e z1 (fun b o q => ?_) he b1 (b2.trans m2) b3⟩
  have lt := Heap.lt_size (kp1 b o q)
  rw [sortedHeap_old (Nat.ne_of_lt lt) (by rw [size_push']; exact Nat.lt_succ_of_lt lt)]
  exact Heap.get?_push_of_some _ (kp1 b o q)
end
end L2
namespace L2
open PySem PySem.Spec PyProof.Rows
section
variable {X : Cx} {K : PySem.W.Frag}
def tSrtSet (K : PySem.W.Frag) (ta : TA) : TE := fun σ H Q => ta σ H fun vs H1 => ∃ (p : Addr) (ns : List Int), vs = [.ref p] ∧ SqL K H1 p (ns.map V.int) ∧ ns.Pairwise (· < ·) ∧ (∀ n ∈ ns, 0 ≤ n ∧ n < 7) ∧ ∀ l, H1 l = none → Q (.ref l) (upd H1 l (.lst (ns.map V.int)))
theorem pe_srtset {e : Expr} {ta : TA} {p1 p2 pos1 pos2 : Pos} (hK : X.K = K) (hc : X.calm = true) (hg : Gl X "sorted") (hm : X.mg "sorted" = none) (hg2 : Gl X "set") (hm2 : X.mg "set" = none) (ha : PA X [e] ta)
    (hs : starEach [.Call (.Name "set" p2) [e] [] pos2] X.env = [(false, eval (.Call (.Name "set" p2) [e] [] pos2) X.env)] := by rfl) (hs2 : starEach [e] X.env = [(false, eval e X.env)] := by rfl) :
    PE X (.Call (.Name "sorted" p1) [.Call (.Name "set" p2) [e] [] pos2] [] pos1) (tSrtSet K ta) := by
  subst hK
  intro pins s σ H Q I h
  refine Call_ (ld_blt I hg hm boot_sorted (PyProof.Rows.callWith_builtin1 ?_ hs rfl))
  rw [hs]
  refine Calls.spliced_cons ?_
  refine Call_ (ld_blt I hg2 hm2 boot_set (PyProof.Rows.callWith_type1 (thn (ha pos2 pins s σ H _ I h) fun us s1 ⟨vs, H1, I1, r1, q1⟩ => ?_) hs2 rfl))
  obtain ⟨p, ns, rfl, hq, hup, h7, q⟩ := q1
  obtain ⟨u, rfl, rx⟩ := vals1 r1
  cases rx
  obtain ⟨its, rv, pl, hz⟩ := I1.list hq
  obtain ⟨ps, eps⟩ : ∃ ps : List Nat, ps = ns.map Int.toNat := ⟨_, rfl⟩
  have ens : ps.map Int.ofNat = ns := by
    rw [eps, List.map_map]
    refine (List.map_congr_left fun n hn => ?_).trans (List.map_id _)
    have := h7 n hn
    show ((n.toNat : Nat) : Int) = n
    omega
  have up' : ps.Pairwise (· < ·) := by
    rw [eps, List.pairwise_map]
    refine hup.imp_of_mem fun ha hb hlt => ?_
    have := h7 _ ha
    have := h7 _ hb
    omega
  have h7' : ∀ q ∈ ps, q < 7 := fun q hq => by
    rw [eps] at hq
    obtain ⟨n, hn, rfl⟩ := List.mem_map.mp hq
    have := h7 n hn
    omega
  refine mk_set7 (I.ok.hd hc) pl.isList (by rw [ens]; simpa using Vals.intsAre rv) up' h7' fun h' tk ep es m hm hb hE ho kp => Calls.spliced_nil ?_
  refine sorted_set (s := { s1 with heap := h', toks := tk }) (I.ok.hd hc) hm hb hE ho fun h2 tk2 l out ns' e hl kp2 at2 a1 a2 a3 => ?_
  rw [ens] at a2
  have es' : ns' = ns := sorted_uniq a2 a3 (hup.imp fun h => Int.le_of_lt h)
  subst es'
  have kp' : ∀ b o, s1.heap.get? b = some o → h2.get? b = some o := fun b o q => kp2 b o (kp b o q)
  have fr : s1.heap.objs.size ≤ l := Nat.le_trans (Nat.le_of_lt (Heap.lt_size ho)) hl
  rw [List.length_map] at hz
  exact ⟨.ref _, _, I1.laid (t' := tk2) kp' fr (show ObjOk X.prog X.w _ h2 _ (.lst (ns'.map V.int)) from ⟨by rw [List.length_map]; exact hz, out.toList, e, IntsAre.vals a1, at2⟩), rfl, q _ (I1.hok.fresh fr)⟩
end
end L2
namespace Pk
open PySem L2 PyProof.Rows
def top (i : Nat) : Stmt := PySem.Challenge.pw_busyweb_k25_between_bounds.main.body.getD i (.Pass ⟨0, 0, 0, 0⟩)
abbrev sN : Stmt := inClass (top 8) 0
abbrev sAm : Stmt := top 10
abbrev sCb : Stmt := top 12
abbrev sRl : Stmt := top 13
abbrev sSf : Stmt := top 14
abbrev sSe : Stmt := top 15
abbrev sWw : Stmt := top 16
abbrev sRa : Stmt := top 17
abbrev sPu : Stmt := top 18
abbrev sCd : Stmt := top 19
abbrev sBt : Stmt := top 20
abbrev sC : Stmt := top 22
abbrev sH : Stmt := top 23
abbrev sDr : Stmt := top 24
abbrev sWb2 : Stmt := top 25
abbrev sLg : Stmt := top 26
abbrev sLf : Stmt := top 27
abbrev sSm : Stmt := top 28
abbrev sWy : Stmt := top 29
abbrev sSh : Stmt := top 30
abbrev sGd : Stmt := top 31
abbrev sL : Stmt := top 32
structure Cs where
  BadFlow : Addr
  Web : Addr
structure Txt (K : PySem.W.Frag) (mg : Str → Option Value) (c : Cs) : Prop where
  abs : mg "abs" = none
  all : mg "all" = none
  any : mg "any" = none
  bool : mg "bool" = none
  enumerate : mg "enumerate" = none
  int : mg "int" = none
  isinstance : mg "isinstance" = none
  len : mg "len" = none
  list : mg "list" = none
  min : mg "min" = none
  range : mg "range" = none
  set : mg "set" = none
  sorted : mg "sorted" = none
  tuple : mg "tuple" = none
  zip : mg "zip" = none
  mBadFlow : mg "BadFlow" = some (.ref c.BadFlow)
  mWeb : mg "Web" = some (.ref c.Web)
  web : WebC K c.Web
  most_places : ∃ t, mg "MOST_PLACES" = some (.int 20 t)
  most_ties : ∃ t, mg "MOST_TIES" = some (.int 40 t)
  xBadFlow : IsExc K c.BadFlow
def spLaw (K : PySem.W.Frag) : Sp := fun vs H Q _ => ∃ (a : Addr) (ns : List Int), vs = [.ref a] ∧ SqL K H a (ns.map V.int) ∧ ns.length ≤ 63 ∧ ∀ H', Q (.bl true) H'
section
variable {P : Program} {w : World} {K : PySem.W.Frag} {mg : Str → Option Value} {base : Heap} {c : Cs}
theorem scN : FnScope ["self", "many", "ties", "start", "end"] ["self", "many", "ties"] (defScope sN) := ⟨rfl, rfl, rfl, by decide +kernel, rfl, by decide +kernel, by decide +kernel⟩
theorem putF2 (m : Int) (t : Addr) : putF "ties" (.ref t) (putF "many" (.int m) []) = wFs m t := rfl
theorem ok_N {f : Addr} {fd : FuncData} (F : Fun K "__init__" "Web.__init__" sN f fd) (T : Txt K mg c) : FnOk P w K mg base CX0 1 f fd ["self", "many", "ties"] (spInit K c.Web) := by
  refine F.ok scN (fun vs H Q E h => ?_) (fun cdv A outer s H vs Q E hr h => ?_)
  · obtain ⟨x, dx, p, m, xs, es, rfl, _⟩ := h
    rfl
  · obtain ⟨x, dx, p, m, xs, es, rfl, hx, hS, hp, m1, m2, hz, hE, k⟩ := h
    have hlen := hp.len
    refine ⟨_, pss_cons (ps_if (PW.pt (pw_or (pt_cmpR op_lt (pv 1) (pe_int) (nomark _)) (pw_or (pt_cmpR op_gt (pv 1) (pe_glob (v := .int 20) (by rfl) T.most_places.choose_spec ⟨_, rfl⟩) (nomark _)) (pw_or1 (pt_cmpR op_gt (pe_callB (cLen (K := K) rfl) (by rfl) T.len PySem.boot_len (pa_cons (pv 2) pa_nil)) (pe_glob (v := .int 40) (by rfl) T.most_ties.choose_spec ⟨_, rfl⟩) (nomark _))))))
        (pss_one (ps_never)) (pss_nil))
      (pss_cons (ps_for PassesOwn.never rfl (piSeq (K := K) rfl (pv 2)) (pgTup (K := K) (n := 2) rfl rfl (pgs_cons (pg_name (i := 3) scN.nd rfl (Or.inl rfl)) (pgs_cons (pg_name (i := 4) scN.nd rfl (Or.inl rfl)) (pgs_nil))) rfl)
        (pss_one (ps_if (pt_not (PW.pt (pw_and (pt_chain op_le op_lt (pe_int) (pv 3) (pv 1)) (pw_and1 (pt_chain op_le op_lt (pe_int) (pv 4) (pv 1))))))
        (pss_one (ps_never)) (pss_nil))))
      (pss_cons (ps_fld (pv 0) (pv 1) rfl)
      (pss_one (ps_fld (pv 0) (pe_callTy (cTuple (K := K) rfl) (by rfl) T.tuple PyProof.Rows.boot_tuple (pa_cons (pe_lc (N' := ["start", "end"]) (nl := 2) (js := []) rfl (.of (osc := defScope sN) (N := ["self", "many", "ties", "start", "end"]) (by decide +kernel) rfl rfl) (piSeq (K := K) rfl (pv 2))
        (fun _ _ _ _ => pgPair (K := K) (i := 0) (j := 1) rfl rfl (show (["start", "end"] : List Str).Nodup by decide +kernel) rfl rfl rfl rfl) (fun _ _ _ _ => pif_nil)
        (fun _ _ _ _ => pe_tup (pa_cons (pv 0) (pa_cons (pv 1) pa_nil)))) pa_nil)) rfl)))), ?_⟩
    refine ⟨_, rfl, _, _, rfl, rfl, _, rfl, ?_⟩
    rw [decide_eq_false (by omega)]
    refine iteF ⟨_, rfl, _, _, rfl, rfl, _, rfl, ?_⟩
    rw [decide_eq_false (by omega)]
    refine iteF ⟨_, rfl, p, xs, rfl, hS, _, _, rfl, rfl, _, rfl, ?_⟩
    rw [decide_eq_false (by omega)]
    refine iteF ⟨_, rfl, p, xs, rfl, hS, fun J C O hC => for_by O (fun i σ H2 => H2 = H ∧ ∃ v3 v4, σ = [some (.ref x), some (.int m), some (.ref p), v3, v4]) ⟨rfl, _, _, rfl⟩ (fun i σ H2 _ h => by rw [h.1]; exact hC _ (Same.refl _)) ?_ ?_⟩
    · rintro i σ H2 hi ⟨rfl, v3, v4, rfl⟩
      obtain ⟨r, e, er, hr2, _, he⟩ := hp.at hi
      obtain ⟨b1, b2, b3, b4⟩ := hE e he
      dsimp only
      rw [er]
      refine ⟨r, _, rfl, hr2, rfl, _, _, rfl, _, _, rfl, rfl, ?_⟩
      refine ⟨_, rfl, _, _, rfl, rfl, _, rfl, ?_⟩
      rw [decide_eq_true b1]
      refine iteT ⟨_, rfl, _, _, rfl, rfl, _, rfl, ?_⟩
      rw [decide_eq_true b2]
      refine iteT ⟨_, rfl, _, _, rfl, rfl, _, rfl, ?_⟩
      rw [decide_eq_true b3]
      refine iteT ⟨_, rfl, _, _, rfl, rfl, _, rfl, ?_⟩
      rw [decide_eq_true b4]
      exact iteF ⟨rfl, _, _, rfl⟩
    · rintro σ H2 ⟨rfl, v3, v4, rfl⟩
      refine ⟨_, rfl, _, rfl, x, c.Web, dx, _, rfl, hx, T.web.cl, T.web.nM, (by show 0 < 1000; decide), ?_⟩
      have sx : SameX x H2 (upd H2 x (.ins c.Web dx (putF "many" (.int m) []))) := sameX_upd
      have hS' := hS.imp (fun y => sx.seqI hx y) (fun y => sx.tupI hx y)
      have hp' := hp.sameI sx hx
      have hx' : (upd H2 x (.ins c.Web dx (putF "many" (.int m) []))) x = some (.ins c.Web dx (putF "many" (.int m) [])) := upd_same
      generalize upd H2 x (.ins c.Web dx (putF "many" (.int m) [])) = H3 at sx hS' hp' hx'
      refine ⟨_, rfl, p, xs, rfl, hS', fun J C O hC => lc_by O (fun i ys H4 => Same H3 H4 ∧ Pairs K H4 ys (es.take i)) (Nat.le_of_lt (small1000 (by omega))) ⟨Same.refl _, .nil⟩ ?_ ?_ ?_⟩
      · rintro i ys H4 hi ⟨s4, h4⟩
        have := h4.len
        rw [List.length_take] at this
        exact ⟨hC _ s4, by omega⟩
      · rintro i ys H4 hi ⟨s4, h4⟩
        obtain ⟨r, e, er, hr2, he, _⟩ := (hp'.same s4).at hi
        have hl4 := h4.len
        rw [List.length_take] at hl4
        try dsimp only
        rw [er]
        refine ⟨r, _, rfl, hr2, rfl, _, _, rfl, _, _, rfl, rfl, wk_set2 rfl rfl, iteT ?_⟩
        refine ⟨_, rfl, _, rfl, (by show 2 ≤ sizeLine; decide), fun t ht => ⟨small1000 (by omega), _, by omega, rfl, hi, s4.next ht, ?_⟩⟩
        rw [take_snoc he]
        exact (h4.same (Same.new ht)).snoc (SqT.of upd_same)
      · rintro ys H4 ⟨s4, h4⟩ l hl
        rw [show es.take xs.length = es from List.take_of_length_le (by omega)] at h4
        refine ⟨l, ys, rfl, .inl ⟨SqL.of upd_same, fun t ht => ?_⟩⟩
        have s5 : Same H3 (upd (upd H4 l (.lst ys)) t (.tup ys)) := (s4.next hl).next ht
        refine ⟨_, rfl, x, c.Web, dx, _, rfl, s5 _ _ hx', T.web.cl, T.web.nT, (by show 1 < 1000; decide), ?_⟩
        rw [putF2]
        have hxt : t ≠ x := (ne_of_none (((s4.next hl)) _ _ hx') ht).symm
        refine k _ t ys ((sx.trans (.of s5)).trans sameX_upd) upd_same (by rw [upd_ne hxt]; exact upd_same) ?_
        exact Pairs.sameI sameX_upd (s5 _ _ hx') ((h4.same (Same.new hl)).same (Same.new ht))
def spAm (K : PySem.W.Frag) (C cF : Addr) : Sp := fun vs H Q E => ∃ (x f : Addr) (m : Int) (es : List (Int × Int)) (xs : List V), vs = [.ref x, .ref f] ∧ WebAt K C H x m es ∧ (SqL K H f xs ∨ SqT K H f xs) ∧ (xs.length = es.length → Q .non H) ∧ (xs.length ≠ es.length → E (.ref cF) none H)
theorem scAm : FnScope ["web", "flow"] ["web", "flow"] (defScope sAm) := ⟨rfl, rfl, rfl, by decide +kernel, rfl, by decide +kernel, by decide +kernel⟩
theorem ok_Am {f : Addr} {fd : FuncData} (F : Fun K "check_amounts" "check_amounts" sAm f fd) (T : Txt K mg c) : FnOk P w K mg base (CXE P w) 1 f fd ["web", "flow"] (spAm K c.Web c.BadFlow) := by
  refine F.okE scAm (fun vs H Q E h => ?_) (fun cdv A outer s H vs Q E hr h => ?_)
  · obtain ⟨x, f, m, es, xs, rfl, _⟩ := h
    rfl
  · obtain ⟨x, f, m, es, xs, rfl, hw, hS, k1, k2⟩ := h
    refine ⟨_, pss_one (ps_if (pt_cmpR op_ne (pe_callB (cLen (K := K) rfl) (by rfl) T.len PySem.boot_len (pa_cons (pv 1) pa_nil)) (pe_callB (cLen (K := K) rfl) (by rfl) T.len PySem.boot_len (pa_cons (pTies (K := K) rfl T.web (pv 0)) pa_nil)) (nomark _))
        (pss_one (ps_raise rfl rfl (by rfl) T.mBadFlow T.xBadFlow (pa_cons pe_str pa_nil))) (pss_nil)), ?_⟩
    refine ⟨_, rfl, f, xs, rfl, hS, _, rfl, x, m, es, rfl, hw, fun t ys ht hp => ⟨t, ys, rfl, .inr (SqT.of ht), rfl, _, rfl, ?_⟩⟩
    have hl := hp.len
    by_cases e : xs.length = es.length
    · rw [decide_eq_true (show V.int (xs.length : Int) = V.int (ys.length : Int) by rw [hl, e])]
      exact iteF (k1 e)
    · rw [decide_eq_false (show ¬ V.int (xs.length : Int) = V.int (ys.length : Int) by rw [hl]; intro z; injection z with z; omega)]
      exact iteT ⟨(by show 1 ≤ sizeLine; decide), k2 e⟩
def spCb (K : PySem.W.Frag) (c : Cs) : Sp := fun vs H Q _ => ∃ (x p q : Addr) (m : Int) (es : List (Int × Int)) (ls hs : List Int), vs = [.ref x, .ref p, .ref q] ∧ WebAt K c.Web H x m es ∧ SqL K H p (ls.map V.int) ∧ SqL K H q (hs.map V.int) ∧ ls.length = es.length ∧ hs.length = es.length ∧ es.length ≤ 900 ∧ (∀ i, i < es.length → ls.getD i 0 ≤ hs.getD i 0) ∧ ∀ H', Same H H' → Q .non H'
theorem scCb : FnScope ["web", "lows", "highs"] ["web", "lows", "highs"] (defScope sCb) := ⟨rfl, rfl, rfl, by decide +kernel, rfl, by decide +kernel, by decide +kernel⟩
theorem zip_gt0 : ∀ ls hs : List Int, (∀ i, i < ls.length → ls.getD i 0 ≤ hs.getD i 0) → (List.zipWith (fun a b => V.bl (decide (a > b))) ls hs).all isBI = true ∧ (List.zipWith (fun a b => V.bl (decide (a > b))) ls hs).any tv = false
  | [], _, _ => ⟨rfl, rfl⟩
  | _ :: _, [], _ => ⟨rfl, rfl⟩
  | a :: l, b :: m, h => by
    obtain ⟨h1, h2⟩ := zip_gt0 l m fun i hi => h (i + 1) (Nat.succ_lt_succ hi)
    have h0 : a ≤ b := h 0 (Nat.succ_pos _)
    rw [List.zipWith_cons_cons, List.all_cons, List.any_cons, h1, h2, decide_eq_false (show ¬ a > b by omega)]
    exact ⟨rfl, rfl⟩
set_option maxHeartbeats 4000000 in
theorem ok_Cb {f : Addr} {fd : FuncData} (F : Fun K "check_bounds" "check_bounds" sCb f fd) (T : Txt K mg c) (D_Am : DefE P w K mg base 1 "check_amounts" ["web", "flow"] (spAm K c.Web c.BadFlow)) : FnOk P w K mg base CX0 2 f fd ["web", "lows", "highs"] (spCb K c) := by
  refine F.ok scCb (fun vs H Q E h => ?_) (fun cdv A outer s H vs Q E hr h => ?_)
  · obtain ⟨x, p, q, m, es, ls, hs, rfl, _⟩ := h
    rfl
  · obtain ⟨x, p, q, m, es, ls, hs, rfl, hw, hp, hq, e1, e2, hz, hlh, kk⟩ := h
    refine ⟨_, pss_cons (ps_expr (pe_defR D_Am.calm hr (pa_cons (pv 0) (pa_cons (pv 1) pa_nil))))
      (pss_cons (ps_expr (pe_defR D_Am.calm hr (pa_cons (pv 0) (pa_cons (pv 2) pa_nil))))
      (pss_one (ps_if (pt_val (pe_callB (cAny (K := K) rfl rfl) (by rfl) T.any PyProof.Rows.boot_any (pa_cons (pe_lc (N' := ["low", "high"]) (nl := 2) (js := []) rfl (.of (osc := defScope sCb) (N := ["web", "lows", "highs"]) (by decide +kernel) rfl rfl) (pi_zip (K := K) rfl rfl T.zip (pa_cons (pv 1) (pa_cons (pv 2) pa_nil)))
        (fun _ _ _ _ => pgPair (K := K) (i := 0) (j := 1) rfl rfl (show (["low", "high"] : List Str).Nodup by decide +kernel) rfl rfl rfl rfl) (fun _ _ _ _ => pif_nil)
        (fun _ _ _ _ => pe_cmpR op_gt (pv 0) (pv 1) (nomark _))) pa_nil)))
        (pss_one (ps_never)) (pss_nil)))), ?_⟩
    refine ⟨_, rfl, _, rfl, x, p, m, es, _, rfl, hw, .inl hp, fun _ => ?_, fun z => absurd (by rw [List.length_map]; exact e1) z⟩
    refine ⟨_, rfl, _, rfl, x, q, m, es, _, rfl, hw, .inl hq, fun _ => ?_, fun z => absurd (by rw [List.length_map]; exact e2) z⟩
    have hn : min (ls.map V.int).length (hs.map V.int).length = ls.length := by rw [List.length_map, List.length_map, e2, ← e1]; exact Nat.min_self _
    have hzl : (List.zipWith (fun a b => V.bl (decide (a > b))) ls hs).length = ls.length := by rw [List.length_zipWith, e2, ← e1]; exact Nat.min_self _
    refine ⟨_, rfl, _, rfl, false, false, p, q, _, _, rfl, hp, hq, fun J C O hC => lc_byP O (fun i ys H2 => Same H H2 ∧ ys = (List.zipWith (fun a b => V.bl (decide (a > b))) ls hs).take i) (by rw [hn]; exact Nat.le_of_lt (small1000 (by omega))) ⟨Same.refl _, rfl⟩ ?_ ?_ ?_⟩
    · rintro i ys H2 hi ⟨s2, rfl⟩
      exact ⟨hC _ (s2.seq hp) (s2.seq hq), by rw [List.length_take]; omega⟩
    · rintro i ys H2 r hi ⟨s2, rfl⟩ nr
      rw [hn] at hi
      have hv : (List.zipWith (fun a b => V.bl (decide (a > b))) ls hs)[i]? = some (V.bl (decide (ls.getD i 0 > hs.getD i 0))) := by
        rw [List.getElem?_zipWith, List.getD_eq_getElem?_getD, List.getD_eq_getElem?_getD, List.getElem?_eq_getElem hi, List.getElem?_eq_getElem (show i < hs.length by omega)]; rfl
      dsimp only
      rw [getD_ints hi, getD_ints (show i < hs.length by omega)]
      refine ⟨r, _, rfl, SqT.of upd_same, rfl, _, _, rfl, _, _, rfl, rfl, wk_set2 rfl rfl, iteT ?_⟩
      refine ⟨_, rfl, _, rfl, _, _, rfl, rfl, small1000 (by rw [List.length_take]; omega), _, by rw [hn]; omega, rfl, by rw [hn]; omega, s2.next nr, ?_⟩
      rw [take_snoc hv]
    · rintro ys H2 ⟨s2, rfl⟩ l nl
      rw [hn, List.take_of_length_le (by omega)]
      obtain ⟨z1, z2⟩ := zip_gt0 ls hs fun i hi => hlh i (by omega)
      refine ⟨l, _, rfl, .inl (SqL.of upd_same), z1, _, rfl, ?_⟩
      rw [z2]
      exact iteF (kk _ (s2.next nl))
def spRl (K : PySem.W.Frag) : Sp := fun vs H Q _ => ∃ (a p q : Addr) (as lo hi : List Int), vs = [.ref a, .ref p, .ref q] ∧ SqL K H a (as.map V.int) ∧ SqL K H p (lo.map V.int) ∧ SqL K H q (hi.map V.int) ∧ lo.length = as.length ∧ hi.length = as.length ∧ as.length ≤ 900 ∧
  ∀ l xs H', H l = none → Same H H' → H' l = some (.lst xs) → Pairs K H' xs (rmN as lo hi) → Q (.ref l) H'
theorem scRl : FnScope ["amounts", "lows", "highs"] ["amounts", "lows", "highs"] (defScope sRl) := ⟨rfl, rfl, rfl, by decide +kernel, rfl, by decide +kernel, by decide +kernel⟩
set_option maxHeartbeats 4000000 in
theorem ok_Rl {f : Addr} {fd : FuncData} (F : Fun K "rooms_left" "rooms_left" sRl f fd) (T : Txt K mg c) : FnOk P w K mg base CX0 1 f fd ["amounts", "lows", "highs"] (spRl K) := by
  refine F.ok scRl (fun vs H Q E h => ?_) (fun cdv A outer s H vs Q E hr h => ?_)
  · obtain ⟨a, p, q, as, lo, hi, rfl, _⟩ := h
    rfl
  · obtain ⟨a, p, q, as, lo, hi, rfl, ha, hp, hq, h1, h2, hz, k⟩ := h
    refine ⟨_, pss_one (ps_ret (pe_lc (N' := ["amount", "low", "high"]) (nl := 3) (js := []) rfl (.of (osc := defScope sRl) (N := ["amounts", "lows", "highs"]) (by decide +kernel) rfl rfl) (pi_zip3 (K := K) rfl rfl T.zip (pa_cons (pv 0) (pa_cons (pv 1) (pa_cons (pv 2) pa_nil))))
        (fun _ _ _ _ => pgTup (K := K) (n := 3) rfl rfl (pgs_cons (pg_name (i := 0) (show (["amount", "low", "high"] : List Str).Nodup by decide +kernel) rfl (Or.inl rfl) (Or.inr rfl)) (pgs_cons (pg_name (i := 1) (show (["amount", "low", "high"] : List Str).Nodup by decide +kernel) rfl (Or.inl rfl) (Or.inr rfl)) (pgs_cons (pg_name (i := 2) (show (["amount", "low", "high"] : List Str).Nodup by decide +kernel) rfl (Or.inl rfl) (Or.inr rfl)) (pgs_nil)))) rfl) (fun _ _ _ _ => pif_nil)
        (fun _ _ _ _ => pe_tup (pa_cons (pe_op op_sub (pv 2) (pv 0)) (pa_cons (pe_op op_sub (pv 0) (pv 1)) pa_nil))))), ?_⟩
    have hn : (as.map V.int).length = as.length := List.length_map ..
    refine ⟨_, rfl, _, rfl, _, rfl, a, p, q, _, _, _, rfl, ha, hp, hq, by rw [List.length_map, List.length_map, h1], by rw [List.length_map, List.length_map, h2], fun J C O hC => lc_byP O (fun i ys H2 => Same H H2 ∧ Pairs K H2 ys ((rmN as lo hi).take i)) (by rw [hn]; exact Nat.le_of_lt (small1000 (by omega))) ⟨Same.refl _, .nil⟩ ?_ ?_ ?_⟩
    · rintro i ys H2 hi' ⟨s2, hp2⟩
      exact ⟨hC _ (s2.seq ha) (s2.seq hp) (s2.seq hq), by rw [hp2.len, List.length_take]; omega⟩
    · rintro i ys H2 r hi' ⟨s2, hp2⟩ nr
      rw [hn] at hi'
      have hyl := hp2.len
      rw [List.length_take, rmN_len] at hyl
      dsimp only
      rw [getD_ints hi', getD_ints (show i < lo.length by omega), getD_ints (show i < hi.length by omega)]
      have s3 := Same.new (o := .tup [.int (as.getD i 0), .int (lo.getD i 0), .int (hi.getD i 0)]) nr
      refine ⟨r, _, rfl, SqT.of upd_same, rfl, _, _, rfl, _, _, rfl, _, _, rfl, rfl, ?_⟩
      generalize upd H2 r (.tup [.int (as.getD i 0), .int (lo.getD i 0), .int (hi.getD i 0)]) = H3 at s3
      refine ⟨(wk_set2 rfl rfl).trans (wk_set rfl), iteT ⟨_, rfl, _, rfl, _, _, rfl, rfl, _, rfl, _, rfl, _, _, rfl, rfl, (by show 2 ≤ sizeLine; decide), fun t nt => ?_⟩⟩
      have s4 := Same.new (o := .tup [.int (hi.getD i 0 - as.getD i 0), .int (as.getD i 0 - lo.getD i 0)]) nt
      refine ⟨small1000 (by omega), _, by rw [hn]; omega, rfl, by rw [hn]; omega, (s2.trans s3).trans s4, ?_⟩
      have hv : (rmN as lo hi)[i]? = some (hi.getD i 0 - as.getD i 0, as.getD i 0 - lo.getD i 0) := by
        have := rmN_at (lo := lo) (hi := hi) hi'
        rw [List.getD_eq_getElem?_getD, List.getElem?_eq_getElem (by rw [rmN_len]; exact hi')] at this
        rw [List.getElem?_eq_getElem (by rw [rmN_len]; exact hi')]
        exact congrArg some this
      rw [take_snoc hv]
      exact ((hp2.same s3).same s4).snoc (e := (hi.getD i 0 - as.getD i 0, as.getD i 0 - lo.getD i 0)) (SqT.of upd_same)
    · rintro ys H2 ⟨s2, hp2⟩ l nl
      rw [hn, List.take_of_length_le (by rw [rmN_len]; omega)] at hp2
      exact k l ys _ (none_back s2 nl) (s2.next nl) upd_same (hp2.same (Same.new nl))
def spSf (K : PySem.W.Frag) (c : Cs) : Sp := fun vs H Q _ => ∃ (x a : Addr) (m p : Int) (es rm : List (Int × Int)) (xs : List V), vs = [.ref x, .ref a, .int p] ∧ WebAt K c.Web H x m es ∧ SqL K H a xs ∧ Pairs K H xs rm ∧ rm.length = es.length ∧ es.length ≤ 40 ∧
  ∀ l zs H', H l = none → Same H H' → H' l = some (.lst zs) → Pairs K H' zs (stN es rm p es.length) → Q (.ref l) H'
theorem scSf : FnScope ["web", "rooms", "place", "steps", "tie", "ends"] ["web", "rooms", "place"] (defScope sSf) := ⟨rfl, rfl, rfl, by decide +kernel, rfl, by decide +kernel, by decide +kernel⟩
theorem stN_len (es rm : List (Int × Int)) (p : Int) : ∀ n, (stN es rm p n).length ≤ 2 * n
  | 0 => Nat.le_refl _
  | n + 1 => by
    have := stN_len es rm p n
    show ((stN es rm p n ++ _) ++ _).length ≤ _
    rw [List.length_append, List.length_append]
    split <;> split <;> simp only [List.length_cons, List.length_nil] <;> omega
set_option maxHeartbeats 4000000 in
theorem ok_Sf {f : Addr} {fd : FuncData} (F : Fun K "steps_from" "steps_from" sSf f fd) (T : Txt K mg c) : FnOk P w K mg base CX0 1 f fd ["web", "rooms", "place"] (spSf K c) := by
  refine F.ok scSf (fun vs H Q E h => ?_) (fun cdv A outer s H vs Q E hr h => ?_)
  · obtain ⟨x, a, m, p, es, rm, xs, rfl, _⟩ := h
    rfl
  · obtain ⟨x, a, m, p, es, rm, xs, rfl, hw, ha, hx, hrl, hz, k⟩ := h
    refine ⟨_, pss_cons (ps_set (i := 3) scSf.nd rfl (Or.inl rfl) (pe_lst pa_nil))
      (pss_cons (ps_for PassesOwn.never rfl (pi_enum (K := K) rfl rfl T.enumerate (pa_cons (pTies (K := K) rfl T.web (pv 0)) pa_nil)) (pgTup (K := K) (n := 2) rfl rfl (pgs_cons (pg_name (i := 4) scSf.nd rfl (Or.inl rfl)) (pgs_cons (pg_name (i := 5) scSf.nd rfl (Or.inl rfl)) (pgs_nil))) rfl)
        (pss_cons (ps_cut (ps_if (PW.pt (pw_and (pt_cmpR op_eq (pe_ix (ixT (K := K) rfl) (pv 5) (pe_int) (fun _ _ => rfl)) (pv 2) (nomark _)) (pw_and1 (pt_cmpR op_gt (pe_ix (ixT (K := K) rfl) (pe_ix (ixL (K := K) rfl) (pv 1) (pv 4) (fun _ _ => rfl)) (pe_int) (fun _ _ => rfl)) (pe_int) (nomark _)))))
        (pss_one (ps_expr (pe_bm PySem.F.plainAttrs_list PySem.F.slot_list_append PySem.F.type_list_append mt_append (pv 3) (pa_cons (pe_tup (pa_cons (pv 4) (pa_cons (pe_int) pa_nil))) pa_nil)))) (pss_nil)))
      (pss_one (ps_cut (ps_if (PW.pt (pw_and (pt_cmpR op_eq (pe_ix (ixT (K := K) rfl) (pv 5) (pe_int) (fun _ _ => rfl)) (pv 2) (nomark _)) (pw_and1 (pt_cmpR op_gt (pe_ix (ixT (K := K) rfl) (pe_ix (ixL (K := K) rfl) (pv 1) (pv 4) (fun _ _ => rfl)) (pe_int) (fun _ _ => rfl)) (pe_int) (nomark _)))))
        (pss_one (ps_expr (pe_bm PySem.F.plainAttrs_list PySem.F.slot_list_append PySem.F.type_list_append mt_append (pv 3) (pa_cons (pe_tup (pa_cons (pv 4) (pa_cons (pe_un un_neg (pe_int)) pa_nil))) pa_nil)))) (pss_nil))))))
      (pss_one (ps_ret (pv 3)))), ?_⟩
    refine ⟨by decide, fun l nl => ?_⟩
    have s1 := Same.new (o := .lst []) nl
    have e1 : (upd H l (.lst [])) l = some (.lst []) := upd_same
    generalize upd H l (.lst []) = H1 at s1 e1
    refine ⟨_, rfl, x, m, es, rfl, hw.same s1, fun t ys ht hp => ⟨true, t, ys, rfl, SqT.of ht, fun J C O hC => ?_⟩⟩
    have hpl := hp.len
    have ntl : t ≠ l := ne_of ht e1 (by intro z; cases z)
    refine for_byP O (fun i σ H2 => ∃ (zs : List V) (v4 v5 : Option V), σ = [some (.ref x), some (.ref a), some (.int p), some (.ref l), v4, v5] ∧ Same H H2 ∧ SameX l H1 H2 ∧ H2 l = some (.lst zs) ∧ Pairs K H2 zs (stN es rm p i)) ⟨[], none, none, rfl, s1, fun _ _ _ z => z, e1, .nil⟩ (fun i σ H2 _ h => ?_) ?_ ?_
    · obtain ⟨zs, v4, v5, _, _, sx, _⟩ := h
      exact hC _ (SqT.of (sx _ _ ntl ht))
    · rintro i σ H2 q hi ⟨zs, v4, v5, rfl, s2, sx2, l2, p2⟩ hq
      obtain ⟨r, e, er, hr2, ei, he⟩ := hp.at hi
      have hr1 : SqT K H2 r [.int e.1, .int e.2] := sx2.tup e1 hr2
      have hE1 : es.getD i (0, 0) = e := by rw [List.getD_eq_getElem?_getD, ei]; rfl
      obtain ⟨g, ag, hg, _⟩ := tie_get hx (show (0 : Int) ≤ (i : Int) by omega) (by omega)
      have hg1 : tieOf rm (i : Int) = rm.getD i (0, 0) := rfl
      rw [hg1] at hg
      have hsl := stN_len es rm p i
      dsimp only
      rw [er]
      have s3 := Same.new (o := .tup [.int (i : Nat), .ref r]) hq
      have t3 : (upd H2 q (.tup [.int (i : Nat), .ref r])) q = some (.tup [.int (i : Nat), .ref r]) := upd_same
      refine ⟨q, _, rfl, SqT.of t3, rfl, _, _, rfl, _, _, rfl, rfl, ?_⟩
      have l3 := s3 _ _ l2
      have p3 := p2.same s3
      have r3 := s3.tup hr1
      have s03 := s2.trans s3
      have x3 : SameX l H1 (upd H2 q (.tup [.int (i : Nat), .ref r])) := fun b o hb z => s3 _ _ (sx2 b o hb z)
      generalize upd H2 q (.tup [.int (i : Nat), .ref r]) = H3 at s3 l3 p3 r3 s03 x3
      clear t3 s3 p2 l2 hr1 s2 sx2
      have add : ∀ {H4 : Hp} {zs : List V} {ss : List (Int × Int)} {nt : Addr} {v : Int}, Same H H4 → SameX l H1 H4 → H4 l = some (.lst zs) → Pairs K H4 zs ss → H4 nt = none → (upd H4 nt (.tup [.int (i : Nat), .int v])) l = some (.lst zs) ∧ Same H (upd (upd H4 nt (.tup [.int (i : Nat), .int v])) l (.lst (zs ++ [.ref nt]))) ∧ SameX l H1 (upd (upd H4 nt (.tup [.int (i : Nat), .int v])) l (.lst (zs ++ [.ref nt]))) ∧ Pairs K (upd (upd H4 nt (.tup [.int (i : Nat), .int v])) l (.lst (zs ++ [.ref nt]))) (zs ++ [.ref nt]) (ss ++ [((i : Int), v)]) := fun {H4 zs ss nt v} sH sX e4 p4 n4 => by
        have s5 := Same.new (o := .tup [.int (i : Nat), .int v]) n4
        have l5 := s5 _ _ e4
        refine ⟨l5, (sH.trans s5).upd nl, fun b o hb z => by rw [upd_ne hb]; exact s5 _ _ (sX b o hb z), ?_⟩
        have p5 := (p4.same s5).snoc (e := ((i : Int), v)) (r := nt) (SqT.of upd_same)
        exact p5.sameX sameX_upd l5
      refine ⟨fun σ' H' => ∃ zs : List V, σ' = [some (.ref x), some (.ref a), some (.int p), some (.ref l), some (.int (i : Nat)), some (.ref r)] ∧ Same H H' ∧ SameX l H1 H' ∧ H' l = some (.lst zs) ∧ SqT K H' r [.int e.1, .int e.2] ∧ Pairs K H' zs (stN es rm p i ++ if (es.getD i (0, 0)).1 = p ∧ 0 < (rm.getD i (0, 0)).1 then [((i : Int), (1 : Int))] else []), ?_, ?_⟩
      · refine ⟨_, rfl, r, _, 0, _, rfl, rfl, r3, rfl, _, rfl, rfl, _, rfl, ite2 (fun c1 => ?_) (fun c1 => ?_)⟩
        · have c1' := of_decide_eq_true c1
          injection c1' with c1'
          refine ⟨_, rfl, _, rfl, a, _, _, _, rfl, rfl, s03.seq ha, ag, g, _, 0, _, rfl, rfl, s03.tup hg, rfl, _, _, rfl, rfl, _, rfl, ite2 (fun c2 => ?_) (fun c2 => ?_)⟩
          · rw [if_pos ⟨by rw [hE1]; exact c1', of_decide_eq_true c2⟩]
            refine ⟨_, rfl, .inl ⟨rfl, _, SqL.of l3⟩, _, rfl, (by show 2 ≤ sizeLine; decide), fun nt hnt => ?_⟩
            obtain ⟨a1, a2, a3, a4⟩ := add (v := 1) s03 x3 l3 p3 hnt
            refine ⟨l, _, _, rfl, rfl, a1, small1000 (by rw [p3.len]; omega), _, rfl, a2, a3, upd_same, ?_, a4⟩
            exact (a3.tup e1 hr2)
          · rw [if_neg (fun z => c2 (decide_eq_true z.2)), List.append_nil]
            exact ⟨zs, rfl, s03, x3, l3, r3, p3⟩
        · rw [if_neg (fun z => c1 (decide_eq_true (by rw [← hE1, z.1]))), List.append_nil]
          exact iteF ⟨zs, rfl, s03, x3, l3, r3, p3⟩
      rintro σ' H4 ⟨zs, rfl, s04, x4, l4, r4, p4⟩
      clear l3 p3 r3 s03 x3
      have hsl2 : zs.length < 800 := by
        rw [p4.len, List.length_append]
        split <;> simp only [List.length_cons, List.length_nil] <;> omega
      refine ⟨fun σ' H' => ∃ zs : List V, σ' = [some (.ref x), some (.ref a), some (.int p), some (.ref l), some (.int (i : Nat)), some (.ref r)] ∧ Same H H' ∧ SameX l H1 H' ∧ H' l = some (.lst zs) ∧ Pairs K H' zs (stN es rm p (i + 1)), ?_, ?_⟩
      · show _
        have fold : stN es rm p (i + 1) = (stN es rm p i ++ if (es.getD i (0, 0)).1 = p ∧ 0 < (rm.getD i (0, 0)).1 then [((i : Int), (1 : Int))] else []) ++ if (es.getD i (0, 0)).2 = p ∧ 0 < (rm.getD i (0, 0)).2 then [((i : Int), (-1 : Int))] else [] := rfl
        rw [fold]
        refine ⟨_, rfl, r, _, 1, _, rfl, rfl, r4, rfl, _, rfl, rfl, _, rfl, ite2 (fun c1 => ?_) (fun c1 => ?_)⟩
        · have c1' := of_decide_eq_true c1
          injection c1' with c1'
          refine ⟨_, rfl, _, rfl, a, _, _, _, rfl, rfl, s04.seq ha, ag, g, _, 1, _, rfl, rfl, s04.tup hg, rfl, _, _, rfl, rfl, _, rfl, ite2 (fun c2 => ?_) (fun c2 => ?_)⟩
          · rw [if_pos (show (es.getD i (0, 0)).2 = p ∧ 0 < (rm.getD i (0, 0)).2 from ⟨by rw [hE1]; exact c1', of_decide_eq_true c2⟩)]
            refine ⟨_, rfl, .inl ⟨rfl, _, SqL.of l4⟩, _, rfl, _, rfl, (by show 2 ≤ sizeLine; decide), fun nt hnt => ?_⟩
            obtain ⟨a1, a2, a3, a4⟩ := add (v := -1) s04 x4 l4 p4 hnt
            exact ⟨l, _, _, rfl, rfl, a1, small1000 (by omega), _, rfl, a2, a3, upd_same, a4⟩
          · rw [if_neg (show ¬ ((es.getD i (0, 0)).2 = p ∧ 0 < (rm.getD i (0, 0)).2) from fun z => c2 (decide_eq_true z.2)), List.append_nil]
            exact ⟨zs, rfl, s04, x4, l4, p4⟩
        · rw [if_neg (show ¬ ((es.getD i (0, 0)).2 = p ∧ 0 < (rm.getD i (0, 0)).2) from fun z => c1 (decide_eq_true (by rw [← hE1, z.1]))), List.append_nil]
          exact iteF ⟨zs, rfl, s04, x4, l4, p4⟩
      · rintro σ' H' ⟨zs, rfl, h'⟩
        exact ⟨zs, _, _, rfl, h'⟩
    · rintro σ H2 ⟨zs, v4, v5, rfl, s2, sx2, l2, p2⟩
      rw [hpl] at p2
      exact ⟨_, rfl, k l zs H2 nl s2 l2 p2⟩
def spSe (K : PySem.W.Frag) (c : Cs) : Sp := fun vs H Q _ => ∃ (x r : Addr) (m : Int) (es : List (Int × Int)) (s : Int × Int), vs = [.ref x, .ref r] ∧ WebAt K c.Web H x m es ∧ SqT K H r [.int s.1, .int s.2] ∧ StV es s ∧ Q (.int (stE es s)) H
theorem scSe : FnScope ["web", "step", "ends"] ["web", "step"] (defScope sSe) := ⟨rfl, rfl, rfl, by decide +kernel, rfl, by decide +kernel, by decide +kernel⟩
set_option maxHeartbeats 4000000 in
theorem ok_Se {f : Addr} {fd : FuncData} (F : Fun K "step_end" "step_end" sSe f fd) (T : Txt K mg c) : FnOk P w K mg base CX0 1 f fd ["web", "step"] (spSe K c) := by
  refine F.ok scSe (fun vs H Q E h => ?_) (fun cdv A outer s H vs Q E hr h => ?_)
  · obtain ⟨x, r, m, es, s, rfl, _⟩ := h
    rfl
  · obtain ⟨x, r, m, es, s, rfl, hw, hr2, hv, k⟩ := h
    refine ⟨_, pss_cons (ps_set (i := 2) scSe.nd rfl (Or.inl rfl) (pe_ix (ixT (K := K) rfl) (pTies (K := K) rfl T.web (pv 0)) (pe_ix (ixT (K := K) rfl) (pv 1) (pe_int) (fun _ _ => rfl)) (fun _ _ => rfl)))
      (pss_one (ps_ret (pe_ifExp (pt_cmpR op_eq (pe_ix (ixT (K := K) rfl) (pv 1) (pe_int) (fun _ _ => rfl)) (pe_int) (nomark _)) (pe_ix (ixT (K := K) rfl) (pv 2) (pe_int) (fun _ _ => rfl)) (pe_ix (ixT (K := K) rfl) (pv 2) (pe_int) (fun _ _ => rfl))))), ?_⟩
    refine ⟨_, rfl, x, m, es, rfl, hw, fun tt ys ht hp => ?_⟩
    obtain ⟨r1, ar, hr1, _⟩ := tie_get hp hv.1 hv.2.1
    unfold stE at k
    refine ⟨_, rfl, r, _, 0, _, rfl, rfl, hr2, rfl, tt, ys, s.1, .ref r1, rfl, rfl, SqT.of ht, ar, ?_⟩
    refine ⟨_, rfl, r, _, 1, _, rfl, rfl, hr2, rfl, rfl, _, rfl, ite2 (fun c1 => ?_) (fun c1 => ?_)⟩
    · have c1' := of_decide_eq_true c1
      injection c1' with c1'
      rw [if_pos c1'] at k
      exact ⟨_, rfl, r1, _, 1, _, rfl, rfl, hr1, rfl, k⟩
    · rw [if_neg (fun z => c1 (decide_eq_true (by rw [z])))] at k
      exact ⟨_, rfl, r1, _, 0, _, rfl, rfl, hr1, rfl, k⟩
structure WwI (K : PySem.W.Frag) (H : Hp) (m : Int) (es rm : List (Int × Int)) (a : Int) (d r : Addr) (H2 : Hp) (rs : List Int) (ad : Int → Addr) (wy : Int → List (Int × Int)) (pl : Int → List Int) : Prop where
  same : Same H H2
  dd : H2 d = some (.dK (rs.map fun p => ((Sum.inl p : Key), V.ref (ad p))))
  rr : H2 r = some (.lst (rs.map V.int))
  nd : rs.Nodup
  rng : ∀ p ∈ rs, 0 ≤ p ∧ p < m
  a0 : a ∈ rs
  cell : ∀ p ∈ rs, H (ad p) = none ∧ ad p ≠ r ∧ ∃ xs, H2 (ad p) = some (.lst xs) ∧ Pairs K H2 xs (wy p)
  way : ∀ p ∈ rs, WayS es rm a (wy p) (pl p) p ∧ ∀ q ∈ pl p, q ∈ rs
structure WwD (K : PySem.W.Frag) (m : Int) (es rm : List (Int × Int)) (a : Int) (d : Addr) (H2 : Hp) (rs : List Int) (wy : Int → List (Int × Int)) : Prop where
  dd : ∃ ad : Int → Addr, H2 d = some (.dK (rs.map fun p => ((Sum.inl p : Key), V.ref (ad p)))) ∧ ∀ p ∈ rs, ∃ xs, H2 (ad p) = some (.lst xs) ∧ Pairs K H2 xs (wy p)
  nd : rs.Nodup
  rng : ∀ p ∈ rs, 0 ≤ p ∧ p < m
  a0 : a ∈ rs
  way : ∀ p ∈ rs, ∃ pl, WayS es rm a (wy p) pl p
  clo : ∀ p ∈ rs, ∀ s ∈ stN es rm p es.length, stE es s ∈ rs
theorem pairs_sxD {K : PySem.W.Frag} {H H' : Hp} {d : Addr} {kvs : List (Key × V)} {xs : List V} {es : List (Int × Int)} (S : SameX d H H') (hd : H d = some (.dK kvs)) (h : Pairs K H xs es) : Pairs K H' xs es := Paired.mapP h fun _ _ ⟨r, e, q⟩ => ⟨r, e, by
  rcases q with (q | ⟨o, q⟩) | q
  · exact .inl (.inl (S _ _ (ne_of q hd (by intro z; cases z)) q))
  · exact .inl (.inr ⟨o, S _ _ (ne_of q hd (by intro z; cases z)) q⟩)
  · exact .inr q⟩
def spWw (K : PySem.W.Frag) (c : Cs) : Sp := fun vs H Q _ => ∃ (x q : Addr) (a m : Int) (es rm : List (Int × Int)) (us : List V), vs = [.ref x, .ref q, .int a] ∧ WebAt K c.Web H x m es ∧ SqL K H q us ∧ Pairs K H us rm ∧ rm.length = es.length ∧ es.length ≤ 40 ∧ 0 ≤ a ∧ a < m ∧ m ≤ 20 ∧ EndsIn es m ∧
  ∀ d rs wy H', Same H H' → WwD K m es rm a d H' rs wy → rs = (wwr es rm a m.toNat).1 → wy = (wwr es rm a m.toNat).2 → Q (.ref d) H'
theorem scWw : FnScope ["web", "rooms", "start", "ways", "reached", "at", "place", "step", "other"] ["web", "rooms", "start"] (defScope sWw) := ⟨rfl, rfl, rfl, by decide +kernel, rfl, by decide +kernel, by decide +kernel⟩
theorem st_rng {es : List (Int × Int)} {m : Int} (hE : EndsIn es m) {s : Int × Int} (hv : StV es s) : 0 ≤ stE es s ∧ stE es s < m := by
  have hte : tieOf es s.1 ∈ es := by
    unfold tieOf
    rw [List.getD_eq_getElem?_getD, List.getElem?_eq_getElem (show s.1.toNat < es.length by have := hv.1; have := hv.2.1; omega)]; exact List.getElem_mem _
  have hb := hE _ hte
  unfold stE; split
  · exact ⟨hb.2.2.1, hb.2.2.2⟩
  · exact ⟨hb.1, hb.2.1⟩
set_option maxHeartbeats 8000000 in
theorem ok_Ww {f : Addr} {fd : FuncData} (F : Fun K "ways_with_room" "ways_with_room" sWw f fd) (T : Txt K mg c) (D_Sf : Def P w K mg base 1 "steps_from" ["web", "rooms", "place"] (spSf K c)) (D_Se : Def P w K mg base 1 "step_end" ["web", "step"] (spSe K c)) : FnOk P w K mg base CX0 2 f fd ["web", "rooms", "start"] (spWw K c) := by
  refine F.ok scWw (fun vs H Q E h => ?_) (fun cdv A outer s H vs Q E hr h => ?_)
  · obtain ⟨x, q, a, m, es, rm, us, rfl, _⟩ := h
    rfl
  · obtain ⟨x, q, a, m, es, rm, us, rfl, hw, hq, hu, hrm, hz, a0, a1, m2, hE, k⟩ := h
    refine ⟨_, pss_cons (ps_set (i := 3) scWw.nd rfl (Or.inl rfl) (pe_disp (pps_cons (pv 2) (pe_lst pa_nil) (pps_nil)) rfl rfl (by simp) (by decide)))
      (pss_cons (ps_set (i := 4) scWw.nd rfl (Or.inl rfl) (pe_lst (pa_cons (pv 2) pa_nil)))
      (pss_cons (ps_set (i := 5) scWw.nd rfl (Or.inl rfl) (pe_int))
      (pss_cons (ps_while PassesOwn.never (pt_cmpR op_lt (pv 5) (pe_callB (cLen (K := K) rfl) (by rfl) T.len PySem.boot_len (pa_cons (pv 4) pa_nil)) (nomark _))
        (pss_cons (ps_set (i := 6) scWw.nd rfl (Or.inl rfl) (pe_ix (ixL (K := K) rfl) (pv 4) (pv 5) (fun _ _ => rfl)))
      (pss_cons (ps_for PassesOwn.never rfl (piSeqB (K := K) rfl (pe_defR D_Sf hr (pa_cons (pv 0) (pa_cons (pv 1) (pa_cons (pv 6) pa_nil))))) (pg_name (i := 7) scWw.nd rfl (Or.inl rfl))
        (pss_cons (ps_set (i := 8) scWw.nd rfl (Or.inl rfl) (pe_defR D_Se hr (pa_cons (pv 0) (pa_cons (pv 7) pa_nil))))
      (pss_one (ps_cut (ps_if (pt_cmp (pc_dnotin (hu_of hr) (pv 8) (pv 3)))
        (pss_cons (ps_dput (hu_of hr) (pv 3) (pv 8) (pe_op op_cat (pe_dget (hu_of hr) (pv 3) (pv 6) (fun _ _ => rfl)) (pe_lst (pa_cons (pv 7) pa_nil))) rfl)
      (pss_one (ps_expr (pe_bm PySem.F.plainAttrs_list PySem.F.slot_list_append PySem.F.type_list_append mt_append (pv 4) (pa_cons (pv 8) pa_nil))))) (pss_nil))))))
      (pss_one (ps_aug (i := 5) scWw.nd rfl (Or.inl rfl) (pe_int) ip_add)))))
      (pss_one (ps_ret (pv 3)))))), ?_⟩
    intro d nd
    have s1 : Same H (upd H d (.dK [])) := Same.new nd
    have d1 : (upd H d (.dK [])) d = some (.dK []) := upd_same
    generalize upd H d (.dK []) = H1 at s1 d1
    refine ⟨_, rfl, by decide, fun l0 nl0 => ?_⟩
    have s2 := s1.next (o := .lst []) nl0
    have d2 := Same.new (o := .lst []) nl0 _ _ d1
    have e2 : (upd H1 l0 (.lst [])) l0 = some (.lst []) := upd_same
    have l0H : H l0 = none := none_back s1 nl0
    generalize upd H1 l0 (.lst []) = H2 at s2 d2 e2
    refine ⟨d2, [(Sum.inl a, .ref l0)], rfl, (by show 1 ≤ 15; decide), ?_⟩
    have d3 : (upd H2 d (.dK (mergeK [] [((Sum.inl a : Key), V.ref l0)]))) d = some (.dK ([a].map fun p => ((Sum.inl p : Key), V.ref l0))) := upd_same
    have s3 : Same H (upd H2 d (.dK (mergeK [] [((Sum.inl a : Key), V.ref l0)]))) := s2.upd nd
    have e3 : (upd H2 d (.dK (mergeK [] [((Sum.inl a : Key), V.ref l0)]))) l0 = some (.lst []) := by rw [upd_ne (ne_of_none d1 nl0).symm]; exact e2
    generalize upd H2 d (.dK (mergeK [] [((Sum.inl a : Key), V.ref l0)])) = H3 at d3 s3 e3
    refine ⟨_, rfl, (by show 1 ≤ sizeLine; decide), fun r nr => ?_⟩
    have s4 := s3.next (o := .lst [V.int a]) nr
    have d4 := Same.new (o := .lst [V.int a]) nr _ _ d3
    have e4 := Same.new (o := .lst [V.int a]) nr _ _ e3
    have r4 : (upd H3 r (.lst [V.int a])) r = some (.lst ([a].map V.int)) := upd_same
    have rH : H r = none := none_back s3 nr
    have lr : l0 ≠ r := ne_of_none e3 nr
    generalize upd H3 r (.lst [V.int a]) = H4 at s4 d4 e4 r4
    clear s3 d3 e3 s2 d2 e2 nl0 s1 d1 nr
    have drn : d ≠ r := ne_of d4 r4 (by intro z; cases z)
    refine ⟨fun n σ H2 => ∃ (rs : List Int) (st : Nat) (ad : Int → Addr) (wy : Int → List (Int × Int)) (pl : Int → List Int) (v7 v8 v9 : Option V), n = m.toNat - st ∧ σ = [some (.ref x), some (.ref q), some (.int a), some (.ref d), some (.ref r), some (.int st), v7, v8, v9] ∧ WwI K H m es rm a d r H2 rs ad wy pl ∧ st ≤ rs.length ∧
      (∀ j, j < st → ∀ s ∈ stN es rm (rs.getD j 0) es.length, stE es s ∈ rs) ∧ runS es rm (m.toNat - st) (rs, wy) st = runS es rm m.toNat ([a], fun _ => []) 0, ⟨m.toNat - 0, [a], 0, fun _ => l0, fun _ => [], fun _ => [], none, none, none, rfl, rfl, ?_, Nat.zero_le _, (fun j hj => absurd hj (Nat.not_lt_zero _)), rfl⟩, ?_⟩
    · refine ⟨s4, d4, r4, by simp, fun p hp => ?_, List.mem_singleton.mpr rfl, fun p hp => ⟨l0H, lr, [], e4, .nil⟩, fun p hp => ?_⟩
      · rw [List.mem_singleton.mp hp]; exact ⟨a0, a1⟩
      · rw [List.mem_singleton.mp hp]; exact ⟨.nil, fun q hq => nomatch hq⟩
    rintro n σ H5 ⟨rs, st, ad, wy, pl, v7, v8, v9, rfl, rfl, I, hst, clo, hrun⟩
    have hrl := nodup_len I.nd I.rng
    have hlm : (rs.map V.int).length = rs.length := List.length_map ..
    refine ⟨_, rfl, _, rfl, r, _, rfl, .inl (SqL.of I.rr), _, _, rfl, rfl, _, rfl, ?_⟩
    by_cases hlt : st < rs.length
    · rw [decide_eq_true (show (st : Int) < ((rs.map V.int).length : Int) by omega)]
      refine iteT ⟨_, fun σ' H' h => h, ?_⟩
      have hpm : rs.getD st 0 ∈ rs := by rw [List.getD_eq_getElem?_getD, List.getElem?_eq_getElem hlt]; exact List.getElem_mem hlt
      have hat : atI (rs.map V.int) (st : Int) = some (.int (rs.getD st 0)) := at_int (ns := rs) (k := (st : Int)) (by omega) (by omega)
      refine ⟨_, rfl, _, rfl, r, _, _, _, rfl, rfl, SqL.of I.rr, hat, ?_⟩
      obtain ⟨p, ep⟩ : ∃ p, p = rs.getD st 0 := ⟨_, rfl⟩
      rw [← ep] at hpm
      refine ⟨_, rfl, _, rfl, _, rfl, x, q, m, _, es, rm, us, rfl, hw.same I.same, I.same.seq hq, hu.same I.same, hrm, hz, fun l zs H7 nl sN eN pN => ?_⟩
      rw [← ep] at pN
      obtain ⟨wy0, ewy⟩ : ∃ wy0, wy0 = wy := ⟨_, rfl⟩
      have I7 : WwI K H m es rm a d r H7 rs ad wy0 pl := by
        rw [ewy]
        refine ⟨I.same.trans sN, sN _ _ I.dd, sN _ _ I.rr, I.nd, I.rng, I.a0, fun p hp => ?_, I.way⟩
        obtain ⟨c1, c2, xs, c3, c4⟩ := I.cell p hp
        exact ⟨c1, c2, xs, sN _ _ c3, c4.same sN⟩
      have nlr : l ≠ r := (ne_of_none I.rr nl).symm
      have nld : l ≠ d := (ne_of_none I.dd nl).symm
      have nlH : H l = none := none_back I.same nl
      have hzl := pN.len
      refine ⟨false, l, _, rfl, SqL.of eN, fun J C O hC => for_by O (fun i σ H8 => ∃ (rs' : List Int) (ad : Int → Addr) (wy : Int → List (Int × Int)) (pl : Int → List Int) (v8 v9 : Option V), σ = [some (.ref x), some (.ref q), some (.int a), some (.ref d), some (.ref r), some (.int st), some (.int (rs.getD st 0)), v8, v9] ∧ WwI K H m es rm a d r H8 rs' ad wy pl ∧ (∃ more, rs' = rs ++ more) ∧
        H8 l = some (.lst zs) ∧ Pairs K H8 zs (stN es rm p es.length) ∧ (∀ s ∈ (stN es rm p es.length).take i, stE es s ∈ rs') ∧ (rs', wy) = ((stN es rm p es.length).take i).foldl (stpS es p) (rs, wy0)) ⟨rs, ad, wy0, pl, _, _, rfl, I7, ⟨[], (List.append_nil _).symm⟩, eN, pN, (fun s hs => (by simp at hs)), rfl⟩ (fun i σ H8 _ h => ?_) ?_ ?_⟩
      · obtain ⟨rs', ad, wy, pl, v8, v9, _, _, _, l8, _, _⟩ := h
        exact hC _ (SqL.of l8)
      · rintro i σ H8 hi ⟨rs', ad, wy, pl, v8, v9, rfl, I8, ⟨more, em⟩, l8, p8, hdone, hfold⟩
        obtain ⟨g, v, ev, hg, gv, hvm⟩ := p8.at hi
        obtain ⟨hv, hvb, hvr⟩ := mem_stN (Nat.le_refl _) hvm
        have hp8 : p ∈ rs' := by rw [em]; exact List.mem_append_left _ hpm
        have hor := st_rng hE hv
        try dsimp only
        rw [ev]
        refine ⟨_, rfl, _, rfl, x, g, m, es, v, rfl, hw.same I8.same, hg, hv, ?_⟩
        obtain ⟨o, eo⟩ : ∃ o, o = stE es v := ⟨_, rfl⟩
        refine ⟨fun σ' H' => ∃ (rs' : List Int) (ad : Int → Addr) (wy : Int → List (Int × Int)) (pl : Int → List Int), σ' = [some (.ref x), some (.ref q), some (.int a), some (.ref d), some (.ref r), some (.int st), some (.int (rs.getD st 0)), some (.ref g), some (.int (stE es v))] ∧ WwI K H m es rm a d r H' rs' ad wy pl ∧ (∃ more, rs' = rs ++ more) ∧
          H' l = some (.lst zs) ∧ Pairs K H' zs (stN es rm p es.length) ∧ (∀ s ∈ (stN es rm p es.length).take (i + 1), stE es s ∈ rs') ∧ (rs', wy) = ((stN es rm p es.length).take (i + 1)).foldl (stpS es p) (rs, wy0), ?_, ?_⟩
        · refine ⟨_, rfl, _, rfl, d, _, rfl, DGet.k (k := Sum.inl (stE es v)) I8.dd, _, rfl, ?_⟩
          rw [valV_key, ← eo]
          rw [← eo] at hor
          by_cases ho : o ∈ rs'
          · rw [if_pos ho]
            refine iteF ⟨rs', ad, wy, pl, rfl, I8, ⟨more, em⟩, l8, p8, fun t ht => ?_, ?_⟩
            · rw [take_snoc gv] at ht
              rcases List.mem_append.mp ht with y | y
              · exact hdone t y
              · rw [List.mem_singleton.mp y, ← eo]; exact ho
            · rw [take_snoc gv, List.foldl_append, ← hfold]
              show _ = stpS es p (rs', wy) v
              unfold stpS
              rw [← eo, if_pos ho]
          · rw [if_neg ho]
            refine iteT ?_
            obtain ⟨n1, nr1, xs1, c1, c1p⟩ := I8.cell p hp8
            obtain ⟨wp, wq⟩ := I8.way p hp8
            have hwl : (wy p).length ≤ 20 := by
              rw [wp.len]
              have := nodup_len (m := m) wp.nd fun z hz => by
                rcases List.mem_append.mp hz with y | y
                · exact I8.rng z (wq z y)
                · rw [List.mem_singleton.mp y]; exact I8.rng p hp8
              rw [List.length_append] at this
              omega
            have hrl8 := nodup_len I8.nd I8.rng
            have hx1 := c1p.len
            refine ⟨_, rfl, _, rfl, d, .ref (ad p), rfl, ?_, _, rfl, (by show 1 ≤ sizeLine; decide), fun q1 nq1 => ?_⟩
            · have := DGet.k (k := Sum.inl p) I8.dd
              rw [valV_key, if_pos hp8, ep] at this
              rw [ep]
              exact this
            have s9 := Same.new (o := .lst [V.ref g]) nq1
            have e9 : (upd H8 q1 (.lst [V.ref g])) q1 = some (.lst [V.ref g]) := upd_same
            generalize upd H8 q1 (.lst [V.ref g]) = H9 at s9 e9
            refine ⟨ad p, q1, _, _, rfl, rfl, s9 _ _ c1, e9, Nat.le_of_lt (small1000 (by show xs1.length + 1 ≤ 1000; omega)), fun q2 nq2 => ?_⟩
            have s10 := s9.next (o := .lst (xs1 ++ [V.ref g])) nq2
            have e10 : (upd H9 q2 (.lst (xs1 ++ [V.ref g]))) q2 = some (.lst (xs1 ++ [V.ref g])) := upd_same
            generalize upd H9 q2 (.lst (xs1 ++ [V.ref g])) = H10 at s10 e10
            have q2H8 : H8 q2 = none := none_back s9 nq2
            have d10 := s10 _ _ I8.dd
            have r10 := s10 _ _ I8.rr
            have w10 : Pairs K H10 (xs1 ++ [V.ref g]) (wy p ++ [v]) := (c1p.same s10).snoc (s10.tup hg)
            have pk : putK (rs'.map fun p => ((Sum.inl p : Key), V.ref (ad p))) (Sum.inl o) (V.ref q2) = (rs' ++ [o]).map fun z => ((Sum.inl z : Key), V.ref (if z = o then q2 else ad z)) := by
              rw [putK_new _ (by rw [valV_key, if_neg ho]), List.map_append]
              congr 1
              · refine List.map_congr_left fun z hz => ?_
                rw [if_neg (show ¬ z = o from fun y => ho (y ▸ hz))]
              · rw [List.map_cons, List.map_nil, if_pos rfl]
            refine ⟨_, rfl, _, rfl, d, _, rfl, DPut.k (k := Sum.inl o) d10 (small1000 (by rw [List.length_map]; omega)), ?_⟩
            rw [pk]
            have x11 : SameX d H10 (upd H10 d (.dK ((rs' ++ [o]).map fun z => ((Sum.inl z : Key), V.ref (if z = o then q2 else ad z))))) := sameX_upd
            have d11 : (upd H10 d (.dK ((rs' ++ [o]).map fun z => ((Sum.inl z : Key), V.ref (if z = o then q2 else ad z))))) d = some (.dK ((rs' ++ [o]).map fun z => ((Sum.inl z : Key), V.ref (if z = o then q2 else ad z)))) := upd_same
            have s11 : Same H (upd H10 d (.dK ((rs' ++ [o]).map fun z => ((Sum.inl z : Key), V.ref (if z = o then q2 else ad z))))) := (I8.same.trans s10).upd nd
            generalize upd H10 d (.dK ((rs' ++ [o]).map fun z => ((Sum.inl z : Key), V.ref (if z = o then q2 else ad z)))) = H11 at x11 d11 s11
            have r11 := x11 _ _ drn.symm r10
            refine ⟨_, rfl, .inl ⟨rfl, _, SqL.of r11⟩, _, rfl, r, _, _, rfl, rfl, r11, small1000 (by rw [List.length_map]; omega), ?_⟩
            have x12 : SameX r H11 (upd H11 r (.lst (rs'.map V.int ++ [V.int o]))) := sameX_upd
            have r12 : (upd H11 r (.lst (rs'.map V.int ++ [V.int o]))) r = some (.lst ((rs' ++ [o]).map V.int)) := by rw [List.map_append]; exact upd_same
            have s12 : Same H (upd H11 r (.lst (rs'.map V.int ++ [V.int o]))) := s11.upd rH
            generalize upd H11 r (.lst (rs'.map V.int ++ [V.int o])) = H12 at x12 r12 s12
            have q2r : q2 ≠ r := (ne_of_none I8.rr q2H8).symm
            have q2d : q2 ≠ d := (ne_of_none I8.dd q2H8).symm
            have lq : ∀ z ∈ rs', ad z ≠ d := fun z hz => let ⟨_, _, _, c, _⟩ := I8.cell z hz; ne_of c I8.dd (by intro y; cases y)
            have pt : ∀ {xs : List V} {ss : List (Int × Int)}, Pairs K H10 xs ss → Pairs K H12 xs ss := fun h => (pairs_sxD x11 d10 h).sameX x12 r11
            refine ⟨rs' ++ [o], fun z => if z = o then q2 else ad z, fun z => if z = o then wy p ++ [v] else wy z, fun z => if z = o then pl p ++ [p] else pl z, by rw [eo]; rfl, ⟨s12, x12 _ _ drn d11, r12, nodup_snoc I8.nd ho, fun z hz => ?_, List.mem_append_left _ I8.a0, fun z hz => ?_, fun z hz => ?_⟩, ⟨more ++ [o], by rw [em, List.append_assoc]⟩, x12 _ _ nlr (x11 _ _ nld (s10 _ _ l8)), pt (p8.same s10), fun t ht => ?_, ?_⟩
            · rcases List.mem_append.mp hz with y | y
              · exact I8.rng z y
              · rw [List.mem_singleton.mp y]; exact hor
            · try dsimp only
              rcases List.mem_append.mp hz with y | y
              · have hne : ¬ z = o := fun w => ho (w ▸ y)
                obtain ⟨n2, nr2, xs2, c2, c2p⟩ := I8.cell z y
                rw [if_neg hne, if_neg hne]
                exact ⟨n2, nr2, xs2, x12 _ _ nr2 (x11 _ _ (lq z y) (s10 _ _ c2)), pt (c2p.same s10)⟩
              · rw [if_pos (List.mem_singleton.mp y), if_pos (List.mem_singleton.mp y)]
                exact ⟨none_back I8.same q2H8, q2r, _, x12 _ _ q2r (x11 _ _ q2d e10), pt w10⟩
            · try dsimp only
              rcases List.mem_append.mp hz with y | y
              · have hne : ¬ z = o := fun w => ho (w ▸ y)
                rw [if_neg hne, if_neg hne]
                exact ⟨(I8.way z y).1, fun w hw => List.mem_append_left _ ((I8.way z y).2 w hw)⟩
              · have hzo := List.mem_singleton.mp y
                rw [if_pos hzo, if_pos hzo, hzo, eo]
                refine ⟨.snoc wp hv hvb hvr fun w => ?_, fun w hw => ?_⟩
                · rw [← eo] at w
                  rcases List.mem_append.mp w with y | y
                  · exact ho (wq _ y)
                  · exact ho (List.mem_singleton.mp y ▸ hp8)
                · rcases List.mem_append.mp hw with y | y
                  · exact List.mem_append_left _ (wq _ y)
                  · rw [List.mem_singleton.mp y]; exact List.mem_append_left _ hp8
            · rw [take_snoc gv] at ht
              rcases List.mem_append.mp ht with y | y
              · exact List.mem_append_left _ (hdone t y)
              · rw [List.mem_singleton.mp y, ← eo]; exact List.mem_append_right _ (List.mem_singleton.mpr rfl)
            · rw [take_snoc gv, List.foldl_append, ← hfold]
              show _ = stpS es p (rs', wy) v
              unfold stpS
              rw [← eo, if_neg ho]
        · rintro σ' H' ⟨rs', ad, wy, pl, rfl, I', ext, l', p', hdone', hfold'⟩
          exact ⟨rs', ad, wy, pl, _, _, rfl, I', ext, l', p', hdone', hfold'⟩
      · rintro σ H8 ⟨rs', ad, wy, pl, v8, v9, rfl, I8, ⟨more, em⟩, l8, p8, hdone, hfold⟩
        rw [hzl, List.take_length] at hdone hfold
        have hrl8 := nodup_len I8.nd I8.rng
        refine ⟨_, rfl, _, _, rfl, rfl, m.toNat - (st + 1), by omega, rs', st + 1, ad, wy, pl, _, _, _, rfl, rfl, I8, by rw [em, List.length_append]; omega, fun j hj s hs => ?_, ?_⟩
        rotate_left
        · rw [hfold, ewy, ← hrun, show m.toNat - st = (m.toNat - (st + 1)) + 1 by omega]
          show _ = if st < rs.length then runS es rm (m.toNat - (st + 1)) (rndS es rm (rs, _) st) (st + 1) else _
          rw [if_pos hlt]
          unfold rndS
          rw [ep]
        by_cases hjs : j < st
        · have ej : rs'.getD j 0 = rs.getD j 0 := by rw [em, List.getD_eq_getElem?_getD, List.getElem?_append_left (by omega), List.getD_eq_getElem?_getD]
          rw [ej] at hs
          rw [em]
          exact List.mem_append_left _ (clo j hjs s hs)
        · have hje : j = st := by omega
          have ej : rs'.getD j 0 = p := by rw [hje, ep, em, List.getD_eq_getElem?_getD, List.getElem?_append_left hlt, List.getD_eq_getElem?_getD]
          rw [ej] at hs
          exact hdone s hs
    · rw [decide_eq_false (show ¬ (st : Int) < ((rs.map V.int).length : Int) by omega)]
      refine iteF ?_
      have erun : (rs, wy) = wwr es rm a m.toNat := by
        unfold wwr
        rw [← hrun, runS_end hlt]
      refine ⟨_, rfl, k d rs wy H5 I.same ⟨⟨ad, I.dd, fun p hp => (I.cell p hp).2.2⟩, I.nd, I.rng, I.a0, fun p hp => ⟨_, (I.way p hp).1⟩, fun p hp s hs => ?_⟩ (by rw [← erun]) (by rw [← erun])⟩
      obtain ⟨j, hj, rfl⟩ := List.mem_iff_getElem.mp hp
      have ej : rs.getD j 0 = rs[j] := by rw [List.getD_eq_getElem?_getD, List.getElem?_eq_getElem hj]; rfl
      exact clo j (by omega) s (by rw [ej]; exact hs)
def spRa (K : PySem.W.Frag) : Sp := fun vs H Q _ => ∃ (a p : Addr) (xs ys : List V) (rm ss : List (Int × Int)), vs = [.ref a, .ref p] ∧ SqL K H a xs ∧ Pairs K H xs rm ∧ SqL K H p ys ∧ Pairs K H ys ss ∧ ss.length ≤ 900 ∧ (∀ s ∈ ss, 0 ≤ s.1 ∧ s.1 < (rm.length : Int)) ∧
  ∀ l H', H l = none → Same H H' → H' l = some (.lst ((ss.map (rmA rm)).map V.int)) → Q (.ref l) H'
theorem scRa : FnScope ["rooms", "steps"] ["rooms", "steps"] (defScope sRa) := ⟨rfl, rfl, rfl, by decide +kernel, rfl, by decide +kernel, by decide +kernel⟩
set_option maxHeartbeats 4000000 in
theorem ok_Ra {f : Addr} {fd : FuncData} (F : Fun K "room_along" "room_along" sRa f fd) (T : Txt K mg c) : FnOk P w K mg base CX0 1 f fd ["rooms", "steps"] (spRa K) := by
  refine F.ok scRa (fun vs H Q E h => ?_) (fun cdv A outer s H vs Q E hr h => ?_)
  · obtain ⟨a, p, xs, ys, rm, ss, rfl, _⟩ := h
    rfl
  · obtain ⟨a, p, xs, ys, rm, ss, rfl, ha, hx, hp, hy, hz, hs, k⟩ := h
    refine ⟨_, pss_one (ps_ret (pe_lc (N' := ["tie", "sense", "rooms"]) (nl := 2) (js := [0]) rfl (.of (osc := defScope sRa) (N := ["rooms", "steps"]) (by decide +kernel) rfl rfl) (piSeq (K := K) rfl (pv 1))
        (fun _ _ _ _ => pgPair (K := K) (i := 0) (j := 1) rfl rfl (show (["tie", "sense", "rooms"] : List Str).Nodup by decide +kernel) rfl rfl rfl rfl) (fun _ _ _ _ => pif_nil)
        (fun _ _ _ _ => pe_ifExp (pt_cmpR op_eq (pv 1) (pe_int) (nomark _)) (pe_ix (ixT (K := K) rfl) (pe_ix (ixL (K := K) rfl) (pv 2) (pv 0) (fun _ _ => rfl)) (pe_int) (fun _ _ => rfl)) (pe_ix (ixT (K := K) rfl) (pe_ix (ixL (K := K) rfl) (pv 2) (pv 0) (fun _ _ => rfl)) (pe_int) (fun _ _ => rfl))))), ?_⟩
    have hyl := hy.len
    refine ⟨_, rfl, p, _, rfl, .inl hp, fun J C O hC => lc_by O (fun i ws H2 => H2 = H ∧ ws = ((ss.map (rmA rm)).take i).map V.int) (Nat.le_of_lt (small1000 (by omega))) ⟨rfl, rfl⟩ ?_ ?_ ?_⟩
    · rintro i ws H2 hi ⟨rfl, rfl⟩
      exact ⟨hC _ (Same.refl _), by rw [List.length_map, List.length_take]; omega⟩
    · rintro i ws H2 hi ⟨rfl, rfl⟩
      obtain ⟨r, e, er, hr2, ei, he⟩ := hy.at hi
      obtain ⟨b1, b2⟩ := hs e he
      obtain ⟨r1, ar, hr1, _⟩ := tie_get hx b1 b2
      have hv : (ss.map (rmA rm))[i]? = some (rmA rm e) := by rw [List.getElem?_map, ei]; rfl
      have hl2 : (((ss.map (rmA rm)).take i).map V.int).length < sizeLine := small1000 (by rw [List.length_map, List.length_take]; omega)
      try dsimp only
      rw [er]
      refine ⟨r, _, rfl, hr2, rfl, _, _, rfl, _, _, rfl, rfl, wk_set2 rfl rfl, iteT ?_⟩
      refine ⟨_, rfl, rfl, _, rfl, ite2 (fun c1 => ?_) (fun c1 => ?_)⟩
      · have c1' := of_decide_eq_true c1
        injection c1' with c1'
        have ev : rmA rm e = (tieOf rm e.1).1 := if_pos c1'
        refine ⟨_, rfl, _, rfl, a, _, _, _, rfl, rfl, ha, ar, r1, _, 0, _, rfl, rfl, hr1, rfl, hl2, _, by omega, rfl, by omega, rfl, ?_⟩
        rw [take_snoc hv, List.map_append, ev]; rfl
      · have ev : rmA rm e = (tieOf rm e.1).2 := if_neg (fun z => c1 (decide_eq_true (by rw [z])))
        refine ⟨_, rfl, _, rfl, a, _, _, _, rfl, rfl, ha, ar, r1, _, 1, _, rfl, rfl, hr1, rfl, hl2, _, by omega, rfl, by omega, rfl, ?_⟩
        rw [take_snoc hv, List.map_append, ev]; rfl
    · rintro ws H2 ⟨rfl, rfl⟩ l nl
      rw [List.take_of_length_le (by rw [List.length_map]; omega)]
      exact k l _ nl (Same.new nl) upd_same
def spPu (K : PySem.W.Frag) : Sp := fun vs H Q _ => ∃ (a p : Addr) (ys : List V) (as : List Int) (ss : List (Int × Int)) (z : Int), vs = [.ref a, .ref p, .int z] ∧ SqL K H a (as.map V.int) ∧ SqL K H p ys ∧ Pairs K H ys ss ∧ as.length ≤ 900 ∧ (∀ s ∈ ss, 0 ≤ s.1 ∧ s.1 < (as.length : Int) ∧ (s.2 = 1 ∨ s.2 = -1)) ∧ z.natAbs < 2 ^ 200 ∧
  ∀ l H', H l = none → Same H H' → H' l = some (.lst ((psh as ss z).map V.int)) → Q (.ref l) H'
theorem scPu : FnScope ["amounts", "steps", "size", "told", "tie", "sense"] ["amounts", "steps", "size"] (defScope sPu) := ⟨rfl, rfl, rfl, by decide +kernel, rfl, by decide +kernel, by decide +kernel⟩
set_option maxHeartbeats 4000000 in
theorem ok_Pu {f : Addr} {fd : FuncData} (F : Fun K "pushed" "pushed" sPu f fd) (T : Txt K mg c) : FnOk P w K mg base CX0 1 f fd ["amounts", "steps", "size"] (spPu K) := by
  refine F.ok scPu (fun vs H Q E h => ?_) (fun cdv A outer s H vs Q E hr h => ?_)
  · obtain ⟨a, p, ys, as, ss, z, rfl, _⟩ := h
    rfl
  · obtain ⟨a, p, ys, as, ss, z, rfl, ha, hp, hy, hz, hs, hzb, k⟩ := h
    refine ⟨_, pss_cons (ps_set (i := 3) scPu.nd rfl (Or.inl rfl) (pe_callTy (cList (K := K) rfl) (by rfl) T.list PyProof.Rows.boot_list (pa_cons (pv 0) pa_nil)))
      (pss_cons (ps_for PassesOwn.never rfl (piSeqB (K := K) rfl (pv 1)) (pgTup (K := K) (n := 2) rfl rfl (pgs_cons (pg_name (i := 4) scPu.nd rfl (Or.inl rfl)) (pgs_cons (pg_name (i := 5) scPu.nd rfl (Or.inl rfl)) (pgs_nil))) rfl)
        (pss_one (ps_augS (pv 3) (pv 4) (get_list (K := K) rfl) (pe_op op_mulB (pv 5) (pv 2)) ip_add set_list)))
      (pss_one (ps_ret (pv 3)))), ?_⟩
    refine ⟨_, rfl, a, _, rfl, .inl ha, fun l nl => ?_⟩
    have s1 := Same.new (o := .lst (as.map V.int)) nl
    have e1 : (upd H l (.lst (as.map V.int))) l = some (.lst (as.map V.int)) := upd_same
    generalize upd H l (.lst (as.map V.int)) = H1 at s1 e1
    have hyl := hy.len
    refine ⟨_, rfl, false, p, _, rfl, s1.seq hp, fun J C O hC => for_by O (fun i σ H2 => ∃ (v4 v5 : Option V), σ = [some (.ref a), some (.ref p), some (.int z), some (.ref l), v4, v5] ∧ Same H H2 ∧ H2 l = some (.lst ((psh as (ss.take i) z).map V.int))) ⟨none, none, rfl, s1, e1⟩ (fun i σ H2 _ h => ?_) ?_ ?_⟩
    · obtain ⟨v4, v5, _, s2, _⟩ := h
      exact hC _ (s2.seq hp)
    · rintro i σ H2 hi ⟨v4, v5, rfl, s2, e2⟩
      obtain ⟨r, e, er, hr2, ei, he⟩ := hy.at hi
      obtain ⟨b1, b2, b3⟩ := hs e he
      have hpl := psh_len as z (ss.take i)
      try dsimp only
      rw [er]
      have hb : e.2.natAbs < 2 ^ 200 := by rcases b3 with b | b <;> rw [b] <;> decide
      refine ⟨r, _, rfl, s2.tup hr2, rfl, _, _, rfl, _, _, rfl, rfl, ?_⟩
      refine ⟨_, rfl, _, rfl, l, _, e.1, _, rfl, rfl, b1, SqL.of e2, get_ints (by omega), _, rfl, _, rfl, _, _, rfl, rfl, ⟨hb, hzb⟩, _, _, rfl, rfl, l, _, e.1, _, rfl, rfl, e2, ixN_nat b1 (by rw [List.length_map]; omega), ?_⟩
      rw [set_ints]
      refine ⟨_, _, rfl, s2.upd nl, ?_⟩
      rw [take_snoc ei, psh_snoc]
      exact upd_same
    · rintro σ H2 ⟨v4, v5, rfl, s2, e2⟩
      rw [hyl, List.take_length] at e2
      exact ⟨_, rfl, k l H2 nl s2 e2⟩
def spCd (K : PySem.W.Frag) : Sp := fun vs H Q _ => ∃ (a l h : Int), vs = [.int a, .int l, .int h] ∧ Q (.int (dueI a l h)) H
theorem scCd : FnScope ["amount", "low", "high"] ["amount", "low", "high"] (defScope sCd) := ⟨rfl, rfl, rfl, by decide +kernel, rfl, by decide +kernel, by decide +kernel⟩
set_option maxHeartbeats 1000000 in
theorem ok_Cd {f : Addr} {fd : FuncData} (F : Fun K "change_due" "change_due" sCd f fd) (T : Txt K mg c) : FnOk P w K mg base CX0 1 f fd ["amount", "low", "high"] (spCd K) := by
  refine F.ok scCd (fun vs H Q E h => ?_) (fun cdv A outer s H vs Q E hr h => ?_)
  · obtain ⟨a, l, h, rfl, _⟩ := h
    rfl
  · obtain ⟨a, l, h, rfl, k⟩ := h
    refine ⟨_, pss_cons (ps_if (pt_cmpR op_lt (pv 0) (pv 1) (nomark _))
        (pss_one (ps_ret (pe_op op_sub (pv 1) (pv 0)))) (pss_nil))
      (pss_cons (ps_if (pt_cmpR op_gt (pv 0) (pv 2) (nomark _))
        (pss_one (ps_ret (pe_op op_sub (pv 2) (pv 0)))) (pss_nil))
      (pss_one (ps_ret (pe_int)))), ?_⟩
    unfold dueI at k
    refine ⟨_, rfl, _, rfl, _, _, rfl, rfl, _, rfl, ite2 (fun c1 => ?_) (fun c1 => ?_)⟩
    · rw [if_pos (of_decide_eq_true c1)] at k
      exact ⟨_, rfl, _, rfl, _, _, rfl, rfl, k⟩
    · rw [if_neg (fun z => c1 (decide_eq_true z))] at k
      refine ⟨_, rfl, _, rfl, _, _, rfl, rfl, _, rfl, ite2 (fun c2 => ?_) (fun c2 => ?_)⟩
      · rw [if_pos (of_decide_eq_true c2)] at k
        exact ⟨_, rfl, _, rfl, _, _, rfl, rfl, k⟩
      · rw [if_neg (fun z => c2 (decide_eq_true z))] at k
        exact k
structure BtF (es : List (Int × Int)) (lo hi as : List Int) : Prop where
  len : as.length = es.length
  flow : ∀ p : Int, dp p es as es.length = 0
  ins : ∀ t, t < es.length → lo.getD t 0 ≤ as.getD t 0 ∧ as.getD t 0 ≤ hi.getD t 0
def spBt (K : PySem.W.Frag) (c : Cs) : Sp := fun vs H Q _ => ∃ (x p q : Addr) (m : Int) (es : List (Int × Int)) (lo hi : List Int), vs = [.ref x, .ref p, .ref q] ∧ WebAt K c.Web H x m es ∧ SqL K H p (lo.map V.int) ∧ SqL K H q (hi.map V.int) ∧ lo.length = es.length ∧ hi.length = es.length ∧ es.length ≤ 40 ∧ 1 ≤ m ∧ m ≤ 20 ∧ EndsIn es m ∧ (∀ i, i < es.length → lo.getD i 0 ≤ hi.getD i 0) ∧ (∀ i, i < es.length → -2 ^ 150 ≤ lo.getD i 0 ∧ hi.getD i 0 ≤ 2 ^ 150) ∧
  (∀ t l as H', H l = none → Same H H' → H' t = some (.tup [.str "flow", .ref l]) → H' l = some (.lst (as.map V.int)) → BtF es lo hi as → BtR es lo hi m.toNat es.length (true, as) → Q (.ref t) H') ∧
  (∀ t l ps R H', H l = none → Same H H' → H' t = some (.tup [.str "shut", .ref l]) → H' l = some (.lst (ps.map V.int)) → ps = rst m.toNat R → 0 < shS ps es lo hi es.length → BtR es lo hi m.toNat es.length (false, ps) → Q (.ref t) H')
theorem scBt : FnScope ["web", "lows", "highs", "amounts", "tie", "ends", "due", "step", "goal", "rooms", "ways", "size"] ["web", "lows", "highs"] (defScope sBt) := ⟨rfl, rfl, rfl, by decide +kernel, rfl, by decide +kernel, by decide +kernel⟩
set_option maxHeartbeats 8000000 in
theorem ok_Bt {f : Addr} {fd : FuncData} (F : Fun K "between" "between" sBt f fd) (T : Txt K mg c) (D_Cb : Def P w K mg base 2 "check_bounds" ["web", "lows", "highs"] (spCb K c)) (D_Rl : Def P w K mg base 1 "rooms_left" ["amounts", "lows", "highs"] (spRl K)) (D_Se : Def P w K mg base 1 "step_end" ["web", "step"] (spSe K c)) (D_Ww : Def P w K mg base 2 "ways_with_room" ["web", "rooms", "start"] (spWw K c)) (D_Ra : Def P w K mg base 1 "room_along" ["rooms", "steps"] (spRa K)) (D_Pu : Def P w K mg base 1 "pushed" ["amounts", "steps", "size"] (spPu K)) (D_Cd : Def P w K mg base 1 "change_due" ["amount", "low", "high"] (spCd K)) : FnOk P w K mg base CX0 3 f fd ["web", "lows", "highs"] (spBt K c) := by
  refine F.ok scBt (fun vs H Q E h => ?_) (fun cdv A outer s H vs Q E hr h => ?_)
  · obtain ⟨x, p, q, m, es, lo, hi, rfl, _⟩ := h
    rfl
  · obtain ⟨x, p, q, m, es, lo, hi, rfl, hw, hp, hq, hll, hhl, hz, m1, m2, hE, hlh, hB, k1, k2⟩ := h
    refine ⟨_, pss_cons (ps_expr (pe_defR D_Cb hr (pa_cons (pv 0) (pa_cons (pv 1) (pa_cons (pv 2) pa_nil)))))
      (pss_cons (ps_set (i := 3) scBt.nd rfl (Or.inl rfl) (pe_op op_rep (pe_lst (pa_cons (pe_int) pa_nil)) (pe_callB (cLen (K := K) rfl) (by rfl) T.len PySem.boot_len (pa_cons (pTies (K := K) rfl T.web (pv 0)) pa_nil))))
      (pss_cons (ps_for PassesOwn.never rfl (pi_enum (K := K) rfl rfl T.enumerate (pa_cons (pTies (K := K) rfl T.web (pv 0)) pa_nil)) (pgTup (K := K) (n := 2) rfl rfl (pgs_cons (pg_name (i := 4) scBt.nd rfl (Or.inl rfl)) (pgs_cons (pg_name (i := 5) scBt.nd rfl (Or.inl rfl)) (pgs_nil))) rfl)
        (pss_cons (ps_set (i := 6) scBt.nd rfl (Or.inl rfl) (pe_defR D_Cd hr (pa_cons (pe_ix (ixL (K := K) rfl) (pv 3) (pv 4) (fun _ _ => rfl)) (pa_cons (pe_ix (ixL (K := K) rfl) (pv 1) (pv 4) (fun _ _ => rfl)) (pa_cons (pe_ix (ixL (K := K) rfl) (pv 2) (pv 4) (fun _ _ => rfl)) pa_nil)))))
      (pss_one (ps_while PassesOwn.never (pt_cmpR op_ne (pv 6) (pe_int) (nomark _))
        (pss_cons (ps_cut (ps_set (i := 7) scBt.nd rfl (Or.inl rfl) (pe_tup (pa_cons (pv 4) (pa_cons (pe_ifExp (pt_cmpR op_gt (pv 6) (pe_int) (nomark _)) (pe_int) (pe_un un_neg (pe_int))) pa_nil)))))
      (pss_cons (ps_cut (ps_set (i := 8) scBt.nd rfl (Or.inl rfl) (pe_ifExp (pt_cmpR op_gt (pv 6) (pe_int) (nomark _)) (pe_ix (ixT (K := K) rfl) (pv 5) (pe_int) (fun _ _ => rfl)) (pe_ix (ixT (K := K) rfl) (pv 5) (pe_int) (fun _ _ => rfl)))))
      (pss_cons (ps_set (i := 9) scBt.nd rfl (Or.inl rfl) (pe_defR D_Rl hr (pa_cons (pv 3) (pa_cons (pv 1) (pa_cons (pv 2) pa_nil)))))
      (pss_cons (ps_set (i := 10) scBt.nd rfl (Or.inr rfl) (pe_defR D_Ww hr (pa_cons (pv 0) (pa_cons (pv 9) (pa_cons (pe_defR D_Se hr (pa_cons (pv 0) (pa_cons (pv 7) pa_nil))) pa_nil)))))
      (pss_cons (ps_if (pt_cmp (pc_dnotin (hu_of hr) (pv 8) (pv 10)))
        (pss_one (ps_ret (pe_tup (pa_cons (pe_str) (pa_cons (pe_lc (N' := ["place", "ways"]) (nl := 1) (js := [10]) rfl (.of (osc := defScope sBt) (N := ["web", "lows", "highs", "amounts", "tie", "ends", "due", "step", "goal", "rooms", "ways", "size"]) (by decide +kernel) rfl rfl) (pi_range1 rfl T.range (pa_cons (pMany (K := K) rfl T.web (pv 0)) pa_nil))
        (fun _ _ _ _ => pg_name (i := 0) (show (["place", "ways"] : List Str).Nodup by decide +kernel) rfl (Or.inl rfl)) (fun _ _ _ _ => pif_one (pt_cmp (pc_dnotin (hu_of hr) (pv 0) (pv 1))))
        (fun _ _ _ _ => pv 0)) pa_nil))))) (pss_nil))
      (pss_cons (ps_set (i := 11) scBt.nd rfl (Or.inl rfl) (pe_callB (cMin (K := K) rfl rfl) (by rfl) T.min PyProof.Rows.boot_min (pa_cons (pe_op op_cat (pe_lst (pa_cons (pe_callB call_abs (by rfl) T.abs PyProof.Rows.boot_abs (pa_cons (pv 6) pa_nil)) pa_nil)) (pe_defR D_Ra hr (pa_cons (pv 9) (pa_cons (pe_dget (hu_of hr) (pv 10) (pv 8) (fun _ _ => rfl)) pa_nil)))) pa_nil)))
      (pss_cons (ps_set (i := 3) scBt.nd rfl (Or.inl rfl) (pe_defR D_Pu hr (pa_cons (pv 3) (pa_cons (pe_op op_cat (pe_dget (hu_of hr) (pv 10) (pv 8) (fun _ _ => rfl)) (pe_lst (pa_cons (pv 7) pa_nil))) (pa_cons (pv 11) pa_nil)))))
      (pss_one (ps_set (i := 6) scBt.nd rfl (Or.inl rfl) (pe_defR D_Cd hr (pa_cons (pe_ix (ixL (K := K) rfl) (pv 3) (pv 4) (fun _ _ => rfl)) (pa_cons (pe_ix (ixL (K := K) rfl) (pv 1) (pv 4) (fun _ _ => rfl)) (pa_cons (pe_ix (ixL (K := K) rfl) (pv 2) (pv 4) (fun _ _ => rfl)) pa_nil)))))))))))))))))
      (pss_one (ps_ret (pe_tup (pa_cons (pe_str) (pa_cons (pv 3) pa_nil))))))), ?_⟩
    refine ⟨_, rfl, _, rfl, _, rfl, x, p, q, m, es, lo, hi, rfl, hw, hp, hq, hll, hhl, by omega, hlh, fun H0 s0 => ?_⟩
    refine ⟨(by show 1 ≤ sizeLine; decide), fun l1 nl1 => ?_⟩
    have s1 := s0.next (o := .lst [V.int 0]) nl1
    have e1 : (upd H0 l1 (.lst [V.int 0])) l1 = some (.lst [V.int 0]) := upd_same
    generalize upd H0 l1 (.lst [V.int 0]) = H1 at s1 e1
    refine ⟨_, rfl, x, m, es, rfl, hw.same s1, fun tt0 ys0 ht0 hp0 => ⟨tt0, ys0, rfl, .inr (SqT.of ht0), l1, (ys0.length : Int), _, rfl, rfl, e1, by omega, ?_, ?_, fun al nal => ?_⟩⟩
    · have := hp0.len; omega
    · have := hp0.len; exact Nat.le_of_lt (small1000 (by show 1 * (ys0.length : Int).toNat ≤ 1000; omega))
    have hpl0 := hp0.len
    rw [rep_ints, show ((ys0.length : Int)).toNat = es.length from hpl0]
    have s2 := s1.next (o := .lst ((List.replicate es.length (0 : Int)).map V.int)) nal
    have e2 : (upd H1 al (.lst ((List.replicate es.length (0 : Int)).map V.int))) al = some (.lst ((List.replicate es.length (0 : Int)).map V.int)) := upd_same
    have nalH : H al = none := none_back s1 nal
    generalize upd H1 al (.lst ((List.replicate es.length (0 : Int)).map V.int)) = H2 at s2 e2
    clear hp0 ht0 hpl0 e1
    have rep0 : ∀ k : Nat, (List.replicate es.length (0 : Int)).getD k 0 = 0 := fun k => by
      rw [List.getD_eq_getElem?_getD, List.getElem?_replicate]; split <;> rfl
    refine ⟨_, rfl, x, m, es, rfl, hw.same s2, fun t ys ht hpt => ⟨true, t, ys, rfl, SqT.of ht, fun J C O hC => ?_⟩⟩
    have hpl := hpt.len
    refine for_byP O (fun i σ H3 => ∃ (al : Addr) (as : List Int) (v4 v5 v6 v7 v8 v9 v10 v11 : Option V), σ = [some (.ref x), some (.ref p), some (.ref q), some (.ref al), v4, v5, v6, v7, v8, v9, v10, v11] ∧ Same H H3 ∧ Same H2 H3 ∧ H al = none ∧ H3 al = some (.lst (as.map V.int)) ∧ BtI es lo hi i as ∧ (∀ t, t < es.length → -2 ^ 150 ≤ as.getD t 0 ∧ as.getD t 0 ≤ 2 ^ 150) ∧ BtR es lo hi m.toNat i (true, as)) ⟨al, _, none, none, none, none, none, none, none, none, rfl, s2, Same.refl _, nalH, e2, ⟨List.length_replicate .., fun p => dp_nil .., fun t ht => absurd ht (Nat.not_lt_zero _)⟩, fun t ht => by rw [rep0]; decide, .nil⟩ (fun i σ H3 _ h => ?_) ?_ ?_
    · obtain ⟨al, as, v4, v5, v6, v7, v8, v9, v10, v11, _, _, s3, _⟩ := h
      exact hC _ (SqT.of (s3 _ _ ht))
    · rintro i σ H3 pq hi' ⟨al, as, v4, v5, v6, v7, v8, v9, v10, v11, rfl, s03, s23, nal, e3, I, hS, hBt⟩ hpq
      obtain ⟨r, e, er, hr2, ei, he⟩ := hpt.at hi'
      have hE1 : es.getD i (0, 0) = e := by rw [List.getD_eq_getElem?_getD, ei]; rfl
      have hi2 : i < es.length := by omega
      dsimp only
      rw [er]
      have s4 := Same.new (o := .tup [.int (i : Nat), .ref r]) hpq
      have t4 : (upd H3 pq (.tup [.int (i : Nat), .ref r])) pq = some (.tup [.int (i : Nat), .ref r]) := upd_same
      refine ⟨pq, _, rfl, SqT.of t4, rfl, _, _, rfl, _, _, rfl, rfl, ?_⟩
      have s04 := s03.trans s4
      have s24 := s23.trans s4
      have e4 := s4 _ _ e3
      have r4 := s24.tup hr2
      generalize upd H3 pq (.tup [.int (i : Nat), .ref r]) = H4 at s4 s04 s24 e4 r4
      clear t4 s4 e3 s23 s03
      have atL : ∀ {xs : List Int}, xs.length = es.length → atI (xs.map V.int) (i : Int) = some (.int (xs.getD i 0)) := fun {xs} hx => by
        have := at_int (ns := xs) (k := (i : Int)) (by omega) (by omega)
        rwa [Int.toNat_natCast] at this
      refine ⟨_, rfl, _, rfl, al, _, _, _, rfl, rfl, SqL.of e4, atL I.len, _, rfl, _, rfl, p, _, _, _, rfl, rfl, s04.seq hp, atL hll, _, rfl, _, rfl, q, _, _, _, rfl, rfl, s04.seq hq, atL hhl, _, _, _, rfl, ?_⟩
      refine ⟨fun n σ H5 => ∃ (al : Addr) (as' : List Int) (v7 v8 v9 v10 v11 : Option V), n = (dueN as' lo hi i).natAbs ∧ σ = [some (.ref x), some (.ref p), some (.ref q), some (.ref al), some (.int (i : Nat)), some (.ref r), some (.int (dueN as' lo hi i)), v7, v8, v9, v10, v11] ∧ Same H H5 ∧ Same H2 H5 ∧ H al = none ∧ H5 al = some (.lst (as'.map V.int)) ∧ BtI es lo hi i as' ∧ (∀ t, t < es.length → -2 ^ 150 ≤ as'.getD t 0 ∧ as'.getD t 0 ≤ 2 ^ 150) ∧ ∀ r, WhR es lo hi m.toNat i as' r → WhR es lo hi m.toNat i as r, ⟨_, al, as, _, _, _, _, _, rfl, rfl, s04, s24, nal, e4, I, hS, fun _ z => z⟩, ?_⟩
      clear e4 r4
      rintro n σ H5 ⟨al, as', v7, v8, v9, v10, v11, rfl, rfl, s05, s25, nal, e5, I, hS, hW⟩
      refine ⟨_, rfl, rfl, _, rfl, ?_⟩
      by_cases hd : dueN as' lo hi i = 0
      · rw [decide_eq_true (show V.int (dueN as' lo hi i) = V.int 0 by rw [hd])]
        refine iteF ?_
        refine ⟨al, as', _, _, _, _, _, _, _, _, rfl, s05, s25, nal, e5, ⟨I.len, I.flow, fun t ht => ?_⟩, hS, .next hBt (hW _ (.done hd))⟩
        by_cases c : t = i
        · rw [c]; exact dueI_zero hd
        · exact I.past t (by omega)
      rw [decide_eq_false (show ¬ V.int (dueN as' lo hi i) = V.int 0 by intro z; injection z with z; exact hd z)]
      refine iteT ⟨_, fun σ' H' h => h, ?_⟩
      have hr5 := s25.tup hr2
      have hbe := hE e he
      obtain ⟨d, ed⟩ : ∃ d, d = dueN as' lo hi i := ⟨_, rfl⟩
      have hsv := stpD_v hi2 d
      have hsE : stE es (stpD i d) = if d > 0 then e.2 else e.1 := by
        unfold stE stpD tieOf
        rw [Int.toNat_natCast, hE1]
        by_cases c : d > 0
        · rw [if_pos c, if_pos rfl, if_pos c]
        · rw [if_neg c, if_neg (show ¬ (-1 : Int) = 1 by decide), if_neg c]
      have hsB : stB es (stpD i d) = if d > 0 then e.1 else e.2 := by
        unfold stB stpD tieOf
        rw [Int.toNat_natCast, hE1]
        by_cases c : d > 0
        · rw [if_pos c, if_pos rfl, if_pos c]
        · rw [if_neg c, if_neg (show ¬ (-1 : Int) = 1 by decide), if_neg c]
      rw [← ed]
      refine ⟨fun σ' H' => ∃ sa : Addr, σ' = [some (.ref x), some (.ref p), some (.ref q), some (.ref al), some (.int (i : Nat)), some (.ref r), some (.int d), some (.ref sa), v8, v9, v10, v11] ∧ Same H5 H' ∧ SqT K H' sa [.int (stpD i d).1, .int (stpD i d).2], ?_, ?_⟩
      · have fin : ∀ v : Int, v = (stpD i d).2 → ∀ sa : Addr, H5 sa = none → ∃ sa' : Addr, [some (V.ref x), some (.ref p), some (.ref q), some (.ref al), some (.int (i : Nat)), some (.ref r), some (.int d), some (.ref sa), v8, v9, v10, v11] = [some (.ref x), some (.ref p), some (.ref q), some (.ref al), some (.int (i : Nat)), some (.ref r), some (.int d), some (.ref sa'), v8, v9, v10, v11] ∧ Same H5 (upd H5 sa (.tup [.int (i : Nat), .int v])) ∧ SqT K (upd H5 sa (.tup [.int (i : Nat), .int v])) sa' [.int (stpD i d).1, .int (stpD i d).2] := fun v hv sa nsa => ⟨sa, rfl, Same.new nsa, by rw [← hv]; exact SqT.of upd_same⟩
        refine ⟨_, rfl, _, rfl, _, _, rfl, rfl, _, rfl, ite2 (fun c1 => ?_) (fun c1 => ?_)⟩
        · exact ⟨(by show 2 ≤ sizeLine; decide), fun sa nsa => fin 1 (if_pos (of_decide_eq_true c1)).symm sa nsa⟩
        · exact ⟨_, rfl, (by show 2 ≤ sizeLine; decide), fun sa nsa => fin (-1) (if_neg (fun z => c1 (decide_eq_true z))).symm sa nsa⟩
      rintro σ' H6 ⟨sa, rfl, s6, hsa⟩
      refine ⟨fun σ' H' => H' = H6 ∧ σ' = [some (.ref x), some (.ref p), some (.ref q), some (.ref al), some (.int (i : Nat)), some (.ref r), some (.int d), some (.ref sa), some (.int (stB es (stpD i d))), v9, v10, v11], ?_, ?_⟩
      · have r6 := s6.tup hr5
        rw [hsB]
        refine ⟨_, rfl, _, _, rfl, rfl, _, rfl, ite2 (fun c1 => ?_) (fun c1 => ?_)⟩
        · rw [if_pos (of_decide_eq_true c1)]
          exact ⟨_, rfl, r, _, 0, _, rfl, rfl, r6, rfl, rfl, rfl⟩
        · rw [if_neg (fun z => c1 (decide_eq_true z))]
          exact ⟨_, rfl, r, _, 1, _, rfl, rfl, r6, rfl, rfl, rfl⟩
      rintro σ' H' ⟨rfl, rfl⟩
      have s06 := s05.trans s6
      have e6 := s6 _ _ e5
      refine ⟨_, rfl, _, rfl, _, rfl, al, p, q, as', lo, hi, rfl, SqL.of e6, s06.seq hp, s06.seq hq, hll.trans I.len.symm, hhl.trans I.len.symm, by rw [I.len]; omega, fun ra rx H7 nra s7 e7 p7 => ?_⟩
      have s07 := s06.trans s7
      have hrg : 0 ≤ stE es (stpD i d) ∧ stE es (stpD i d) < m := by
        rw [hsE]; split
        · exact ⟨hbe.2.2.1, hbe.2.2.2⟩
        · exact ⟨hbe.1, hbe.2.1⟩
      refine ⟨_, rfl, _, rfl, _, rfl, _, rfl, x, sa, m, es, stpD i d, rfl, hw.same s07, s7.tup hsa, hsv, x, ra, _, m, es, _, rx, rfl, hw.same s07, SqL.of e7, p7, by rw [rmN_len, I.len], hz, hrg.1, hrg.2, m2, hE, fun da rs wy H8 s8 W hrs hwy => ?_⟩
      obtain ⟨⟨ad, wd, wc⟩, wnd, wrng, wa0, wway, wclo⟩ := W
      have s68 := s7.trans s8
      have s08 := s07.trans s8
      have s28 := (s25.trans s6).trans s68
      subst ed
      refine ⟨_, rfl, _, rfl, da, _, rfl, DGet.k (k := Sum.inl (stB es (stpD i (dueN as' lo hi i)))) wd, _, rfl, ?_⟩
      rw [valV_key]
      by_cases hg : stB es (stpD i (dueN as' lo hi i)) ∈ rs
      · rw [if_pos hg]
        refine iteF ?_
        obtain ⟨gx, c1, c1p⟩ := wc _ hg
        obtain ⟨pl, way⟩ := wway _ hg
        obtain ⟨g, eg⟩ : ∃ g, g = stB es (stpD i (dueN as' lo hi i)) := ⟨_, rfl⟩
        rw [← eg] at hg c1 c1p way ⊢
        have hwst : ∀ s ∈ wy g, StV es s := fun s hs => (way.step s hs).1
        have hwl : (wy g).length ≤ 40 := by
          have := nodup_len (rs := (wy g).map (·.1)) (m := (es.length : Int)) way.tnd fun z hz => by
            obtain ⟨s, h1, h2⟩ := List.mem_map.mp hz
            rw [← h2]; exact ⟨(hwst s h1).1, (hwst s h1).2.1⟩
          rw [List.length_map] at this
          omega
        have hgl := c1p.len
        have dget : ∀ {H' : Hp}, Same H8 H' → DGet H' da (.int g) (some (.ref (ad g))) := fun S => by
          have := DGet.k (k := Sum.inl g) (S _ _ wd)
          rw [valV_key, if_pos hg] at this
          exact this
        refine ⟨_, rfl, _, rfl, (by show 1 ≤ sizeLine; decide), fun q1 nq1 => ?_⟩
        have s9 := Same.new (o := .lst [V.int (if dueN as' lo hi i < 0 then -dueN as' lo hi i else dueN as' lo hi i)]) nq1
        have e9 : (upd H8 q1 (.lst [V.int (if dueN as' lo hi i < 0 then -dueN as' lo hi i else dueN as' lo hi i)])) q1 = some (.lst [V.int (if dueN as' lo hi i < 0 then -dueN as' lo hi i else dueN as' lo hi i)]) := upd_same
        generalize upd H8 q1 (.lst [V.int (if dueN as' lo hi i < 0 then -dueN as' lo hi i else dueN as' lo hi i)]) = H9 at s9 e9
        refine ⟨_, rfl, _, rfl, _, rfl, da, _, rfl, dget s9, ra, ad g, rx, gx, _, wy g, rfl, SqL.of ((s8.trans s9) _ _ e7), (p7.same (s8.trans s9)), SqL.of (s9 _ _ c1), c1p.same s9, by omega, fun s hs => ⟨(hwst s hs).1, by rw [rmN_len, I.len]; exact (hwst s hs).2.1⟩, fun l9 H10 nl9 s10 e10 => ?_⟩
        refine ⟨q1, l9, _, _, rfl, rfl, s10 _ _ e9, e10, Nat.le_of_lt (small1000 (by show 1 + (((wy g).map (rmA (rmN as' lo hi))).map V.int).length ≤ 1000; rw [List.length_map, List.length_map]; omega)), fun q2 nq2 => ?_⟩
        have s11 := Same.new (o := .lst ([V.int (if dueN as' lo hi i < 0 then -dueN as' lo hi i else dueN as' lo hi i)] ++ ((wy g).map (rmA (rmN as' lo hi))).map V.int)) nq2
        refine ⟨q2, (if dueN as' lo hi i < 0 then -dueN as' lo hi i else dueN as' lo hi i) :: (wy g).map (rmA (rmN as' lo hi)), rfl, .inl (SqL.of upd_same), Nat.succ_pos _, fun z hz hm => ?_⟩
        have s8b := (s9.trans s10).trans s11
        generalize upd H10 q2 (.lst ([V.int (if dueN as' lo hi i < 0 then -dueN as' lo hi i else dueN as' lo hi i)] ++ ((wy g).map (rmA (rmN as' lo hi))).map V.int)) = H11 at s11 s8b
        clear s11 s10 s9 e9 e10
        refine ⟨_, rfl, _, rfl, _, rfl, da, _, rfl, dget s8b, _, rfl, (by show 1 ≤ sizeLine; decide), fun q3 nq3 => ?_⟩
        have s12 := Same.new (o := .lst [V.ref sa]) nq3
        have e12 : (upd H11 q3 (.lst [V.ref sa])) q3 = some (.lst [V.ref sa]) := upd_same
        generalize upd H11 q3 (.lst [V.ref sa]) = H12 at s12 e12
        have s8c := s8b.trans s12
        refine ⟨ad g, q3, _, _, rfl, rfl, s8c _ _ c1, e12, Nat.le_of_lt (small1000 (by show gx.length + 1 ≤ 1000; omega)), fun q4 nq4 => ?_⟩
        have s13 := s8c.next (o := .lst (gx ++ [V.ref sa])) nq4
        have e13 : (upd H12 q4 (.lst (gx ++ [V.ref sa]))) q4 = some (.lst (gx ++ [V.ref sa])) := upd_same
        generalize upd H12 q4 (.lst (gx ++ [V.ref sa])) = H13 at s13 e13
        have p13 : Pairs K H13 (gx ++ [V.ref sa]) (wy g ++ [stpD i (dueN as' lo hi i)]) := (c1p.same s13).snoc (((s7.trans s8).trans s13).tup hsa)
        have s0d := s08.trans s13
        rw [eg] at way hz hm
        obtain ⟨I', dlt⟩ := I.next hi2 hlh hd way hz hm
        obtain ⟨zb, hS'⟩ := I.sml hi2 hlh hd way hz hm hB hS
        rw [← eg] at I' dlt hS' hz hm
        have zb' : z.natAbs < 2 ^ 200 := Nat.lt_of_le_of_lt zb (by decide)
        refine ⟨_, rfl, al, q4, _, as', wy g ++ [stpD i (dueN as' lo hi i)], z, rfl, SqL.of ((s68.trans s13) _ _ e6), SqL.of e13, p13, by rw [I.len]; omega, fun s hs => ?_, zb', fun a2 H14 na2 s14 e14 => ?_⟩
        · rcases List.mem_append.mp hs with y | y
          · rw [I.len]; exact hwst s y
          · rw [List.mem_singleton.mp y, I.len]; exact hsv
        have s0e := s0d.trans s14
        refine ⟨_, rfl, _, rfl, a2, _, _, _, rfl, rfl, SqL.of e14, atL I'.len, _, rfl, _, rfl, p, _, _, _, rfl, rfl, s0e.seq hp, atL hll, _, rfl, _, rfl, q, _, _, _, rfl, rfl, s0e.seq hq, atL hhl, _, _, _, rfl, ?_⟩
        refine ⟨_, dlt, a2, _, _, _, _, _, _, rfl, rfl, s0e, (s28.trans s13).trans s14, none_back s0d na2, e14, I', hS', fun r hr => hW r (.next hd ?_ ?_ hz hm rfl hr)⟩
        · rw [← hrs, ← eg]; exact hg
        · rw [← hwy, ← eg]
      · rw [if_neg hg]
        refine iteT ?_
        refine ⟨_, rfl, x, m, es, rfl, hw.same s08, m, rfl, by omega, by omega, lc_by itok_range (fun j ys H' => H' = H8 ∧ ys = (rst j rs).map V.int) (Nat.le_of_lt (small1000 (by omega))) ⟨rfl, rfl⟩ ?_ ?_ ?_⟩
        · rintro j ys H' hj ⟨rfl, rfl⟩
          exact ⟨trivial, by rw [List.length_map]; exact rst_len ..⟩
        · rintro j ys H' hj ⟨rfl, rfl⟩
          have hj' : j < m.toNat := hj
          have hrl := rst_len j rs
          have ej : (0 + (j : Nat) : Int) = (j : Int) := by omega
          refine ⟨wk_set rfl, ?_⟩
          try dsimp only
          rw [ej]
          refine ⟨_, rfl, _, rfl, da, _, rfl, DGet.k (k := Sum.inl (j : Int)) wd, _, rfl, ?_⟩
          rw [valV_key]
          by_cases c : (j : Int) ∈ rs
          · rw [if_pos c]
            refine iteF ⟨_, by omega, rfl, by omega, rfl, ?_⟩
            rw [rst_succ, if_pos c, List.append_nil]
          · rw [if_neg c]
            refine iteT ⟨_, rfl, small1000 (by rw [List.length_map]; omega), _, by omega, rfl, by omega, rfl, ?_⟩
            rw [rst_succ, if_neg c, List.map_append]; rfl
        · rintro ys H' ⟨rfl, rfl⟩ lp nlp
          have s9 := s08.next (o := .lst ((rst m.toNat rs).map V.int)) nlp
          have e9 : (upd H' lp (.lst ((rst m.toNat rs).map V.int))) lp = some (.lst ((rst m.toNat rs).map V.int)) := upd_same
          generalize upd H' lp (.lst ((rst m.toNat rs).map V.int)) = H9 at s9 e9
          refine ⟨(by show 2 ≤ sizeLine; decide), fun tu ntu => ?_⟩
          refine k2 tu lp _ rs _ (none_back s08 nlp) (s9.next ntu) upd_same (Same.new ntu _ _ e9) rfl ?_ ?_
          · exact shut_of (m := m.toNat) (fun e he => by obtain ⟨b1, b2, b3, b4⟩ := hE e he; exact ⟨b1, by omega, b3, by omega⟩) I hi2 hd wa0 hg wclo
          · have := hW _ (.shut hd (by rw [← hrs]; exact hg))
            rw [← hrs] at this
            exact (BtR.next hBt this).shut (by omega)
    · rintro σ H3 ⟨al, as, v4, v5, v6, v7, v8, v9, v10, v11, rfl, s03, s23, nal, e3, I, hS, hBt⟩
      rw [hpl] at I hBt
      refine ⟨_, rfl, (by show 2 ≤ sizeLine; decide), fun tu ntu => ?_⟩
      exact k1 tu al as _ nal (s03.next ntu) upd_same (Same.new ntu _ _ e3) ⟨I.len, I.flow, I.past⟩ hBt
def spC (K : PySem.W.Frag) : Sp := fun vs H Q _ => ∃ (a : Addr) (ns : List Int) (k : Int), vs = [.ref a, .int k] ∧ SqL K H a (ns.map V.int) ∧ 0 ≤ k ∧ Q (.int (ns.getD k.toNat 0)) H
theorem scC : FnScope ["script", "k"] ["script", "k"] (defScope sC) := ⟨rfl, rfl, rfl, by decide +kernel, rfl, by decide +kernel, by decide +kernel⟩
theorem ok_C {f : Addr} {fd : FuncData} (F : Fun K "_law_cell" "_law_cell" sC f fd) (T : Txt K mg c) : FnOk P w K mg base CX0 1 f fd ["script", "k"] (spC K) := by
  refine F.ok scC (fun vs H Q E h => ?_) (fun cdv A outer s H vs Q E hr h => ?_)
  · obtain ⟨a, ns, k, rfl, _⟩ := h
    rfl
  · obtain ⟨a, ns, k, rfl, hS, h0, q⟩ := h
    refine ⟨_, pss_cons (ps_if (pt_cmpR op_lt (pv 1) (pe_callB (cLen (K := K) rfl) (by rfl) T.len PySem.boot_len (pa_cons (pv 0) pa_nil)) (nomark _))
        (pss_one (ps_ret (pe_ix (ixL (K := K) rfl) (pv 0) (pv 1) (fun _ _ => rfl)))) (pss_nil))
      (pss_one (ps_ret (pe_int))), ?_⟩
    refine ⟨_, rfl, _, rfl, a, _, rfl, .inl hS, _, _, rfl, rfl, _, rfl, ?_⟩
    refine ite2 (fun c => ?_) (fun c => ?_)
    · have c' := of_decide_eq_true c
      rw [List.length_map] at c'
      exact ⟨_, rfl, _, rfl, a, _, k, _, rfl, rfl, hS, at_int h0 c', q⟩
    · have c' : ¬ k < ((ns.map V.int).length : Int) := fun z => c (decide_eq_true z)
      rw [List.length_map] at c'
      have e : ns.getD k.toNat 0 = 0 := by rw [List.getD_eq_getElem?_getD, List.getElem?_eq_none (by omega)]; rfl
      rw [e] at q
      exact q
def spH (_ : PySem.W.Frag) : Sp := fun vs H Q _ => ∃ i, vs = [.int i] ∧ Q (.bl true) H
theorem scH : FnScope ["found"] ["found"] (defScope sH) := ⟨rfl, rfl, rfl, by decide +kernel, rfl, by decide +kernel, by decide +kernel⟩
theorem ok_H {f : Addr} {fd : FuncData} (F : Fun K "_law_whole" "_law_whole" sH f fd) (T : Txt K mg c) : FnOk P w K mg base CX0 1 f fd ["found"] (spH K) := by
  refine F.ok scH (fun vs H Q E h => ?_) (fun cdv A outer s H vs Q E hr h => ?_)
  · obtain ⟨i, rfl, _⟩ := h
    rfl
  · obtain ⟨i, rfl, k⟩ := h
    refine ⟨_, pss_one (ps_ret (pe_and (pe_callB (cIs (K := K) rfl) (by rfl) T.isinstance PyProof.Rows.boot_isinstance (pa_cons (pv 0) (pa_cons (pe_bltn (v := .ty "int") (by rfl) T.int PyProof.Rows.boot_int rfl) pa_nil))) (pe_one (pe_not (pe_callB (cIs (K := K) rfl) (by rfl) T.isinstance PyProof.Rows.boot_isinstance (pa_cons (pv 0) (pa_cons (pe_bltn (v := .ty "bool") (by rfl) T.bool PyProof.Rows.boot_bool rfl) pa_nil))))))), ?_⟩
    refine ⟨_, rfl, _, _, _, _, true, rfl, rfl, fun _ z => z, .of (.int i), kit_self _ _, true, rfl, iteT ?_⟩
    exact ⟨_, rfl, _, _, _, _, false, rfl, rfl, fun _ z => z, .of (.int i), kIntBool, false, rfl, k⟩
def spDr (K : PySem.W.Frag) : Sp := fun vs H Q _ => ∃ (a : Addr) (ns : List Int) (p ba n : Int) (b : Bool), vs = [.ref a, .int p, .int ba, .int n, .bl b] ∧ SqL K H a (ns.map V.int) ∧ 0 ≤ p ∧ 0 < ba ∧ ba < 2 ^ 200 ∧ 0 ≤ n ∧ n ≤ 900 ∧
  ∀ (l : Addr) (fs : List Int) (H' : Hp), H l = none → Same H H' → H' l = some (.lst (fs.map V.int)) → fs.length = n.toNat → (∀ v ∈ fs, 0 ≤ v ∧ v < ba) → Q (.ref l) H'
theorem scDr : FnScope ["script", "at", "base", "many", "by_digits", "cell", "found", "mixed", "k"] ["script", "at", "base", "many", "by_digits"] (defScope sDr) := ⟨rfl, rfl, rfl, by decide +kernel, rfl, by decide +kernel, by decide +kernel⟩
set_option maxHeartbeats 4000000 in
theorem ok_Dr {f : Addr} {fd : FuncData} (F : Fun K "_law_drawn" "_law_drawn" sDr f fd) (T : Txt K mg c) (D_C : Def P w K mg base 1 "_law_cell" ["script", "k"] (spC K)) : FnOk P w K mg base CX0 2 f fd ["script", "at", "base", "many", "by_digits"] (spDr K) := by
  refine F.ok scDr (fun vs H Q E h => ?_) (fun cdv A outer s H vs Q E hr h => ?_)
  · obtain ⟨a, ns, p, ba, n, b, rfl, _⟩ := h
    rfl
  · obtain ⟨a, ns, p, ba, n, b, rfl, hS, p0, b1, b2, n0, n1, k⟩ := h
    refine ⟨_, pss_cons (ps_set (i := 5) scDr.nd rfl (Or.inl rfl) (pe_defR D_C hr (pa_cons (pv 0) (pa_cons (pv 1) pa_nil))))
      (pss_cons (ps_set (i := 6) scDr.nd rfl (Or.inl rfl) (pe_lst pa_nil))
      (pss_cons (ps_cut (ps_set (i := 7) scDr.nd rfl (Or.inl rfl) (pe_op op_add (pe_op op_mod (pv 5) (pe_int)) (pe_int))))
      (pss_cons (ps_for PassesOwn.never rfl (pi_range1 rfl T.range (pa_cons (pv 3) pa_nil)) (pg_name (i := 8) scDr.nd rfl (Or.inl rfl))
        (pss_one (ps_cut (ps_if (pt_truth (pv 4) (by intro _; rfl))
        (pss_cons (ps_expr (pe_bm PySem.F.plainAttrs_list PySem.F.slot_list_append PySem.F.type_list_append mt_append (pv 6) (pa_cons (pe_op op_mod (pv 5) (pv 2)) pa_nil)))
      (pss_one (ps_set (i := 5) scDr.nd rfl (Or.inl rfl) (pe_op op_fdivB (pv 5) (pv 2))))) (pss_cons (ps_cut (ps_set (i := 7) scDr.nd rfl (Or.inl rfl) (pe_op op_mod (pe_op op_add (pe_op op_add (pe_op op_mul (pv 7) (pv 7)) (pe_op op_mul (pe_int) (pv 8))) (pe_int)) (pe_int))))
      (pss_one (ps_expr (pe_bm PySem.F.plainAttrs_list PySem.F.slot_list_append PySem.F.type_list_append mt_append (pv 6) (pa_cons (pe_op op_mod (pe_op op_fdivB (pv 7) (pe_int)) (pv 2)) pa_nil)))))))))
      (pss_one (ps_ret (pv 6)))))), ?_⟩
    refine ⟨_, rfl, _, rfl, a, ns, p, rfl, hS, p0, ?_⟩
    generalize ns.getD p.toNat 0 = c0
    refine ⟨by decide, fun l nl => ?_⟩
    have s0 : Same H (upd H l (.lst [])) := Same.new nl
    have e0 : (upd H l (.lst [])) l = some (.lst []) := upd_same
    generalize upd H l (.lst []) = H0 at s0 e0
    refine ⟨fun σ' H' => H' = H0 ∧ ∃ mi : Int, 0 ≤ mi ∧ mi < 2 ^ 32 ∧ σ' = [some (.ref a), some (.int p), some (.int ba), some (.int n), some (.bl b), some (.int c0), some (.ref l), some (.int mi), none], ?_, ?_⟩
    · have h1 := Int.emod_nonneg c0 (show (2147483629 : Int) ≠ 0 by decide)
      have h2 := Int.emod_lt_of_pos c0 (show (0 : Int) < 2147483629 by decide)
      exact ⟨_, rfl, _, _, rfl, rfl, (by show (0 : Int) < 2147483629; decide), _, _, rfl, rfl, rfl, _, by omega, by omega, rfl⟩
    rintro σ' H0 ⟨rfl, mi, hm0, hm1, rfl⟩
    refine ⟨_, rfl, n, rfl, by omega, by omega, for_by itok_range (fun i σ H2 => ∃ (fs : List Int) (ce mi : Int) (v8 : Option V), σ = [some (.ref a), some (.int p), some (.int ba), some (.int n), some (.bl b), some (.int ce), some (.ref l), some (.int mi), v8] ∧ 0 ≤ mi ∧ mi < 2 ^ 32 ∧ Same H H2 ∧ H2 l = some (.lst (fs.map V.int)) ∧ fs.length = i ∧ ∀ v ∈ fs, 0 ≤ v ∧ v < ba) ⟨[], _, _, none, rfl, hm0, hm1, s0, e0, rfl, fun v hv => nomatch hv⟩ (fun _ _ _ _ _ => trivial) ?_ ?_⟩
    · rintro i σ H2 hi ⟨fs, ce, mi, v8, rfl, hm0, hm1, s2, e2, hfl, hb⟩
      have hi' : i < n.toNat := hi
      have app : ∀ w : Int, ∀ v ∈ fs ++ [w % ba], 0 ≤ v ∧ v < ba := fun w v hv => by
        rcases List.mem_append.mp hv with y | y
        · exact hb v y
        · rw [List.mem_singleton.mp y]; exact ⟨Int.emod_nonneg _ (by omega), Int.emod_lt_of_pos _ b1⟩
      refine ⟨fun σ' H' => ∃ (fs : List Int) (ce mi : Int) (v8 : Option V), σ' = [some (.ref a), some (.int p), some (.int ba), some (.int n), some (.bl b), some (.int ce), some (.ref l), some (.int mi), v8] ∧ 0 ≤ mi ∧ mi < 2 ^ 32 ∧ Same H H' ∧ H' l = some (.lst (fs.map V.int)) ∧ fs.length = i + 1 ∧ ∀ v ∈ fs, 0 ≤ v ∧ v < ba, ?_, fun _ _ z => z⟩
      refine ⟨_, rfl, b, rfl, ite2 (fun c1 => ?_) (fun c1 => ?_)⟩
      · refine ⟨_, rfl, .inl ⟨rfl, _, SqL.of e2⟩, _, rfl, _, rfl, _, _, rfl, rfl, b1, l, _, _, rfl, rfl, e2, small1000 (by rw [List.length_map]; omega), ?_⟩
        refine ⟨_, rfl, _, rfl, _, _, rfl, rfl, ⟨b1, b2⟩, ?_⟩
        exact ⟨fs ++ [ce % ba], _, _, _, rfl, hm0, hm1, s2.upd nl, by rw [List.map_append]; exact upd_same, by rw [List.length_append, hfl]; rfl, app ce⟩
      · refine ⟨fun σ' H' => H' = H2 ∧ ∃ mi : Int, 0 ≤ mi ∧ mi < 2 ^ 32 ∧ σ' = [some (.ref a), some (.int p), some (.int ba), some (.int n), some (.bl b), some (.int ce), some (.ref l), some (.int mi), some (.int (0 + (i : Nat)))], ?_, ?_⟩
        · refine ⟨_, rfl, _, rfl, _, _, rfl, rfl, .inl ⟨by omega, by omega⟩, _, rfl, _, _, rfl, rfl, .inl ⟨by decide, by decide⟩, _, _, rfl, rfl, _, _, rfl, rfl, _, _, rfl, rfl, (by show (0 : Int) < 2147483647; decide), rfl, _, Int.emod_nonneg _ (by decide), ?_, rfl⟩
          have := Int.emod_lt_of_pos (mi * mi + 48271 * (0 + (i : Nat)) + 7) (show (0 : Int) < 2147483647 by decide)
          omega
        rintro σ' H2 ⟨rfl, mi, hm0, hm1, rfl⟩
        refine ⟨_, rfl, .inl ⟨rfl, _, SqL.of e2⟩, _, rfl, _, _, rfl, rfl, ⟨by decide, by decide⟩, _, rfl, _, _, rfl, rfl, b1, l, _, _, rfl, rfl, e2, small1000 (by rw [List.length_map]; omega), ?_⟩
        exact ⟨fs ++ [mi / 8 % ba], _, _, _, rfl, hm0, hm1, s2.upd nl, by rw [List.map_append]; exact upd_same, by rw [List.length_append, hfl]; rfl, app (mi / 8)⟩
    · rintro σ H2 ⟨fs, ce, mi, v8, rfl, hm0, hm1, s2, e2, hfl, hb⟩
      exact ⟨_, rfl, k l fs H2 nl s2 e2 hfl hb⟩
def spWb2 (K : PySem.W.Frag) : Sp := fun vs H Q _ => ∃ (a : Addr) (ns : List Int) (mo so : Int), vs = [.ref a, .int mo, .int so] ∧ SqL K H a (ns.map V.int) ∧ 1 ≤ mo ∧ mo ≤ 20 ∧ 0 ≤ so ∧ so ≤ 40 ∧
  ∀ (t l : Addr) (m : Int) (xs : List V) (es : List (Int × Int)) (H' : Hp), H l = none → Same H H' → H' t = some (.tup [.int m, .ref l]) → H' l = some (.lst xs) → Pairs K H' xs es → 1 ≤ m → m ≤ mo → (es.length : Int) ≤ so → EndsIn es m → Q (.ref t) H'
theorem scWb2 : FnScope ["script", "most", "some", "lead", "many", "count", "ends"] ["script", "most", "some"] (defScope sWb2) := ⟨rfl, rfl, rfl, by decide +kernel, rfl, by decide +kernel, by decide +kernel⟩
set_option maxHeartbeats 4000000 in
theorem ok_Wb2 {f : Addr} {fd : FuncData} (F : Fun K "_law_web" "_law_web" sWb2 f fd) (T : Txt K mg c) (D_C : Def P w K mg base 1 "_law_cell" ["script", "k"] (spC K)) (D_Dr : Def P w K mg base 2 "_law_drawn" ["script", "at", "base", "many", "by_digits"] (spDr K)) : FnOk P w K mg base CX0 3 f fd ["script", "most", "some"] (spWb2 K) := by
  refine F.ok scWb2 (fun vs H Q E h => ?_) (fun cdv A outer s H vs Q E hr h => ?_)
  · obtain ⟨a, ns, mo, so, rfl, _⟩ := h
    rfl
  · obtain ⟨a, ns, mo, so, rfl, hS, o1, o2, o3, o4, k⟩ := h
    refine ⟨_, pss_cons (ps_set (i := 3) scWb2.nd rfl (Or.inl rfl) (pe_defR D_C hr (pa_cons (pv 0) (pa_cons (pe_int) pa_nil))))
      (pss_cons (ps_cut (ps_set (i := 4) scWb2.nd rfl (Or.inl rfl) (pe_op op_add (pe_int) (pe_op op_mod (pv 3) (pv 1)))))
      (pss_cons (ps_cut (ps_set (i := 5) scWb2.nd rfl (Or.inl rfl) (pe_op op_mod (pe_op op_fdivB (pv 3) (pv 1)) (pe_op op_add (pv 2) (pe_int)))))
      (pss_cons (ps_set (i := 6) scWb2.nd rfl (Or.inr rfl) (pe_defR D_Dr hr (pa_cons (pv 0) (pa_cons (pe_int) (pa_cons (pv 4) (pa_cons (pe_op op_mul (pe_int) (pv 5)) (pa_cons (pe_cmpR op_eq (pe_op op_mod (pe_op op_fdivB (pv 3) (pe_op op_mul (pv 1) (pe_op op_add (pv 2) (pe_int)))) (pe_int)) (pe_int) (nomark _)) pa_nil)))))))
      (pss_one (ps_ret (pe_tup (pa_cons (pv 4) (pa_cons (pe_lc (N' := ["k", "ends"]) (nl := 1) (js := [6]) rfl (.of (osc := defScope sWb2) (N := ["script", "most", "some", "lead", "many", "count", "ends"]) (by decide +kernel) rfl rfl) (pi_range1 rfl T.range (pa_cons (pv 5) pa_nil))
        (fun _ _ _ _ => pg_name (i := 0) (show (["k", "ends"] : List Str).Nodup by decide +kernel) rfl (Or.inl rfl)) (fun _ _ _ _ => pif_nil)
        (fun _ _ _ _ => pe_tup (pa_cons (pe_ix (ixL (K := K) rfl) (pv 1) (pe_op op_mul (pe_int) (pv 0)) (fun _ _ => rfl)) (pa_cons (pe_ix (ixL (K := K) rfl) (pv 1) (pe_op op_add (pe_op op_mul (pe_int) (pv 0)) (pe_int)) (fun _ _ => rfl)) pa_nil)))) pa_nil)))))))), ?_⟩
    refine ⟨_, rfl, a, ns, 0, rfl, hS, by decide, ?_⟩
    generalize ns.getD (0 : Int).toNat 0 = f1
    refine ⟨fun σ' H' => H' = H ∧ ∃ m : Int, 1 ≤ m ∧ m ≤ mo ∧ σ' = [some (.ref a), some (.int mo), some (.int so), some (.int f1), some (.int m), none, none], ?_, ?_⟩
    · have b1 := Int.emod_nonneg f1 (show mo ≠ 0 by omega)
      have b2 := Int.emod_lt_of_pos f1 (show (0 : Int) < mo by omega)
      exact ⟨_, rfl, _, rfl, _, _, rfl, rfl, (by show 0 < mo; omega), _, _, rfl, rfl, rfl, _, by omega, by omega, rfl⟩
    rintro σ' H ⟨rfl, m, m1, m2, rfl⟩
    refine ⟨fun σ' H' => H' = H ∧ ∃ ct : Int, 0 ≤ ct ∧ ct ≤ so ∧ σ' = [some (.ref a), some (.int mo), some (.int so), some (.int f1), some (.int m), some (.int ct), none], ?_, ?_⟩
    · have b1 := fun z : Int => Int.emod_nonneg z (show so + 1 ≠ 0 by omega)
      have b2 := fun z : Int => Int.emod_lt_of_pos z (show (0 : Int) < so + 1 by omega)
      refine ⟨_, rfl, _, rfl, _, _, rfl, rfl, ⟨by omega, by omega⟩, _, rfl, _, _, rfl, rfl, _, _, rfl, rfl, (by show 0 < so + 1; omega), rfl, _, b1 _, ?_, rfl⟩
      have := b2 (f1 / mo)
      omega
    rintro σ' H ⟨rfl, ct, ct0, ct1, rfl⟩
    have hmm : 0 < mo * (so + 1) := Int.mul_pos (by omega) (by omega)
    have hmm2 : mo * (so + 1) < 2 ^ 200 := by
      have : mo * (so + 1) ≤ 20 * 41 := Int.mul_le_mul o2 (by omega) (by omega) (by decide)
      omega
    refine ⟨_, rfl, _, rfl, _, rfl, _, _, rfl, rfl, .inl ⟨by decide, by decide⟩, _, rfl, _, rfl, _, rfl, _, _, rfl, rfl, _, _, rfl, rfl, .inl ⟨by omega, by omega⟩, _, _, rfl, rfl, ⟨hmm, hmm2⟩, _, _, rfl, rfl, (by show (0 : Int) < 2; decide), rfl, a, ns, 1, m, _, _, rfl, hS, by decide, by omega, by omega, by omega, by omega, fun le ds H1 nle s1 e1 hdl hdb => ?_⟩
    have hdl' : ds.length = 2 * ct.toNat := by rw [hdl]; omega
    refine ⟨_, rfl, _, rfl, ct, rfl, by omega, by omega, lc_by itok_range (fun i ys H2 => Same H1 H2 ∧ ∃ es, Pairs K H2 ys es ∧ es.length = i ∧ EndsIn es m) (Nat.le_of_lt (small1000 (by omega))) ⟨Same.refl _, [], .nil, rfl, EndsIn.nil⟩ ?_ ?_ ?_⟩
    · rintro i ys H2 hi ⟨s2, es, hp, he, _⟩
      exact ⟨trivial, by have := hp.len; omega⟩
    · rintro i ys H2 hi ⟨s2, es, hp, he, hE⟩
      have hi' : i < ct.toNat := hi
      have hyl := hp.len
      have e2 := s2 _ _ e1
      have a1 : atI (ds.map V.int) (2 * (0 + (i : Nat)) : Int) = some (.int (ds.getD (2 * i) 0)) := by
        have := at_int (ns := ds) (k := (2 * (0 + (i : Nat)) : Int)) (by omega) (by omega)
        rwa [show (2 * (0 + (i : Nat)) : Int).toNat = 2 * i by omega] at this
      have a2 : atI (ds.map V.int) (2 * (0 + (i : Nat)) + 1 : Int) = some (.int (ds.getD (2 * i + 1) 0)) := by
        have := at_int (ns := ds) (k := (2 * (0 + (i : Nat)) + 1 : Int)) (by omega) (by omega)
        rwa [show (2 * (0 + (i : Nat)) + 1 : Int).toNat = 2 * i + 1 by omega] at this
      have d1 := hdb (ds.getD (2 * i) 0) (by rw [List.getD_eq_getElem?_getD, List.getElem?_eq_getElem (show 2 * i < ds.length by omega)]; exact List.getElem_mem _)
      have d2 := hdb (ds.getD (2 * i + 1) 0) (by rw [List.getD_eq_getElem?_getD, List.getElem?_eq_getElem (show 2 * i + 1 < ds.length by omega)]; exact List.getElem_mem _)
      refine ⟨wk_set rfl, iteT ⟨_, rfl, _, rfl, _, _, rfl, rfl, .inl ⟨by decide, by decide⟩, le, _, _, _, rfl, rfl, SqL.of e2, a1, _, rfl, _, rfl, _, _, rfl, rfl, .inl ⟨by decide, by decide⟩, _, _, rfl, rfl, le, _, _, _, rfl, rfl, SqL.of e2, a2, (by show 2 ≤ sizeLine; decide), fun t nt => ?_⟩⟩
      have s3 := Same.new (o := .tup [.int (ds.getD (2 * i) 0), .int (ds.getD (2 * i + 1) 0)]) nt
      refine ⟨small1000 (by omega), _, by omega, rfl, by omega, s2.trans s3, es ++ [(ds.getD (2 * i) 0, ds.getD (2 * i + 1) 0)], ?_, by rw [List.length_append, he]; rfl, hE.snoc ⟨d1.1, d1.2, d2.1, d2.2⟩⟩
      exact (hp.same s3).snoc (e := (ds.getD (2 * i) 0, ds.getD (2 * i + 1) 0)) (SqT.of upd_same)
    · rintro ys H2 ⟨s2, es, hp, he, hE⟩ l nl
      have s3 := Same.new (o := .lst ys) nl
      have l3 : (upd H2 l (.lst ys)) l = some (.lst ys) := upd_same
      have p3 := hp.same s3
      have s13 := (s1.trans s2).trans s3
      have nlH : H l = none := none_back (s1.trans s2) nl
      generalize upd H2 l (.lst ys) = H3 at s3 l3 p3 s13
      refine ⟨(by show 2 ≤ sizeLine; decide), fun t nt => ?_⟩
      exact k t l m ys es _ nlH (s13.next nt) upd_same (Same.new nt _ _ l3) (p3.same (Same.new nt)) m1 m2 (by omega) hE
def spLg (K : PySem.W.Frag) : Sp := fun vs H Q _ => ∃ (l f : Addr) (m : Int) (xs : List V) (es : List (Int × Int)) (fs : List Int), vs = [.int m, .ref l, .ref f] ∧ SqL K H l xs ∧ Pairs K H xs es ∧ SqL K H f (fs.map V.int) ∧ fs.length = es.length ∧ 1 ≤ m ∧ m ≤ 20 ∧ es.length ≤ 40 ∧ EndsIn es m ∧
  ∀ (l2 : Addr) (zs : List Int) (H' : Hp), H l2 = none → Same H H' → H' l2 = some (.lst (zs.map V.int)) → zs.length = m.toNat → (∀ p : Nat, p < m.toNat → zs.getD p 0 = dp p es fs es.length) → Q (.ref l2) H'
theorem scLg : FnScope ["many", "ties", "amounts", "gains", "k"] ["many", "ties", "amounts"] (defScope sLg) := ⟨rfl, rfl, rfl, by decide +kernel, rfl, by decide +kernel, by decide +kernel⟩
set_option maxHeartbeats 4000000 in
theorem ok_Lg {f : Addr} {fd : FuncData} (F : Fun K "_law_gains" "_law_gains" sLg f fd) (T : Txt K mg c) : FnOk P w K mg base CX0 1 f fd ["many", "ties", "amounts"] (spLg K) := by
  refine F.ok scLg (fun vs H Q E h => ?_) (fun cdv A outer s H vs Q E hr h => ?_)
  · obtain ⟨l, f, m, xs, es, fs, rfl, _⟩ := h
    rfl
  · obtain ⟨l, f, m, xs, es, fs, rfl, hl, hp, hf, hfl, m1, m2, hz, hE, k⟩ := h
    have hxl := hp.len
    refine ⟨_, pss_cons (ps_set (i := 3) scLg.nd rfl (Or.inl rfl) (pe_op op_rep (pe_lst (pa_cons (pe_int) pa_nil)) (pv 0)))
      (pss_cons (ps_for PassesOwn.never rfl (pi_range1 rfl T.range (pa_cons (pe_callB (cLen (K := K) rfl) (by rfl) T.len PySem.boot_len (pa_cons (pv 1) pa_nil)) pa_nil)) (pg_name (i := 4) scLg.nd rfl (Or.inl rfl))
        (pss_cons (ps_asg (pe_op op_sub (pe_ix (ixL (K := K) rfl) (pv 3) (pe_ix (ixT (K := K) rfl) (pe_ix (ixL (K := K) rfl) (pv 1) (pv 4) (fun _ _ => rfl)) (pe_int) (fun _ _ => rfl)) (fun _ _ => rfl)) (pe_ix (ixL (K := K) rfl) (pv 2) (pv 4) (fun _ _ => rfl))) (pg_sub (pv 3) (pe_ix (ixT (K := K) rfl) (pe_ix (ixL (K := K) rfl) (pv 1) (pv 4) (fun _ _ => rfl)) (pe_int) (fun _ _ => rfl)) set_list))
      (pss_one (ps_asg (pe_op op_add (pe_ix (ixL (K := K) rfl) (pv 3) (pe_ix (ixT (K := K) rfl) (pe_ix (ixL (K := K) rfl) (pv 1) (pv 4) (fun _ _ => rfl)) (pe_int) (fun _ _ => rfl)) (fun _ _ => rfl)) (pe_ix (ixL (K := K) rfl) (pv 2) (pv 4) (fun _ _ => rfl))) (pg_sub (pv 3) (pe_ix (ixT (K := K) rfl) (pe_ix (ixL (K := K) rfl) (pv 1) (pv 4) (fun _ _ => rfl)) (pe_int) (fun _ _ => rfl)) set_list)))))
      (pss_one (ps_ret (pv 3)))), ?_⟩
    refine ⟨(by show 1 ≤ sizeLine; decide), fun l1 nl1 => ?_⟩
    have s1 : Same H (upd H l1 (.lst [V.int 0])) := Same.new nl1
    have e1 : (upd H l1 (.lst [V.int 0])) l1 = some (.lst [V.int 0]) := upd_same
    generalize upd H l1 (.lst [V.int 0]) = H1 at s1 e1
    refine ⟨_, rfl, l1, m, _, rfl, rfl, e1, by omega, by omega, Nat.le_of_lt (small1000 (by show 1 * m.toNat ≤ 1000; omega)), fun g ng => ?_⟩
    rw [rep_ints]
    have s2 := s1.next (o := .lst ((List.replicate m.toNat (0 : Int)).map V.int)) ng
    have e2 : (upd H1 g (.lst ((List.replicate m.toNat (0 : Int)).map V.int))) g = some (.lst ((List.replicate m.toNat (0 : Int)).map V.int)) := upd_same
    have ngH : H g = none := none_back s1 ng
    generalize upd H1 g (.lst ((List.replicate m.toNat (0 : Int)).map V.int)) = H2 at s2 e2
    refine ⟨_, rfl, l, xs, rfl, .inl (s2.seq hl), (xs.length : Int), rfl, by omega, by omega, for_by itok_range (fun i σ H3 => ∃ (zs : List Int) (v4 : Option V), σ = [some (.int m), some (.ref l), some (.ref f), some (.ref g), v4] ∧ Same H H3 ∧ H3 g = some (.lst (zs.map V.int)) ∧ zs.length = m.toNat ∧ ∀ p : Nat, p < m.toNat → zs.getD p 0 = dp p es fs i) ⟨_, none, rfl, s2, e2, List.length_replicate .., fun p hp => ?_⟩ (fun _ _ _ _ _ => trivial) ?_ ?_⟩
    · rw [List.getD_eq_getElem?_getD, List.getElem?_replicate, if_pos hp]; rfl
    · rintro i σ H3 hi ⟨zs, v4, rfl, s3, e3, hzl, hd⟩
      have hi' : i < es.length := by have : i < xs.length := hi; omega
      obtain ⟨r, ar, hr2, hm⟩ := tie_get (hp.same s3) (show (0 : Int) ≤ 0 + (i : Nat) by omega) (show (0 + (i : Nat) : Int) < (es.length : Int) by omega)
      have eT : tieOf es (0 + (i : Nat) : Int) = es.getD i (0, 0) := by unfold tieOf; rw [show (0 + (i : Nat) : Int).toNat = i by omega]
      rw [eT] at hr2 hm
      have hg : es[i]? = some (es.getD i (0, 0)) := by rw [List.getD_eq_getElem?_getD, List.getElem?_eq_getElem hi']; rfl
      obtain ⟨b1, b2, b3, b4⟩ := hE _ hm
      have af : atI (fs.map V.int) (0 + (i : Nat) : Int) = some (.int (fs.getD i 0)) := by
        have := at_int (ns := fs) (k := (0 + (i : Nat) : Int)) (by omega) (by omega)
        rwa [show (0 + (i : Nat) : Int).toNat = i by omega] at this
      have step := dp_step (n := m.toNat) hzl hg b1 (by omega) b3 (by omega) hd
      generalize es.getD i (0, 0) = e at *
      have a1 : atI (zs.map V.int) e.1 = some (.int (zs.getD e.1.toNat 0)) := at_int (ns := zs) b1 (by omega)
      refine ⟨_, rfl, _, rfl, _, rfl, l, xs, _, .ref r, rfl, rfl, s3.seq hl, ar, r, _, 0, _, rfl, rfl, hr2, rfl, g, _, _, _, rfl, rfl, SqL.of e3, a1, _, rfl, _, rfl, f, _, _, _, rfl, rfl, s3.seq hf, af, _, _, rfl, rfl, ?_⟩
      refine ⟨_, rfl, _, rfl, _, rfl, l, xs, _, .ref r, rfl, rfl, s3.seq hl, ar, r, _, 0, _, rfl, rfl, hr2, rfl, g, _, e.1, _, rfl, rfl, e3, ixN_nat b1 (by rw [List.length_map]; omega), ?_⟩
      rw [set_ints]
      have s4 : Same H (upd H3 g (.lst ((zs.set e.1.toNat (zs.getD e.1.toNat 0 - fs.getD i 0)).map V.int))) := s3.upd ngH
      have e4 : (upd H3 g (.lst ((zs.set e.1.toNat (zs.getD e.1.toNat 0 - fs.getD i 0)).map V.int))) g = some (.lst ((zs.set e.1.toNat (zs.getD e.1.toNat 0 - fs.getD i 0)).map V.int)) := upd_same
      have hr4 : SqT K (upd H3 g (.lst ((zs.set e.1.toNat (zs.getD e.1.toNat 0 - fs.getD i 0)).map V.int))) r [.int e.1, .int e.2] := (sameX_upd (a := g)).tup e3 hr2
      generalize upd H3 g (.lst ((zs.set e.1.toNat (zs.getD e.1.toNat 0 - fs.getD i 0)).map V.int)) = H4 at s4 e4 hr4
      have a2 : atI ((zs.set e.1.toNat (zs.getD e.1.toNat 0 - fs.getD i 0)).map V.int) e.2 = some (.int ((zs.set e.1.toNat (zs.getD e.1.toNat 0 - fs.getD i 0)).getD e.2.toNat 0)) := at_int (ns := zs.set e.1.toNat (zs.getD e.1.toNat 0 - fs.getD i 0)) b3 (by rw [List.length_set]; omega)
      refine ⟨_, rfl, _, rfl, _, rfl, l, xs, _, .ref r, rfl, rfl, s4.seq hl, ar, r, _, 1, _, rfl, rfl, hr4, rfl, g, _, _, _, rfl, rfl, SqL.of e4, a2, _, rfl, _, rfl, f, _, _, _, rfl, rfl, s4.seq hf, af, _, _, rfl, rfl, ?_⟩
      refine ⟨_, rfl, _, rfl, _, rfl, l, xs, _, .ref r, rfl, rfl, s4.seq hl, ar, r, _, 1, _, rfl, rfl, hr4, rfl, g, _, e.2, _, rfl, rfl, e4, ixN_nat b3 (by rw [List.length_map, List.length_set]; omega), ?_⟩
      rw [set_ints]
      exact ⟨_, _, rfl, s4.upd ngH, upd_same, by rw [List.length_set, List.length_set]; exact hzl, step⟩
    · rintro σ H3 ⟨zs, v4, rfl, s3, e3, hzl, hd⟩
      rw [show ((xs.length : Int)).toNat = es.length from hxl] at hd
      exact ⟨_, rfl, k g zs H3 ngH s3 e3 hzl hd⟩
theorem freN_succ (es : List (Int × Int)) (n : Nat) : ((upto (n + 1)).filter fun z => !inF es z.toNat) = ((upto n).filter fun z => !inF es z.toNat) ++ (if inF es n = true then [] else [(n : Int)]) := by
  rw [upto_succ, List.filter_append]
  by_cases h : inF es n = true
  · rw [if_pos h, List.filter_cons_of_neg (by rw [show ((n : Nat) : Int).toNat = n by omega, h]; decide)]; rfl
  · rw [if_neg h, List.filter_cons_of_pos (by rw [show ((n : Nat) : Int).toNat = n by omega, Bool.eq_false_iff.mpr h]; rfl)]; rfl
theorem freN_fre (es : List (Int × Int)) : ((upto es.length).filter fun z => !inF es z.toNat) = fre es := by
  unfold fre
  refine List.filter_congr fun z hz => ?_
  have hz' := mem_upto.mp hz
  congr 1
  rw [Bool.eq_iff_iff, show (frst es).any (· == z) = memI (frst es) z from rfl, memI_iff]
  unfold frst
  rw [mem_frN]
  exact ⟨fun h => ⟨hz'.1, hz'.2, h⟩, fun h => h.2.2⟩
def spLf (K : PySem.W.Frag) : Sp := fun vs H Q _ => ∃ (l : Addr) (m : Int) (xs : List V) (es : List (Int × Int)), vs = [.int m, .ref l] ∧ SqL K H l xs ∧ Pairs K H xs es ∧ 1 ≤ m ∧ m ≤ 20 ∧ es.length ≤ 40 ∧ EndsIn es m ∧
  ∀ l2 H', H l2 = none → Same H H' → H' l2 = some (.lst ((fre es).map V.int)) → Q (.ref l2) H'
theorem scLf : FnScope ["many", "ties", "names", "found", "k", "one", "two"] ["many", "ties"] (defScope sLf) := ⟨rfl, rfl, rfl, by decide +kernel, rfl, by decide +kernel, by decide +kernel⟩
set_option maxHeartbeats 4000000 in
theorem ok_Lf {f : Addr} {fd : FuncData} (F : Fun K "_law_free" "_law_free" sLf f fd) (T : Txt K mg c) : FnOk P w K mg base CX0 1 f fd ["many", "ties"] (spLf K) := by
  refine F.ok scLf (fun vs H Q E h => ?_) (fun cdv A outer s H vs Q E hr h => ?_)
  · obtain ⟨l, m, xs, es, rfl, _⟩ := h
    rfl
  · obtain ⟨l, m, xs, es, rfl, hl, hp, m1, m2, hz, hE, k⟩ := h
    have hxl := hp.len
    refine ⟨_, pss_cons (ps_set (i := 2) scLf.nd rfl (Or.inl rfl) (pe_listrange1 rfl rfl T.list rfl T.range (pa_cons (pv 0) pa_nil)))
      (pss_cons (ps_set (i := 3) scLf.nd rfl (Or.inl rfl) (pe_lst pa_nil))
      (pss_cons (ps_for PassesOwn.never rfl (pi_range1 rfl T.range (pa_cons (pe_callB (cLen (K := K) rfl) (by rfl) T.len PySem.boot_len (pa_cons (pv 1) pa_nil)) pa_nil)) (pg_name (i := 4) scLf.nd rfl (Or.inl rfl))
        (pss_cons (ps_set (i := 5) scLf.nd rfl (Or.inr rfl) (pe_ix (ixL (K := K) rfl) (pv 2) (pe_ix (ixT (K := K) rfl) (pe_ix (ixL (K := K) rfl) (pv 1) (pv 4) (fun _ _ => rfl)) (pe_int) (fun _ _ => rfl)) (fun _ _ => rfl)))
      (pss_cons (ps_set (i := 6) scLf.nd rfl (Or.inr rfl) (pe_ix (ixL (K := K) rfl) (pv 2) (pe_ix (ixT (K := K) rfl) (pe_ix (ixL (K := K) rfl) (pv 1) (pv 4) (fun _ _ => rfl)) (pe_int) (fun _ _ => rfl)) (fun _ _ => rfl)))
      (pss_cons (ps_cut (ps_if (pt_cmpR op_eq (pv 5) (pv 6) (nomark _))
        (pss_one (ps_expr (pe_bm PySem.F.plainAttrs_list PySem.F.slot_list_append PySem.F.type_list_append mt_append (pv 3) (pa_cons (pv 4) pa_nil)))) (pss_nil)))
      (pss_one (ps_setlc (i := 2) (N' := ["name", "one", "two"]) (nl := 1) (js := [5, 6]) rfl (.of (osc := defScope sLf) (N := ["many", "ties", "names", "found", "k", "one", "two"]) (by decide +kernel) rfl rfl) (piSeq (K := K) rfl (pv 2))
        (fun _ _ _ _ => pg_name (i := 0) (show (["name", "one", "two"] : List Str).Nodup by decide +kernel) rfl (Or.inl rfl)) (fun _ _ _ _ => pif_nil)
        (fun _ _ _ _ => pe_ifExp (pt_cmpR op_eq (pv 0) (pv 2) (nomark _)) (pv 1) (pv 0)) scLf.nd rfl rfl))))))
      (pss_one (ps_ret (pv 3))))), ?_⟩
    refine ⟨_, rfl, m, rfl, by omega, by omega, fun l0 nl0 => ?_⟩
    have s1 := Same.new (o := .lst (((List.range m.toNat).map fun i => 0 + ((i : Nat) : Int)).map V.int)) nl0
    have e1 : (upd H l0 (.lst (((List.range m.toNat).map fun i => 0 + ((i : Nat) : Int)).map V.int))) l0 = some (.lst (((List.range m.toNat).map fun i => 0 + ((i : Nat) : Int)).map V.int)) := upd_same
    generalize upd H l0 (.lst (((List.range m.toNat).map fun i => 0 + ((i : Nat) : Int)).map V.int)) = H1 at s1 e1
    refine ⟨by decide, fun fl nfl => ?_⟩
    have s0 := s1.next (o := .lst []) nfl
    have e0 := Same.new (o := .lst []) nfl _ _ e1
    have f0 : (upd H1 fl (.lst [])) fl = some (.lst []) := upd_same
    have nlf : l0 ≠ fl := ne_of_none e1 nfl
    have flH : H fl = none := none_back s1 nfl
    generalize upd H1 fl (.lst []) = H0 at s0 e0 f0
    refine ⟨_, rfl, l, xs, rfl, .inl (s0.seq hl), (xs.length : Int), rfl, by omega, by omega, for_by itok_range (fun i σ H2 => ∃ (lb : Addr) (ls : List Int) (v4 v5 v6 : Option V), σ = [some (.int m), some (.ref l), some (.ref lb), some (.ref fl), v4, v5, v6] ∧ Same H H2 ∧ lb ≠ fl ∧ H2 fl = some (.lst (((upto i).filter fun z => !inF es z.toNat).map V.int)) ∧ H2 lb = some (.lst (ls.map V.int)) ∧ ls.length = m.toNat ∧ Nam m (es.take i) (lf ls)) ⟨l0, _, none, none, none, rfl, s0, nlf, f0, e0, by rw [List.length_map, List.length_range], Nam.start _ _ rfl⟩ (fun _ _ _ _ _ => trivial) ?_ ?_⟩
    · rintro i σ H2 hi ⟨lb, ls, v4, v5, v6, rfl, s2, nlb, hf2, hl2, hll, hL⟩
      have hi' : i < es.length := by have : i < xs.length := hi; omega
      have hfl : (((upto i).filter fun z => !inF es z.toNat)).length ≤ i := Nat.le_trans (List.length_filter_le _ _) (by rw [upto_len]; exact Nat.le_refl _)
      obtain ⟨r, ar, hr2, hm⟩ := tie_get (hp.same s2) (show (0 : Int) ≤ 0 + (i : Nat) by omega) (show (0 + (i : Nat) : Int) < (es.length : Int) by omega)
      have eT : tieOf es (0 + (i : Nat) : Int) = es.getD i (0, 0) := by unfold tieOf; rw [show (0 + (i : Nat) : Int).toNat = i by omega]
      rw [eT] at hr2 hm
      have ei : es[i]? = some (es.getD i (0, 0)) := by rw [List.getD_eq_getElem?_getD, List.getElem?_eq_getElem hi']; rfl
      obtain ⟨b1, b2, b3, b4⟩ := hE _ hm
      have hiff := hL.iff b1 b2 b3 b4
      have hinF := inF_iff (es := es) (i := i)
      have hES : ∀ a ∈ es.take i ++ [es.getD i (0, 0)], 0 ≤ a.1 ∧ a.1 < m ∧ 0 ≤ a.2 ∧ a.2 < m := fun a ha => by
        rcases List.mem_append.mp ha with y | y
        · exact hE a (List.mem_of_mem_take y)
        · rw [List.mem_singleton.mp y]; exact ⟨b1, b2, b3, b4⟩
      have hput := (hL.put ⟨b1, b2, b3, b4⟩).congr hES fun p p0 p1 => (lf_map ls (fun n => if n = lf ls (es.getD i (0, 0)).2 then lf ls (es.getD i (0, 0)).1 else n) p p0 (by omega)).symm
      have hfre := freN_succ es i
      have htk := take_snoc ei
      generalize es.getD i (0, 0) = e at *
      have a1 : atI (ls.map V.int) e.1 = some (.int (lf ls e.1)) := at_int (ns := ls) b1 (by omega)
      have a2 : atI (ls.map V.int) e.2 = some (.int (lf ls e.2)) := at_int (ns := ls) b3 (by omega)
      refine ⟨_, rfl, _, rfl, _, rfl, l, xs, _, .ref r, rfl, rfl, s2.seq hl, ar, r, _, 0, _, rfl, rfl, hr2, rfl, lb, _, _, _, rfl, rfl, SqL.of hl2, a1, ?_⟩
      refine ⟨_, rfl, _, rfl, _, rfl, l, xs, _, .ref r, rfl, rfl, s2.seq hl, ar, r, _, 1, _, rfl, rfl, hr2, rfl, lb, _, _, _, rfl, rfl, SqL.of hl2, a2, ?_⟩
      refine ⟨fun σ' H' => σ' = [some (.int m), some (.ref l), some (.ref lb), some (.ref fl), some (.int (0 + (i : Nat))), some (.int (lf ls e.1)), some (.int (lf ls e.2))] ∧ Same H H' ∧ H' fl = some (.lst (((upto (i + 1)).filter fun z => !inF es z.toNat).map V.int)) ∧ H' lb = some (.lst (ls.map V.int)), ?_, ?_⟩
      · refine ⟨_, rfl, _, rfl, rfl, _, rfl, ?_⟩
        rw [hfre]
        by_cases c1 : lf ls e.1 = lf ls e.2
        · rw [decide_eq_true (show V.int (lf ls e.1) = V.int (lf ls e.2) by rw [c1]), if_neg (fun z => hinF.mp z (hiff.mp c1))]
          refine iteT ⟨_, rfl, .inl ⟨rfl, _, SqL.of hf2⟩, _, rfl, fl, _, _, rfl, rfl, hf2, small1000 (by rw [List.length_map]; omega), rfl, s2.upd flH, ?_, by rw [upd_ne nlb]; exact hl2⟩
          rw [List.map_append, Int.zero_add]; exact upd_same
        · rw [decide_eq_false (show ¬ V.int (lf ls e.1) = V.int (lf ls e.2) by intro z; injection z with z; exact c1 z), if_pos (hinF.mpr fun z => c1 (hiff.mpr z)), List.append_nil]
          exact iteF ⟨rfl, s2, hf2, hl2⟩
      · rintro σ' H4 ⟨rfl, s4, f4, hl4⟩
        refine ⟨_, rfl, lb, _, rfl, .inl (SqL.of hl4), fun J C O hC => lc_by O (fun j ys H5 => H5 = H4 ∧ ys = ((ls.map fun n => if n = lf ls e.2 then lf ls e.1 else n).take j).map V.int) (by rw [List.length_map]; exact Nat.le_of_lt (small1000 (by omega))) ⟨rfl, rfl⟩ ?_ ?_ ?_⟩
        · rintro j ys H5 hj ⟨rfl, rfl⟩
          exact ⟨hC _ (Same.refl _), by rw [List.length_map, List.length_take]; omega⟩
        · rintro j ys H5 hj ⟨rfl, rfl⟩
          obtain ⟨n, en, gn⟩ := getD_map_int hj
          rw [List.length_map] at hj
          have fin : ∀ u, u = (if n = lf ls e.2 then lf ls e.1 else n) → ((ls.map fun n => if n = lf ls e.2 then lf ls e.1 else n).take j).map V.int ++ [V.int u] = ((ls.map fun n => if n = lf ls e.2 then lf ls e.1 else n).take (j + 1)).map V.int := fun u eu => by
            have hv2 : (ls.map fun n => if n = lf ls e.2 then lf ls e.1 else n)[j]? = some u := by rw [List.getElem?_map, gn, eu]; rfl
            rw [take_snoc hv2, List.map_append]; rfl
          have hyl : (((ls.map fun n => if n = lf ls e.2 then lf ls e.1 else n).take j).map V.int).length < sizeLine := small1000 (by rw [List.length_map, List.length_take]; omega)
          try dsimp only
          rw [en]
          refine ⟨wk_set rfl, iteT ⟨_, rfl, _, rfl, rfl, _, rfl, ite2 (fun c2 => ?_) (fun c2 => ?_)⟩⟩
          · have c2' := of_decide_eq_true c2
            injection c2' with c2'
            exact ⟨_, rfl, hyl, _, by rw [List.length_map]; omega, rfl, by rw [List.length_map]; omega, rfl, fin _ (by rw [if_pos c2'])⟩
          · exact ⟨_, rfl, hyl, _, by rw [List.length_map]; omega, rfl, by rw [List.length_map]; omega, rfl, fin _ (by rw [if_neg (fun z => c2 (decide_eq_true (by rw [z])))])⟩
        · rintro ys H5 ⟨rfl, rfl⟩ l3 nl3
          rw [List.length_map, List.take_of_length_le (by rw [List.length_map]; omega)]
          have sN := Same.new (o := .lst ((ls.map fun n => if n = lf ls e.2 then lf ls e.1 else n).map V.int)) nl3
          refine ⟨l3, _, _, _, _, rfl, s4.trans sN, (ne_of_none f4 nl3).symm, sN _ _ f4, upd_same, by rw [List.length_map]; exact hll, ?_⟩
          rw [htk]; exact hput
    · rintro σ H2 ⟨lb, ls, v4, v5, v6, rfl, s2, nlb, hf2, hl2, hll, hL⟩
      rw [show ((xs.length : Int)).toNat = es.length from hxl, freN_fre] at hf2
      exact ⟨_, rfl, k fl H2 flH s2 hf2⟩
structure WyI (K : PySem.W.Frag) (H : Hp) (m : Int) (es : List (Int × Int)) (a : Int) (d r : Addr) (H2 : Hp) (rs : List Int) (st : Nat) (ad : Int → Addr) (wy : Int → List (Int × Int)) (pl : Int → List Int) : Prop where
  same : Same H H2
  dd : H2 d = some (.dK (rs.map fun p => ((Sum.inl p : Key), V.ref (ad p))))
  rr : H2 r = some (.lst ((rs.drop st).map V.int))
  nd : rs.Nodup
  rng : ∀ p ∈ rs, 0 ≤ p ∧ p < m
  a0 : a ∈ rs
  cell : ∀ p ∈ rs, H (ad p) = none ∧ ad p ≠ r ∧ ∃ xs, H2 (ad p) = some (.lst xs) ∧ Pairs K H2 xs (wy p)
  way : ∀ p ∈ rs, WayS es (List.replicate es.length ((1 : Int), (1 : Int))) a (wy p) (pl p) p ∧ ∀ q ∈ pl p, q ∈ rs
def WyC (es : List (Int × Int)) (rs : List Int) (p t : Int) : Prop := ((tieOf es t).1 = p → (tieOf es t).2 ∈ rs) ∧ ((tieOf es t).2 = p → (tieOf es t).1 ∈ rs)
theorem WyC.mono {es : List (Int × Int)} {rs rs' : List Int} {p t : Int} (h : WyC es rs p t) (hs : ∀ z ∈ rs, z ∈ rs') : WyC es rs' p t := ⟨fun e => hs _ (h.1 e), fun e => hs _ (h.2 e)⟩
def spWy (K : PySem.W.Frag) : Sp := fun vs H Q _ => ∃ (l q r : Addr) (m a b : Int) (xs : List V) (es : List (Int × Int)) (hs : List Int), vs = [.ref l, .ref q, .ref r] ∧ SqL K H l xs ∧ Pairs K H xs es ∧ SqL K H q (hs.map V.int) ∧ SqT K H r [.int a, .int b] ∧ m ≤ 20 ∧ es.length ≤ 40 ∧ EndsIn es m ∧ 0 ≤ b ∧ b < m ∧ hs.length ≤ 40 ∧ (∀ t ∈ hs, 0 ≤ t ∧ t < (es.length : Int)) ∧ Cn (sub es hs) b a ∧
  ∀ wl ws ss pl H', H wl = none → Same H H' → H' wl = some (.lst ws) → Pairs K H' ws ss → WayS es (List.replicate es.length ((1 : Int), (1 : Int))) b ss pl a → Q (.ref wl) H'
theorem scWy : FnScope ["ties", "held", "ends", "ways", "waiting", "here", "number", "sign", "one", "two"] ["ties", "held", "ends"] (defScope sWy) := ⟨rfl, rfl, rfl, by decide +kernel, rfl, by decide +kernel, by decide +kernel⟩
set_option maxHeartbeats 8000000 in
theorem ok_Wy {f : Addr} {fd : FuncData} (F : Fun K "_law_way" "_law_way" sWy f fd) (T : Txt K mg c) : FnOk P w K mg base CX0 1 f fd ["ties", "held", "ends"] (spWy K) := by
  refine F.ok scWy (fun vs H Q E h => ?_) (fun cdv A outer s H vs Q E hr h => ?_)
  · obtain ⟨l, q, r, m, a, b, xs, es, hs, rfl, _⟩ := h
    rfl
  · obtain ⟨l, q, r0, m, a, b, xs, es, hs, rfl, hl, hx, hq, ht, m2, hz, hE, b0, b1, hhl, hhr, hcn, k⟩ := h
    refine ⟨_, pss_cons (ps_set (i := 3) scWy.nd rfl (Or.inl rfl) (pe_disp (pps_cons (pe_ix (ixT (K := K) rfl) (pv 2) (pe_int) (fun _ _ => rfl)) (pe_lst pa_nil) (pps_nil)) rfl rfl (by simp) (by decide)))
      (pss_cons (ps_set (i := 4) scWy.nd rfl (Or.inl rfl) (pe_lst (pa_cons (pe_ix (ixT (K := K) rfl) (pv 2) (pe_int) (fun _ _ => rfl)) pa_nil)))
      (pss_cons (ps_while PassesOwn.never (pt_cmpR op_gt (pe_callB (cLen (K := K) rfl) (by rfl) T.len PySem.boot_len (pa_cons (pv 4) pa_nil)) (pe_int) (nomark _))
        (pss_cons (ps_set (i := 5) scWy.nd rfl (Or.inl rfl) (pe_bm PySem.F.plainAttrs_list PySem.F.slot_list_pop PySem.F.type_list_pop mt_popAt (pv 4) (pa_cons (pe_int) pa_nil)))
      (pss_one (ps_for PassesOwn.never rfl (piSeqB (K := K) rfl (pv 1)) (pg_name (i := 6) scWy.nd rfl (Or.inl rfl))
        (pss_one (ps_for PassesOwn.never rfl (piSeqB (K := K) rfl (pe_lst (pa_cons (pe_int) (pa_cons (pe_un un_neg (pe_int)) pa_nil)))) (pg_name (i := 7) scWy.nd rfl (Or.inl rfl))
        (pss_cons (ps_asg (pe_ix (ixL (K := K) rfl) (pv 0) (pv 6) (fun _ _ => rfl)) (pgTup (K := K) (n := 2) rfl rfl (pgs_cons (pg_name (i := 8) scWy.nd rfl (Or.inl rfl)) (pgs_cons (pg_name (i := 9) scWy.nd rfl (Or.inl rfl)) (pgs_nil))) rfl))
      (pss_cons (ps_cut (ps_if (pt_cmpR op_lt (pv 7) (pe_int) (nomark _))
        (pss_one (ps_par (i := 8) (j := 9) rfl scWy.nd rfl rfl (by decide) rfl rfl (pa_cons (pv 9) (pa_cons (pv 8) pa_nil)) rfl)) (pss_nil)))
      (pss_one (ps_cut (ps_if (PW.pt (pw_and (pt_cmpR op_eq (pv 8) (pv 5) (nomark _)) (pw_and1 (pt_cmp (pc_dnotin (hu_of hr) (pv 9) (pv 3))))))
        (pss_cons (ps_dput (hu_of hr) (pv 3) (pv 9) (pe_op op_cat (pe_dget (hu_of hr) (pv 3) (pv 5) (fun _ _ => rfl)) (pe_lst (pa_cons (pe_tup (pa_cons (pv 6) (pa_cons (pv 7) pa_nil))) pa_nil))) rfl)
      (pss_one (ps_expr (pe_bm PySem.F.plainAttrs_list PySem.F.slot_list_append PySem.F.type_list_append mt_append (pv 4) (pa_cons (pv 9) pa_nil))))) (pss_nil))))))))))))
      (pss_one (ps_ret (pe_dget (hu_of hr) (pv 3) (pe_ix (ixT (K := K) rfl) (pv 2) (pe_int) (fun _ _ => rfl)) (fun _ _ => rfl)))))), ?_⟩
    intro d nd
    have s1 : Same H (upd H d (.dK [])) := Same.new nd
    have d1 : (upd H d (.dK [])) d = some (.dK []) := upd_same
    generalize upd H d (.dK []) = H1 at s1 d1
    refine ⟨_, rfl, r0, _, 1, _, rfl, rfl, s1.tup ht, rfl, by decide, fun l0 nl0 => ?_⟩
    have s2 := s1.next (o := .lst []) nl0
    have d2 := Same.new (o := .lst []) nl0 _ _ d1
    have e2 : (upd H1 l0 (.lst [])) l0 = some (.lst []) := upd_same
    have l0H : H l0 = none := none_back s1 nl0
    generalize upd H1 l0 (.lst []) = H2 at s2 d2 e2
    refine ⟨d2, [(Sum.inl b, .ref l0)], rfl, (by show 1 ≤ 15; decide), ?_⟩
    have d3 : (upd H2 d (.dK (mergeK [] [((Sum.inl b : Key), V.ref l0)]))) d = some (.dK ([b].map fun p => ((Sum.inl p : Key), V.ref l0))) := upd_same
    have s3 : Same H (upd H2 d (.dK (mergeK [] [((Sum.inl b : Key), V.ref l0)]))) := s2.upd nd
    have e3 : (upd H2 d (.dK (mergeK [] [((Sum.inl b : Key), V.ref l0)]))) l0 = some (.lst []) := by rw [upd_ne (ne_of_none d1 nl0).symm]; exact e2
    generalize upd H2 d (.dK (mergeK [] [((Sum.inl b : Key), V.ref l0)])) = H3 at d3 s3 e3
    refine ⟨_, rfl, r0, _, 1, _, rfl, rfl, s3.tup ht, rfl, (by show 1 ≤ sizeLine; decide), fun r nr => ?_⟩
    have s4 := s3.next (o := .lst [V.int b]) nr
    have d4 := Same.new (o := .lst [V.int b]) nr _ _ d3
    have e4 := Same.new (o := .lst [V.int b]) nr _ _ e3
    have r4 : (upd H3 r (.lst [V.int b])) r = some (.lst ([b].map V.int)) := upd_same
    have rH : H r = none := none_back s3 nr
    have lr : l0 ≠ r := ne_of_none e3 nr
    generalize upd H3 r (.lst [V.int b]) = H4 at s4 d4 e4 r4
    clear s3 d3 e3 s2 d2 e2 nl0 s1 d1 nr
    have drn : d ≠ r := ne_of d4 r4 (by intro z; cases z)
    refine ⟨fun n σ H2 => ∃ (rs : List Int) (st : Nat) (ad : Int → Addr) (wy : Int → List (Int × Int)) (pl : Int → List Int) (v5 v6 v7 v8 v9 : Option V), n = m.toNat - st ∧ σ = [some (.ref l), some (.ref q), some (.ref r0), some (.ref d), some (.ref r), v5, v6, v7, v8, v9] ∧ WyI K H m es b d r H2 rs st ad wy pl ∧ st ≤ rs.length ∧
      (∀ j, j < st → ∀ t ∈ hs, WyC es rs (rs.getD j 0) t), ⟨m.toNat - 0, [b], 0, fun _ => l0, fun _ => [], fun _ => [], none, none, none, none, none, rfl, rfl, ?_, Nat.zero_le _, (fun j hj => absurd hj (Nat.not_lt_zero _))⟩, ?_⟩
    · refine ⟨s4, d4, r4, by simp, fun p hp => ?_, List.mem_singleton.mpr rfl, fun p hp => ⟨l0H, lr, [], e4, .nil⟩, fun p hp => ?_⟩
      · rw [List.mem_singleton.mp hp]; exact ⟨b0, b1⟩
      · rw [List.mem_singleton.mp hp]; exact ⟨.nil, fun q hq => nomatch hq⟩
    rintro n σ H5 ⟨rs, st, ad, wy, pl, v5, v6, v7, v8, v9, rfl, rfl, I, hst, clo⟩
    have hrl := nodup_len I.nd I.rng
    have hlm : ((rs.drop st).map V.int).length = rs.length - st := by rw [List.length_map, List.length_drop]
    refine ⟨_, rfl, r, _, rfl, .inl (SqL.of I.rr), _, _, rfl, rfl, _, rfl, ?_⟩
    by_cases hlt : st < rs.length
    · rw [decide_eq_true (show (0 : Int) < (((rs.drop st).map V.int).length : Int) by omega)]
      refine iteT ⟨_, fun σ' H' h => h, ?_⟩
      obtain ⟨p, ep⟩ : ∃ p, p = rs.getD st 0 := ⟨_, rfl⟩
      have hpm : p ∈ rs := by rw [ep, List.getD_eq_getElem?_getD, List.getElem?_eq_getElem hlt]; exact List.getElem_mem hlt
      have hdr : rs.drop st = p :: rs.drop (st + 1) := by
        rw [List.drop_eq_getElem_cons hlt, ep, List.getD_eq_getElem?_getD, List.getElem?_eq_getElem hlt]; rfl
      have r5 := I.rr
      rw [hdr, List.map_cons] at r5
      refine ⟨_, rfl, .inl ⟨rfl, _, SqL.of r5⟩, r, _, 0, 0, V.int p, rfl, rfl, r5, by decide, by decide, by unfold seqIndex?; rw [List.length_cons]; simp, rfl, ?_⟩
      have x6 : SameX r H5 (upd H5 r (.lst ((rs.drop (st + 1)).map V.int))) := sameX_upd
      have r6 : (upd H5 r (.lst ((rs.drop (st + 1)).map V.int))) r = some (.lst ((rs.drop (st + 1)).map V.int)) := upd_same
      have s6 : Same H (upd H5 r (.lst ((rs.drop (st + 1)).map V.int))) := I.same.upd rH
      show gName 5 (V.int p) _ (upd H5 r (.lst ((rs.drop (st + 1)).map V.int))) _
      generalize upd H5 r (.lst ((rs.drop (st + 1)).map V.int)) = H6 at x6 r6 s6
      have I6 : WyI K H m es b d r H6 rs (st + 1) ad wy pl := by
        refine ⟨s6, x6 _ _ drn I.dd, r6, I.nd, I.rng, I.a0, fun p hp => ?_, I.way⟩
        obtain ⟨c1, c2, xs, c3, c4⟩ := I.cell p hp
        exact ⟨c1, c2, xs, x6 _ _ c2 c3, c4.sameX x6 r5⟩
      refine ⟨_, rfl, false, q, _, rfl, s6.seq hq, fun J C O hC => for_by O (fun i σ H8 => ∃ (rs' : List Int) (ad : Int → Addr) (wy : Int → List (Int × Int)) (pl : Int → List Int) (v6 v7 v8 v9 : Option V), σ = [some (.ref l), some (.ref q), some (.ref r0), some (.ref d), some (.ref r), some (.int p), v6, v7, v8, v9] ∧ WyI K H m es b d r H8 rs' (st + 1) ad wy pl ∧ (∃ more, rs' = rs ++ more) ∧ ∀ t ∈ hs.take i, WyC es rs' p t) ⟨rs, ad, wy, pl, _, _, _, _, rfl, I6, ⟨[], (List.append_nil _).symm⟩, fun t ht => (by simp at ht)⟩ (fun i σ H8 _ h => ?_) ?_ ?_⟩
      · obtain ⟨rs', ad, wy, pl, v6, v7, v8, v9, _, I8, _⟩ := h
        exact hC _ (I8.same.seq hq)
      · rintro i σ H8 hi ⟨rs', ad, wy, pl, v6, v7, v8, v9, rfl, I8, ⟨more, em⟩, hdone⟩
        obtain ⟨hn, ehn, ghn⟩ := getD_map_int hi
        have hnr := hhr hn (List.mem_of_getElem? ghn)
        try dsimp only
        rw [ehn]
        refine ⟨_, rfl, (by show 2 ≤ sizeLine; decide), fun q0 nq0 => ?_⟩
        have sA := Same.new (o := .lst (([1, -1] : List Int).map V.int)) nq0
        have eA : (upd H8 q0 (.lst (([1, -1] : List Int).map V.int))) q0 = some (.lst (([1, -1] : List Int).map V.int)) := upd_same
        have q0r : q0 ≠ r := (ne_of_none I8.rr nq0).symm
        have q0d : q0 ≠ d := (ne_of_none I8.dd nq0).symm
        have hzA : ∀ {xs : List V} {ss : List (Int × Int)}, Pairs K H8 xs ss → Pairs K (upd H8 q0 (.lst (([1, -1] : List Int).map V.int))) xs ss := fun h => h.same sA
        have IA : WyI K H m es b d r (upd H8 q0 (.lst (([1, -1] : List Int).map V.int))) rs' (st + 1) ad wy pl := by
          refine ⟨I8.same.trans sA, sA _ _ I8.dd, sA _ _ I8.rr, I8.nd, I8.rng, I8.a0, fun p hp => ?_, I8.way⟩
          obtain ⟨c1, c2, xs, c3, c4⟩ := I8.cell p hp
          exact ⟨c1, c2, xs, sA _ _ c3, c4.same sA⟩
        have q0H : H q0 = none := none_back I8.same nq0
        refine ⟨false, q0, ([1, -1] : List Int).map V.int, rfl, SqL.of eA, fun J C O hC => for_by O (fun i2 σ H9 => ∃ (rs9 : List Int) (ad : Int → Addr) (wy : Int → List (Int × Int)) (pl : Int → List Int) (v7 v8 v9 : Option V), σ = [some (.ref l), some (.ref q), some (.ref r0), some (.ref d), some (.ref r), some (.int p), some (.int hn), v7, v8, v9] ∧ WyI K H m es b d r H9 rs9 (st + 1) ad wy pl ∧ (∃ more, rs9 = rs ++ more) ∧ H9 q0 = some (.lst (([1, -1] : List Int).map V.int)) ∧ (∀ t ∈ hs.take i, WyC es rs9 p t) ∧ (1 ≤ i2 → (tieOf es hn).1 = p → (tieOf es hn).2 ∈ rs9) ∧ (2 ≤ i2 → (tieOf es hn).2 = p → (tieOf es hn).1 ∈ rs9)) ⟨rs', ad, wy, pl, _, _, _, rfl, IA, ⟨more, em⟩, eA, hdone, fun h => absurd h (by decide), fun h => absurd h (by decide)⟩ (fun i2 σ H9 _ h => ?_) ?_ ?_⟩
        · obtain ⟨rs9, ad, wy, pl, v7, v8, v9, _, _, _, e9, _⟩ := h
          exact hC _ (SqL.of e9)
        · rintro i2 σ H9 hi2 ⟨rs9, ad, wy, pl, v7, v8, v9, rfl, I9, ⟨more, em⟩, e9, hdone, hd1, hd2⟩
          obtain ⟨sg, esg, gsg⟩ := getD_map_int hi2
          have hsg : (i2 = 0 ∧ sg = 1) ∨ (i2 = 1 ∧ sg = -1) := by
            have : i2 < 2 := hi2
            have : i2 = 0 ∨ i2 = 1 := by omega
            rcases this with y | y
            · rw [y] at gsg; exact .inl ⟨y, (Option.some.inj gsg).symm⟩
            · rw [y] at gsg; exact .inr ⟨y, (Option.some.inj gsg).symm⟩
          obtain ⟨rr, ar, hr2, hm⟩ := tie_get (hx.same I9.same) hnr.1 hnr.2
          try dsimp only
          rw [esg]
          have hv : StV es (hn, sg) := ⟨hnr.1, hnr.2, by rcases hsg with ⟨_, y⟩ | ⟨_, y⟩; exact .inl y; exact .inr y⟩
          refine ⟨_, rfl, _, rfl, l, xs, _, .ref rr, rfl, rfl, I9.same.seq hl, ar, rr, _, rfl, hr2, rfl, _, _, rfl, _, _, rfl, rfl, ?_⟩
          refine ⟨fun σ' H' => H' = H9 ∧ σ' = [some (.ref l), some (.ref q), some (.ref r0), some (.ref d), some (.ref r), some (.int p), some (.int hn), some (.int sg), some (.int (stB es (hn, sg))), some (.int (stE es (hn, sg)))], ?_, ?_⟩
          · rcases hsg with ⟨y, rfl⟩ | ⟨y, rfl⟩
            · refine ⟨_, rfl, _, _, rfl, rfl, _, rfl, ?_⟩
              rw [decide_eq_false (show ¬ (1 : Int) < 0 by decide)]
              exact iteF ⟨rfl, rfl⟩
            · refine ⟨_, rfl, _, _, rfl, rfl, _, rfl, ?_⟩
              rw [decide_eq_true (show (-1 : Int) < 0 by decide)]
              exact iteT ⟨_, rfl, _, rfl, _, _, rfl, rfl, rfl⟩
          rintro σ' H' ⟨rfl, rfl⟩
          have hor := st_rng hE hv
          obtain ⟨o, eo⟩ : ∃ o, o = stE es (hn, sg) := ⟨_, rfl⟩
          rw [← eo] at hor
          have hp9 : p ∈ rs9 := by rw [em]; exact List.mem_append_left _ hpm
          have hrl9 := nodup_len I9.nd I9.rng
          have hle9 : st + 1 ≤ rs9.length := by rw [em, List.length_append]; omega
          refine ⟨fun σ' H2 => ∃ (rs2 : List Int) (ad : Int → Addr) (wy : Int → List (Int × Int)) (pl : Int → List Int), σ' = [some (.ref l), some (.ref q), some (.ref r0), some (.ref d), some (.ref r), some (.int p), some (.int hn), some (.int sg), some (.int (stB es (hn, sg))), some (.int (stE es (hn, sg)))] ∧ WyI K H m es b d r H2 rs2 (st + 1) ad wy pl ∧ (∃ more, rs2 = rs ++ more) ∧ H2 q0 = some (.lst (([1, -1] : List Int).map V.int)) ∧ (∀ z ∈ rs9, z ∈ rs2) ∧ (stB es (hn, sg) = p → stE es (hn, sg) ∈ rs2), ?_, ?_⟩
          · refine ⟨_, rfl, _, rfl, rfl, _, rfl, ?_⟩
            by_cases cB : stB es (hn, sg) = p
            · rw [decide_eq_true (show V.int (stB es (hn, sg)) = V.int p by rw [cB])]
              refine iteT ⟨_, rfl, _, rfl, d, _, rfl, DGet.k (k := Sum.inl (stE es (hn, sg))) I9.dd, _, rfl, ?_⟩
              rw [valV_key, ← eo]
              by_cases ho : o ∈ rs9
              · rw [if_pos ho]
                exact iteF ⟨rs9, ad, wy, pl, rfl, I9, ⟨more, em⟩, e9, fun z hz => hz, fun _ => ho⟩
              · rw [if_neg ho]
                refine iteT ?_
                obtain ⟨n1, nr1, xs1, c1, c1p⟩ := I9.cell p hp9
                obtain ⟨wp, wq⟩ := I9.way p hp9
                have hwl : (wy p).length ≤ 20 := by
                  rw [wp.len]
                  have := nodup_len (m := m) wp.nd fun z hz => by
                    rcases List.mem_append.mp hz with y | y
                    · exact I9.rng z (wq z y)
                    · rw [List.mem_singleton.mp y]; exact I9.rng p hp9
                  rw [List.length_append] at this
                  omega
                have hx1 := c1p.len
                have hvr : 0 < rmA (List.replicate es.length ((1 : Int), (1 : Int))) (hn, sg) := by
                  unfold rmA
                  rw [List.getD_eq_getElem?_getD, List.getElem?_replicate, if_pos (show hn.toNat < es.length by omega)]
                  split <;> decide
                refine ⟨_, rfl, _, rfl, d, .ref (ad p), rfl, ?_, _, rfl, _, rfl, (by show 2 ≤ sizeLine; decide), fun g ng => ⟨(by show 1 ≤ sizeLine; decide), fun q1 nq1 => ?_⟩⟩
                · have := DGet.k (k := Sum.inl p) I9.dd
                  rw [valV_key, if_pos hp9] at this
                  exact this
                have sg1 := Same.new (o := .tup [V.int hn, V.int sg]) ng
                have eg1 : (upd H' g (.tup [V.int hn, V.int sg])) g = some (.tup [V.int hn, V.int sg]) := upd_same
                generalize upd H' g (.tup [V.int hn, V.int sg]) = HG at sg1 eg1 nq1
                have s9 := sg1.next (o := .lst [V.ref g]) nq1
                have g9 := Same.new (o := .lst [V.ref g]) nq1 _ _ eg1
                have e9' : (upd HG q1 (.lst [V.ref g])) q1 = some (.lst [V.ref g]) := upd_same
                generalize upd HG q1 (.lst [V.ref g]) = H9' at s9 g9 e9'
                refine ⟨ad p, q1, _, _, rfl, rfl, s9 _ _ c1, e9', Nat.le_of_lt (small1000 (by show xs1.length + 1 ≤ 1000; omega)), fun q2 nq2 => ?_⟩
                have s10 := s9.next (o := .lst (xs1 ++ [V.ref g])) nq2
                have g10 := Same.new (o := .lst (xs1 ++ [V.ref g])) nq2 _ _ g9
                have e10 : (upd H9' q2 (.lst (xs1 ++ [V.ref g]))) q2 = some (.lst (xs1 ++ [V.ref g])) := upd_same
                generalize upd H9' q2 (.lst (xs1 ++ [V.ref g])) = H10 at s10 g10 e10
                have q2H8 : H' q2 = none := none_back s9 nq2
                have d10 := s10 _ _ I9.dd
                have r10 := s10 _ _ I9.rr
                have w10 : Pairs K H10 (xs1 ++ [V.ref g]) (wy p ++ [(hn, sg)]) := (c1p.same s10).snoc (SqT.of g10)
                have pk : putK (rs9.map fun p => ((Sum.inl p : Key), V.ref (ad p))) (Sum.inl o) (V.ref q2) = (rs9 ++ [o]).map fun z => ((Sum.inl z : Key), V.ref (if z = o then q2 else ad z)) := by
                  rw [putK_new _ (by rw [valV_key, if_neg ho]), List.map_append]
                  congr 1
                  · refine List.map_congr_left fun z hz => ?_
                    rw [if_neg (show ¬ z = o from fun y => ho (y ▸ hz))]
                  · rw [List.map_cons, List.map_nil, if_pos rfl]
                refine ⟨_, rfl, _, rfl, d, _, rfl, DPut.k (k := Sum.inl o) d10 (small1000 (by rw [List.length_map]; omega)), ?_⟩
                rw [pk]
                have x11 : SameX d H10 (upd H10 d (.dK ((rs9 ++ [o]).map fun z => ((Sum.inl z : Key), V.ref (if z = o then q2 else ad z))))) := sameX_upd
                have d11 : (upd H10 d (.dK ((rs9 ++ [o]).map fun z => ((Sum.inl z : Key), V.ref (if z = o then q2 else ad z))))) d = some (.dK ((rs9 ++ [o]).map fun z => ((Sum.inl z : Key), V.ref (if z = o then q2 else ad z)))) := upd_same
                have s11 : Same H (upd H10 d (.dK ((rs9 ++ [o]).map fun z => ((Sum.inl z : Key), V.ref (if z = o then q2 else ad z))))) := (I9.same.trans s10).upd nd
                generalize upd H10 d (.dK ((rs9 ++ [o]).map fun z => ((Sum.inl z : Key), V.ref (if z = o then q2 else ad z)))) = H11 at x11 d11 s11
                have r11 := x11 _ _ drn.symm r10
                have hdl : ((rs9.drop (st + 1)).map V.int).length ≤ 20 := by rw [List.length_map, List.length_drop]; omega
                refine ⟨_, rfl, .inl ⟨rfl, _, SqL.of r11⟩, _, rfl, r, _, _, rfl, rfl, r11, small1000 (by omega), ?_⟩
                have x12 : SameX r H11 (upd H11 r (.lst ((rs9.drop (st + 1)).map V.int ++ [V.int o]))) := sameX_upd
                have r12 : (upd H11 r (.lst ((rs9.drop (st + 1)).map V.int ++ [V.int o]))) r = some (.lst (((rs9 ++ [o]).drop (st + 1)).map V.int)) := by rw [List.drop_append_of_le_length hle9, List.map_append]; exact upd_same
                have s12 : Same H (upd H11 r (.lst ((rs9.drop (st + 1)).map V.int ++ [V.int o]))) := s11.upd rH
                generalize upd H11 r (.lst ((rs9.drop (st + 1)).map V.int ++ [V.int o])) = H12 at x12 r12 s12
                have q2r : q2 ≠ r := (ne_of_none I9.rr q2H8).symm
                have q2d : q2 ≠ d := (ne_of_none I9.dd q2H8).symm
                have lq : ∀ z ∈ rs9, ad z ≠ d := fun z hz => let ⟨_, _, _, c, _⟩ := I9.cell z hz; ne_of c I9.dd (by intro y; cases y)
                have pt : ∀ {xs : List V} {ss : List (Int × Int)}, Pairs K H10 xs ss → Pairs K H12 xs ss := fun h => (pairs_sxD x11 d10 h).sameX x12 r11
                refine ⟨rs9 ++ [o], fun z => if z = o then q2 else ad z, fun z => if z = o then wy p ++ [(hn, sg)] else wy z, fun z => if z = o then pl p ++ [p] else pl z, rfl, ⟨s12, x12 _ _ drn d11, r12, nodup_snoc I9.nd ho, fun z hz => ?_, List.mem_append_left _ I9.a0, fun z hz => ?_, fun z hz => ?_⟩, ⟨more ++ [o], by rw [em, List.append_assoc]⟩, x12 _ _ q0r (x11 _ _ q0d (s10 _ _ e9)), fun z hz => List.mem_append_left _ hz, fun _ => List.mem_append_right _ (List.mem_singleton.mpr rfl)⟩
                · rcases List.mem_append.mp hz with y | y
                  · exact I9.rng z y
                  · rw [List.mem_singleton.mp y]; exact hor
                · try dsimp only
                  rcases List.mem_append.mp hz with y | y
                  · have hne : ¬ z = o := fun w => ho (w ▸ y)
                    obtain ⟨n2, nr2, xs2, c2, c2p⟩ := I9.cell z y
                    rw [if_neg hne, if_neg hne]
                    exact ⟨n2, nr2, xs2, x12 _ _ nr2 (x11 _ _ (lq z y) (s10 _ _ c2)), pt (c2p.same s10)⟩
                  · rw [if_pos (List.mem_singleton.mp y), if_pos (List.mem_singleton.mp y)]
                    exact ⟨none_back I9.same q2H8, q2r, _, x12 _ _ q2r (x11 _ _ q2d e10), pt w10⟩
                · try dsimp only
                  rcases List.mem_append.mp hz with y | y
                  · have hne : ¬ z = o := fun w => ho (w ▸ y)
                    rw [if_neg hne, if_neg hne]
                    exact ⟨(I9.way z y).1, fun w hw => List.mem_append_left _ ((I9.way z y).2 w hw)⟩
                  · have hzo := List.mem_singleton.mp y
                    rw [if_pos hzo, if_pos hzo, hzo, eo]
                    refine ⟨.snoc wp hv cB hvr fun w => ?_, fun w hw => ?_⟩
                    · rw [← eo] at w
                      rcases List.mem_append.mp w with y | y
                      · exact ho (wq _ y)
                      · exact ho (List.mem_singleton.mp y ▸ hp9)
                    · rcases List.mem_append.mp hw with y | y
                      · exact List.mem_append_left _ (wq _ y)
                      · rw [List.mem_singleton.mp y]; exact List.mem_append_left _ hp9
            · rw [decide_eq_false (show ¬ V.int (stB es (hn, sg)) = V.int p by intro z; injection z with z; exact cB z)]
              exact iteF (iteF ⟨rs9, ad, wy, pl, rfl, I9, ⟨more, em⟩, e9, fun z hz => hz, fun z => absurd z cB⟩)
          · rintro σ' H2 ⟨rs2, ad, wy, pl, rfl, I2, ext, e2, hsub, hnew⟩
            refine ⟨rs2, ad, wy, pl, _, _, _, rfl, I2, ext, e2, fun t ht => (hdone t ht).mono hsub, fun h1 c1 => ?_, fun h2 c2 => ?_⟩
            · rcases hsg with ⟨y, rfl⟩ | ⟨y, rfl⟩
              · exact hnew c1
              · exact hsub _ (hd1 (by omega) c1)
            · rcases hsg with ⟨y, rfl⟩ | ⟨y, rfl⟩
              · omega
              · exact hnew c2
        · rintro σ H9 ⟨rs9, ad, wy, pl, v7, v8, v9, rfl, I9, ext, e9, hdone, hd1, hd2⟩
          refine ⟨rs9, ad, wy, pl, _, _, _, _, rfl, I9, ext, fun t ht => ?_⟩
          rw [take_snoc ghn] at ht
          rcases List.mem_append.mp ht with y | y
          · exact hdone t y
          · rw [List.mem_singleton.mp y]
            exact ⟨hd1 (by decide), hd2 (by decide)⟩
      · rintro σ H8 ⟨rs', ad, wy, pl, v6, v7, v8, v9, rfl, I8, ⟨more, em⟩, hdone⟩
        rw [List.length_map, List.take_length] at hdone
        have hrl8 := nodup_len I8.nd I8.rng
        refine ⟨m.toNat - (st + 1), by omega, rs', st + 1, ad, wy, pl, _, _, _, _, _, rfl, rfl, I8, by rw [em, List.length_append]; omega, fun j hj t ht => ?_⟩
        by_cases hjs : j < st
        · have ej : rs'.getD j 0 = rs.getD j 0 := by rw [em, List.getD_eq_getElem?_getD, List.getElem?_append_left (by omega), List.getD_eq_getElem?_getD]
          rw [ej]
          exact (clo j hjs t ht).mono fun z hz => by rw [em]; exact List.mem_append_left _ hz
        · have hje : j = st := by omega
          have ej : rs'.getD j 0 = p := by rw [hje, ep, em, List.getD_eq_getElem?_getD, List.getElem?_append_left hlt, List.getD_eq_getElem?_getD]
          rw [ej]
          exact hdone t ht
    · rw [decide_eq_false (show ¬ (0 : Int) < (((rs.drop st).map V.int).length : Int) by omega)]
      refine iteF ?_
      have hcl : ∀ p ∈ rs, ∀ t ∈ hs, WyC es rs p t := fun p hp t ht => by
        obtain ⟨j, hj, rfl⟩ := List.mem_iff_getElem.mp hp
        have ej : rs.getD j 0 = rs[j] := by rw [List.getD_eq_getElem?_getD, List.getElem?_eq_getElem hj]; rfl
        rw [← ej]
        exact clo j (by omega) t ht
      have ha : a ∈ rs := cn_closed I.a0 (fun e he p hp hor => by
        obtain ⟨t, ht, rfl⟩ := List.mem_map.mp he
        have h := hcl p hp t ht
        unfold far
        split
        · rename_i c
          exact h.1 c
        · rename_i c
          rcases hor with y | y
          · exact absurd y c
          · exact h.2 y) hcn
      obtain ⟨c0, _, ws, c1, c1p⟩ := I.cell a ha
      refine ⟨_, rfl, _, rfl, r0, _, 0, _, rfl, rfl, I.same.tup ht, rfl, d, .ref (ad a), rfl, ?_, k (ad a) ws (wy a) (pl a) H5 c0 I.same c1 c1p (I.way a ha).1⟩
      have := DGet.k (k := Sum.inl a) I.dd
      rw [valV_key, if_pos ha] at this
      exact this
theorem ring_round {es rm : List (Int × Int)} {as : List Int} {t : Int} {ss : List (Int × Int)} {ps : List Int} {z B C : Int} (hl : as.length = es.length) (h0 : 0 ≤ t) (h1 : t < (es.length : Int)) (hW : WayS es rm (tieOf es t).2 ss ps (tieOf es t).1) (hf : ∀ p : Int, dp p es as es.length = 0) (hz : -B ≤ z ∧ z ≤ B) (hC : ∀ i, i < es.length → -C ≤ as.getD i 0 ∧ as.getD i 0 ≤ C) :
    (∀ p : Int, dp p es (psh (as.set t.toNat (as.getD t.toNat 0 + z)) ss z) es.length = 0) ∧ ∀ i, i < es.length → -(C + 2 * B) ≤ (psh (as.set t.toNat (as.getD t.toNat 0 + z)) ss z).getD i 0 ∧ (psh (as.set t.toNat (as.getD t.toNat 0 + z)) ss z).getD i 0 ≤ C + 2 * B := by
  have hv : StV es (t, 1) := ⟨h0, h1, .inl rfl⟩
  have hl1 : (as.set t.toNat (as.getD t.toNat 0 + z)).length = es.length := (List.length_set ..).trans hl
  have e1 : ∀ p : Int, dp p es (as.set t.toNat (as.getD t.toNat 0 + z)) es.length = dp p es as es.length + (if (tieOf es t).2 = p then z else 0) - (if (tieOf es t).1 = p then z else 0) := fun p => by
    have := dp_step1 (z := z) hl hv p
    dsimp only at this
    rw [Int.one_mul] at this
    exact this
  have b1 : ∀ i, i < es.length → -(C + B) ≤ (as.set t.toNat (as.getD t.toNat 0 + z)).getD i 0 ∧ (as.set t.toNat (as.getD t.toNat 0 + z)).getD i 0 ≤ C + B := fun i hi => by
    rw [getDi_set _ _ _ _ (by omega)]
    have c1 := hC i hi
    have c2 := hC t.toNat (by omega)
    split <;> omega
  refine ⟨fun p => ?_, fun i hi => ?_⟩
  · rw [hW.dp hl1 p, e1 p, hf p]; omega
  have c1 := b1 i hi
  by_cases hs : ∃ s ∈ ss, s.1.toNat = i
  · obtain ⟨s, hs, es'⟩ := hs
    have hsv := (hW.step s hs).1
    have e := psh_in (z := z) hl1 (fun u hu => (hW.step u hu).1) hW.tnd hs
    rw [es'] at e
    rw [e]
    rcases hsv.2.2 with c | c
    · rw [c, Int.one_mul]; omega
    · rw [c, Int.neg_mul, Int.one_mul]; omega
  · rw [psh_out fun s h1 h2 => hs ⟨s, h1, h2⟩]
    omega
theorem held_cn {es : List (Int × Int)} {t : Int} (h0 : 0 ≤ t) (h1 : t < (es.length : Int)) : Cn (sub es ((upto es.length).filter fun z => !((fre es).any (· == z)))) (tieOf es t).2 (tieOf es t).1 := by
  have hm : tieOf es t ∈ es := by
    unfold tieOf
    rw [List.getD_eq_getElem?_getD, List.getElem?_eq_getElem (show t.toNat < es.length by omega)]; exact List.getElem_mem _
  have h2 := frst_cn es es.length (Nat.le_refl _) (a := (tieOf es t).2) (b := (tieOf es t).1) (by rw [List.take_length]; exact Cn.eit hm)
  refine h2.mono fun e he => ?_
  obtain ⟨u, hu, rfl⟩ := List.mem_map.mp he
  have hu' := mem_frN.mp hu
  refine List.mem_map.mpr ⟨u, List.mem_filter.mpr ⟨mem_upto.mpr ⟨hu'.1, hu'.2.1⟩, ?_⟩, rfl⟩
  rw [Bool.not_eq_true', ← Bool.not_eq_true]
  intro hc
  obtain ⟨y, hy, ey⟩ := List.any_eq_true.mp hc
  rw [eq_of_beq ey] at hy
  have := (List.mem_filter.mp hy).2
  rw [show (frst es).any (· == u) = true from memI_iff.mpr hu] at this
  cases this
theorem flt_len' (g : Int → Bool) (n i : Nat) : (((upto n).take i).filter g).length ≤ i := Nat.le_trans (List.length_filter_le _ _) (by rw [List.length_take]; omega)
def spSm (K : PySem.W.Frag) : Sp := fun vs H Q _ => ∃ (l v : Addr) (m : Int) (xs : List V) (es : List (Int × Int)) (zs : List Int), vs = [.int m, .ref l, .ref v] ∧ SqL K H l xs ∧ Pairs K H xs es ∧ SqL K H v (zs.map V.int) ∧ zs.length = es.length ∧ 1 ≤ m ∧ m ≤ 20 ∧ es.length ≤ 12 ∧ EndsIn es m ∧ (∀ i, i < es.length → -10 ^ 38 ≤ zs.getD i 0 ∧ zs.getD i 0 ≤ 10 ^ 38) ∧
  ∀ l2 fs H', H l2 = none → Same H H' → H' l2 = some (.lst (fs.map V.int)) → fs.length = es.length → (∀ p : Int, dp p es fs es.length = 0) → (∀ i, i < es.length → -(24 * 10 ^ 38) ≤ fs.getD i 0 ∧ fs.getD i 0 ≤ 24 * 10 ^ 38) → Q (.ref l2) H'
theorem scSm : FnScope ["many", "ties", "values", "free", "amounts", "k", "way", "number", "sign"] ["many", "ties", "values"] (defScope sSm) := ⟨rfl, rfl, rfl, by decide +kernel, rfl, by decide +kernel, by decide +kernel⟩
set_option maxHeartbeats 8000000 in
theorem ok_Sm {f : Addr} {fd : FuncData} (F : Fun K "_law_ring_sum" "_law_ring_sum" sSm f fd) (T : Txt K mg c) (D_Lf : Def P w K mg base 1 "_law_free" ["many", "ties"] (spLf K)) (D_Wy : Def P w K mg base 1 "_law_way" ["ties", "held", "ends"] (spWy K)) : FnOk P w K mg base CX0 2 f fd ["many", "ties", "values"] (spSm K) := by
  refine F.ok scSm (fun vs H Q E h => ?_) (fun cdv A outer s H vs Q E hr h => ?_)
  · obtain ⟨l, v, m, xs, es, zs, rfl, _⟩ := h
    rfl
  · obtain ⟨l, v, m, xs, es, zs, rfl, hl, hx, hv, hvl, m1, m2, hz, hE, hB, k⟩ := h
    refine ⟨_, pss_cons (ps_set (i := 3) scSm.nd rfl (Or.inr rfl) (pe_defR D_Lf hr (pa_cons (pv 0) (pa_cons (pv 1) pa_nil))))
      (pss_cons (ps_set (i := 4) scSm.nd rfl (Or.inl rfl) (pe_op op_rep (pe_lst (pa_cons (pe_int) pa_nil)) (pe_callB (cLen (K := K) rfl) (by rfl) T.len PySem.boot_len (pa_cons (pv 1) pa_nil))))
      (pss_cons (ps_for PassesOwn.never rfl (pi_range1 rfl T.range (pa_cons (pe_callB (cLen (K := K) rfl) (by rfl) T.len PySem.boot_len (pa_cons (pv 3) pa_nil)) pa_nil)) (pg_name (i := 5) scSm.nd rfl (Or.inl rfl))
        (pss_cons (ps_set (i := 6) scSm.nd rfl (Or.inl rfl) (pe_defR D_Wy hr (pa_cons (pv 1) (pa_cons (pe_lc (N' := ["number", "free"]) (nl := 1) (js := [3]) rfl (.of (osc := defScope sSm) (N := ["many", "ties", "values", "free", "amounts", "k", "way", "number", "sign"]) (by decide +kernel) rfl rfl) (pi_range1 rfl T.range (pa_cons (pe_callB (cLen (K := K) rfl) (by rfl) T.len PySem.boot_len (pa_cons (pv 1) pa_nil)) pa_nil))
        (fun _ _ _ _ => pg_name (i := 0) (show (["number", "free"] : List Str).Nodup by decide +kernel) rfl (Or.inl rfl)) (fun _ _ _ _ => pif_one (pt_cmpR (opNotIn (K := K) rfl) (pv 0) (pv 1) (by with_unfolding_all rfl)))
        (fun _ _ _ _ => pv 0)) (pa_cons (pe_ix (ixL (K := K) rfl) (pv 1) (pe_ix (ixL (K := K) rfl) (pv 3) (pv 5) (fun _ _ => rfl)) (fun _ _ => rfl)) pa_nil)))))
      (pss_cons (ps_asg (pe_op op_add (pe_ix (ixL (K := K) rfl) (pv 4) (pe_ix (ixL (K := K) rfl) (pv 3) (pv 5) (fun _ _ => rfl)) (fun _ _ => rfl)) (pe_ix (ixL (K := K) rfl) (pv 2) (pv 5) (fun _ _ => rfl))) (pg_sub (pv 4) (pe_ix (ixL (K := K) rfl) (pv 3) (pv 5) (fun _ _ => rfl)) set_list))
      (pss_one (ps_for PassesOwn.never rfl (piSeqB (K := K) rfl (pv 6)) (pgTup (K := K) (n := 2) rfl rfl (pgs_cons (pg_name (i := 7) scSm.nd rfl (Or.inl rfl)) (pgs_cons (pg_name (i := 8) scSm.nd rfl (Or.inl rfl)) (pgs_nil))) rfl)
        (pss_one (ps_asg (pe_op op_add (pe_ix (ixL (K := K) rfl) (pv 4) (pv 7) (fun _ _ => rfl)) (pe_op op_mulB (pv 8) (pe_ix (ixL (K := K) rfl) (pv 2) (pv 5) (fun _ _ => rfl)))) (pg_sub (pv 4) (pv 7) set_list))))))))
      (pss_one (ps_ret (pv 4))))), ?_⟩
    refine ⟨_, rfl, _, rfl, l, m, xs, es, rfl, hl, hx, m1, m2, by omega, hE, fun fl H1 nfl s1 e1 => ?_⟩
    refine ⟨(by show 1 ≤ sizeLine; decide), fun l1 nl1 => ?_⟩
    have s2 := s1.next (o := .lst [V.int 0]) nl1
    have e2 : (upd H1 l1 (.lst [V.int 0])) l1 = some (.lst [V.int 0]) := upd_same
    have f2 := Same.new (o := .lst [V.int 0]) nl1 _ _ e1
    generalize upd H1 l1 (.lst [V.int 0]) = H2 at s2 e2 f2
    have hxl := hx.len
    refine ⟨_, rfl, l, xs, rfl, .inl (s2.seq hl), l1, (xs.length : Int), _, rfl, rfl, e2, by omega, by omega, ?_, fun al nal => ?_⟩
    · exact Nat.le_of_lt (small1000 (by show 1 * (xs.length : Int).toNat ≤ 1000; omega))
    rw [rep_ints, show ((xs.length : Int)).toNat = es.length from hxl]
    have s3 := s2.next (o := .lst ((List.replicate es.length (0 : Int)).map V.int)) nal
    have e3 : (upd H2 al (.lst ((List.replicate es.length (0 : Int)).map V.int))) al = some (.lst ((List.replicate es.length (0 : Int)).map V.int)) := upd_same
    have f3 := Same.new (o := .lst ((List.replicate es.length (0 : Int)).map V.int)) nal _ _ f2
    have nalH : H al = none := none_back s2 nal
    have nfa : fl ≠ al := ne_of_none f2 nal
    generalize upd H2 al (.lst ((List.replicate es.length (0 : Int)).map V.int)) = H3 at s3 e3 f3
    clear e2 f2
    have rep0 : ∀ k : Nat, (List.replicate es.length (0 : Int)).getD k 0 = 0 := fun k => by
      rw [List.getD_eq_getElem?_getD, List.getElem?_replicate]; split <;> rfl
    have hfl := fre_len es
    have hfm : ((fre es).map V.int).length = (fre es).length := List.length_map ..
    refine ⟨_, rfl, fl, _, rfl, .inl (SqL.of f3), (((fre es).map V.int).length : Int), rfl, by omega, by omega, for_by itok_range (fun i σ H4 => ∃ (as : List Int) (v5 v6 v7 v8 : Option V), σ = [some (.int m), some (.ref l), some (.ref v), some (.ref fl), some (.ref al), v5, v6, v7, v8] ∧ Same H H4 ∧ H4 fl = some (.lst ((fre es).map V.int)) ∧ H4 al = some (.lst (as.map V.int)) ∧ as.length = es.length ∧ (∀ p : Int, dp p es as es.length = 0) ∧ ∀ t, t < es.length → -(2 * (i : Int) * 10 ^ 38) ≤ as.getD t 0 ∧ as.getD t 0 ≤ 2 * (i : Int) * 10 ^ 38) ⟨_, none, none, none, none, rfl, s3, f3, e3, List.length_replicate .., fun p => dp_nil .., fun t ht => by rw [rep0]; decide⟩ (fun _ _ _ _ _ => trivial) ?_ ?_⟩
    · rintro i σ H4 hi ⟨as, v5, v6, v7, v8, rfl, s4, f4, a4, hal, hfw, hb⟩
      have hi' : i < (fre es).length := by have : i < ((fre es).map V.int).length := hi; omega
      obtain ⟨t, et⟩ : ∃ t, t = (fre es).getD i 0 := ⟨_, rfl⟩
      have htm : t ∈ fre es := by rw [et, List.getD_eq_getElem?_getD, List.getElem?_eq_getElem hi']; exact List.getElem_mem hi'
      have htr := mem_fre htm
      have atf : atI ((fre es).map V.int) (0 + (i : Nat) : Int) = some (.int t) := by
        have := at_int (ns := fre es) (k := (0 + (i : Nat) : Int)) (by omega) (by omega)
        rw [et]
        rwa [show (0 + (i : Nat) : Int).toNat = i by omega] at this
      have atv : atI (zs.map V.int) (0 + (i : Nat) : Int) = some (.int (zs.getD i 0)) := by
        have := at_int (ns := zs) (k := (0 + (i : Nat) : Int)) (by omega) (by omega)
        rwa [show (0 + (i : Nat) : Int).toNat = i by omega] at this
      refine ⟨_, rfl, _, rfl, l, xs, rfl, .inl (s4.seq hl), (xs.length : Int), rfl, by omega, by omega, ?_⟩
      rw [show ((xs.length : Int)).toNat = es.length from hxl]
      refine lc_by itok_range (fun j ys H5 => H5 = H4 ∧ ys = (((upto es.length).take j).filter fun z => !((fre es).any (· == z))).map V.int) (Nat.le_of_lt (small1000 (by omega))) ⟨rfl, rfl⟩ ?_ ?_ ?_
      · rintro j ys H5 hj ⟨rfl, rfl⟩
        exact ⟨trivial, by rw [List.length_map]; exact flt_len' _ _ _⟩
      · rintro j ys H5 hj ⟨rfl, rfl⟩
        have hg := upto_get hj
        have hl2 := flt_len' (fun z => !((fre es).any (· == z))) es.length j
        try dsimp only
        refine ⟨wk_set rfl, _, rfl, _, rfl, fl, _, rfl, .inl (SqL.of f4), rfl, flat_ints _, _, rfl, ?_⟩
        rw [if_pos rfl, inV_ints, show (0 + (j : Nat) : Int) = j by omega]
        refine ite2 (fun c1 => ?_) (fun c1 => ?_)
        · refine ⟨_, rfl, small1000 (by rw [List.length_map]; omega), _, by omega, rfl, by omega, rfl, ?_⟩
          rw [take_snoc hg, List.filter_append, List.map_append, List.filter_cons_of_pos (p := fun z => !((fre es).any (· == z))) c1]; rfl
        · refine ⟨_, by omega, rfl, by omega, rfl, ?_⟩
          rw [take_snoc hg, List.filter_append, List.map_append, List.filter_cons_of_neg (p := fun z => !((fre es).any (· == z))) c1]; exact (List.append_nil _).symm
      rintro ys H5 ⟨rfl, rfl⟩ hd nhd
      rw [List.take_of_length_le (by rw [upto_len]; exact Nat.le_refl _)]
      obtain ⟨hs, ehs⟩ : ∃ hs, hs = (upto es.length).filter fun z => !((fre es).any (· == z)) := ⟨_, rfl⟩
      have hcn := held_cn (es := es) htr.1 htr.2
      have hhl : hs.length ≤ 40 := by rw [ehs]; exact Nat.le_trans (List.length_filter_le _ _) (by rw [upto_len]; omega)
      have hhr : ∀ u ∈ hs, 0 ≤ u ∧ u < (es.length : Int) := fun u hu => by rw [ehs] at hu; exact mem_upto.mp (List.mem_filter.mp hu).1
      rw [← ehs] at hcn ⊢
      have s6 := s4.next (o := .lst (hs.map V.int)) nhd
      have h6 : (upd H5 hd (.lst (hs.map V.int))) hd = some (.lst (hs.map V.int)) := upd_same
      have s56 := Same.new (o := .lst (hs.map V.int)) nhd
      generalize upd H5 hd (.lst (hs.map V.int)) = H6 at s6 h6 s56
      obtain ⟨rr, ar, hr2, hm⟩ := tie_get (hx.same s6) htr.1 htr.2
      have hbe := hE _ hm
      refine ⟨_, rfl, _, rfl, _, rfl, fl, _, _, _, rfl, rfl, SqL.of (s56 _ _ f4), atf, l, xs, _, .ref rr, rfl, rfl, s6.seq hl, ar, l, hd, rr, m, (tieOf es t).1, (tieOf es t).2, xs, es, hs, rfl, s6.seq hl, hx.same s6, SqL.of h6, hr2, m2, by omega, hE, hbe.2.2.1, hbe.2.2.2, hhl, hhr, hcn, fun wl ws ss pl H7 nwl s7 w7 p7 W => ?_⟩
      have s57 := s56.trans s7
      have s07 := s6.trans s7
      have f7 := s57 _ _ f4
      have a7 := s57 _ _ a4
      have ata : atI (as.map V.int) t = some (.int (as.getD t.toNat 0)) := at_int (ns := as) htr.1 (by omega)
      refine ⟨_, rfl, _, rfl, _, rfl, fl, _, _, _, rfl, rfl, SqL.of f7, atf, al, _, _, _, rfl, rfl, SqL.of a7, ata, _, rfl, _, rfl, v, _, _, _, rfl, rfl, s07.seq hv, atv, _, _, rfl, rfl, ?_⟩
      refine ⟨_, rfl, _, rfl, _, rfl, fl, _, _, _, rfl, rfl, SqL.of f7, atf, al, _, t, _, rfl, rfl, a7, ixN_nat htr.1 (by rw [List.length_map]; omega), ?_⟩
      rw [set_ints]
      obtain ⟨as1, e1⟩ : ∃ as1, as1 = as.set t.toNat (as.getD t.toNat 0 + zs.getD i 0) := ⟨_, rfl⟩
      have hzi := hB i (by omega)
      have hRd := ring_round (z := zs.getD i 0) hal htr.1 htr.2 W hfw hzi hb
      have hl1 : as1.length = es.length := by rw [e1, List.length_set]; exact hal
      rw [← e1] at hRd ⊢
      have x8 : SameX al H7 (upd H7 al (.lst (as1.map V.int))) := sameX_upd
      have a8 : (upd H7 al (.lst (as1.map V.int))) al = some (.lst (as1.map V.int)) := upd_same
      have s8 : Same H (upd H7 al (.lst (as1.map V.int))) := s07.upd nalH
      generalize upd H7 al (.lst (as1.map V.int)) = H8 at x8 a8 s8
      have nwa : wl ≠ al := (ne_of_none (s56 _ _ a4) nwl).symm
      have f8 := x8 _ _ nfa f7
      have w8 := x8 _ _ nwa w7
      have p8 := p7.sameX x8 a7
      have hpl := p8.len
      refine ⟨_, rfl, false, wl, _, rfl, SqL.of w8, fun J C O hC => for_by O (fun j σ H9 => ∃ (v7 v8 : Option V), σ = [some (.int m), some (.ref l), some (.ref v), some (.ref fl), some (.ref al), some (.int (0 + (i : Nat))), some (.ref wl), v7, v8] ∧ Same H H9 ∧ H9 fl = some (.lst ((fre es).map V.int)) ∧ H9 wl = some (.lst ws) ∧ Pairs K H9 ws ss ∧ H9 al = some (.lst ((psh as1 (ss.take j) (zs.getD i 0)).map V.int))) ⟨_, _, rfl, s8, f8, w8, p8, a8⟩ (fun j σ H9 _ h => ?_) ?_ ?_⟩
      · obtain ⟨v7, v8, _, _, _, w9, _⟩ := h
        exact hC _ (SqL.of w9)
      · rintro j σ H9 hj ⟨v7, v8, rfl, s9, f9, w9, p9, a9⟩
        obtain ⟨r, e, er, hre, ei, he⟩ := p9.at hj
        obtain ⟨b1, b2, b3⟩ := (W.step e he).1
        have hsl := psh_len as1 (zs.getD i 0) (ss.take j)
        try dsimp only
        rw [er]
        have hb2 : e.2.natAbs < 2 ^ 200 := by rcases b3 with b | b <;> rw [b] <;> decide
        have hb3 : (zs.getD i 0).natAbs < 2 ^ 200 := by
          have : (zs.getD i 0).natAbs ≤ 10 ^ 38 := by omega
          exact Nat.lt_of_le_of_lt this (by decide)
        refine ⟨r, _, rfl, hre, rfl, _, _, rfl, _, _, rfl, rfl, ?_⟩
        have atp : atI ((psh as1 (ss.take j) (zs.getD i 0)).map V.int) e.1 = some (.int ((psh as1 (ss.take j) (zs.getD i 0)).getD e.1.toNat 0)) := at_int (ns := psh as1 (ss.take j) (zs.getD i 0)) b1 (by omega)
        refine ⟨_, rfl, _, rfl, al, _, _, _, rfl, rfl, SqL.of a9, atp, _, rfl, _, rfl, _, rfl, v, _, _, _, rfl, rfl, s9.seq hv, atv, _, _, rfl, rfl, ⟨hb2, hb3⟩, _, _, rfl, rfl, ?_⟩
        refine ⟨_, rfl, _, rfl, al, _, e.1, _, rfl, rfl, a9, ixN_nat b1 (by rw [List.length_map]; omega), ?_⟩
        rw [set_ints]
        have xA := sameX_upd (a := al) (H := H9) (o := .lst (((psh as1 (ss.take j) (zs.getD i 0)).set e.1.toNat ((psh as1 (ss.take j) (zs.getD i 0)).getD e.1.toNat 0 + e.2 * zs.getD i 0)).map V.int))
        refine ⟨_, _, rfl, s9.upd nalH, xA _ _ nfa f9, xA _ _ nwa w9, p9.sameX xA a9, ?_⟩
        rw [take_snoc ei, psh_snoc]
        exact upd_same
      · rintro σ H9 ⟨v7, v8, rfl, s9, f9, w9, p9, a9⟩
        rw [hpl, List.take_length] at a9
        refine ⟨_, _, _, _, _, rfl, s9, f9, a9, (psh_len ..).trans hl1, hRd.1, fun u hu => ?_⟩
        have := hRd.2 u hu
        have e2 : 2 * ((i + 1 : Nat) : Int) * 10 ^ 38 = 2 * (i : Int) * 10 ^ 38 + 2 * 10 ^ 38 := by omega
        rw [e2]
        exact this
    · rintro σ H4 ⟨as, v5, v6, v7, v8, rfl, s4, f4, a4, hal, hfw, hb⟩
      refine ⟨_, rfl, k al as H4 nalH s4 a4 hal hfw fun t ht => ?_⟩
      have := hb t ht
      rw [hfm] at this
      have e2 : ((((fre es).length : Nat) : Int).toNat : Int) ≤ 12 := by omega
      omega
def spSh (K : PySem.W.Frag) : Sp := fun vs H Q _ => ∃ (l a b p : Addr) (m : Int) (xs : List V) (es : List (Int × Int)) (lo hi ps : List Int), vs = [.ref l, .ref a, .ref b, .ref p] ∧ SqL K H l xs ∧ Pairs K H xs es ∧ SqL K H a (lo.map V.int) ∧ SqL K H b (hi.map V.int) ∧ SqL K H p (ps.map V.int) ∧ lo.length = es.length ∧ hi.length = es.length ∧ es.length ≤ 40 ∧ EndsIn es m ∧ Q (.bl (decide (0 < shS ps es lo hi es.length))) H
theorem scSh : FnScope ["ties", "lows", "highs", "places", "out", "k", "one", "two"] ["ties", "lows", "highs", "places"] (defScope sSh) := ⟨rfl, rfl, rfl, by decide +kernel, rfl, by decide +kernel, by decide +kernel⟩
set_option maxHeartbeats 4000000 in
theorem ok_Sh {f : Addr} {fd : FuncData} (F : Fun K "_law_shut" "_law_shut" sSh f fd) (T : Txt K mg c) : FnOk P w K mg base CX0 1 f fd ["ties", "lows", "highs", "places"] (spSh K) := by
  refine F.ok scSh (fun vs H Q E h => ?_) (fun cdv A outer s H vs Q E hr h => ?_)
  · obtain ⟨l, a, b, p, m, xs, es, lo, hi, ps, rfl, _⟩ := h
    rfl
  · obtain ⟨l, a, b, p, m, xs, es, lo, hi, ps, rfl, hl, hx, ha, hb, hp, hll, hhl, hz, hE, k⟩ := h
    refine ⟨_, pss_cons (ps_set (i := 4) scSh.nd rfl (Or.inl rfl) (pe_int))
      (pss_cons (ps_for PassesOwn.never rfl (pi_range1 rfl T.range (pa_cons (pe_callB (cLen (K := K) rfl) (by rfl) T.len PySem.boot_len (pa_cons (pv 0) pa_nil)) pa_nil)) (pg_name (i := 5) scSh.nd rfl (Or.inl rfl))
        (pss_cons (ps_asg (pe_ix (ixL (K := K) rfl) (pv 0) (pv 5) (fun _ _ => rfl)) (pgTup (K := K) (n := 2) rfl rfl (pgs_cons (pg_name (i := 6) scSh.nd rfl (Or.inl rfl)) (pgs_cons (pg_name (i := 7) scSh.nd rfl (Or.inl rfl)) (pgs_nil))) rfl))
      (pss_cons (ps_cut (ps_if (PW.pt (pw_and (pt_cmpR (opIn (K := K) rfl) (pv 6) (pv 3) (by with_unfolding_all rfl)) (pw_and1 (pt_cmpR (opNotIn (K := K) rfl) (pv 7) (pv 3) (by with_unfolding_all rfl)))))
        (pss_one (ps_set (i := 4) scSh.nd rfl (Or.inl rfl) (pe_op op_add (pv 4) (pe_ix (ixL (K := K) rfl) (pv 1) (pv 5) (fun _ _ => rfl))))) (pss_nil)))
      (pss_one (ps_cut (ps_if (PW.pt (pw_and (pt_cmpR (opNotIn (K := K) rfl) (pv 6) (pv 3) (by with_unfolding_all rfl)) (pw_and1 (pt_cmpR (opIn (K := K) rfl) (pv 7) (pv 3) (by with_unfolding_all rfl)))))
        (pss_one (ps_set (i := 4) scSh.nd rfl (Or.inl rfl) (pe_op op_sub (pv 4) (pe_ix (ixL (K := K) rfl) (pv 2) (pv 5) (fun _ _ => rfl))))) (pss_nil)))))))
      (pss_one (ps_ret (pe_cmpR op_gt (pv 4) (pe_int) (nomark _))))), ?_⟩
    have hxl := hx.len
    refine ⟨_, rfl, l, xs, rfl, .inl hl, (xs.length : Int), rfl, by omega, by omega, for_by itok_range (fun i σ H2 => H2 = H ∧ ∃ (v5 v6 v7 : Option V), σ = [some (.ref l), some (.ref a), some (.ref b), some (.ref p), some (.int (shS ps es lo hi i)), v5, v6, v7]) ⟨rfl, none, none, none, rfl⟩ (fun _ _ _ _ _ => trivial) ?_ ?_⟩
    · rintro i σ H2 hi' ⟨rfl, v5, v6, v7, rfl⟩
      have hi2 : i < es.length := by have : i < xs.length := hi'; omega
      obtain ⟨r, ar, hr2, hm⟩ := tie_get hx (show (0 : Int) ≤ 0 + (i : Nat) by omega) (show (0 + (i : Nat) : Int) < (es.length : Int) by omega)
      have eT : tieOf es (0 + (i : Nat) : Int) = es.getD i (0, 0) := by unfold tieOf; rw [show (0 + (i : Nat) : Int).toNat = i by omega]
      rw [eT] at hr2
      have al : ∀ {us : List Int}, us.length = es.length → atI (us.map V.int) (0 + (i : Nat) : Int) = some (.int (us.getD i 0)) := fun {us} hu => by
        have := at_int (ns := us) (k := (0 + (i : Nat) : Int)) (by omega) (by omega)
        rwa [show (0 + (i : Nat) : Int).toNat = i by omega] at this
      have hstep : shS ps es lo hi (i + 1) = shS ps es lo hi i + (if (ps.any (· == (es.getD i (0, 0)).1) && !ps.any (· == (es.getD i (0, 0)).2)) = true then lo.getD i 0 else 0) - (if (ps.any (· == (es.getD i (0, 0)).2) && !ps.any (· == (es.getD i (0, 0)).1)) = true then hi.getD i 0 else 0) := rfl
      generalize es.getD i (0, 0) = e at *
      refine ⟨_, rfl, _, rfl, l, xs, _, .ref r, rfl, rfl, hl, ar, r, _, rfl, hr2, rfl, _, _, rfl, _, _, rfl, rfl, ?_⟩
      refine ⟨fun σ' H' => H' = H2 ∧ σ' = [some (.ref l), some (.ref a), some (.ref b), some (.ref p), some (.int (shS ps es lo hi i + (if (ps.any (· == e.1) && !ps.any (· == e.2)) = true then lo.getD i 0 else 0))), some (.int (0 + (i : Nat))), some (.int e.1), some (.int e.2)], ?_, ?_⟩
      · refine ⟨_, rfl, _, rfl, p, _, rfl, .inl hp, rfl, flat_ints _, _, rfl, ?_⟩
        rw [if_neg Bool.false_ne_true, inV_ints]
        cases c1 : ps.any (· == e.1)
        · exact iteF (iteF ⟨rfl, by rw [Bool.false_and, if_neg Bool.false_ne_true, Int.add_zero]; rfl⟩)
        · refine iteT ⟨_, rfl, _, rfl, p, _, rfl, .inl hp, rfl, flat_ints _, _, rfl, ?_⟩
          rw [if_pos rfl, inV_ints]
          cases c2 : ps.any (· == e.2)
          · exact iteT ⟨_, rfl, _, rfl, _, rfl, a, _, _, _, rfl, rfl, ha, al hll, _, _, rfl, rfl, rfl, by rw [Bool.true_and, Bool.not_false, if_pos rfl]; rfl⟩
          · exact iteF ⟨rfl, by rw [Bool.true_and, Bool.not_true, if_neg Bool.false_ne_true, Int.add_zero]; rfl⟩
      rintro σ' H' ⟨rfl, rfl⟩
      rw [hstep]
      generalize shS ps es lo hi i + (if (ps.any (· == e.1) && !ps.any (· == e.2)) = true then lo.getD i 0 else 0) = S1
      refine ⟨fun σ' H2 => H2 = H' ∧ σ' = [some (.ref l), some (.ref a), some (.ref b), some (.ref p), some (.int (S1 - (if (ps.any (· == e.2) && !ps.any (· == e.1)) = true then hi.getD i 0 else 0))), some (.int (0 + (i : Nat))), some (.int e.1), some (.int e.2)], ?_, ?_⟩
      · refine ⟨_, rfl, _, rfl, p, _, rfl, .inl hp, rfl, flat_ints _, _, rfl, ?_⟩
        rw [if_pos rfl, inV_ints]
        cases c1 : ps.any (· == e.1)
        · refine iteT ⟨_, rfl, _, rfl, p, _, rfl, .inl hp, rfl, flat_ints _, _, rfl, ?_⟩
          rw [if_neg Bool.false_ne_true, inV_ints]
          cases c2 : ps.any (· == e.2)
          · exact iteF ⟨rfl, by rw [Bool.false_and, if_neg Bool.false_ne_true, Int.sub_zero]⟩
          · exact iteT ⟨_, rfl, _, rfl, _, rfl, b, _, _, _, rfl, rfl, hb, al hhl, _, _, rfl, rfl, rfl, by rw [Bool.true_and, Bool.not_false, if_pos rfl]; rfl⟩
        · exact iteF (iteF ⟨rfl, by rw [Bool.not_true, Bool.and_false, if_neg Bool.false_ne_true, Int.sub_zero]⟩)
      rintro σ' H2 ⟨rfl, rfl⟩
      exact ⟨rfl, _, _, _, rfl⟩
    · rintro σ H2 ⟨rfl, v5, v6, v7, rfl⟩
      rw [show ((xs.length : Int)).toNat = es.length from hxl]
      exact ⟨_, rfl, _, _, rfl, rfl, k⟩
def spGd (K : PySem.W.Frag) : Sp := fun vs H Q _ => ∃ (t f l a b : Addr) (m : Int) (xs : List V) (es : List (Int × Int)) (lo hi fs : List Int), vs = [.ref t, .int m, .ref l, .ref a, .ref b] ∧ SqL K H l xs ∧ Pairs K H xs es ∧ SqL K H a (lo.map V.int) ∧ SqL K H b (hi.map V.int) ∧ lo.length = es.length ∧ hi.length = es.length ∧ es.length ≤ 12 ∧ 1 ≤ m ∧ m ≤ 7 ∧ EndsIn es m ∧ H f = some (.lst (fs.map V.int)) ∧
  ((H t = some (.tup [.str "flow", .ref f]) ∧ BtF es lo hi fs) ∨ (H t = some (.tup [.str "shut", .ref f]) ∧ (∃ R, fs = rst m.toNat R) ∧ 0 < shS fs es lo hi es.length)) ∧ ∀ H', Same H H' → Q (.bl true) H'
theorem scGd : FnScope ["found", "many", "ties", "lows", "highs", "inside"] ["found", "many", "ties", "lows", "highs"] (defScope sGd) := ⟨rfl, rfl, rfl, by decide +kernel, rfl, by decide +kernel, by decide +kernel⟩
theorem rep_tv : ∀ n : Nat, (List.replicate n (V.bl true)).all tv = true ∧ (List.replicate n (V.bl true)).all isBI = true
  | 0 => ⟨rfl, rfl⟩
  | n + 1 => by rw [List.replicate_succ, List.all_cons, List.all_cons, (rep_tv n).1, (rep_tv n).2]; exact ⟨rfl, rfl⟩
set_option maxHeartbeats 8000000 in
theorem ok_Gd {f : Addr} {fd : FuncData} (F : Fun K "_law_good" "_law_good" sGd f fd) (T : Txt K mg c) (D_H : Def P w K mg base 1 "_law_whole" ["found"] (spH K)) (D_Lg : Def P w K mg base 1 "_law_gains" ["many", "ties", "amounts"] (spLg K)) (D_Sh : Def P w K mg base 1 "_law_shut" ["ties", "lows", "highs", "places"] (spSh K)) : FnOk P w K mg base CX0 2 f fd ["found", "many", "ties", "lows", "highs"] (spGd K) := by
  refine F.ok scGd (fun vs H Q E h => ?_) (fun cdv A outer s H vs Q E hr h => ?_)
  · obtain ⟨t, f, l, a, b, m, xs, es, lo, hi, fs, rfl, _⟩ := h
    rfl
  · obtain ⟨t, f, l, a, b, m, xs, es, lo, hi, fs, rfl, hl, hx, ha, hb, hll, hhl, hz, m1, m2, hE, hf, hor, k⟩ := h
    have hu : A.units + 3 + 64 < cLine := hr.units
    refine ⟨_, pss_cons (ps_if (PW.pt (pw_or (pt_not (pt_val (pe_callB (cIs (K := K) rfl) (by rfl) T.isinstance PyProof.Rows.boot_isinstance (pa_cons (pv 0) (pa_cons (pe_bltn (v := .ty "tuple") (by rfl) T.tuple PyProof.Rows.boot_tuple rfl) pa_nil))))) (pw_or (pt_cmpR op_ne (pe_callB (cLen (K := K) rfl) (by rfl) T.len PySem.boot_len (pa_cons (pv 0) pa_nil)) (pe_int) (nomark _)) (pw_or1 (pt_not (pt_val (pe_callB (cIs (K := K) rfl) (by rfl) T.isinstance PyProof.Rows.boot_isinstance (pa_cons (pe_ix (ixT (K := K) rfl) (pv 0) (pe_int) (fun _ _ => rfl)) (pa_cons (pe_bltn (v := .ty "list") (by rfl) T.list PyProof.Rows.boot_list rfl) pa_nil)))))))))
        (pss_one (ps_ret (pe_bl))) (pss_nil))
      (pss_cons (ps_if (pt_not (pt_val (pe_callB (cAll (K := K) rfl rfl) (by rfl) T.all PyProof.Rows.boot_all (pa_cons (pe_lc (N' := ["number"]) (nl := 1) (js := []) rfl (.of (osc := defScope sGd) (N := ["found", "many", "ties", "lows", "highs", "inside"]) (by decide +kernel) rfl rfl) (piSeq (K := K) rfl (pe_ix (ixT (K := K) rfl) (pv 0) (pe_int) (fun _ _ => rfl)))
        (fun _ _ _ _ => pg_name (i := 0) (show (["number"] : List Str).Nodup by decide +kernel) rfl (Or.inl rfl)) (fun _ _ _ _ => pif_nil)
        (fun _ _ _ _ => pe_defR D_H hr (pa_cons (pv 0) pa_nil))) pa_nil))))
        (pss_one (ps_ret (pe_bl))) (pss_nil))
      (pss_cons (ps_if (PW.pt (pw_and (pt_cmpR op_eq (pe_ix (ixT (K := K) rfl) (pv 0) (pe_int) (fun _ _ => rfl)) (pe_str) (nomark _)) (pw_and1 (pt_cmpR op_eq (pe_callB (cLen (K := K) rfl) (by rfl) T.len PySem.boot_len (pa_cons (pe_ix (ixT (K := K) rfl) (pv 0) (pe_int) (fun _ _ => rfl)) pa_nil)) (pe_callB (cLen (K := K) rfl) (by rfl) T.len PySem.boot_len (pa_cons (pv 2) pa_nil)) (nomark _)))))
        (pss_cons (ps_set (i := 5) scGd.nd rfl (Or.inl rfl) (pe_callB (cAll (K := K) rfl rfl) (by rfl) T.all PyProof.Rows.boot_all (pa_cons (pe_lc (N' := ["k", "found", "lows", "highs"]) (nl := 1) (js := [0, 3, 4]) rfl (.of (osc := defScope sGd) (N := ["found", "many", "ties", "lows", "highs", "inside"]) (by decide +kernel) rfl rfl) (pi_range1 rfl T.range (pa_cons (pe_callB (cLen (K := K) rfl) (by rfl) T.len PySem.boot_len (pa_cons (pv 2) pa_nil)) pa_nil))
        (fun _ _ _ _ => pg_name (i := 0) (show (["k", "found", "lows", "highs"] : List Str).Nodup by decide +kernel) rfl (Or.inl rfl)) (fun _ _ _ _ => pif_nil)
        (fun _ _ _ _ => pe_and (pe_cmpR op_le (pe_ix (ixL (K := K) rfl) (pv 2) (pv 0) (fun _ _ => rfl)) (pe_ix (ixL (K := K) rfl) (pe_ix (ixT (K := K) rfl) (pv 1) (pe_int) (fun _ _ => rfl)) (pv 0) (fun _ _ => rfl)) (nomark _)) (pe_one (pe_cmpR op_le (pe_ix (ixL (K := K) rfl) (pe_ix (ixT (K := K) rfl) (pv 1) (pe_int) (fun _ _ => rfl)) (pv 0) (fun _ _ => rfl)) (pe_ix (ixL (K := K) rfl) (pv 3) (pv 0) (fun _ _ => rfl)) (nomark _))))) pa_nil)))
      (pss_one (ps_ret (pe_and (pv 5) (pe_one (pe_callB (cAll (K := K) rfl rfl) (by rfl) T.all PyProof.Rows.boot_all (pa_cons (pe_lc (N' := ["total"]) (nl := 1) (js := []) rfl (.of (osc := defScope sGd) (N := ["found", "many", "ties", "lows", "highs", "inside"]) (by decide +kernel) rfl rfl) (piSeq (K := K) rfl (pe_defR D_Lg hr (pa_cons (pv 1) (pa_cons (pv 2) (pa_cons (pe_ix (ixT (K := K) rfl) (pv 0) (pe_int) (fun _ _ => rfl)) pa_nil)))))
        (fun _ _ _ _ => pg_name (i := 0) (show (["total"] : List Str).Nodup by decide +kernel) rfl (Or.inl rfl)) (fun _ _ _ _ => pif_nil)
        (fun _ _ _ _ => pe_cmpR op_eq (pv 0) (pe_int) (nomark _))) pa_nil))))))) (pss_nil))
      (pss_cons (ps_if (PW.pt (pw_or (pt_cmpR op_ne (pe_ix (ixT (K := K) rfl) (pv 0) (pe_int) (fun _ _ => rfl)) (pe_str) (nomark _)) (pw_or (pt_cmpR (opNeD (K := K) rfl hu) (pe_ix (ixT (K := K) rfl) (pv 0) (pe_int) (fun _ _ => rfl)) (pe_srtset (K := K) rfl rfl rfl T.sorted rfl T.set (pa_cons (pe_ix (ixT (K := K) rfl) (pv 0) (pe_int) (fun _ _ => rfl)) pa_nil)) (nomark _)) (pw_or1 (pt_not (pt_val (pe_callB (cAll (K := K) rfl rfl) (by rfl) T.all PyProof.Rows.boot_all (pa_cons (pe_lc (N' := ["k", "many"]) (nl := 1) (js := [1]) rfl (.of (osc := defScope sGd) (N := ["found", "many", "ties", "lows", "highs", "inside"]) (by decide +kernel) rfl rfl) (piSeq (K := K) rfl (pe_ix (ixT (K := K) rfl) (pv 0) (pe_int) (fun _ _ => rfl)))
        (fun _ _ _ _ => pg_name (i := 0) (show (["k", "many"] : List Str).Nodup by decide +kernel) rfl (Or.inl rfl)) (fun _ _ _ _ => pif_nil)
        (fun _ _ _ _ => pe_and (pe_cmpR op_le (pe_int) (pv 0) (nomark _)) (pe_one (pe_cmpR op_lt (pv 0) (pv 1) (nomark _))))) pa_nil))))))))
        (pss_one (ps_ret (pe_bl))) (pss_nil))
      (pss_one (ps_ret (pe_defR D_Sh hr (pa_cons (pv 2) (pa_cons (pv 3) (pa_cons (pv 4) (pa_cons (pe_ix (ixT (K := K) rfl) (pv 0) (pe_int) (fun _ _ => rfl)) pa_nil)))))))))), ?_⟩
    have hxl := hx.len
    have hfm : (fs.map V.int).length = fs.length := List.length_map ..
    obtain ⟨wd, ht⟩ : ∃ wd, H t = some (.tup [.str wd, .ref f]) := by rcases hor with h | h; exact ⟨_, h.1⟩; exact ⟨_, h.1⟩
    have hfl : fs.length ≤ 12 := by
      rcases hor with h | ⟨_, ⟨R, e⟩, _⟩
      · rw [h.2.len]; exact hz
      · rw [e]; have := rst_len m.toNat R; omega
    refine ⟨_, rfl, _, _, _, _, true, rfl, rfl, fun _ z => z, .of (.tup ht), kit_self _ _, _, rfl, iteF ?_⟩
    refine ⟨_, rfl, t, _, rfl, .inr (SqT.of ht), rfl, _, rfl, ?_⟩
    rw [decide_eq_true (show V.int (([V.str wd, V.ref f] : List V).length : Int) = V.int 2 from rfl)]
    refine iteF ⟨_, rfl, t, _, 1, _, rfl, rfl, SqT.of ht, rfl, _, _, _, _, true, rfl, rfl, fun _ z => z, .of (.lst hf), kit_self _ _, _, rfl, iteF ?_⟩
    refine ⟨_, rfl, t, _, 1, _, rfl, rfl, SqT.of ht, rfl, f, _, rfl, .inl (SqL.of hf), fun J C O hC => lc_by O (fun i ys H2 => H2 = H ∧ ys = List.replicate i (V.bl true)) (by rw [hfm]; exact Nat.le_of_lt (small1000 (by omega))) ⟨rfl, rfl⟩ ?_ ?_ ?_⟩
    · rintro i ys H2 hi ⟨rfl, rfl⟩
      exact ⟨hC _ (Same.refl _), by rw [List.length_replicate]; exact Nat.le_refl _⟩
    · rintro i ys H2 hi ⟨rfl, rfl⟩
      obtain ⟨v, ev, gv⟩ := getD_map_int hi
      rw [hfm] at hi
      try dsimp only
      rw [ev]
      refine ⟨wk_set rfl, iteT ⟨_, rfl, _, rfl, small1000 (by rw [List.length_replicate]; omega), _, by omega, rfl, by omega, rfl, ?_⟩⟩
      rw [List.replicate_succ']
    rintro ys H2 ⟨rfl, rfl⟩ la nla
    refine ⟨la, _, rfl, .inl (SqL.of upd_same), (rep_tv _).2, _, rfl, ?_⟩
    rw [(rep_tv _).1]
    refine iteF ?_
    have s1 := Same.new (o := .lst (List.replicate (fs.map V.int).length (V.bl true))) nla
    generalize upd H2 la (.lst (List.replicate (fs.map V.int).length (V.bl true))) = H1 at s1
    have t1 := s1 _ _ ht
    have f1 := s1 _ _ hf
    refine ⟨_, rfl, t, _, 0, _, rfl, rfl, SqT.of t1, rfl, rfl, _, rfl, ?_⟩
    rcases hor with ⟨ht', B⟩ | ⟨ht', ⟨R, eR⟩, hsh⟩
    · have ew : wd = "flow" := by rw [ht] at ht'; injection ht' with e; injection e with e; injection e with e _; injection e
      subst ew
      rw [decide_eq_true rfl]
      refine iteT ⟨_, rfl, t, _, 1, _, rfl, rfl, SqT.of t1, rfl, f, _, rfl, .inl (SqL.of f1), _, rfl, l, _, rfl, .inl (s1.seq hl), rfl, _, rfl, ?_⟩
      rw [decide_eq_true (show V.int ((fs.map V.int).length : Int) = V.int (xs.length : Int) by rw [hfm, B.len, hxl])]
      refine iteT ?_
      refine ⟨_, rfl, l, xs, rfl, .inl (s1.seq hl), (xs.length : Int), rfl, by omega, by omega, ?_⟩
      rw [show ((xs.length : Int)).toNat = es.length from hxl]
      refine lc_by itok_range (fun i ys H3 => H3 = H1 ∧ ys = List.replicate i (V.bl true)) (Nat.le_of_lt (small1000 (by omega))) ⟨rfl, rfl⟩ ?_ ?_ ?_
      · rintro i ys H3 hi ⟨rfl, rfl⟩
        exact ⟨trivial, by rw [List.length_replicate]; exact Nat.le_refl _⟩
      · rintro i ys H3 hi' ⟨rfl, rfl⟩
        have al : ∀ {us : List Int}, us.length = es.length → atI (us.map V.int) (0 + (i : Nat) : Int) = some (.int (us.getD i 0)) := fun {us} hu => by
          have := at_int (ns := us) (k := (0 + (i : Nat) : Int)) (by omega) (by omega)
          rwa [show (0 + (i : Nat) : Int).toNat = i by omega] at this
        have hin := B.ins i hi'
        try dsimp only
        refine ⟨wk_set rfl, iteT ⟨_, rfl, _, rfl, a, _, _, _, rfl, rfl, s1.seq ha, al hll, _, rfl, t, _, 1, _, rfl, rfl, SqT.of t1, rfl, _, rfl, f, _, _, _, rfl, rfl, SqL.of f1, al B.len, _, _, rfl, rfl, _, rfl, ?_⟩⟩
        rw [decide_eq_true hin.1]
        refine iteT ⟨_, rfl, t, _, 1, _, rfl, rfl, SqT.of t1, rfl, _, rfl, f, _, _, _, rfl, rfl, SqL.of f1, al B.len, _, rfl, _, rfl, b, _, _, _, rfl, rfl, s1.seq hb, al hhl, _, _, rfl, rfl, ?_⟩
        dsimp only
        rw [decide_eq_true hin.2]
        refine ⟨small1000 (by rw [List.length_replicate]; omega), _, by omega, rfl, by omega, rfl, ?_⟩
        rw [List.replicate_succ']
      rintro ys H3 ⟨rfl, rfl⟩ lb nlb
      refine ⟨lb, _, rfl, .inl (SqL.of upd_same), (rep_tv _).2, ?_⟩
      rw [(rep_tv _).1]
      have s3 := s1.next (o := .lst (List.replicate es.length (V.bl true))) nlb
      have f3 := Same.new (o := .lst (List.replicate es.length (V.bl true))) nlb _ _ f1
      have t3 := Same.new (o := .lst (List.replicate es.length (V.bl true))) nlb _ _ t1
      generalize upd H3 lb (.lst (List.replicate es.length (V.bl true))) = H4 at s3 f3 t3
      refine ⟨_, rfl, true, rfl, iteT ?_⟩
      refine ⟨_, rfl, _, rfl, _, rfl, t, _, 1, _, rfl, rfl, SqT.of t3, rfl, l, f, m, xs, es, fs, rfl, s3.seq hl, hx.same s3, SqL.of f3, B.len, m1, by omega, by omega, hE, fun lg zs H5 nlg s5 e5 hzl hd => ?_⟩
      have hzm : (zs.map V.int).length = zs.length := List.length_map ..
      have s35 := s3.trans s5
      refine ⟨lg, _, rfl, .inl (SqL.of e5), fun J C O hC => lc_by O (fun i ys HH => HH = H5 ∧ ys = List.replicate i (V.bl true)) (by rw [hzm]; exact Nat.le_of_lt (small1000 (by omega))) ⟨rfl, rfl⟩ ?_ ?_ ?_⟩
      · rintro i ys HH hi ⟨rfl, rfl⟩
        exact ⟨hC _ (Same.refl _), by rw [List.length_replicate]; exact Nat.le_refl _⟩
      · rintro i ys HH hi ⟨rfl, rfl⟩
        obtain ⟨v, ev, gv⟩ := getD_map_int hi
        rw [hzm] at hi
        have hv0 : v = 0 := by
          have := hd i (by omega)
          rw [List.getD_eq_getElem?_getD, gv, B.flow] at this
          exact this
        try dsimp only
        rw [ev]
        refine ⟨wk_set rfl, iteT ⟨_, rfl, rfl, ?_⟩⟩
        rw [decide_eq_true (show V.int v = V.int 0 by rw [hv0])]
        refine ⟨small1000 (by rw [List.length_replicate]; omega), _, by omega, rfl, by omega, rfl, ?_⟩
        rw [List.replicate_succ']
      · rintro ys HH ⟨rfl, rfl⟩ lc nlc
        refine ⟨lc, _, rfl, .inl (SqL.of upd_same), (rep_tv _).2, ?_⟩
        rw [(rep_tv _).1]
        exact k _ (s35.next nlc)
    · have ew : wd = "shut" := by rw [ht] at ht'; injection ht' with e; injection e with e; injection e with e _; injection e
      subst ew
      rw [decide_eq_false (show ¬ V.str "shut" = V.str "flow" by intro z; injection z with z; revert z; decide)]
      refine iteF (iteF ?_)
      refine ⟨_, rfl, t, _, 0, _, rfl, rfl, SqT.of t1, rfl, rfl, _, rfl, ?_⟩
      rw [decide_eq_true rfl]
      have hup : fs.Pairwise (· < ·) := by rw [eR]; exact rst_up m.toNat R
      have h7 : ∀ n ∈ fs, 0 ≤ n ∧ n < m := fun n hn => by
        rw [eR] at hn
        have := mem_rst.mp hn
        omega
      refine iteF ⟨_, rfl, t, _, 1, _, rfl, rfl, SqT.of t1, rfl, _, rfl, t, _, 1, _, rfl, rfl, SqT.of t1, rfl, f, fs, rfl, SqL.of f1, hup, fun n hn => by have := h7 n hn; omega, fun ls nls => ?_⟩
      have s2 := s1.next (o := .lst (fs.map V.int)) nls
      have e2 : (upd H1 ls (.lst (fs.map V.int))) ls = some (.lst (fs.map V.int)) := upd_same
      have f2 := Same.new (o := .lst (fs.map V.int)) nls _ _ f1
      have t2 := Same.new (o := .lst (fs.map V.int)) nls _ _ t1
      generalize upd H1 ls (.lst (fs.map V.int)) = H3 at s2 e2 f2 t2
      refine ⟨dI fs, dI fs, dat_ints (SqL.of f2), dat_ints (SqL.of e2), shaped_dI _, shaped_dI _, _, rfl, ?_⟩
      rw [eqv_dI, decide_eq_true rfl]
      refine iteF ⟨_, rfl, t, _, 1, _, rfl, rfl, SqT.of t2, rfl, f, _, rfl, .inl (SqL.of f2), fun J C O hC => lc_by O (fun i ys HH => HH = H3 ∧ ys = List.replicate i (V.bl true)) (by rw [hfm]; exact Nat.le_of_lt (small1000 (by omega))) ⟨rfl, rfl⟩ ?_ ?_ ?_⟩
      · rintro i ys HH hi ⟨rfl, rfl⟩
        exact ⟨hC _ (Same.refl _), by rw [List.length_replicate]; exact Nat.le_refl _⟩
      · rintro i ys HH hi ⟨rfl, rfl⟩
        obtain ⟨v, ev, gv⟩ := getD_map_int hi
        rw [hfm] at hi
        have hv0 := h7 v (List.mem_of_getElem? gv)
        try dsimp only
        rw [ev]
        refine ⟨wk_set rfl, iteT ⟨_, rfl, _, _, rfl, rfl, _, rfl, ?_⟩⟩
        rw [decide_eq_true hv0.1]
        refine iteT ⟨_, rfl, _, rfl, _, _, rfl, rfl, ?_⟩
        dsimp only
        rw [decide_eq_true hv0.2]
        refine ⟨small1000 (by rw [List.length_replicate]; omega), _, by omega, rfl, by omega, rfl, ?_⟩
        rw [List.replicate_succ']
      rintro ys HH ⟨rfl, rfl⟩ lc nlc
      refine ⟨lc, _, rfl, .inl (SqL.of upd_same), (rep_tv _).2, _, rfl, ?_⟩
      rw [(rep_tv _).1]
      refine iteF ?_
      have s4 := s2.next (o := .lst (List.replicate (fs.map V.int).length (V.bl true))) nlc
      have f4 := Same.new (o := .lst (List.replicate (fs.map V.int).length (V.bl true))) nlc _ _ f2
      have t4 := Same.new (o := .lst (List.replicate (fs.map V.int).length (V.bl true))) nlc _ _ t2
      generalize upd HH lc (.lst (List.replicate (fs.map V.int).length (V.bl true))) = H5 at s4 f4 t4
      refine ⟨_, rfl, _, rfl, _, rfl, _, rfl, t, _, 1, _, rfl, rfl, SqT.of t4, rfl, l, a, b, f, m, xs, es, lo, hi, fs, rfl, s4.seq hl, hx.same s4, s4.seq ha, s4.seq hb, SqL.of f4, hll, hhl, by omega, hE, ?_⟩
      rw [decide_eq_true hsh]
      exact k _ s4
theorem eqv_s2 (x y : Str) (as bs : List Int) : PyData.eqv (.tuple [.str x, dI as]) (.tuple [.str y, dI bs]) = (PyData.eqv (.str x) (.str y) && decide (as = bs)) := by
  show PyData.eqvAll [.str x, dI as] [.str y, dI bs] = _
  simp only [PyData.eqvAll, eqv_dI, Bool.and_true]
theorem eqv_l2 (as bs cs ds : List Int) : PyData.eqv (.list [dI as, dI bs]) (.list [dI cs, dI ds]) = (decide (as = cs) && decide (bs = ds)) := by
  show PyData.eqvAll [dI as, dI bs] [dI cs, dI ds] = _
  simp only [PyData.eqvAll, eqv_dI, Bool.and_true]
theorem shaped_s2 {x : Str} (hx : PyData.strOk x = true) (as : List Int) : SeqAt.shaped (.tuple [.str x, dI as]) = true := by
  obtain ⟨h1, h2⟩ := dI_lay as
  unfold SeqAt.shaped dI
  simp only [PyData.canLay0, PyData.canLayAll0, PyData.depth, PyData.depthAll, h1, h2, hx]
  rfl
theorem eqv_strS (x : Str) : PyData.eqv (.str x) (.str x) = true := by
  show (x == x) = true
  exact beq_self_eq_true x
inductive BtO (es : List (Int × Int)) (lo hi : List Int) (m : Int) : Str → List Int → Prop
  | flow {as : List Int} : BtF es lo hi as → BtR es lo hi m.toNat es.length (true, as) → BtO es lo hi m "flow" as
  | shut {ps R : List Int} : ps = rst m.toNat R → 0 < shS ps es lo hi es.length → BtR es lo hi m.toNat es.length (false, ps) → BtO es lo hi m "shut" ps
theorem BtO.det {es : List (Int × Int)} {lo hi : List Int} {m : Int} {x y : Str} {as bs : List Int} (h : BtO es lo hi m x as) (h' : BtO es lo hi m y bs) : x = y ∧ as = bs := by
  cases h with
  | flow _ r =>
    cases h' with
    | flow _ r' => exact ⟨rfl, congrArg Prod.snd (r.det r')⟩
    | shut _ _ r' => exact absurd (congrArg Prod.fst (r.det r')) (by simp)
  | shut _ _ r =>
    cases h' with
    | flow _ r' => exact absurd (congrArg Prod.fst (r.det r')) (by simp)
    | shut _ _ r' => exact ⟨rfl, congrArg Prod.snd (r.det r')⟩
theorem BtO.ok {es : List (Int × Int)} {lo hi : List Int} {m : Int} {x : Str} {as : List Int} (h : BtO es lo hi m x as) : PyData.strOk x = true := by
  cases h <;> decide +kernel
theorem BtO.len {es : List (Int × Int)} {lo hi : List Int} {m : Int} {x : Str} {as : List Int} (h : BtO es lo hi m x as) (hz : es.length ≤ 40) (hm : m ≤ 20) : as.length ≤ 40 := by
  cases h with
  | flow B _ => rw [B.len]; exact hz
  | @shut _ R e _ _ => rw [e]; have := rst_len m.toNat R; omega
theorem spBt_one {K : PySem.W.Frag} {c : Cs} {vs : List V} {H : Hp} {Q : VK} {E : XK} (x p q : Addr) (m : Int) (es : List (Int × Int)) (lo hi : List Int) (h : vs = [.ref x, .ref p, .ref q] ∧ WebAt K c.Web H x m es ∧ SqL K H p (lo.map V.int) ∧ SqL K H q (hi.map V.int) ∧ lo.length = es.length ∧ hi.length = es.length ∧ es.length ≤ 40 ∧ 1 ≤ m ∧ m ≤ 20 ∧ EndsIn es m ∧ (∀ i, i < es.length → lo.getD i 0 ≤ hi.getD i 0) ∧ ∀ i, i < es.length → -2 ^ 150 ≤ lo.getD i 0 ∧ hi.getD i 0 ≤ 2 ^ 150)
    (k : ∀ wd t l as H', H l = none → Same H H' → H' t = some (.tup [.str wd, .ref l]) → H' l = some (.lst (as.map V.int)) → BtO es lo hi m wd as → Q (.ref t) H') : spBt K c vs H Q E := by
  obtain ⟨h1, h2, h3, h4, h5, h6, h7, h8, h9, h10, h11, h12⟩ := h
  exact ⟨x, p, q, m, es, lo, hi, h1, h2, h3, h4, h5, h6, h7, h8, h9, h10, h11, h12, fun t l as H' n s a b B R => k _ t l as H' n s a b (.flow B R), fun t l ps R H' n s a b e hs hr => k _ t l ps H' n s a b (.shut e hs hr)⟩
theorem mapN_at {n i : Nat} (g : Nat → Int) (h : i < n) : ((List.range n).map g)[i]? = some (g i) := by rw [List.getElem?_map, List.getElem?_range h]; rfl
theorem mapN_getD {n i : Nat} (g : Nat → Int) (h : i < n) : ((List.range n).map g).getD i 0 = g i := by rw [List.getD_eq_getElem?_getD, mapN_at g h]; rfl
theorem shaped_l2 (as bs : List Int) : SeqAt.shaped (.list [dI as, dI bs]) = true := by
  obtain ⟨h1, h2⟩ := dI_lay as
  obtain ⟨h3, h4⟩ := dI_lay bs
  unfold SeqAt.shaped dI
  simp only [PyData.canLay0, PyData.canLayAll0, PyData.depth, PyData.depthAll, h1, h2, h3, h4]
  rfl
theorem dat_s2 {K : PySem.W.Frag} {H : Hp} {t l : Addr} {x : Str} {as : List Int} (ht : H t = some (.tup [.str x, .ref l])) (h1 : H l = some (.lst (as.map V.int))) : DatV K H (.ref t) (.tuple [.str x, dI as]) := .tup (SqT.of ht) (.cons (.str x) (.cons (dat_ints (SqL.of h1)) .nil))
theorem dat_l2 {K : PySem.W.Frag} {H : Hp} {t l1 l2 : Addr} {as bs : List Int} (ht : H t = some (.lst [.ref l1, .ref l2])) (h1 : H l1 = some (.lst (as.map V.int))) (h2 : H l2 = some (.lst (bs.map V.int))) : DatV K H (.ref t) (.list [dI as, dI bs]) := .lst (SqL.of ht) (.cons (dat_ints (SqL.of h1)) (.cons (dat_ints (SqL.of h2)) .nil))
theorem scL : FnScope ["script", "many", "ties", "web", "cell", "by_digits", "span", "lows", "room", "highs", "sure", "amounts", "less_by", "handed", "spent", "kept", "found"] ["script"] (defScope sL) := ⟨rfl, rfl, rfl, by decide +kernel, rfl, by decide +kernel, by decide +kernel⟩
set_option maxHeartbeats 16000000 in
theorem ok_L {f : Addr} {fd : FuncData} (F : Fun K "law" "law" sL f fd) (T : Txt K mg c) (D_C : Def P w K mg base 1 "_law_cell" ["script", "k"] (spC K)) (D_Dr : Def P w K mg base 2 "_law_drawn" ["script", "at", "base", "many", "by_digits"] (spDr K)) (D_Wb2 : Def P w K mg base 3 "_law_web" ["script", "most", "some"] (spWb2 K)) (D_Sm : Def P w K mg base 2 "_law_ring_sum" ["many", "ties", "values"] (spSm K)) (D_Bt : Def P w K mg base 3 "between" ["web", "lows", "highs"] (spBt K c)) (D_Gd : Def P w K mg base 2 "_law_good" ["found", "many", "ties", "lows", "highs"] (spGd K)) (D_N : MkDef P w K mg base 1 "Web" c.Web ["self", "many", "ties"] (spInit K c.Web)) : FnOk P w K mg base CX0 4 f fd ["script"] (spLaw K) := by
  refine F.ok scL (fun vs H Q E h => ?_) (fun cdv A outer s H vs Q E hr h => ?_)
  · obtain ⟨a, ns, rfl, _⟩ := h
    rfl
  · obtain ⟨a, ns, rfl, hS, hlen, k⟩ := h
    have hu : A.units + 3 + 64 < cLine := hr.units
    refine ⟨_, pss_cons (ps_asg (pe_defR D_Wb2 hr (pa_cons (pv 0) (pa_cons (pe_int) (pa_cons (pe_int) pa_nil)))) (pgTup (K := K) (n := 2) rfl rfl (pgs_cons (pg_name (i := 1) scL.nd rfl (Or.inl rfl)) (pgs_cons (pg_name (i := 2) scL.nd rfl (Or.inl rfl)) (pgs_nil))) rfl))
      (pss_cons (ps_set (i := 3) scL.nd rfl (Or.inl rfl) (pe_web D_N hr (pa_cons (pv 1) (pa_cons (pv 2) pa_nil))))
      (pss_cons (ps_set (i := 4) scL.nd rfl (Or.inl rfl) (pe_defR D_C hr (pa_cons (pv 0) (pa_cons (pe_int) pa_nil))))
      (pss_cons (ps_cut (ps_set (i := 5) scL.nd rfl (Or.inl rfl) (pe_cmpR op_eq (pe_op op_mod (pe_op op_fdivB (pv 4) (pe_int)) (pe_int)) (pe_int) (nomark _))))
      (pss_cons (ps_cut (ps_set (i := 6) scL.nd rfl (Or.inr rfl) (pe_ix (ixL (K := K) rfl) (pe_lst (pa_cons (pe_int) (pa_cons (pe_int) (pa_cons (pe_op op_pow (pe_int) (pe_int)) pa_nil)))) (pe_op op_mod (pv 4) (pe_int)) (fun _ _ => rfl))))
      (pss_cons (ps_set (i := 7) scL.nd rfl (Or.inr rfl) (pe_lc (N' := ["draw", "span"]) (nl := 1) (js := [6]) rfl (.of (osc := defScope sL) (N := ["script", "many", "ties", "web", "cell", "by_digits", "span", "lows", "room", "highs", "sure", "amounts", "less_by", "handed", "spent", "kept", "found"]) (by decide +kernel) rfl rfl) (piSeq (K := K) rfl (pe_defR D_Dr hr (pa_cons (pv 0) (pa_cons (pe_int) (pa_cons (pv 6) (pa_cons (pe_callB (cLen (K := K) rfl) (by rfl) T.len PySem.boot_len (pa_cons (pv 2) pa_nil)) (pa_cons (pv 5) pa_nil)))))))
        (fun _ _ _ _ => pg_name (i := 0) (show (["draw", "span"] : List Str).Nodup by decide +kernel) rfl (Or.inl rfl)) (fun _ _ _ _ => pif_nil)
        (fun _ _ _ _ => pe_op op_sub (pv 0) (pe_op op_fdivB (pv 1) (pe_int)))))
      (pss_cons (ps_cut (ps_set (i := 8) scL.nd rfl (Or.inl rfl) (pe_ix (ixL (K := K) rfl) (pe_lst (pa_cons (pe_int) (pa_cons (pe_int) (pa_cons (pe_op op_pow (pe_int) (pe_int)) pa_nil)))) (pe_op op_mod (pe_op op_fdivB (pv 4) (pe_int)) (pe_int)) (fun _ _ => rfl))))
      (pss_cons (ps_set (i := 9) scL.nd rfl (Or.inr rfl) (pe_defR D_Dr hr (pa_cons (pv 0) (pa_cons (pe_int) (pa_cons (pv 8) (pa_cons (pe_callB (cLen (K := K) rfl) (by rfl) T.len PySem.boot_len (pa_cons (pv 2) pa_nil)) (pa_cons (pv 5) pa_nil)))))))
      (pss_cons (ps_set (i := 9) scL.nd rfl (Or.inr rfl) (pe_lc (N' := ["k", "lows", "highs"]) (nl := 1) (js := [7, 9]) rfl (.of (osc := defScope sL) (N := ["script", "many", "ties", "web", "cell", "by_digits", "span", "lows", "room", "highs", "sure", "amounts", "less_by", "handed", "spent", "kept", "found"]) (by decide +kernel) rfl rfl) (pi_range1 rfl T.range (pa_cons (pe_callB (cLen (K := K) rfl) (by rfl) T.len PySem.boot_len (pa_cons (pv 2) pa_nil)) pa_nil))
        (fun _ _ _ _ => pg_name (i := 0) (show (["k", "lows", "highs"] : List Str).Nodup by decide +kernel) rfl (Or.inl rfl)) (fun _ _ _ _ => pif_nil)
        (fun _ _ _ _ => pe_op op_add (pe_ix (ixL (K := K) rfl) (pv 1) (pv 0) (fun _ _ => rfl)) (pe_ix (ixL (K := K) rfl) (pv 2) (pv 0) (fun _ _ => rfl)))))
      (pss_cons (ps_cut (ps_set (i := 10) scL.nd rfl (Or.inl rfl) (pe_cmpR op_eq (pe_op op_mod (pe_op op_fdivB (pv 4) (pe_int)) (pe_int)) (pe_int) (nomark _))))
      (pss_cons (ps_cut (ps_if (pt_truth (pv 10) (by intro _; rfl))
        (pss_cons (ps_set (i := 11) scL.nd rfl (Or.inr rfl) (pe_defR D_Sm hr (pa_cons (pv 1) (pa_cons (pv 2) (pa_cons (pv 7) pa_nil)))))
      (pss_cons (ps_set (i := 9) scL.nd rfl (Or.inr rfl) (pe_lc (N' := ["k", "lows", "highs", "amounts"]) (nl := 1) (js := [7, 9, 11]) rfl (.of (osc := defScope sL) (N := ["script", "many", "ties", "web", "cell", "by_digits", "span", "lows", "room", "highs", "sure", "amounts", "less_by", "handed", "spent", "kept", "found"]) (by decide +kernel) rfl rfl) (pi_range1 rfl T.range (pa_cons (pe_callB (cLen (K := K) rfl) (by rfl) T.len PySem.boot_len (pa_cons (pv 2) pa_nil)) pa_nil))
        (fun _ _ _ _ => pg_name (i := 0) (show (["k", "lows", "highs", "amounts"] : List Str).Nodup by decide +kernel) rfl (Or.inl rfl)) (fun _ _ _ _ => pif_nil)
        (fun _ _ _ _ => pe_op op_sub (pe_op op_add (pe_ix (ixL (K := K) rfl) (pv 3) (pv 0) (fun _ _ => rfl)) (pe_ix (ixL (K := K) rfl) (pv 2) (pv 0) (fun _ _ => rfl))) (pe_ix (ixL (K := K) rfl) (pv 1) (pv 0) (fun _ _ => rfl)))))
      (pss_cons (ps_set (i := 12) scL.nd rfl (Or.inr rfl) (pe_defR D_Dr hr (pa_cons (pv 0) (pa_cons (pe_int) (pa_cons (pe_int) (pa_cons (pe_callB (cLen (K := K) rfl) (by rfl) T.len PySem.boot_len (pa_cons (pv 2) pa_nil)) (pa_cons (pv 5) pa_nil)))))))
      (pss_one (ps_set (i := 7) scL.nd rfl (Or.inr rfl) (pe_lc (N' := ["k", "amounts", "less_by"]) (nl := 1) (js := [11, 12]) rfl (.of (osc := defScope sL) (N := ["script", "many", "ties", "web", "cell", "by_digits", "span", "lows", "room", "highs", "sure", "amounts", "less_by", "handed", "spent", "kept", "found"]) (by decide +kernel) rfl rfl) (pi_range1 rfl T.range (pa_cons (pe_callB (cLen (K := K) rfl) (by rfl) T.len PySem.boot_len (pa_cons (pv 2) pa_nil)) pa_nil))
        (fun _ _ _ _ => pg_name (i := 0) (show (["k", "amounts", "less_by"] : List Str).Nodup by decide +kernel) rfl (Or.inl rfl)) (fun _ _ _ _ => pif_nil)
        (fun _ _ _ _ => pe_op op_sub (pe_ix (ixL (K := K) rfl) (pv 1) (pv 0) (fun _ _ => rfl)) (pe_ix (ixL (K := K) rfl) (pv 2) (pv 0) (fun _ _ => rfl))))))))) (pss_nil)))
      (pss_cons (ps_set (i := 13) scL.nd rfl (Or.inl rfl) (pe_lst (pa_cons (pe_callTy (cList (K := K) rfl) (by rfl) T.list PyProof.Rows.boot_list (pa_cons (pv 7) pa_nil)) (pa_cons (pe_callTy (cList (K := K) rfl) (by rfl) T.list PyProof.Rows.boot_list (pa_cons (pv 9) pa_nil)) pa_nil))))
      (pss_cons (ps_set (i := 14) scL.nd rfl (Or.inl rfl) (pe_defR D_Bt hr (pa_cons (pv 3) (pa_cons (pe_ix (ixL (K := K) rfl) (pv 13) (pe_int) (fun _ _ => rfl)) (pa_cons (pe_ix (ixL (K := K) rfl) (pv 13) (pe_int) (fun _ _ => rfl)) pa_nil)))))
      (pss_cons (ps_set (i := 15) scL.nd rfl (Or.inl rfl) (pe_tup (pa_cons (pe_ix (ixT (K := K) rfl) (pv 14) (pe_int) (fun _ _ => rfl)) (pa_cons (pe_callTy (cList (K := K) rfl) (by rfl) T.list PyProof.Rows.boot_list (pa_cons (pe_ix (ixT (K := K) rfl) (pv 14) (pe_int) (fun _ _ => rfl)) pa_nil)) pa_nil))))
      (pss_cons (ps_expr (pe_bm PySem.F.plainAttrs_list PySem.F.slot_list_append PySem.F.type_list_append mt_append (pe_ix (ixT (K := K) rfl) (pv 14) (pe_int) (fun _ _ => rfl)) (pa_cons (pe_un un_neg (pe_int)) pa_nil)))
      (pss_cons (ps_set (i := 16) scL.nd rfl (Or.inl rfl) (pe_defR D_Bt hr (pa_cons (pv 3) (pa_cons (pe_ix (ixL (K := K) rfl) (pv 13) (pe_int) (fun _ _ => rfl)) (pa_cons (pe_ix (ixL (K := K) rfl) (pv 13) (pe_int) (fun _ _ => rfl)) pa_nil)))))
      (pss_cons (ps_if (PW.pt (pw_or (pt_cmpR (opNeD (K := K) rfl hu) (pv 16) (pv 15) (nomark _)) (pw_or (pt_cmpR (opNeD (K := K) rfl hu) (pv 13) (pe_lst (pa_cons (pv 7) (pa_cons (pv 9) pa_nil))) (nomark _)) (pw_or1 (PW.pt (pw_and (pt_truth (pv 10) (by intro _; rfl)) (pw_and1 (pt_cmpR op_ne (pe_ix (ixT (K := K) rfl) (pv 16) (pe_int) (fun _ _ => rfl)) (pe_str) (nomark _)))))))))
        (pss_one (ps_ret (pe_bl))) (pss_nil))
      (pss_one (ps_ret (pe_defR D_Gd hr (pa_cons (pv 16) (pa_cons (pv 1) (pa_cons (pv 2) (pa_cons (pv 7) (pa_cons (pv 9) pa_nil)))))))))))))))))))))))), ?_⟩
    refine ⟨_, rfl, a, ns, 7, 12, rfl, hS, by decide, by decide, by decide, by decide, fun t l m xs es H1 hl sH ht hl1 hp m1 m2 hz hE => ?_⟩
    refine ⟨t, _, rfl, SqT.of ht, rfl, _, _, rfl, _, _, rfl, rfl, ?_⟩
    have hxl := hp.len
    have hz' : es.length ≤ 40 := by omega
    have m20 : m ≤ 20 := by omega
    have hS1 := sH.seq hS
    refine ⟨_, rfl, _, rfl, l, m, xs, es, rfl, .inl (SqL.of hl1), hp, m1, m20, hz', hE, fun x H2 nx s2 hw => ?_⟩
    have l2 := s2 _ _ hl1
    have p2 := hp.same s2
    have S2 := s2.seq hS1
    clear s2 hS1 hp hl1 sH ht hS
    refine ⟨_, rfl, a, ns, 2, rfl, S2, by decide, ?_⟩
    generalize ns.getD (2 : Int).toNat 0 = ce
    refine ⟨fun σ' H' => H' = H2 ∧ ∃ bd : Bool, σ' = [some (.ref a), some (.int m), some (.ref l), some (.ref x), some (.int ce), some (.bl bd), none, none, none, none, none, none, none, none, none, none, none], ⟨_, rfl, _, _, rfl, rfl, ⟨by decide, by decide⟩, _, _, rfl, rfl, (by show (0 : Int) < 2; decide), rfl, rfl, _, rfl⟩, ?_⟩
    rintro σ' H' ⟨rfl, bd, rfl⟩
    refine ⟨fun σ' H2 => Same H' H2 ∧ ∃ sp : Int, (sp = 5 ∨ sp = 10 ^ 38) ∧ σ' = [some (.ref a), some (.int m), some (.ref l), some (.ref x), some (.int ce), some (.bl bd), some (.int sp), none, none, none, none, none, none, none, none, none, none], ?_, ?_⟩
    · refine ⟨_, _, rfl, rfl, ⟨by decide, by decide, by decide⟩, (by show 3 ≤ sizeLine; decide), fun q nq => ?_⟩
      obtain ⟨sp, e1, e2⟩ : ∃ sp : Int, atI [V.int 5, V.int 5, V.int ((10 : Int) ^ (38 : Int).toNat)] (ce % 3) = some (.int sp) ∧ (sp = 5 ∨ sp = 10 ^ 38) := by
        have : ce % 3 = 0 ∨ ce % 3 = 1 ∨ ce % 3 = 2 := by omega
        rcases this with e | e | e <;> rw [e]
        · exact ⟨_, rfl, .inl rfl⟩
        · exact ⟨_, rfl, .inl rfl⟩
        · exact ⟨_, rfl, .inr rfl⟩
      exact ⟨_, rfl, _, _, rfl, rfl, (by show (0 : Int) < 3; decide), q, _, _, _, rfl, rfl, SqL.of upd_same, e1, Same.new nq, sp, e2, rfl⟩
    rintro σ' H2 ⟨s3, sp, hsp, rfl⟩
    have hsp0 : 0 < sp ∧ sp < 2 ^ 200 ∧ sp ≤ 10 ^ 38 := by rcases hsp with e | e <;> rw [e] <;> decide
    have l3 := s3 _ _ l2
    have p3 := p2.same s3
    have S3 := s3.seq S2
    have w3 := hw.same s3
    clear s3 l2 p2 S2 hw
    refine ⟨_, rfl, _, rfl, _, rfl, l, xs, rfl, .inl (SqL.of l3), _, rfl, a, ns, 3, sp, _, bd, rfl, S3, by decide, hsp0.1, hsp0.2.1, by omega, by omega, fun l4 ds H4 nl4 s4 e4 hdl hdb => ?_⟩
    have hdl' : ds.length = es.length := by rw [hdl]; omega
    have hdm : (ds.map V.int).length = ds.length := List.length_map ..
    obtain ⟨lo, elo⟩ : ∃ lo, lo = ds.map (· - sp / 2) := ⟨_, rfl⟩
    have hll : lo.length = es.length := by rw [elo, List.length_map]; exact hdl'
    have hlb : ∀ i, i < es.length → -10 ^ 38 ≤ lo.getD i 0 ∧ lo.getD i 0 ≤ 10 ^ 38 := fun i hi => by
      have hi' : i < ds.length := by omega
      have hb := hdb ds[i] (List.getElem_mem hi')
      rw [elo, List.getD_eq_getElem?_getD, List.getElem?_map, List.getElem?_eq_getElem hi']
      show -10 ^ 38 ≤ ds[i] - sp / 2 ∧ ds[i] - sp / 2 ≤ 10 ^ 38
      omega
    refine ⟨l4, _, rfl, .inl (SqL.of e4), fun J C O hC => lc_by O (fun i ys HH => HH = H4 ∧ ys = (lo.take i).map V.int) (by rw [hdm]; exact Nat.le_of_lt (small1000 (by omega))) ⟨rfl, rfl⟩ ?_ ?_ ?_⟩
    · rintro i ys HH hi ⟨rfl, rfl⟩
      exact ⟨hC _ (Same.refl _), by rw [List.length_map, List.length_take]; omega⟩
    · rintro i ys HH hi ⟨rfl, rfl⟩
      obtain ⟨v, ev, gv⟩ := getD_map_int hi
      rw [hdm] at hi
      try dsimp only
      rw [ev]
      have hg : lo[i]? = some (v - sp / 2) := by rw [elo, List.getElem?_map, gv]; rfl
      refine ⟨wk_set rfl, iteT ⟨_, rfl, _, rfl, _, _, rfl, rfl, ⟨by decide, by decide⟩, _, _, rfl, rfl, small1000 (by rw [List.length_map, List.length_take]; omega), _, by omega, rfl, by omega, rfl, ?_⟩⟩
      rw [take_snoc hg, List.map_append]; rfl
    rintro ys HH ⟨rfl, rfl⟩ ll nll
    rw [List.take_of_length_le (by omega)]
    have s5 := s4.next (o := .lst (lo.map V.int)) nll
    have e5 : (upd HH ll (.lst (lo.map V.int))) ll = some (.lst (lo.map V.int)) := upd_same
    generalize upd HH ll (.lst (lo.map V.int)) = H5 at s5 e5
    have l5 := s5 _ _ l3
    have p5 := p3.same s5
    have S5 := s5.seq S3
    have w5 := w3.same s5
    clear s4 e4 s5 l3 p3 S3 w3 hC O J C elo hdb hdl hdl' hdm nll nl4
    refine ⟨fun σ' H2 => Same H5 H2 ∧ ∃ rm : Int, 0 < rm ∧ rm ≤ 10 ^ 38 ∧ rm < 2 ^ 200 ∧ σ' = [some (.ref a), some (.int m), some (.ref l), some (.ref x), some (.int ce), some (.bl bd), some (.int sp), some (.ref ll), some (.int rm), none, none, none, none, none, none, none, none], ?_, ?_⟩
    · refine ⟨_, _, rfl, rfl, ⟨by decide, by decide, by decide⟩, (by show 3 ≤ sizeLine; decide), fun q nq => ?_⟩
      obtain ⟨rm, e1, e2⟩ : ∃ rm : Int, atI [V.int 4, V.int 2, V.int ((10 : Int) ^ (38 : Int).toNat)] (ce / 3 % 3) = some (.int rm) ∧ 0 < rm ∧ rm ≤ 10 ^ 38 ∧ rm < 2 ^ 200 := by
        have : ce / 3 % 3 = 0 ∨ ce / 3 % 3 = 1 ∨ ce / 3 % 3 = 2 := by omega
        rcases this with e | e | e <;> rw [e]
        · exact ⟨_, rfl, by decide⟩
        · exact ⟨_, rfl, by decide⟩
        · exact ⟨_, rfl, by decide⟩
      exact ⟨_, rfl, _, _, rfl, rfl, ⟨by decide, by decide⟩, _, _, rfl, rfl, (by show (0 : Int) < 3; decide), q, _, _, _, rfl, rfl, SqL.of upd_same, e1, Same.new nq, rm, e2.1, e2.2.1, e2.2.2, rfl⟩
    rintro σ' H6 ⟨s6, rm, rm0, rm1, rm2, rfl⟩
    have l6 := s6 _ _ l5
    have p6 := p5.same s6
    have S6 := s6.seq S5
    have w6 := w5.same s6
    have e6 := s6 _ _ e5
    clear s6 l5 p5 S5 w5 e5
    refine ⟨_, rfl, _, rfl, _, rfl, l, xs, rfl, .inl (SqL.of l6), _, rfl, a, ns, 4, rm, _, bd, rfl, S6, by decide, rm0, rm2, by omega, by omega, fun l7 ts H7 nl7 s7 h7 htl htb => ?_⟩
    have htl' : ts.length = es.length := by rw [htl]; omega
    have htb' : ∀ i, i < es.length → 0 ≤ ts.getD i 0 ∧ ts.getD i 0 < rm := fun i hi => by rw [gD_at (by omega)]; exact htb _ (List.getElem_mem _)
    have l7' := s7 _ _ l6
    have p7 := p6.same s7
    have S7 := s7.seq S6
    have w7 := w6.same s7
    have e7 := s7 _ _ e6
    clear s7 l6 p6 S6 w6 e6 htb htl
    have at0 : ∀ {us : List Int} {i : Nat}, us.length = es.length → i < es.length → atI (us.map V.int) (0 + (i : Nat) : Int) = some (.int (us.getD i 0)) := fun {us i} hu hi => by
      have := at_int (ns := us) (k := (0 + (i : Nat) : Int)) (by omega) (by omega)
      rwa [show (0 + (i : Nat) : Int).toNat = i by omega] at this
    obtain ⟨hi, ehi⟩ : ∃ hi, hi = (List.range es.length).map fun i => lo.getD i 0 + ts.getD i 0 := ⟨_, rfl⟩
    have hhl : hi.length = es.length := by rw [ehi, List.length_map, List.length_range]
    refine ⟨_, rfl, l, xs, rfl, .inl (SqL.of l7'), (xs.length : Int), rfl, by omega, by omega, ?_⟩
    rw [show ((xs.length : Int)).toNat = es.length from hxl]
    refine lc_by itok_range (fun i ys HH => HH = H7 ∧ ys = (hi.take i).map V.int) (Nat.le_of_lt (small1000 (by omega))) ⟨rfl, rfl⟩ ?_ ?_ ?_
    · rintro i ys HH hj ⟨rfl, rfl⟩
      exact ⟨trivial, by rw [List.length_map, List.length_take]; omega⟩
    · rintro i ys HH hj ⟨rfl, rfl⟩
      have hg : hi[i]? = some (lo.getD i 0 + ts.getD i 0) := by rw [ehi]; exact mapN_at _ hj
      try dsimp only
      refine ⟨wk_set rfl, iteT ⟨_, rfl, _, rfl, ll, _, _, _, rfl, rfl, SqL.of e7, at0 hll hj, _, rfl, _, rfl, l7, _, _, _, rfl, rfl, SqL.of h7, at0 htl' hj, _, _, rfl, rfl, small1000 (by rw [List.length_map, List.length_take]; omega), _, by omega, rfl, by omega, rfl, ?_⟩⟩
      rw [take_snoc hg, List.map_append]; rfl
    rintro ys HH ⟨rfl, rfl⟩ lh nlh
    rw [List.take_of_length_le (by omega)]
    have s8 := Same.new (o := .lst (hi.map V.int)) nlh
    have h8 : (upd HH lh (.lst (hi.map V.int))) lh = some (.lst (hi.map V.int)) := upd_same
    generalize upd HH lh (.lst (hi.map V.int)) = H8 at s8 h8
    have l8 := s8 _ _ l7'
    have p8 := p7.same s8
    have S8 := s8.seq S7
    have w8 := w7.same s8
    have e8 := s8 _ _ e7
    clear s8 l7' p7 S7 w7 e7 h7 nlh nl7
    have hhg : ∀ i, i < es.length → hi.getD i 0 = lo.getD i 0 + ts.getD i 0 := fun i hj => by rw [ehi]; exact mapN_getD _ hj
    refine ⟨fun σ' H2 => H2 = H8 ∧ ∃ su : Bool, σ' = [some (.ref a), some (.int m), some (.ref l), some (.ref x), some (.int ce), some (.bl bd), some (.int sp), some (.ref ll), some (.int rm), some (.ref lh), some (.bl su), none, none, none, none, none, none], ⟨_, rfl, _, _, rfl, rfl, ⟨by decide, by decide⟩, _, _, rfl, rfl, (by show (0 : Int) < 3; decide), rfl, rfl, _, rfl⟩, ?_⟩
    rintro σ' H9 ⟨rfl, su, rfl⟩
    refine ⟨fun σ' H2 => Same H9 H2 ∧ ∃ (la lb : Addr) (lo hi : List Int) (v11 v12 : Option V), σ' = [some (.ref a), some (.int m), some (.ref l), some (.ref x), some (.int ce), some (.bl bd), some (.int sp), some (.ref la), some (.int rm), some (.ref lb), some (.bl su), v11, v12, none, none, none, none] ∧ H2 la = some (.lst (lo.map V.int)) ∧ H2 lb = some (.lst (hi.map V.int)) ∧ lo.length = es.length ∧ hi.length = es.length ∧ (∀ i, i < es.length → lo.getD i 0 ≤ hi.getD i 0) ∧ (∀ i, i < es.length → -2 ^ 150 ≤ lo.getD i 0 ∧ hi.getD i 0 ≤ 2 ^ 150) ∧ (su = true → ∃ fs : List Int, (∀ p : Int, dp p es fs es.length = 0) ∧ ∀ i, i < es.length → lo.getD i 0 ≤ fs.getD i 0 ∧ fs.getD i 0 ≤ hi.getD i 0), ?_, ?_⟩
    · refine ⟨_, rfl, su, rfl, ?_⟩
      cases su with
      | false =>
        refine iteF ⟨Same.refl _, ll, lh, lo, hi, none, none, rfl, e8, h8, hll, hhl, fun i hj => ?_, fun i hj => ?_, fun z => nomatch z⟩
        · have := htb' i hj; rw [hhg i hj]; omega
        · have := htb' i hj; have := hlb i hj; rw [hhg i hj]; omega
      | true =>
        refine iteT ⟨_, rfl, _, rfl, _, rfl, l, ll, m, xs, es, lo, rfl, SqL.of l8, p8, SqL.of e8, hll, m1, m20, by omega, hE, hlb, fun lq fs HA nlq sA qA hfl hfd hfb => ?_⟩
        have lA := sA _ _ l8
        have SA := sA.seq S8
        have eA := sA _ _ e8
        have hA := sA _ _ h8
        obtain ⟨hi2, ehi2⟩ : ∃ hi2, hi2 = (List.range es.length).map fun i => fs.getD i 0 + hi.getD i 0 - lo.getD i 0 := ⟨_, rfl⟩
        have hh2 : hi2.length = es.length := by rw [ehi2, List.length_map, List.length_range]
        refine ⟨_, rfl, l, xs, rfl, .inl (SqL.of lA), (xs.length : Int), rfl, by omega, by omega, ?_⟩
        rw [show ((xs.length : Int)).toNat = es.length from hxl]
        refine lc_by itok_range (fun i ys HH => HH = HA ∧ ys = (hi2.take i).map V.int) (Nat.le_of_lt (small1000 (by omega))) ⟨rfl, rfl⟩ ?_ ?_ ?_
        · rintro i ys HH hj ⟨rfl, rfl⟩
          exact ⟨trivial, by rw [List.length_map, List.length_take]; omega⟩
        · rintro i ys HH hj ⟨rfl, rfl⟩
          have hg : hi2[i]? = some (fs.getD i 0 + hi.getD i 0 - lo.getD i 0) := by rw [ehi2]; exact mapN_at _ hj
          try dsimp only
          refine ⟨wk_set rfl, iteT ⟨_, rfl, _, rfl, lq, _, _, _, rfl, rfl, SqL.of qA, at0 hfl hj, _, rfl, _, rfl, lh, _, _, _, rfl, rfl, SqL.of hA, at0 hhl hj, _, _, rfl, rfl, _, rfl, _, rfl, ll, _, _, _, rfl, rfl, SqL.of eA, at0 hll hj, _, _, rfl, rfl, small1000 (by rw [List.length_map, List.length_take]; omega), _, by omega, rfl, by omega, rfl, ?_⟩⟩
          rw [take_snoc hg, List.map_append]; rfl
        rintro ys HH ⟨rfl, rfl⟩ lh2 nlh2
        rw [List.take_of_length_le (by omega)]
        have sB := sA.next (o := .lst (hi2.map V.int)) nlh2
        have hB : (upd HH lh2 (.lst (hi2.map V.int))) lh2 = some (.lst (hi2.map V.int)) := upd_same
        have sAB := Same.new (o := .lst (hi2.map V.int)) nlh2
        generalize upd HH lh2 (.lst (hi2.map V.int)) = HB at sB hB sAB
        refine ⟨_, rfl, _, rfl, l, xs, rfl, .inl (SqL.of (sAB _ _ lA)), _, rfl, a, ns, 5, 3, _, bd, rfl, sAB.seq SA, by decide, by decide, by decide, by omega, by omega, fun lr rs HC nlr sC rC hrl hrb => ?_⟩
        have hrl' : rs.length = es.length := by rw [hrl]; omega
        have hrb' : ∀ i, i < es.length → 0 ≤ rs.getD i 0 ∧ rs.getD i 0 < 3 := fun i hj => by rw [gD_at (by omega)]; exact hrb _ (List.getElem_mem _)
        obtain ⟨lo2, elo2⟩ : ∃ lo2, lo2 = (List.range es.length).map fun i => fs.getD i 0 - rs.getD i 0 := ⟨_, rfl⟩
        have hl2 : lo2.length = es.length := by rw [elo2, List.length_map, List.length_range]
        have sAC := sAB.trans sC
        refine ⟨_, rfl, l, xs, rfl, .inl (SqL.of (sAC _ _ lA)), (xs.length : Int), rfl, by omega, by omega, ?_⟩
        rw [show ((xs.length : Int)).toNat = es.length from hxl]
        refine lc_by itok_range (fun i ys HH => HH = HC ∧ ys = (lo2.take i).map V.int) (Nat.le_of_lt (small1000 (by omega))) ⟨rfl, rfl⟩ ?_ ?_ ?_
        · rintro i ys HH hj ⟨rfl, rfl⟩
          exact ⟨trivial, by rw [List.length_map, List.length_take]; omega⟩
        · rintro i ys HH hj ⟨rfl, rfl⟩
          have hg : lo2[i]? = some (fs.getD i 0 - rs.getD i 0) := by rw [elo2]; exact mapN_at _ hj
          try dsimp only
          refine ⟨wk_set rfl, iteT ⟨_, rfl, _, rfl, lq, _, _, _, rfl, rfl, SqL.of (sAC _ _ qA), at0 hfl hj, _, rfl, _, rfl, lr, _, _, _, rfl, rfl, SqL.of rC, at0 hrl' hj, _, _, rfl, rfl, small1000 (by rw [List.length_map, List.length_take]; omega), _, by omega, rfl, by omega, rfl, ?_⟩⟩
          rw [take_snoc hg, List.map_append]; rfl
        rintro ys HH ⟨rfl, rfl⟩ ll2 nll2
        rw [List.take_of_length_le (by omega)]
        have sD := Same.new (o := .lst (lo2.map V.int)) nll2
        have g1 : ∀ i, i < es.length → hi2.getD i 0 = fs.getD i 0 + ts.getD i 0 := fun i hj => by
          rw [ehi2, mapN_getD _ hj, hhg i hj]; omega
        have g2 : ∀ i, i < es.length → lo2.getD i 0 = fs.getD i 0 - rs.getD i 0 := fun i hj => by rw [elo2]; exact mapN_getD _ hj
        refine ⟨(sB.trans sC).trans sD, ll2, lh2, lo2, hi2, _, _, rfl, upd_same, sD _ _ (sC _ _ hB), hl2, hh2, fun i hj => ?_, fun i hj => ?_, fun _ => ⟨fs, hfd, fun i hj => ?_⟩⟩
        · have b1 := htb' i hj; have b2 := hrb' i hj; rw [g1 i hj, g2 i hj]; omega
        · have b1 := htb' i hj; have b2 := hrb' i hj; have b3 := hfb i hj; rw [g1 i hj, g2 i hj]; omega
        · have b1 := htb' i hj; have b2 := hrb' i hj; rw [g1 i hj, g2 i hj]; omega
    clear e8 h8 hll hhl ehi hhg hlb htb' htl'
    rintro σ' HE ⟨sE, la, lb, lo, hi, v11, v12, rfl, laE, lbE, hll, hhl, hlh, hbd, hsu⟩
    have lE := sE _ _ l8
    have pE := p8.same sE
    have wE := w8.same sE
    clear sE l8 p8 S8 w8
    have hlm : (lo.map V.int).length = es.length := by rw [List.length_map]; exact hll
    have hhm : (hi.map V.int).length = es.length := by rw [List.length_map]; exact hhl
    refine ⟨_, rfl, la, _, rfl, .inl (SqL.of laE), fun q1 nq1 => ⟨_, rfl, lb, _, rfl, .inl (SqL.of (Same.new nq1 _ _ lbE)), fun q2 nq2 => ⟨(by show 2 ≤ sizeLine; decide), fun hd nhd => ?_⟩⟩⟩
    have sF := Same.new (o := .lst (lo.map V.int)) nq1
    have q1F : (upd HE q1 (.lst (lo.map V.int))) q1 = some (.lst (lo.map V.int)) := upd_same
    generalize upd HE q1 (.lst (lo.map V.int)) = HF at sF q1F nq2 nhd
    have sG := sF.next (o := .lst (hi.map V.int)) nq2
    have q1G := Same.new (o := .lst (hi.map V.int)) nq2 _ _ q1F
    have q2G : (upd HF q2 (.lst (hi.map V.int))) q2 = some (.lst (hi.map V.int)) := upd_same
    generalize upd HF q2 (.lst (hi.map V.int)) = HG at sG q1G q2G nhd
    have sI := sG.next (o := .lst [V.ref q1, V.ref q2]) nhd
    have q1I := Same.new (o := .lst [V.ref q1, V.ref q2]) nhd _ _ q1G
    have q2I := Same.new (o := .lst [V.ref q1, V.ref q2]) nhd _ _ q2G
    have hdI : (upd HG hd (.lst [V.ref q1, V.ref q2])) hd = some (.lst [V.ref q1, V.ref q2]) := upd_same
    generalize upd HG hd (.lst [V.ref q1, V.ref q2]) = HI at sI q1I q2I hdI
    have lI := sI _ _ lE
    have pI := pE.same sI
    have wI := wE.same sI
    have laI := sI _ _ laE
    have lbI := sI _ _ lbE
    clear sI sG sF q1G q2G q1F lE pE wE laE lbE nhd nq2 nq1
    refine ⟨_, rfl, _, rfl, hd, _, 0, _, rfl, rfl, SqL.of hdI, rfl, _, rfl, hd, _, 1, _, rfl, rfl, SqL.of hdI, rfl, ?_⟩
    unfold tNil
    refine spBt_one x q1 q2 m es lo hi ⟨rfl, wI, SqL.of q1I, SqL.of q2I, hll, hhl, hz', m1, m20, hE, hlh, hbd⟩ fun wd t7 ls as H7 nls s7 t7e ls7 O7 => ?_
    have hal := O7.len hz' m20
    have ham : (as.map V.int).length = as.length := List.length_map ..
    refine ⟨_, rfl, t7, _, 0, _, rfl, rfl, SqT.of t7e, rfl, _, rfl, t7, _, 1, _, rfl, rfl, SqT.of t7e, rfl, ls, _, rfl, .inl (SqL.of ls7), fun q3 nq3 => ⟨(by show 2 ≤ sizeLine; decide), fun kp nkp => ?_⟩⟩
    have sJ := s7.next (o := .lst (as.map V.int)) nq3
    have q3J : (upd H7 q3 (.lst (as.map V.int))) q3 = some (.lst (as.map V.int)) := upd_same
    have tJ := Same.new (o := .lst (as.map V.int)) nq3 _ _ t7e
    have lsJ := Same.new (o := .lst (as.map V.int)) nq3 _ _ ls7
    have n3 : q3 ≠ ls := (ne_of_none ls7 nq3).symm
    generalize upd H7 q3 (.lst (as.map V.int)) = HJ at sJ q3J tJ lsJ nkp
    have sK := sJ.next (o := .tup [V.str wd, V.ref q3]) nkp
    have q3K := Same.new (o := .tup [V.str wd, V.ref q3]) nkp _ _ q3J
    have tK := Same.new (o := .tup [V.str wd, V.ref q3]) nkp _ _ tJ
    have lsK := Same.new (o := .tup [V.str wd, V.ref q3]) nkp _ _ lsJ
    have kpK : (upd HJ kp (.tup [V.str wd, V.ref q3])) kp = some (.tup [V.str wd, V.ref q3]) := upd_same
    have nk : kp ≠ ls := (ne_of_none lsJ nkp).symm
    generalize upd HJ kp (.tup [V.str wd, V.ref q3]) = HK at sK q3K tK lsK kpK
    refine ⟨_, rfl, t7, _, 1, _, rfl, rfl, SqT.of tK, rfl, .inl ⟨rfl, _, SqL.of lsK⟩, _, rfl, ls, _, _, rfl, rfl, lsK, small1000 (by omega), ?_⟩
    have sL : Same HI (upd HK ls (.lst (as.map V.int ++ [V.int (-5)]))) := sK.upd nls
    have q3L : (upd HK ls (.lst (as.map V.int ++ [V.int (-5)]))) q3 = some (.lst (as.map V.int)) := by rw [upd_ne n3]; exact q3K
    have kpL : (upd HK ls (.lst (as.map V.int ++ [V.int (-5)]))) kp = some (.tup [V.str wd, V.ref q3]) := by rw [upd_ne nk]; exact kpK
    generalize upd HK ls (.lst (as.map V.int ++ [V.int (-5)])) = HL at sL q3L kpL
    clear sK q3K tK lsK kpK sJ q3J tJ lsJ s7 t7e ls7 nk n3 nkp nq3 nls
    have q1L := sL _ _ q1I
    have q2L := sL _ _ q2I
    have hdL := sL _ _ hdI
    refine ⟨_, rfl, _, rfl, hd, _, 0, _, rfl, rfl, SqL.of hdL, rfl, _, rfl, hd, _, 1, _, rfl, rfl, SqL.of hdL, rfl, ?_⟩
    try unfold tNil
    refine spBt_one x q1 q2 m es lo hi ⟨rfl, wI.same sL, SqL.of q1L, SqL.of q2L, hll, hhl, hz', m1, m20, hE, hlh, hbd⟩ fun wd2 t9 lt bs HM nlt sM t9e ltM O9 => ?_
    obtain ⟨e1, e2⟩ := O7.det O9
    subst e1
    subst e2
    clear O9
    have sIM := sL.trans sM
    refine ⟨_, rfl, _, rfl, _, _, dat_s2 t9e ltM, dat_s2 (sM _ _ kpL) (sM _ _ q3L), shaped_s2 O7.ok _, shaped_s2 O7.ok _, _, rfl, ?_⟩
    rw [eqv_s2, eqv_strS, decide_eq_true rfl]
    refine iteF ⟨_, rfl, _, rfl, _, rfl, (by show 2 ≤ sizeLine; decide), fun q4 nq4 => ?_⟩
    have sN := Same.new (o := .lst [V.ref la, V.ref lb]) nq4
    have q4N : (upd HM q4 (.lst [V.ref la, V.ref lb])) q4 = some (.lst [V.ref la, V.ref lb]) := upd_same
    generalize upd HM q4 (.lst [V.ref la, V.ref lb]) = HN at sN q4N
    have sMN := sM.trans sN
    have sIN := sIM.trans sN
    refine ⟨_, _, dat_l2 (sMN _ _ hdL) (sMN _ _ q1L) (sMN _ _ q2L), dat_l2 q4N (sIN _ _ laI) (sIN _ _ lbI), shaped_l2 _ _, shaped_l2 _ _, _, rfl, ?_⟩
    rw [eqv_l2, decide_eq_true rfl, decide_eq_true rfl]
    have t9N := sN _ _ t9e
    have ltN := sN _ _ ltM
    refine iteF ⟨_, rfl, su, rfl, ?_⟩
    cases O7 with
    | flow B R =>
      cases su with
      | false =>
        refine iteF (iteF ⟨_, rfl, _, rfl, _, rfl, _, rfl, _, rfl, t9, lt, l, la, lb, m, xs, es, lo, hi, as, rfl, SqL.of (sIN _ _ lI), pI.same sIN, SqL.of (sIN _ _ laI), SqL.of (sIN _ _ lbI), hll, hhl, by omega, m1, m2, hE, ltN, .inl ⟨t9N, B⟩, fun H' _ => k H'⟩)
      | true =>
        refine iteT ⟨_, rfl, t9, _, 0, _, rfl, rfl, SqT.of t9N, rfl, rfl, _, rfl, ?_⟩
        rw [decide_eq_true rfl]
        exact iteF ⟨_, rfl, _, rfl, _, rfl, _, rfl, _, rfl, t9, lt, l, la, lb, m, xs, es, lo, hi, as, rfl, SqL.of (sIN _ _ lI), pI.same sIN, SqL.of (sIN _ _ laI), SqL.of (sIN _ _ lbI), hll, hhl, by omega, m1, m2, hE, ltN, .inl ⟨t9N, B⟩, fun H' _ => k H'⟩
    | @shut _ R e hs _ =>
      cases su with
      | false =>
        refine iteF (iteF ⟨_, rfl, _, rfl, _, rfl, _, rfl, _, rfl, t9, lt, l, la, lb, m, xs, es, lo, hi, as, rfl, SqL.of (sIN _ _ lI), pI.same sIN, SqL.of (sIN _ _ laI), SqL.of (sIN _ _ lbI), hll, hhl, by omega, m1, m2, hE, ltN, .inr ⟨t9N, ⟨R, e⟩, hs⟩, fun H' _ => k H'⟩)
      | true =>
        obtain ⟨fs, hfd, hfb⟩ := hsu rfl
        exact absurd hs (not_shut (k := 1) (by decide) (by rw [e]; exact rst_nd ..) hfd fun t ht => by rw [Int.one_mul, Int.one_mul]; exact hfb t ht)
end
theorem len_1 {us : List Value} (h : us.length = 1) : ∃ a, us = [a] := List.length_eq_one_iff.mp h
theorem len_s {us : List Value} {n : Nat} (h : us.length = n + 1) : ∃ a r, us = a :: r ∧ r.length = n := by
  cases us with
  | nil => cases h
  | cons a r => exact ⟨a, r, rfl, Nat.succ.inj h⟩
theorem len_2 {us : List Value} (h : us.length = 2) : ∃ a b, us = [a, b] := by
  obtain ⟨a, r, rfl, h1⟩ := len_s h
  obtain ⟨b, rfl⟩ := len_1 h1
  exact ⟨a, b, rfl⟩
theorem len_3 {us : List Value} (h : us.length = 3) : ∃ a b c, us = [a, b, c] := by
  obtain ⟨a, r, rfl, h1⟩ := len_s h
  obtain ⟨b, c, rfl⟩ := len_2 h1
  exact ⟨a, b, c, rfl⟩
theorem len_4 {us : List Value} (h : us.length = 4) : ∃ a b c d, us = [a, b, c, d] := by
  obtain ⟨a, r, rfl, h1⟩ := len_s h
  obtain ⟨b, c, d, rfl⟩ := len_3 h1
  exact ⟨a, b, c, d, rfl⟩
theorem len_5 {us : List Value} (h : us.length = 5) : ∃ a b c d e, us = [a, b, c, d, e] := by
  obtain ⟨a, r, rfl, h1⟩ := len_s h
  obtain ⟨b, c, d, e, rfl⟩ := len_4 h1
  exact ⟨a, b, c, d, e, rfl⟩
theorem all_mk {l : PySem.W.OpenLaw} {w : World} {K : PySem.W.Frag} {h : Heap} {mg : Str → Option Value} {fa f1 f2 f3 f4 f5 f6 f7 f8 f9 f10 f11 f12 f13 f14 f15 f16 f17 f18 f19 f20 f21 f22 qBadFlow qWeb : Addr} (X : K.In h) (G : h.Ns mainGlobals mg) (hfa : mg "law" = some (.ref fa))
    {tk1 tk2 : Tok} {od1 an1 od2 an2 od3 an3 od4 an4 od5 an5 od6 an6 od7 an7 od8 an8 od9 an9 od10 an10 od11 an11 od12 an12 od13 an13 od14 an14 od15 an15 od16 an16 od17 an17 od18 an18 od19 an19 od20 an20 od21 an21 od22 an22 : Option Addr} {sl1 sl2 sl3 sl4 sl5 sl6 sl7 sl8 sl9 sl10 sl11 sl12 sl13 sl14 sl15 sl16 sl17 sl18 sl19 sl20 sl21 sl22 : Array (Option Value)} {oc1 kV1 dc1 pm1 cd1 ct1 oc2 kV2 dc2 pm2 cd2 ct2 oc3 kV3 dc3 pm3 cd3 ct3 oc4 kV4 dc4 pm4 cd4 ct4 oc5 kV5 dc5 pm5 cd5 ct5 oc6 kV6 dc6 pm6 cd6 ct6 oc7 kV7 dc7 pm7 cd7 ct7 oc8 kV8 dc8 pm8 cd8 ct8 oc9 kV9 dc9 pm9 cd9 ct9 oc10 kV10 dc10 pm10 cd10 ct10 oc11 kV11 dc11 pm11 cd11 ct11 oc12 kV12 dc12 pm12 cd12 ct12 oc13 kV13 dc13 pm13 cd13 ct13 oc14 kV14 dc14 pm14 cd14 ct14 oc15 kV15 dc15 pm15 cd15 ct15 oc16 kV16 dc16 pm16 cd16 ct16 oc17 kV17 dc17 pm17 cd17 ct17 oc18 kV18 dc18 pm18 cd18 ct18 oc19 kV19 dc19 pm19 cd19 ct19 oc20 kV20 dc20 pm20 cd20 ct20 oc21 kV21 dc21 pm21 cd21 ct21 oc22 kV22 dc22 pm22 cd22 ct22 : Value}
    (aCBadFlow : PySem.W.nsIn K mainGlobals "BadFlow" = some (some (.ref qBadFlow)))
    (aCWeb : PySem.W.nsIn K mainGlobals "Web" = some (some (.ref qWeb)))
    (a1 : PySem.W.findIn K (.ref qWeb) "__init__" = some (some (.ref f1)))
    (i1 : PySem.W.isFn K (.ref f1) = true)
    (l1 : K.lookup f1 = some ⟨oc1, od1, .func (PySem.W.fnOf "__init__" "Web.__init__" (defArgs sN) (defBody sN) (defScope sN) .none kV1 dc1 pm1 an1 cd1 ct1), sl1⟩)
    (c1 : PySem.W.codeIn K cd1 "Web.__init__" = true)
    (k1 : PySem.W.keepIn K (.ref f1) = true)
    (a2 : PySem.W.nsIn K mainGlobals "check_amounts" = some (some (.ref f2)))
    (l2 : K.lookup f2 = some ⟨oc2, od2, .func (PySem.W.fnOf "check_amounts" "check_amounts" (defArgs sAm) (defBody sAm) (defScope sAm) .none kV2 dc2 pm2 an2 cd2 ct2), sl2⟩)
    (c2 : PySem.W.codeIn K cd2 "check_amounts" = true)
    (k2 : PySem.W.keepIn K (.ref f2) = true)
    (a3 : PySem.W.nsIn K mainGlobals "check_bounds" = some (some (.ref f3)))
    (l3 : K.lookup f3 = some ⟨oc3, od3, .func (PySem.W.fnOf "check_bounds" "check_bounds" (defArgs sCb) (defBody sCb) (defScope sCb) .none kV3 dc3 pm3 an3 cd3 ct3), sl3⟩)
    (c3 : PySem.W.codeIn K cd3 "check_bounds" = true)
    (k3 : PySem.W.keepIn K (.ref f3) = true)
    (a4 : PySem.W.nsIn K mainGlobals "rooms_left" = some (some (.ref f4)))
    (l4 : K.lookup f4 = some ⟨oc4, od4, .func (PySem.W.fnOf "rooms_left" "rooms_left" (defArgs sRl) (defBody sRl) (defScope sRl) .none kV4 dc4 pm4 an4 cd4 ct4), sl4⟩)
    (c4 : PySem.W.codeIn K cd4 "rooms_left" = true)
    (k4 : PySem.W.keepIn K (.ref f4) = true)
    (a5 : PySem.W.nsIn K mainGlobals "steps_from" = some (some (.ref f5)))
    (l5 : K.lookup f5 = some ⟨oc5, od5, .func (PySem.W.fnOf "steps_from" "steps_from" (defArgs sSf) (defBody sSf) (defScope sSf) .none kV5 dc5 pm5 an5 cd5 ct5), sl5⟩)
    (c5 : PySem.W.codeIn K cd5 "steps_from" = true)
    (k5 : PySem.W.keepIn K (.ref f5) = true)
    (a6 : PySem.W.nsIn K mainGlobals "step_end" = some (some (.ref f6)))
    (l6 : K.lookup f6 = some ⟨oc6, od6, .func (PySem.W.fnOf "step_end" "step_end" (defArgs sSe) (defBody sSe) (defScope sSe) .none kV6 dc6 pm6 an6 cd6 ct6), sl6⟩)
    (c6 : PySem.W.codeIn K cd6 "step_end" = true)
    (k6 : PySem.W.keepIn K (.ref f6) = true)
    (a7 : PySem.W.nsIn K mainGlobals "ways_with_room" = some (some (.ref f7)))
    (l7 : K.lookup f7 = some ⟨oc7, od7, .func (PySem.W.fnOf "ways_with_room" "ways_with_room" (defArgs sWw) (defBody sWw) (defScope sWw) .none kV7 dc7 pm7 an7 cd7 ct7), sl7⟩)
    (c7 : PySem.W.codeIn K cd7 "ways_with_room" = true)
    (k7 : PySem.W.keepIn K (.ref f7) = true)
    (a8 : PySem.W.nsIn K mainGlobals "room_along" = some (some (.ref f8)))
    (l8 : K.lookup f8 = some ⟨oc8, od8, .func (PySem.W.fnOf "room_along" "room_along" (defArgs sRa) (defBody sRa) (defScope sRa) .none kV8 dc8 pm8 an8 cd8 ct8), sl8⟩)
    (c8 : PySem.W.codeIn K cd8 "room_along" = true)
    (k8 : PySem.W.keepIn K (.ref f8) = true)
    (a9 : PySem.W.nsIn K mainGlobals "pushed" = some (some (.ref f9)))
    (l9 : K.lookup f9 = some ⟨oc9, od9, .func (PySem.W.fnOf "pushed" "pushed" (defArgs sPu) (defBody sPu) (defScope sPu) .none kV9 dc9 pm9 an9 cd9 ct9), sl9⟩)
    (c9 : PySem.W.codeIn K cd9 "pushed" = true)
    (k9 : PySem.W.keepIn K (.ref f9) = true)
    (a10 : PySem.W.nsIn K mainGlobals "change_due" = some (some (.ref f10)))
    (l10 : K.lookup f10 = some ⟨oc10, od10, .func (PySem.W.fnOf "change_due" "change_due" (defArgs sCd) (defBody sCd) (defScope sCd) .none kV10 dc10 pm10 an10 cd10 ct10), sl10⟩)
    (c10 : PySem.W.codeIn K cd10 "change_due" = true)
    (k10 : PySem.W.keepIn K (.ref f10) = true)
    (a11 : PySem.W.nsIn K mainGlobals "between" = some (some (.ref f11)))
    (l11 : K.lookup f11 = some ⟨oc11, od11, .func (PySem.W.fnOf "between" "between" (defArgs sBt) (defBody sBt) (defScope sBt) .none kV11 dc11 pm11 an11 cd11 ct11), sl11⟩)
    (c11 : PySem.W.codeIn K cd11 "between" = true)
    (k11 : PySem.W.keepIn K (.ref f11) = true)
    (a12 : PySem.W.nsIn K mainGlobals "_law_cell" = some (some (.ref f12)))
    (l12 : K.lookup f12 = some ⟨oc12, od12, .func (PySem.W.fnOf "_law_cell" "_law_cell" (defArgs sC) (defBody sC) (defScope sC) .none kV12 dc12 pm12 an12 cd12 ct12), sl12⟩)
    (c12 : PySem.W.codeIn K cd12 "_law_cell" = true)
    (k12 : PySem.W.keepIn K (.ref f12) = true)
    (a13 : PySem.W.nsIn K mainGlobals "_law_whole" = some (some (.ref f13)))
    (l13 : K.lookup f13 = some ⟨oc13, od13, .func (PySem.W.fnOf "_law_whole" "_law_whole" (defArgs sH) (defBody sH) (defScope sH) .none kV13 dc13 pm13 an13 cd13 ct13), sl13⟩)
    (c13 : PySem.W.codeIn K cd13 "_law_whole" = true)
    (k13 : PySem.W.keepIn K (.ref f13) = true)
    (a14 : PySem.W.nsIn K mainGlobals "_law_drawn" = some (some (.ref f14)))
    (l14 : K.lookup f14 = some ⟨oc14, od14, .func (PySem.W.fnOf "_law_drawn" "_law_drawn" (defArgs sDr) (defBody sDr) (defScope sDr) .none kV14 dc14 pm14 an14 cd14 ct14), sl14⟩)
    (c14 : PySem.W.codeIn K cd14 "_law_drawn" = true)
    (k14 : PySem.W.keepIn K (.ref f14) = true)
    (a15 : PySem.W.nsIn K mainGlobals "_law_web" = some (some (.ref f15)))
    (l15 : K.lookup f15 = some ⟨oc15, od15, .func (PySem.W.fnOf "_law_web" "_law_web" (defArgs sWb2) (defBody sWb2) (defScope sWb2) .none kV15 dc15 pm15 an15 cd15 ct15), sl15⟩)
    (c15 : PySem.W.codeIn K cd15 "_law_web" = true)
    (k15 : PySem.W.keepIn K (.ref f15) = true)
    (a16 : PySem.W.nsIn K mainGlobals "_law_gains" = some (some (.ref f16)))
    (l16 : K.lookup f16 = some ⟨oc16, od16, .func (PySem.W.fnOf "_law_gains" "_law_gains" (defArgs sLg) (defBody sLg) (defScope sLg) .none kV16 dc16 pm16 an16 cd16 ct16), sl16⟩)
    (c16 : PySem.W.codeIn K cd16 "_law_gains" = true)
    (k16 : PySem.W.keepIn K (.ref f16) = true)
    (a17 : PySem.W.nsIn K mainGlobals "_law_free" = some (some (.ref f17)))
    (l17 : K.lookup f17 = some ⟨oc17, od17, .func (PySem.W.fnOf "_law_free" "_law_free" (defArgs sLf) (defBody sLf) (defScope sLf) .none kV17 dc17 pm17 an17 cd17 ct17), sl17⟩)
    (c17 : PySem.W.codeIn K cd17 "_law_free" = true)
    (k17 : PySem.W.keepIn K (.ref f17) = true)
    (a18 : PySem.W.nsIn K mainGlobals "_law_ring_sum" = some (some (.ref f18)))
    (l18 : K.lookup f18 = some ⟨oc18, od18, .func (PySem.W.fnOf "_law_ring_sum" "_law_ring_sum" (defArgs sSm) (defBody sSm) (defScope sSm) .none kV18 dc18 pm18 an18 cd18 ct18), sl18⟩)
    (c18 : PySem.W.codeIn K cd18 "_law_ring_sum" = true)
    (k18 : PySem.W.keepIn K (.ref f18) = true)
    (a19 : PySem.W.nsIn K mainGlobals "_law_way" = some (some (.ref f19)))
    (l19 : K.lookup f19 = some ⟨oc19, od19, .func (PySem.W.fnOf "_law_way" "_law_way" (defArgs sWy) (defBody sWy) (defScope sWy) .none kV19 dc19 pm19 an19 cd19 ct19), sl19⟩)
    (c19 : PySem.W.codeIn K cd19 "_law_way" = true)
    (k19 : PySem.W.keepIn K (.ref f19) = true)
    (a20 : PySem.W.nsIn K mainGlobals "_law_shut" = some (some (.ref f20)))
    (l20 : K.lookup f20 = some ⟨oc20, od20, .func (PySem.W.fnOf "_law_shut" "_law_shut" (defArgs sSh) (defBody sSh) (defScope sSh) .none kV20 dc20 pm20 an20 cd20 ct20), sl20⟩)
    (c20 : PySem.W.codeIn K cd20 "_law_shut" = true)
    (k20 : PySem.W.keepIn K (.ref f20) = true)
    (a21 : PySem.W.nsIn K mainGlobals "_law_good" = some (some (.ref f21)))
    (l21 : K.lookup f21 = some ⟨oc21, od21, .func (PySem.W.fnOf "_law_good" "_law_good" (defArgs sGd) (defBody sGd) (defScope sGd) .none kV21 dc21 pm21 an21 cd21 ct21), sl21⟩)
    (c21 : PySem.W.codeIn K cd21 "_law_good" = true)
    (k21 : PySem.W.keepIn K (.ref f21) = true)
    (a22 : PySem.W.nsIn K mainGlobals "law" = some (some (.ref f22)))
    (l22 : K.lookup f22 = some ⟨oc22, od22, .func (PySem.W.fnOf "law" "law" (defArgs sL) (defBody sL) (defScope sL) .none kV22 dc22 pm22 an22 cd22 ct22), sl22⟩)
    (c22 : PySem.W.codeIn K cd22 "law" = true)
    (k22 : PySem.W.keepIn K (.ref f22) = true)
    (pg : PySem.W.plainGet K qWeb Str.empty = true)
    (hd : PySem.W.hasDictIn K qWeb = true)
    (po : PySem.W.plainOver K qWeb = true)
    (sa : PySem.W.findIn K (.ref qWeb) "__setattr__" = some (some (.builtin "object.__setattr__")))
    (nM : PySem.W.findIn K (.ref qWeb) "many" = some none)
    (nT : PySem.W.findIn K (.ref qWeb) "ties" = some none)
    (ca : PySem.W.findIn K (.ref qWeb) "__class__" = some (some (.builtin "object.__class__")))
    (cg : PySem.W.specialIn K (.builtin "object.__class__") "__get__" = some (some (.builtin "getset_descriptor.__get__")))
    (ck : PySem.W.takesIn K (.builtin "object.__class__") = some true)
    (co : PySem.W.mroIn K qWeb (.type "object") = some true)
    (mk : PySem.W.makesIn K qWeb = true)
    (kc : PySem.W.keepIn K (.ref qWeb) = true)
    (mp : PySem.W.nsIn K mainGlobals "MOST_PLACES" = some (some (.int 20 tk1)))
    (mt : PySem.W.nsIn K mainGlobals "MOST_TIES" = some (some (.int 40 tk2)))
    (x_ie_BadFlow : PySem.W.excIn K qBadFlow vErr "ValueError.__new__" = true)
    (z0 : PySem.W.nsIn K mainGlobals "abs" = some none)
    (z1 : PySem.W.nsIn K mainGlobals "all" = some none)
    (z2 : PySem.W.nsIn K mainGlobals "any" = some none)
    (z3 : PySem.W.nsIn K mainGlobals "bool" = some none)
    (z4 : PySem.W.nsIn K mainGlobals "enumerate" = some none)
    (z5 : PySem.W.nsIn K mainGlobals "int" = some none)
    (z6 : PySem.W.nsIn K mainGlobals "isinstance" = some none)
    (z7 : PySem.W.nsIn K mainGlobals "len" = some none)
    (z8 : PySem.W.nsIn K mainGlobals "list" = some none)
    (z9 : PySem.W.nsIn K mainGlobals "min" = some none)
    (z10 : PySem.W.nsIn K mainGlobals "range" = some none)
    (z11 : PySem.W.nsIn K mainGlobals "set" = some none)
    (z12 : PySem.W.nsIn K mainGlobals "sorted" = some none)
    (z13 : PySem.W.nsIn K mainGlobals "tuple" = some none)
    (z14 : PySem.W.nsIn K mainGlobals "zip" = some none) :
    ∃ fd : FuncData, (∀ (s : Shared) (v : Value), BindsTo s fd ⟨[v], []⟩ [("script", v)]) ∧ ∀ base : Heap, K.In base → base.Ns mainGlobals mg → FnOk l.prog w K mg base CX0 4 fa fd ["script"] (spLaw K) := by
  have e := hfa.symm.trans (PySem.W.mg_of X G a22)
  cases e
  have T : Txt K mg (⟨qBadFlow, qWeb⟩ : Cs) := ⟨PySem.W.mg_none_of X G z0, PySem.W.mg_none_of X G z1, PySem.W.mg_none_of X G z2, PySem.W.mg_none_of X G z3, PySem.W.mg_none_of X G z4, PySem.W.mg_none_of X G z5, PySem.W.mg_none_of X G z6, PySem.W.mg_none_of X G z7, PySem.W.mg_none_of X G z8, PySem.W.mg_none_of X G z9, PySem.W.mg_none_of X G z10, PySem.W.mg_none_of X G z11, PySem.W.mg_none_of X G z12, PySem.W.mg_none_of X G z13, PySem.W.mg_none_of X G z14, PySem.W.mg_of X G aCBadFlow, PySem.W.mg_of X G aCWeb, ⟨⟨pg, hd, po, sa⟩, nM, nT, ca, cg, ck, co⟩, ⟨_, PySem.W.mg_of X G mp⟩, ⟨_, PySem.W.mg_of X G mt⟩, x_ie_BadFlow⟩
  have F1 := fun_mk (st := sN) l1 c1 k1
  have F2 := fun_mk (st := sAm) l2 c2 k2
  have F3 := fun_mk (st := sCb) l3 c3 k3
  have F4 := fun_mk (st := sRl) l4 c4 k4
  have F5 := fun_mk (st := sSf) l5 c5 k5
  have F6 := fun_mk (st := sSe) l6 c6 k6
  have F7 := fun_mk (st := sWw) l7 c7 k7
  have F8 := fun_mk (st := sRa) l8 c8 k8
  have F9 := fun_mk (st := sPu) l9 c9 k9
  have F10 := fun_mk (st := sCd) l10 c10 k10
  have F11 := fun_mk (st := sBt) l11 c11 k11
  have F12 := fun_mk (st := sC) l12 c12 k12
  have F13 := fun_mk (st := sH) l13 c13 k13
  have F14 := fun_mk (st := sDr) l14 c14 k14
  have F15 := fun_mk (st := sWb2) l15 c15 k15
  have F16 := fun_mk (st := sLg) l16 c16 k16
  have F17 := fun_mk (st := sLf) l17 c17 k17
  have F18 := fun_mk (st := sSm) l18 c18 k18
  have F19 := fun_mk (st := sWy) l19 c19 k19
  have F20 := fun_mk (st := sSh) l20 c20 k20
  have F21 := fun_mk (st := sGd) l21 c21 k21
  have F22 := fun_mk (st := sL) l22 c22 k22
  have b1 := F1.binds (ps := ["self", "many", "ties"]) fun _ _ _ _ _ _ us hl => by obtain ⟨_, _, _, rfl⟩ := len_3 hl; rfl
  have b2 := F2.binds (ps := ["web", "flow"]) fun _ _ _ _ _ _ us hl => by obtain ⟨_, _, rfl⟩ := len_2 hl; rfl
  have b3 := F3.binds (ps := ["web", "lows", "highs"]) fun _ _ _ _ _ _ us hl => by obtain ⟨_, _, _, rfl⟩ := len_3 hl; rfl
  have b4 := F4.binds (ps := ["amounts", "lows", "highs"]) fun _ _ _ _ _ _ us hl => by obtain ⟨_, _, _, rfl⟩ := len_3 hl; rfl
  have b5 := F5.binds (ps := ["web", "rooms", "place"]) fun _ _ _ _ _ _ us hl => by obtain ⟨_, _, _, rfl⟩ := len_3 hl; rfl
  have b6 := F6.binds (ps := ["web", "step"]) fun _ _ _ _ _ _ us hl => by obtain ⟨_, _, rfl⟩ := len_2 hl; rfl
  have b7 := F7.binds (ps := ["web", "rooms", "start"]) fun _ _ _ _ _ _ us hl => by obtain ⟨_, _, _, rfl⟩ := len_3 hl; rfl
  have b8 := F8.binds (ps := ["rooms", "steps"]) fun _ _ _ _ _ _ us hl => by obtain ⟨_, _, rfl⟩ := len_2 hl; rfl
  have b9 := F9.binds (ps := ["amounts", "steps", "size"]) fun _ _ _ _ _ _ us hl => by obtain ⟨_, _, _, rfl⟩ := len_3 hl; rfl
  have b10 := F10.binds (ps := ["amount", "low", "high"]) fun _ _ _ _ _ _ us hl => by obtain ⟨_, _, _, rfl⟩ := len_3 hl; rfl
  have b11 := F11.binds (ps := ["web", "lows", "highs"]) fun _ _ _ _ _ _ us hl => by obtain ⟨_, _, _, rfl⟩ := len_3 hl; rfl
  have b12 := F12.binds (ps := ["script", "k"]) fun _ _ _ _ _ _ us hl => by obtain ⟨_, _, rfl⟩ := len_2 hl; rfl
  have b13 := F13.binds (ps := ["found"]) fun _ _ _ _ _ _ us hl => by obtain ⟨_, rfl⟩ := len_1 hl; rfl
  have b14 := F14.binds (ps := ["script", "at", "base", "many", "by_digits"]) fun _ _ _ _ _ _ us hl => by obtain ⟨_, _, _, _, _, rfl⟩ := len_5 hl; rfl
  have b15 := F15.binds (ps := ["script", "most", "some"]) fun _ _ _ _ _ _ us hl => by obtain ⟨_, _, _, rfl⟩ := len_3 hl; rfl
  have b16 := F16.binds (ps := ["many", "ties", "amounts"]) fun _ _ _ _ _ _ us hl => by obtain ⟨_, _, _, rfl⟩ := len_3 hl; rfl
  have b17 := F17.binds (ps := ["many", "ties"]) fun _ _ _ _ _ _ us hl => by obtain ⟨_, _, rfl⟩ := len_2 hl; rfl
  have b18 := F18.binds (ps := ["many", "ties", "values"]) fun _ _ _ _ _ _ us hl => by obtain ⟨_, _, _, rfl⟩ := len_3 hl; rfl
  have b19 := F19.binds (ps := ["ties", "held", "ends"]) fun _ _ _ _ _ _ us hl => by obtain ⟨_, _, _, rfl⟩ := len_3 hl; rfl
  have b20 := F20.binds (ps := ["ties", "lows", "highs", "places"]) fun _ _ _ _ _ _ us hl => by obtain ⟨_, _, _, _, rfl⟩ := len_4 hl; rfl
  have b21 := F21.binds (ps := ["found", "many", "ties", "lows", "highs"]) fun _ _ _ _ _ _ us hl => by obtain ⟨_, _, _, _, _, rfl⟩ := len_5 hl; rfl
  refine ⟨PySem.W.fnOf "law" "law" (defArgs sL) (defBody sL) (defScope sL) .none kV22 dc22 pm22 an22 cd22 ct22, fun s v => .of_eq rfl, fun base _ _ => ?_⟩
  have D_N : MkDef l.prog w K mg base 1 "Web" qWeb ["self", "many", "ties"] (spInit K qWeb) := ⟨f1, _, ⟨mk, a1, i1, kc⟩, ok_N F1 T, b1, PySem.W.mg_of X G aCWeb⟩
  have D_Am : DefE l.prog w K mg base 1 "check_amounts" ["web", "flow"] (spAm K qWeb qBadFlow) := .of F2 (PySem.W.mg_of X G a2) b2 (ok_Am F2 T )
  have D_Cb : Def l.prog w K mg base 2 "check_bounds" ["web", "lows", "highs"] (spCb K (⟨qBadFlow, qWeb⟩ : Cs)) := .of F3 (PySem.W.mg_of X G a3) b3 (ok_Cb F3 T D_Am)
  have D_Rl : Def l.prog w K mg base 1 "rooms_left" ["amounts", "lows", "highs"] (spRl K) := .of F4 (PySem.W.mg_of X G a4) b4 (ok_Rl F4 T )
  have D_Sf : Def l.prog w K mg base 1 "steps_from" ["web", "rooms", "place"] (spSf K (⟨qBadFlow, qWeb⟩ : Cs)) := .of F5 (PySem.W.mg_of X G a5) b5 (ok_Sf F5 T )
  have D_Se : Def l.prog w K mg base 1 "step_end" ["web", "step"] (spSe K (⟨qBadFlow, qWeb⟩ : Cs)) := .of F6 (PySem.W.mg_of X G a6) b6 (ok_Se F6 T )
  have D_Ww : Def l.prog w K mg base 2 "ways_with_room" ["web", "rooms", "start"] (spWw K (⟨qBadFlow, qWeb⟩ : Cs)) := .of F7 (PySem.W.mg_of X G a7) b7 (ok_Ww F7 T D_Sf D_Se)
  have D_Ra : Def l.prog w K mg base 1 "room_along" ["rooms", "steps"] (spRa K) := .of F8 (PySem.W.mg_of X G a8) b8 (ok_Ra F8 T )
  have D_Pu : Def l.prog w K mg base 1 "pushed" ["amounts", "steps", "size"] (spPu K) := .of F9 (PySem.W.mg_of X G a9) b9 (ok_Pu F9 T )
  have D_Cd : Def l.prog w K mg base 1 "change_due" ["amount", "low", "high"] (spCd K) := .of F10 (PySem.W.mg_of X G a10) b10 (ok_Cd F10 T )
  have D_Bt : Def l.prog w K mg base 3 "between" ["web", "lows", "highs"] (spBt K (⟨qBadFlow, qWeb⟩ : Cs)) := .of F11 (PySem.W.mg_of X G a11) b11 (ok_Bt F11 T D_Cb D_Rl D_Se D_Ww D_Ra D_Pu D_Cd)
  have D_C : Def l.prog w K mg base 1 "_law_cell" ["script", "k"] (spC K) := .of F12 (PySem.W.mg_of X G a12) b12 (ok_C F12 T )
  have D_H : Def l.prog w K mg base 1 "_law_whole" ["found"] (spH K) := .of F13 (PySem.W.mg_of X G a13) b13 (ok_H F13 T )
  have D_Dr : Def l.prog w K mg base 2 "_law_drawn" ["script", "at", "base", "many", "by_digits"] (spDr K) := .of F14 (PySem.W.mg_of X G a14) b14 (ok_Dr F14 T D_C)
  have D_Wb2 : Def l.prog w K mg base 3 "_law_web" ["script", "most", "some"] (spWb2 K) := .of F15 (PySem.W.mg_of X G a15) b15 (ok_Wb2 F15 T D_C D_Dr)
  have D_Lg : Def l.prog w K mg base 1 "_law_gains" ["many", "ties", "amounts"] (spLg K) := .of F16 (PySem.W.mg_of X G a16) b16 (ok_Lg F16 T )
  have D_Lf : Def l.prog w K mg base 1 "_law_free" ["many", "ties"] (spLf K) := .of F17 (PySem.W.mg_of X G a17) b17 (ok_Lf F17 T )
  have D_Wy : Def l.prog w K mg base 1 "_law_way" ["ties", "held", "ends"] (spWy K) := .of F19 (PySem.W.mg_of X G a19) b19 (ok_Wy F19 T )
  have D_Sm : Def l.prog w K mg base 2 "_law_ring_sum" ["many", "ties", "values"] (spSm K) := .of F18 (PySem.W.mg_of X G a18) b18 (ok_Sm F18 T D_Lf D_Wy)
  have D_Sh : Def l.prog w K mg base 1 "_law_shut" ["ties", "lows", "highs", "places"] (spSh K) := .of F20 (PySem.W.mg_of X G a20) b20 (ok_Sh F20 T )
  have D_Gd : Def l.prog w K mg base 2 "_law_good" ["found", "many", "ties", "lows", "highs"] (spGd K) := .of F21 (PySem.W.mg_of X G a21) b21 (ok_Gd F21 T D_H D_Lg D_Sh)
  exact ok_L F22 T D_C D_Dr D_Wb2 D_Sm D_Bt D_Gd D_N
theorem walk {l : PySem.W.OpenLaw} {q : Program} {loose : List Str} {XP : (Str → Option Value) → Heap → Prop} {YP : World → Heap → Prop} {d : DefRec} {K : Params → PySem.W.Frag} (hn : l.most = some 63) (hdf : d.params.defaults = [])
    (hY : ∀ (w : World) (h : Heap), YP w h → (K w.params).In h)
    (F : ∀ (w : World) (mg : Str → Option Value) (fa : Addr) (h : Heap), (K w.params).In h → h.Ns mainGlobals mg → mg d.name = some (.ref fa) →
      ∃ fd : FuncData, (∀ (s : Shared) (u : Value), BindsTo s fd ⟨[u], []⟩ [("script", u)]) ∧ ∀ base : Heap, (K w.params).In base → base.Ns mainGlobals mg → FnOk l.prog w (K w.params) mg base CX0 4 fa fd ["script"] (spLaw (K w.params))) :
    PySem.W.WalkO q loose XP YP l.row.toRowW d [] (fun f vs => PySem.call f vs) :=
  L2.walk_of (n := 63) (k := 4) (x := "script") (CX := fun _ => CX0) (sp := fun w => spLaw (K w.params)) hn (by decide) hdf ⟨rfl, by decide, by decide⟩ hY F (fun _ _ a ns hl _ hS => ⟨a, ns, rfl, hS, hl, fun _ => rfl⟩) fun _ _ _ _ _ z => z
end Pk
namespace PySem.W.Fast
theorem tw12621843553942091883 : True := ⟨⟩
theorem tw8241702888603308657 : True := ⟨⟩
theorem tw3021021298127738617 : True := ⟨⟩
theorem tw8971406794811115144 : True := ⟨⟩
theorem tw4252091474793851546 : True := ⟨⟩
theorem tw2349250243182372303 : True := ⟨⟩
theorem tw5745033230880177385 : True := ⟨⟩
theorem tw10566316828061335307 : True := ⟨⟩
theorem tw9235033217535224063 : True := ⟨⟩
theorem tw15304275356698209901 : True := ⟨⟩
theorem tw5203999082752674137 : True := ⟨⟩
theorem tw407778770445065249 : True := ⟨⟩
theorem tw12125319536488479723 : True := ⟨⟩
theorem tw9579283974550997353 : True := ⟨⟩
theorem tw135102028184853631 : True := ⟨⟩
theorem tw1942897302475447818 : True := ⟨⟩
theorem tw17715763490036821195 : True := ⟨⟩
theorem tw11283140776256395569 : True := ⟨⟩
theorem tw9435397235426348114 : True := ⟨⟩
theorem tw15636803941000549567 : True := ⟨⟩
theorem tw10966087377568865381 : True := ⟨⟩
theorem tw6791870208031317774 : True := ⟨⟩
theorem tw8651036193171449051 : True := ⟨⟩
theorem tw4628876879207863927 : True := ⟨⟩
theorem tw11808211412405801044 : True := ⟨⟩
theorem tw9777595982190702936 : True := ⟨⟩
theorem tw4372010402292200823 : True := ⟨⟩
theorem tw6520779222412038889 : True := ⟨⟩
theorem tw349625118156819620 : True := ⟨⟩
theorem tw10032268506159593616 : True := ⟨⟩
theorem tw6005862954636497373 : True := ⟨⟩
theorem tw13633341731526452164 : True := ⟨⟩
theorem tw1605494411315557578 : True := ⟨⟩
theorem tw9082318236049024162 : True := ⟨⟩
theorem tw9945103356204016691 : True := ⟨⟩
theorem tw3578831066503646786 : True := ⟨⟩
theorem tw3289609453872631437 : True := ⟨⟩
theorem tw12806832860155063091 : True := ⟨⟩
theorem tw12747082911718469490 : True := ⟨⟩
theorem tw2208550233472894914 : True := ⟨⟩
theorem tw16967489757125623306 : True := ⟨⟩
theorem tw18051001031538997615 : True := ⟨⟩
theorem tw13703880010865586151 : True := ⟨⟩
theorem tw15806710625910405584 : True := ⟨⟩
theorem tw7660164994091241395 : True := ⟨⟩
theorem tw9610387775842530154 : True := ⟨⟩
theorem tw13121859868661506346 : True := ⟨⟩
theorem tw5587990242740553751 : True := ⟨⟩
theorem tw13973131765408208305 : True := ⟨⟩
theorem tw3884127740323856955 : True := ⟨⟩
theorem tw3286579349705800391 : True := ⟨⟩
theorem tw4246816948399238311 : True := ⟨⟩
theorem tw4044554905600979546 : True := ⟨⟩
theorem tw17410437731980890468 : True := ⟨⟩
theorem tw4736987563779606749 : True := ⟨⟩
theorem tw304989780969433226 : True := ⟨⟩
theorem tw5904540779543728605 : True := ⟨⟩
theorem tw3167833790374513338 : True := ⟨⟩
theorem tw10140685403998196454 : True := ⟨⟩
theorem tw17759069117880744731 : True := ⟨⟩
theorem tw7268253852707546426 : True := ⟨⟩
theorem tw4635066825308320079 : True := ⟨⟩
theorem tw8074551049800789644 : True := ⟨⟩
theorem tw15045876401500624703 : True := ⟨⟩
theorem tw10262588110677606680 : True := ⟨⟩
theorem tw17545474429007343132 : True := ⟨⟩
theorem tw16430711400237530695 : True := ⟨⟩
theorem tw15439195569057992612 : True := ⟨⟩
theorem tw18297168172026324980 : True := ⟨⟩
theorem tw7787679693875918694 : True := ⟨⟩
theorem tw16620362699756528815 : True := ⟨⟩
theorem tw10733143715675885929 : True := ⟨⟩
theorem tw8756848323611850642 : True := ⟨⟩
theorem tw7765502292846769264 : True := ⟨⟩
theorem tw1748976657885704444 : True := ⟨⟩
theorem tw3504586794636031160 : True := ⟨⟩
theorem tw13371472886367180088 : True := ⟨⟩
theorem tw637115047102734206 : True := ⟨⟩
theorem tw3510012210670572684 : True := ⟨⟩
theorem tw320851470848233513 : True := ⟨⟩
theorem tw4668623603107345723 : True := ⟨⟩
theorem tw11229880732775499096 : True := ⟨⟩
theorem tw11663661327987374341 : True := ⟨⟩
theorem tw1912495260733501566 : True := ⟨⟩
theorem tw15905051468392304819 : True := ⟨⟩
theorem tw13738341220113606113 : True := ⟨⟩
theorem tw1999953392033519602 : True := ⟨⟩
theorem tw7751317492795592575 : True := ⟨⟩
theorem tw17671805519829339803 : True := ⟨⟩
theorem tw18106066231111070191 : True := ⟨⟩
theorem tw9952561069243609526 : True := ⟨⟩
theorem tw8912300023400435773 : True := ⟨⟩
theorem tw7181811250789350434 : True := ⟨⟩
theorem tw18057205083954656146 : True := ⟨⟩
theorem tw8036585320325209170 : True := ⟨⟩
theorem tw9799682896764122148 : True := ⟨⟩
theorem tw14832128610790466604 : True := ⟨⟩
theorem tw10510023870764747393 : True := ⟨⟩
theorem tw6072214714673081186 : True := ⟨⟩
theorem tw4924696457806629303 : True := ⟨⟩
theorem tw12543533088655451978 : True := ⟨⟩
theorem tw7053128238535622267 : True := ⟨⟩
theorem tw9101523650514365365 : True := ⟨⟩
theorem tw18041895791208546818 : True := ⟨⟩
theorem tw2273425869668431826 : True := ⟨⟩
theorem tw11531089483477116408 : True := ⟨⟩
theorem tw16158101282906089493 : True := ⟨⟩
theorem tw7921950299203465960 : True := ⟨⟩
theorem tw3632729363241301428 : True := ⟨⟩
theorem tw8879351033689959754 : True := ⟨⟩
theorem tw10614977194976311496 : True := ⟨⟩
theorem tw262276161536189773 : True := ⟨⟩
theorem tw12552180822659919367 : True := ⟨⟩
theorem tw11307040910177057444 : True := ⟨⟩
theorem tw12097486711783392060 : True := ⟨⟩
theorem tw16563838934980104645 : True := ⟨⟩
theorem tw920120240661529468 : True := ⟨⟩
theorem tw17351620656070645044 : True := ⟨⟩
theorem tw9520489520857582403 : True := ⟨⟩
theorem tw488680087404813042 : True := ⟨⟩
theorem tw2932020086088388714 : True := ⟨⟩
theorem tw7071209895418362271 : True := ⟨⟩
theorem tw6829565646402721316 : True := ⟨⟩
theorem tw13699734502324915254 : True := ⟨⟩
theorem tw5624150035977074291 : True := ⟨⟩
theorem tw4817283280342218364 : True := ⟨⟩
theorem tw15593309462519083887 : True := ⟨⟩
theorem tw4126982082972030004 : True := ⟨⟩
theorem tw13805965861805872951 : True := ⟨⟩
theorem tw17886743641036683935 : True := ⟨⟩
theorem tw9274812705001207852 : True := ⟨⟩
theorem tw4032795412192665228 : True := ⟨⟩
theorem tw11913113144413766573 : True := ⟨⟩
theorem tw4382249558996090223 : True := ⟨⟩
theorem tw8528742361079449845 : True := ⟨⟩
theorem tw7608735941009262270 : True := ⟨⟩
theorem tw7639985846148939874 : True := ⟨⟩
theorem tw12347940602366120962 : True := ⟨⟩
theorem tw7309361985295309931 : True := ⟨⟩
theorem tw235073909485902161 : True := ⟨⟩
theorem tw2918745317740972799 : True := ⟨⟩
theorem tw4583475372926542801 : True := ⟨⟩
theorem tw18366088614423983166 : True := ⟨⟩
theorem tw13186974240103900942 : True := ⟨⟩
theorem tw2825039199218421314 : True := ⟨⟩
theorem tw13406000370461714702 : True := ⟨⟩
theorem tw13103324223753024384 : True := ⟨⟩
theorem tw3496887107166575945 : True := ⟨⟩
theorem tw16726651484350656339 : True := ⟨⟩
theorem tw10448617369101251673 : True := ⟨⟩
theorem tw5009113555090854902 : True := ⟨⟩
theorem tw8350664023328509530 : True := ⟨⟩
theorem tw17763707540427832052 : True := ⟨⟩
theorem tw6948706303471942505 : True := ⟨⟩
theorem tw14255020976992217760 : True := ⟨⟩
theorem tw9839261800594229794 : True := ⟨⟩
theorem tw4584353002309509790 : True := ⟨⟩
theorem tw10488748824261259368 : True := ⟨⟩
theorem tw3929338883137972369 : True := ⟨⟩
theorem tw2676028625479889169 : True := ⟨⟩
theorem tw5450325003845247896 : True := ⟨⟩
theorem tw17416304586653670191 : True := ⟨⟩
theorem tw2106597314281387657 : True := ⟨⟩
theorem tw556135359428175498 : True := ⟨⟩
theorem tw10565240448285547791 : True := ⟨⟩
theorem tw3239247555810662841 : True := ⟨⟩
theorem tw18263152158964733733 : True := ⟨⟩
theorem tw4224027551245645228 : True := ⟨⟩
theorem tw277603614943149828 : True := ⟨⟩
theorem tw13880385504818615793 : True := ⟨⟩
theorem tw12448223566913159876 : True := ⟨⟩
theorem tw9730375609021761097 : True := ⟨⟩
theorem tw12122466389361331152 : True := ⟨⟩
theorem tw7274376001764721735 : True := ⟨⟩
theorem tw9707633547624179689 : True := ⟨⟩
theorem tw6730735839482746232 : True := ⟨⟩
theorem tw14127793432334368606 : True := ⟨⟩
theorem tw13755636648786096675 : True := ⟨⟩
theorem tw3626044399329893513 : True := ⟨⟩
theorem tw10341134698368585323 : True := ⟨⟩
theorem tw7120097365463912813 : True := ⟨⟩
theorem tw10054427801840310551 : True := ⟨⟩
theorem tw528660693475929915 : True := ⟨⟩
theorem tw5283627740397468618 : True := ⟨⟩
theorem tw2817969119051332643 : True := ⟨⟩
theorem tw3343527610847960438 : True := ⟨⟩
theorem tw18344793034931488458 : True := ⟨⟩
theorem tw18140353295786407783 : True := ⟨⟩
theorem tw15441231453813855512 : True := ⟨⟩
theorem tw6703519007644194003 : True := ⟨⟩
theorem tw4710548724396124510 : True := ⟨⟩
theorem tw5248584857240605198 : True := ⟨⟩
theorem tw8270321000843366908 : True := ⟨⟩
theorem tw15994504462041786817 : True := ⟨⟩
theorem tw272475967746867610 : True := ⟨⟩
theorem tw15419569799502107197 : True := ⟨⟩
theorem tw16500543049814694932 : True := ⟨⟩
theorem tw2634018761234127926 : True := ⟨⟩
theorem tw17456939305296646455 : True := ⟨⟩
theorem tw3646913070002745502 : True := ⟨⟩
theorem tw14016698534536932105 : True := ⟨⟩
theorem tw10634557635369978321 : True := ⟨⟩
theorem tw5167783549391262820 : True := ⟨⟩
theorem tw10601449716797972866 : True := ⟨⟩
theorem tw5640661974318050174 : True := ⟨⟩
end PySem.W.Fast
open PySem PySem.W PyProof.Rows
set_option maxRecDepth 100000 in
set_option maxHeartbeats 0 in
theorem PySem.Challenge.cw_busyweb_k25_between_bounds_holds : PySem.Challenge.rw_busyweb_k25_between_bounds.Holds := by
  w_on; o_law; k_head; (case hw => w_witness2)
  k_fill
  refine Pk.walk (l := PySem.Challenge.rw_busyweb_k25_between_bounds) rfl rfl (fun w h Y => PySem.W.kIn_of Y) ?F
  case F =>
    intro w mg fa h KX G hmg
    refine' Pk.all_mk KX G hmg ?aCBadFlow ?aCWeb ?a1 ?i1 ?l1 ?c1 ?k1 ?a2 ?l2 ?c2 ?k2 ?a3 ?l3 ?c3 ?k3 ?a4 ?l4 ?c4 ?k4 ?a5 ?l5 ?c5 ?k5 ?a6 ?l6 ?c6 ?k6 ?a7 ?l7 ?c7 ?k7 ?a8 ?l8 ?c8 ?k8 ?a9 ?l9 ?c9 ?k9 ?a10 ?l10 ?c10 ?k10 ?a11 ?l11 ?c11 ?k11 ?a12 ?l12 ?c12 ?k12 ?a13 ?l13 ?c13 ?k13 ?a14 ?l14 ?c14 ?k14 ?a15 ?l15 ?c15 ?k15 ?a16 ?l16 ?c16 ?k16 ?a17 ?l17 ?c17 ?k17 ?a18 ?l18 ?c18 ?k18 ?a19 ?l19 ?c19 ?k19 ?a20 ?l20 ?c20 ?k20 ?a21 ?l21 ?c21 ?k21 ?a22 ?l22 ?c22 ?k22 ?pg ?hd ?po ?sa ?nM ?nT ?ca ?cg ?ck ?co ?mk ?kc ?mp ?mt ?x_ie_BadFlow ?z0 ?z1 ?z2 ?z3 ?z4 ?z5 ?z6 ?z7 ?z8 ?z9 ?z10 ?z11 ?z12 ?z13 ?z14
    (case aCBadFlow => k_is)
    (case aCWeb => k_is)
    (case a1 => k_is)
    (case i1 => k_is)
    (case l1 => k_is)
    (case c1 => k_is)
    (case k1 => k_is)
    (case a2 => k_is)
    (case l2 => k_is)
    (case c2 => k_is)
    (case k2 => k_is)
    (case a3 => k_is)
    (case l3 => k_is)
    (case c3 => k_is)
    (case k3 => k_is)
    (case a4 => k_is)
    (case l4 => k_is)
    (case c4 => k_is)
    (case k4 => k_is)
    (case a5 => k_is)
    (case l5 => k_is)
    (case c5 => k_is)
    (case k5 => k_is)
    (case a6 => k_is)
    (case l6 => k_is)
    (case c6 => k_is)
    (case k6 => k_is)
    (case a7 => k_is)
    (case l7 => k_is)
    (case c7 => k_is)
    (case k7 => k_is)
    (case a8 => k_is)
    (case l8 => k_is)
    (case c8 => k_is)
    (case k8 => k_is)
    (case a9 => k_is)
    (case l9 => k_is)
    (case c9 => k_is)
    (case k9 => k_is)
    (case a10 => k_is)
    (case l10 => k_is)
    (case c10 => k_is)
    (case k10 => k_is)
    (case a11 => k_is)
    (case l11 => k_is)
    (case c11 => k_is)
    (case k11 => k_is)
    (case a12 => k_is)
    (case l12 => k_is)
    (case c12 => k_is)
    (case k12 => k_is)
    (case a13 => k_is)
    (case l13 => k_is)
    (case c13 => k_is)
    (case k13 => k_is)
    (case a14 => k_is)
    (case l14 => k_is)
    (case c14 => k_is)
    (case k14 => k_is)
    (case a15 => k_is)
    (case l15 => k_is)
    (case c15 => k_is)
    (case k15 => k_is)
    (case a16 => k_is)
    (case l16 => k_is)
    (case c16 => k_is)
    (case k16 => k_is)
    (case a17 => k_is)
    (case l17 => k_is)
    (case c17 => k_is)
    (case k17 => k_is)
    (case a18 => k_is)
    (case l18 => k_is)
    (case c18 => k_is)
    (case k18 => k_is)
    (case a19 => k_is)
    (case l19 => k_is)
    (case c19 => k_is)
    (case k19 => k_is)
    (case a20 => k_is)
    (case l20 => k_is)
    (case c20 => k_is)
    (case k20 => k_is)
    (case a21 => k_is)
    (case l21 => k_is)
    (case c21 => k_is)
    (case k21 => k_is)
    (case a22 => k_is)
    (case l22 => k_is)
    (case c22 => k_is)
    (case k22 => k_is)
    (case pg => k_is)
    (case hd => k_is)
    (case po => k_is)
    (case sa => k_is)
    (case nM => k_is)
    (case nT => k_is)
    (case ca => k_is)
    (case cg => k_is)
    (case ck => k_is)
    (case co => k_is)
    (case mk => k_is)
    (case kc => k_is)
    (case mp => k_is)
    (case mt => k_is)
    (case x_ie_BadFlow => k_exc)
    (case z0 => k_is)
    (case z1 => k_is)
    (case z2 => k_is)
    (case z3 => k_is)
    (case z4 => k_is)
    (case z5 => k_is)
    (case z6 => k_is)
    (case z7 => k_is)
    (case z8 => k_is)
    (case z9 => k_is)
    (case z10 => k_is)
    (case z11 => k_is)
    (case z12 => k_is)
    (case z13 => k_is)
    (case z14 => k_is)
