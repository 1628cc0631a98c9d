import PyProof.Rows.All
import Wide.All
import OpenK.AllK
import Wide.FinOn
import Lean
import PyProof.EqAt
import PyProof.EqKinds
import PyProof.TupleCall
import KE.KRevIter
import KE.KDictList
import KE.KDictLaws
import PyProof.MinMaxWalk
import PyProof.WalkInts
import PySem.Challenge.RW_busyweb_k06_whole_webs_put_together
set_option Elab.async false
set_option linter.all false
set_option maxRecDepth 100000
namespace L2
open PySem PySem.Spec PyProof.Rows
abbrev Key := Sum Int Str
def keyIs : Key → Value → Bool
  | .inl k, v => Value.isInt k v
  | .inr x, v => Value.isStrOf x v
def keyH (w : World) : Key → Int
  | .inl k => hashInt k
  | .inr x => hashStr w x
theorem keyIs_shape : ∀ {k : Key} {v : Value}, keyIs k v = true → (∃ i t, k = Sum.inl i ∧ v = Value.int i t) ∨ (∃ x t, k = Sum.inr x ∧ v = Value.str x t)
  | .inl i, v, h => by
    obtain ⟨t, e⟩ := Value.isInt_shape (k := i) (v := v) h
    exact .inl ⟨i, t, rfl, e⟩
  | .inr x, v, h => by
    obtain ⟨t, e⟩ := Value.isStrOf_shape (x := x) (v := v) h
    exact .inr ⟨x, t, rfl, e⟩
theorem keyIs_int (i : Int) (t : Tok) : keyIs (.inl i) (.int i t) = true := by simp [keyIs, Value.isInt]
theorem keyIs_str (x : Str) (t : Tok) : keyIs (.inr x) (.str x t) = true := by simp [keyIs, Value.isStrOf]
theorem key_ll (a b : Int) : decide ((Sum.inl a : Key) = Sum.inl b) = (a == b) := by
  by_cases e : a = b
  · subst e; simp
  · have h : ¬ (Sum.inl a : Key) = Sum.inl b := fun q => e (Sum.inl.inj q)
    rw [decide_eq_false h]
    exact (beq_eq_false_iff_ne.mpr e).symm
theorem key_rr (a b : Str) : decide ((Sum.inr a : Key) = Sum.inr b) = decide (a = b) := by
  by_cases e : a = b
  · subst e; simp
  · have h : ¬ (Sum.inr a : Key) = Sum.inr b := fun q => e (Sum.inr.inj q)
    rw [decide_eq_false h, decide_eq_false e]
theorem key_lr (a : Int) (b : Str) : decide ((Sum.inl a : Key) = Sum.inr b) = false := decide_eq_false (fun q => nomatch q)
theorem key_rl (a : Str) (b : Int) : decide ((Sum.inr a : Key) = Sum.inl b) = false := decide_eq_false (fun q => nomatch q)
def mixKind (prog : Program) (w : World) : PySem.KeyKind prog w Key where
  is := keyIs
  hash := keyH w
  inj := fun v a b ha hb => by
    rcases keyIs_shape ha with ⟨i, t, rfl, rfl⟩ | ⟨x, t, rfl, rfl⟩
    · rcases keyIs_shape hb with ⟨j, u, rfl, e⟩ | ⟨y, u, rfl, e⟩
      · injection e with e1 _; rw [e1]
      · exact nomatch e
    · rcases keyIs_shape hb with ⟨j, u, rfl, e⟩ | ⟨y, u, rfl, e⟩
      · exact nomatch e
      · injection e with e1 _; rw [e1]
  byValue := fun k v h => by
    rcases keyIs_shape h with ⟨i, t, rfl, rfl⟩ | ⟨x, t, rfl, rfl⟩ <;> rfl
  pyHash := fun hv h => by
    rcases keyIs_shape hv with ⟨i, t, rfl, rfl⟩ | ⟨x, t, rfl, rfl⟩
    · exact wpAny_pyHash_int h
    · exact wpAny_pyHash_str h
  eqBool := fun hu hv h => by
    rcases keyIs_shape hu with ⟨i, t, rfl, rfl⟩ | ⟨x, t, rfl, rfl⟩
    · rcases keyIs_shape hv with ⟨j, u, rfl, rfl⟩ | ⟨y, u, rfl, rfl⟩
      · rw [key_ll] at h; exact wpAny_eqBool_int h
      · rw [key_lr] at h; exact SeqAt.EqAt.int_str i t y u _ _ _ _ h
    · rcases keyIs_shape hv with ⟨j, u, rfl, rfl⟩ | ⟨y, u, rfl, rfl⟩
      · rw [key_rl] at h; exact SeqAt.EqAt.str_int x t j u _ _ _ _ h
      · rw [key_rr] at h; exact wpAny_eqBool_str h
  «strs» := fun k x t v h => by
    rcases keyIs_shape h with ⟨i, u, rfl, e⟩ | ⟨y, u, rfl, e⟩
    · exact nomatch e
    · injection e with e1 _
      subst e1
      cases v <;> rfl
theorem mixKind_int (prog : Program) (w : World) (i : Int) (t : Tok) : (mixKind prog w).is (.inl i) (.int i t) = true := keyIs_int i t
theorem mixKind_str (prog : Program) (w : World) (x : Str) (t : Tok) : (mixKind prog w).is (.inr x) (.str x t) = true := keyIs_str x t
end L2
namespace L2
open PySem PySem.Spec PyProof.Rows
inductive V where
  | non | bl (b : Bool) | int (i : Int) | str (x : Str) | byt (b : Array UInt8) | flt (b : UInt64) | ref (a : Addr) | ty (n : String)
  deriving DecidableEq
def RelV : V → Value → Prop
  | .non, u => u = Value.none
  | .bl b, u => u = Value.bool b
  | .int i, u => ∃ t, u = Value.int i t
  | .str x, u => ∃ t, u = Value.str x t
  | .byt b, u => ∃ t, u = Value.bytes b t
  | .flt b, u => ∃ t, u = Value.float b t
  | .ref a, u => u = Value.ref a
  | .ty n, u => u = Value.type n
abbrev Vals : List V → List Value → Prop := Paired RelV
theorem Vals.length {xs : List V} {us : List Value} (r : Vals xs us) : xs.length = us.length := Paired.length r
theorem Vals.get : ∀ {xs : List V} {us : List Value} {i : Nat} {x : V}, Vals xs us → xs[i]? = some x → ∃ u, us[i]? = some u ∧ RelV x u
  | _, _, _, _, .nil, e => by simp at e
  | _, _, 0, _, .cons r _, e => by simp at e; subst e; exact ⟨_, rfl, r⟩
  | _, _, i + 1, x, .cons _ t, e => by
    obtain ⟨u, h1, h2⟩ := Vals.get (i := i) (x := x) t (by simpa using e)
    exact ⟨u, by simpa using h1, h2⟩
theorem Vals.set {x : V} {u : Value} (r : RelV x u) : ∀ {xs : List V} {us : List Value} (i : Nat), Vals xs us → Vals (xs.set i x) (us.set i u)
  | _, _, _, .nil => .nil
  | _, _, 0, .cons _ t => .cons r t
  | _, _, i + 1, .cons q t => .cons q (Vals.set r i t)
theorem Vals.append : ∀ {xs ys : List V} {us ws : List Value}, Vals xs us → Vals ys ws → Vals (xs ++ ys) (us ++ ws)
  | _, _, _, _, .nil, s => s
  | _, _, _, _, .cons r t, s => .cons r (Vals.append t s)
theorem Vals.take : ∀ {xs : List V} {us : List Value} (n : Nat), Vals xs us → Vals (xs.take n) (us.take n)
  | _, _, 0, _ => .nil
  | _, _, _ + 1, .nil => .nil
  | _, _, n + 1, .cons r t => .cons r (Vals.take n t)
theorem Vals.drop : ∀ {xs : List V} {us : List Value} (n : Nat), Vals xs us → Vals (xs.drop n) (us.drop n)
  | _, _, 0, r => r
  | _, _, _ + 1, .nil => .nil
  | _, _, n + 1, .cons _ t => Vals.drop n t
def RelO : Option V → Option Value → Prop
  | some v, some u => RelV v u
  | none, none => True
  | _, _ => False
def KV {κ : Type} : List (κ × V) → List (κ × Value) → Prop := Paired fun (p : κ × V) (q : κ × Value) => p.1 = q.1 ∧ RelV p.2 q.2
def kV : Key → V
  | .inl i => .int i
  | .inr x => .str x
inductive HO where
  | lst (xs : List V)
  | tup (xs : List V)
  | dK (kvs : List (Key × V)) | dT (kvs : List (List Key × V))
  | set (S : Int → Bool) (n : Nat)
  | ins (C dx : Addr) (fs : List (Str × V))
  | own (x : Addr)
  | xd (fs : List (Str × V))
  | met (f x : Addr)
  | rng (lo hi : Int)
  | frz (o : Obj) (u : HO)
  | tbl (ps : Array Value)
  | ext (φ : Heap → Prop)
abbrev Hp := Addr → Option HO
def upd (H : Hp) (a : Addr) (o : HO) : Hp := fun b => if b = a then some o else H b
theorem upd_same {H : Hp} {a : Addr} {o : HO} : upd H a o a = some o := by unfold upd; rw [if_pos rfl]
theorem upd_ne {H : Hp} {a b : Addr} {o : HO} (h : b ≠ a) : upd H a o b = H b := by unfold upd; rw [if_neg h]
theorem ne_of {H : Hp} {a b : Addr} {o u : HO} (h : H a = some o) (h' : H b = some u) (d : o ≠ u) : a ≠ b := by
  intro e; subst e; rw [h] at h'; exact d (Option.some.inj h')
theorem ne_of_none {H : Hp} {a b : Addr} {o : HO} (h : H a = some o) (h' : H b = none) : a ≠ b := by
  intro e; subst e; rw [h] at h'; cases h'
section
variable (P : Program) (w : World)
def ObjOk (H : Hp) (h : Heap) (a : Addr) : HO → Prop
  | .lst xs => xs.length ≤ sizeLine ∧ ∃ (its : List Value) (n : Nat), Vals xs its ∧ h.get? a = some { cls := .type "list", data := .seq its.toArray n }
  | .tup xs => xs.length ≤ sizeLine ∧ ∃ its : List Value, Vals xs its ∧ IsTup h a its.toArray
  | .dK kvs => kvs.length ≤ sizeLine ∧ (a == sysModules) = false ∧ ∃ vs, KV kvs vs ∧ h.DictOf (mixKind P w) a vs
  | .dT kvs => kvs.length ≤ sizeLine ∧ (a == sysModules) = false ∧ ∃ xs : List (List Key × Addr × Value),
      Paired (fun (p : List Key × V) (q : List Key × Addr × Value) => p.1 = q.1 ∧ H q.2.1 = some (.tup (p.1.map kV)) ∧ RelV p.2 q.2.2) kvs xs ∧
      ∃ o es ep, h.get? a = some o ∧ o.ExactDict ∧ o.data = .dict es ep ∧ es.toList = xs.map (entryOfKey (tupleKind (mixKind P w))) ∧ (xs.map (·.1)).Nodup
  | .set S n => h.SetOf (intKind P w) a S n
  | .ins C dx fs => H dx = some (.own a) ∧ fs.length ≤ 1000 ∧ dx ≠ a ∧ h.get? a = some (PySem.W.instObj C dx) ∧
      ∃ mA, h.Ns1 dx mA ∧ (∀ f, RelO (fs.lookup f) (mA f)) ∧ PySem.Within mA (fs.map (·.1))
  | .own _ => ∃ o, h.get? a = some o
  | .xd fs => ∃ mA, h.Ns1 a mA ∧ ∀ f, RelO (fs.lookup f) (mA f)
  | .rng lo hi => ∃ t u v, h.get? a = some { cls := .type "range", data := .fields #[.int lo t, .int hi u, .int 1 v] }
  | .frz o u => h.get? a = some o ∧ ObjOk H h a u
  | .tbl ps => h.get? a = some { cls := .none, data := .fields ps }
  | .met f x => h.get? a = some (PySem.W.methodObj (.ref f) (.ref x))
  | .ext φ => φ h ∧ (∃ o, h.get? a = some o) ∧ ∀ h1 h2 : Heap, φ h1 → (∀ o, h1.get? a = some o → h2.get? a = some o) → φ h2
def HOk (H : Hp) (h : Heap) : Prop := ∀ a o, H a = some o → ObjOk P w H h a o
end
section
variable {P : Program} {w : World} {H H' : Hp} {h h' : Heap} {a : Addr} {o : HO}
theorem ObjOk.lt (x : ObjOk P w H h a o) : a < h.objs.size := by
  cases o with
  | lst xs => obtain ⟨_, _, _, _, e⟩ := x; exact Heap.lt_size e
  | tup xs => obtain ⟨_, _, _, p⟩ := x; exact p.lt
  | dK kvs => obtain ⟨_, _, _, _, o, _, _, e, _⟩ := x; exact Heap.lt_size e
  | dT kvs => obtain ⟨_, _, _, _, o, _, _, e, _⟩ := x; exact Heap.lt_size e
  | set S n => obtain ⟨o, _, _, _, e, _⟩ := x; exact Heap.lt_size e
  | ins C dx fs => obtain ⟨_, _, _, e, _⟩ := x; exact Heap.lt_size e
  | own y => obtain ⟨_, e⟩ := x; exact Heap.lt_size e
  | xd fs => obtain ⟨_, ⟨_, _, _, e, _⟩, _⟩ := x; exact Heap.lt_size e
  | rng lo hi => obtain ⟨_, _, _, e⟩ := x; exact Heap.lt_size e
  | frz ob u => obtain ⟨e, _⟩ := x; exact Heap.lt_size e
  | tbl ps => exact Heap.lt_size (show h.get? a = some _ from x)
  | met f y => exact Heap.lt_size (show h.get? a = some _ from x)
  | ext φ => obtain ⟨_, ⟨_, e⟩, _⟩ := x; exact Heap.lt_size e
theorem Paired.mapP {α β : Type} {F G : α → β → Prop} : ∀ {l₁ : List α} {l₂ : List β}, Paired F l₁ l₂ → (∀ a b, F a b → G a b) → Paired G l₁ l₂
  | _, _, .nil, _ => .nil
  | _, _, .cons r t, f => .cons (f _ _ r) (Paired.mapP t f)
theorem Paired.imp' {α β : Type} {F G : α → β → Prop} (f : ∀ a b, F a b → G a b) {l₁ : List α} {l₂ : List β} (r : Paired F l₁ l₂) : Paired G l₁ l₂ := Paired.mapP r f
theorem ObjOk.stay (x : ObjOk P w H h a o) (k : ∀ b u, (b = a ∨ H b = some (.own a)) → h.get? b = some u → h'.get? b = some u)
    (ho : ∀ b, H b = some (.own a) → H' b = some (.own a)) (ht : ∀ b xs, H b = some (.tup xs) → H' b = some (.tup xs)) : ObjOk P w H' h' a o := by
  induction o with
  | lst xs => obtain ⟨z, its, n, r, e⟩ := x; exact ⟨z, its, n, r, k _ _ (.inl rfl) e⟩
  | tup xs => obtain ⟨z, its, r, ob, e, c⟩ := x; exact ⟨z, its, r, ob, k _ _ (.inl rfl) e, c⟩
  | dK kvs => obtain ⟨z, y, vs, r, ob, es, ep, e, c⟩ := x; exact ⟨z, y, vs, r, ob, es, ep, k _ _ (.inl rfl) e, c⟩
  | dT kvs =>
    obtain ⟨z, y, xs, r, ob, es, ep, e, c⟩ := x
    exact ⟨z, y, xs, Paired.mapP r fun p q z => ⟨z.1, ht _ _ z.2.1, z.2.2⟩, ob, es, ep, k _ _ (.inl rfl) e, c⟩
  | set S n => obtain ⟨ob, es, ep, t, e, c⟩ := x; exact ⟨ob, es, ep, t, k _ _ (.inl rfl) e, c⟩
  | ins C dx fs =>
    obtain ⟨d, z, ne, e, mA, ⟨od, es, ep, e2, c⟩, r⟩ := x
    exact ⟨ho _ d, z, ne, k _ _ (.inl rfl) e, mA, ⟨od, es, ep, k _ _ (.inr d) e2, c⟩, r⟩
  | own y => obtain ⟨ob, e⟩ := x; exact ⟨ob, k _ _ (.inl rfl) e⟩
  | xd fs => obtain ⟨mA, ⟨od, es, ep, e, c⟩, r⟩ := x; exact ⟨mA, ⟨od, es, ep, k _ _ (.inl rfl) e, c⟩, r⟩
  | rng lo hi => obtain ⟨t, u, v, e⟩ := x; exact ⟨t, u, v, k _ _ (.inl rfl) e⟩
  | frz ob u ih => obtain ⟨e, q⟩ := x; exact ⟨k _ _ (.inl rfl) e, ih q⟩
  | tbl ps =>
    have e : h.get? a = some { cls := .none, data := .fields ps } := x
    show h'.get? a = some { cls := .none, data := .fields ps }
    exact k a _ (.inl rfl) e
  | met f y =>
    have e : h.get? a = some (PySem.W.methodObj (.ref f) (.ref y)) := x
    show h'.get? a = some (PySem.W.methodObj (.ref f) (.ref y))
    exact k a _ (.inl rfl) e
  | ext φ => obtain ⟨p, ⟨o, e⟩, st⟩ := x; exact ⟨st _ _ p fun o q => k _ _ (.inl rfl) q, ⟨o, k _ _ (.inl rfl) e⟩, st⟩
theorem HOk.lt (x : HOk P w H h) (e : H a = some o) : a < h.objs.size := (x a o e).lt
theorem HOk.fresh (x : HOk P w H h) (e : h.objs.size ≤ a) : H a = none := by
  cases q : H a with
  | none => rfl
  | some u => exact absurd (Nat.lt_of_lt_of_le (x.lt q) e) (Nat.lt_irrefl _)
theorem HOk.kept (x : HOk P w H h) (k : ∀ b u, h.get? b = some u → h'.get? b = some u) : HOk P w H h' := fun a o e =>
  (x a o e).stay (fun b u _ q => k b u q) (fun _ q => q) fun _ _ q => q
theorem HOk.laid (x : HOk P w H h) (k : ∀ b u, h.get? b = some u → h'.get? b = some u) (hp : h.objs.size ≤ a) (new : ObjOk P w (upd H a o) h' a o) : HOk P w (upd H a o) h' := fun b u e => by
  have hn := x.fresh hp
  by_cases hb : b = a
  · subst hb; rw [upd_same] at e; cases e; exact new
  · rw [upd_ne hb] at e
    exact (x b u e).stay (fun c v _ q => k c v q) (fun c q => by rw [upd_ne (ne_of_none q hn)]; exact q) fun c xs q => by rw [upd_ne (ne_of_none q hn)]; exact q
end
def Rd (H : Hp) (a : Addr) (u : HO) : Prop := H a = some u ∨ ∃ o, H a = some (.frz o u)
theorem Rd.of {H : Hp} {a : Addr} {u : HO} (h : H a = some u) : Rd H a u := .inl h
theorem Rd.ok {P : Program} {w : World} {H : Hp} {h : Heap} {a : Addr} {u : HO} (r : Rd H a u) (x : HOk P w H h) : ObjOk P w H h a u := by
  rcases r with r | ⟨o, r⟩
  · exact x a u r
  · obtain ⟨_, q⟩ := x a _ r
    exact q
def Mut : Option HO → Prop
  | some (.lst _) => True
  | some (.dK _) => True
  | some (.dT _) => True
  | some (.set _ _) => True
  | some (.ins _ _ _) => True
  | some (.ext _) => True
  | _ => False
section
variable {P : Program} {w : World} {H : Hp} {h h' : Heap} {x e : Addr} {o' : HO}
theorem HOk.write (ok : HOk P w H h) (mu : Mut (H x)) (he : e = x ∨ H e = some (.own x)) (k : ∀ b u, b ≠ e → h.get? b = some u → h'.get? b = some u) (heo : ∃ u, h'.get? e = some u)
    (new : ObjOk P w (upd H x o') h' x o') : HOk P w (upd H x o') h' := fun b u q => by
  have nown : ∀ c y, H c = some (.own y) → c ≠ x := fun c y r z => by subst z; rw [r] at mu; exact mu
  have ntup : ∀ c xs, H c = some (.tup xs) → c ≠ x := fun c xs r z => by subst z; rw [r] at mu; exact mu
  by_cases hb : b = x
  · subst hb; rw [upd_same] at q; cases q; exact new
  · rw [upd_ne hb] at q
    by_cases hbe : b = e
    · have q' : H b = some (.own x) := by
        rcases he with z | z
        · exact absurd (hbe.trans z) hb
        · rw [hbe]; exact z
      rw [q] at q'; cases q'
      obtain ⟨v, hv⟩ := heo
      exact ⟨v, by rw [hbe]; exact hv⟩
    · refine (ok b u q).stay (fun c v hc r => k c v ?_ r) (fun c r => by rw [upd_ne (nown c b r)]; exact r) fun c xs r => by rw [upd_ne (ntup c xs r)]; exact r
      rcases hc with rfl | hc
      · exact hbe
      · rintro rfl
        rcases he with z | z
        · exact nown c b hc z
        · rw [hc] at z; cases z; exact hb rfl
end
structure Un (fs ex : List Addr) (H H' : Hp) (h h' : Heap) : Prop where
  keep : ∀ b o, h.get? b = some o → H b = none → b ∉ fs → b ∉ ex → h'.get? b = some o
  slot : ∀ b o, h.get? b = some o → H b = none → b ∈ fs → b ∉ ex → ∃ sl, h'.get? b = some { o with slots := sl }
  free : ∀ b o, h.get? b = some o → H b = none → b ∉ ex → H' b = none
  there : ∀ b o, h.get? b = some o → b ∉ ex → ∃ o', h'.get? b = some o'
  tups : ∀ b xs, H b = some (.tup xs) → H' b = some (.tup xs)
  frzs : ∀ b o u, H b = some (.frz o u) → H' b = some (.frz o u)
  tbls : ∀ b ps, H b = some (.tbl ps) → ∃ more, H' b = some (.tbl (ps ++ more))
section
variable {fs fs' ex ex' : List Addr} {H H1 H2 : Hp} {h h1 h2 h' : Heap} {a x e : Addr} {o : HO}
theorem Un.any (u : Un fs ex H H1 h h1) {b : Addr} {ob : Obj} (q : h.get? b = some ob) (n : H b = none) (hx : b ∉ ex) : ∃ sl, h1.get? b = some { ob with slots := sl } := by
  by_cases hb : b ∈ fs
  · exact u.slot b ob q n hb hx
  · exact ⟨ob.slots, u.keep b ob q n hb hx⟩
theorem Un.trans (a : Un fs ex H H1 h h1) (b : Un fs ex H1 H2 h1 h2) : Un fs ex H H2 h h2 where
  keep := fun c ob q n hc hx => b.keep c ob (a.keep c ob q n hc hx) (a.free c ob q n hx) hc hx
  slot := fun c ob q n hc hx => by
    obtain ⟨sl, e1⟩ := a.slot c ob q n hc hx
    obtain ⟨sl', e2⟩ := b.slot c _ e1 (a.free c ob q n hx) hc hx
    exact ⟨sl', e2⟩
  free := fun c ob q n hx => by
    obtain ⟨o', e1⟩ := a.there c ob q hx
    exact b.free c o' e1 (a.free c ob q n hx) hx
  there := fun c ob q hx => by
    obtain ⟨o', e1⟩ := a.there c ob q hx
    exact b.there c o' e1 hx
  tups := fun c xs q => b.tups c xs (a.tups c xs q)
  frzs := fun c ob xs q => b.frzs c ob xs (a.frzs c ob xs q)
  tbls := fun c ps q => by
    obtain ⟨m1, e1⟩ := a.tbls c ps q
    obtain ⟨m2, e2⟩ := b.tbls c _ e1
    exact ⟨m1 ++ m2, by rw [e2, Array.append_assoc]⟩
theorem Un.kept (k : ∀ b u, h.get? b = some u → h'.get? b = some u) : Un fs ex H H h h' :=
  ⟨fun b ob q _ _ _ => k b ob q, fun b ob q _ _ _ => ⟨ob.slots, k b ob q⟩, fun _ _ _ n _ => n, fun b ob q _ => ⟨ob, k b ob q⟩, fun _ _ q => q, fun _ _ _ q => q, fun _ ps q => ⟨#[], by rw [q]; simp⟩⟩
theorem Un.refl : Un fs ex H H h h := Un.kept fun _ _ q => q
theorem Un.laid (k : ∀ b u, h.get? b = some u → h'.get? b = some u) (hp : h.objs.size ≤ a) (hn : H a = none) : Un fs ex H (upd H a o) h h' where
  keep := fun b u q _ _ _ => k b u q
  slot := fun b u q _ _ _ => ⟨u.slots, k b u q⟩
  free := fun b u q n _ => by rw [upd_ne (Nat.ne_of_lt (Nat.lt_of_lt_of_le (Heap.lt_size q) hp))]; exact n
  there := fun b u q _ => ⟨u, k b u q⟩
  tups := fun b xs q => by rw [upd_ne (ne_of_none q hn)]; exact q
  frzs := fun b u xs q => by rw [upd_ne (ne_of_none q hn)]; exact q
  tbls := fun b ps q => ⟨#[], by rw [upd_ne (ne_of_none q hn), q]; simp⟩
theorem Un.write (mu : Mut (H x)) (he : e = x ∨ H e = some (.own x)) (k : ∀ b u, b ≠ e → h.get? b = some u → h'.get? b = some u) (heo : ∃ u, h'.get? e = some u) : Un fs ex H (upd H x o) h h' := by
  have hx : ∀ b, H b = none → b ≠ x := fun b n z => by subst z; rw [n] at mu; exact mu
  have hb : ∀ b, H b = none → b ≠ e := fun b n z => by
    subst z
    rcases he with r | r
    · exact hx b n r
    · rw [n] at r; cases r
  have hm : ∀ b u, H b = some u → ¬ Mut (some u) → b ≠ x := fun b u q nm z => by subst z; rw [q] at mu; exact nm mu
  refine ⟨fun b u q n _ _ => k b u (hb b n) q, fun b u q n _ _ => ⟨u.slots, k b u (hb b n) q⟩, fun b u q n _ => by rw [upd_ne (hx b n)]; exact n, fun b u q _ => ?_,
    fun b xs q => by rw [upd_ne (hm b _ q fun z => z)]; exact q, fun b u xs q => by rw [upd_ne (hm b _ q fun z => z)]; exact q, fun b ps q => ⟨#[], by rw [upd_ne (hm b _ q fun z => z), q]; simp⟩⟩
  by_cases hbe : b = e
  · subst hbe; exact heo
  · exact ⟨u, k b u hbe q⟩
theorem Un.mono (u : Un fs ex H H1 h h1) (hs : ∀ b ∈ fs, b ∈ fs') (hx : ∀ b ∈ ex, b ∈ ex') : Un fs' ex' H H1 h h1 :=
  ⟨fun b ob q n hb he => u.keep b ob q n (fun z => hb (hs b z)) fun z => he (hx b z), fun _ _ q n _ he => u.any q n fun z => he (hx _ z), fun b ob q n he => u.free b ob q n fun z => he (hx b z), fun b ob q he => u.there b ob q fun z => he (hx b z), u.tups, u.frzs, u.tbls⟩
end
def trk (h : Heap) (H : Hp) : List Addr := (List.range h.objs.size).filter fun a => (H a).isSome
def hidT (h : Heap) (H : Hp) : Heap := PySem.W.hideAll h (trk h H)
theorem hidT_size (h : Heap) (H : Hp) : (hidT h H).objs.size = h.objs.size := PySem.W.hideAll_size _ _
theorem hidT_get {h : Heap} {H : Hp} {b : Addr} {o : Obj} (e : h.get? b = some o) (n : H b = none) : (hidT h H).get? b = some o :=
  PySem.W.hideAll_get _ e fun hm => by
    have q : (H b).isSome = true := (List.mem_filter.mp hm).2
    rw [n] at q; simp at q
theorem of_hidT {h : Heap} {H : Hp} {b : Addr} {o : Obj} (e : (hidT h H).get? b = some o) : h.get? b = some o ∧ H b = none := by
  have e' : h.get? b = some o := PySem.W.of_hideAll (trk h H) e
  refine ⟨e', ?_⟩
  cases q : H b with
  | none => rfl
  | some x =>
    have hm : b ∈ trk h H := List.mem_filter.mpr ⟨List.mem_range.mpr (Heap.lt_size e'), by simp [q]⟩
    have z : (hidT h H).get? b = none := PySem.W.hideAll_none (trk h H) hm
    rw [z] at e; cases e
def allNews (g h : Heap) (L : Addr) : List (Addr × Obj) := (List.range h.objs.size).filterMap fun a => if a = L ∨ (g.get? a).isSome = true then none else (h.get? a).map fun o => (a, o)
def rest (g h : Heap) (L d : Addr) : List (Addr × Obj) := (allNews g h L).filter fun p => decide (p.1 ≠ d)
end L2
namespace L2
open PySem PySem.Spec PyProof.Rows
structure Mod (K : PySem.W.Frag) (mg : Str → Option Value) (base : Heap) : Prop where
  kin : K.In base
  glob : base.Ns mainGlobals mg
  blt : ∃ mb, base.Ns builtinsNs mb ∧ ∀ x : Str, x ≠ "__name__" → mb x = bootBuiltins x
  nolimit : base.NoLimit
structure Cx where
  prog : Program
  w : World
  K : PySem.W.Frag
  mg : Str → Option Value
  base : Heap
  A : Around
  N : List Str
  s₀ : Shared
  H₀ : Hp
  env : Env
  outer : List Env
  stack : List Env
  ex : List Addr
  fn : Str → Bool
  calm : Bool
  pn : List (Addr × Obj)
  xe : Value → Shared → Prop
def frs (l : List Env) : List Addr := l.filterMap (·.frame)
abbrev Cx.fs (X : Cx) : List Addr := frs X.outer
def Vis (sc : Scope) (x : Str) : Prop := sc.names.lookup x = some .local ∨ sc.names.lookup x = some .cell ∨ sc.names.lookup x = some .free
def Loc (sc : Scope) (x : Str) : Prop := sc.names.lookup x = some .local ∨ sc.names.lookup x = some .cell
def Look (env : Env) (h : Heap) (m : Str → Option Value) (x : Str) (u : Value) : Prop :=
  (env.kindOf x = some .local ∧ m x = some u) ∨ ((env.kindOf x = some .cell ∨ env.kindOf x = some .free) ∧ ∃ c, env.cells.lookup x = some c ∧ h.IsCell c (some u))
structure Cx.Ok (X : Cx) : Prop where
  mod : Mod X.K X.mg X.base
  kind : X.env.scope.kind = .function
  glob : X.env.globals = mainGlobals
  blt : X.env.builtins = builtinsNs
  above : X.s₀.heap.objs.size ≤ X.env.locals
  inj : ∀ x y c, X.env.cells.lookup x = some c → X.env.cells.lookup y = some c → x = y
  has : ∀ x, (X.env.kindOf x = some .cell ∨ X.env.kindOf x = some .free) → ∃ c, X.env.cells.lookup x = some c
  cab : ∀ x c, X.fn x = true → X.env.cells.lookup x = some c → X.s₀.heap.objs.size ≤ c
  hd : X.calm = true → X.A.handled = none
  frames : X.A.frames = some X.stack
  stk : X.stack = X.outer ∨ (X.stack = X.env :: X.outer ∧ X.env.frame = some X.env.locals)
  exf : ∀ b ∈ X.ex, b ≠ X.env.locals ∧ ∀ x c, X.env.cells.lookup x = some c → c ≠ b
  bs : ∀ b o, X.base.get? b = some o → X.s₀.heap.get? b = some o ∧ X.H₀ b = none
  bsz : X.base.objs.size ≤ X.s₀.heap.objs.size
  noex : ∀ b o, X.base.get? b = some o → b ∉ X.ex
  exfs : ∀ b ∈ X.ex, b ∉ X.fs
  funs : X.s₀.heap.FunFrames X.base X.outer
  frf : ∀ b ∈ X.fs, X.H₀ b = none
structure Inv (X : Cx) (pins : List (Addr × Obj)) (σ : List (Option V)) (H : Hp) (s : Shared) : Prop where
  ok : X.Ok
  os : s.os = X.s₀.os
  bare : AllBare s.gens
  base : Un X.fs X.ex X.H₀ H X.s₀.heap s.heap
  loc : ∃ m, s.heap.Ns X.env.locals m ∧ ∀ (i : Nat) (x : Str) (v : V), X.N[i]? = some x → σ[i]? = some (some v) → Vis X.env.scope x → ∃ u, RelV v u ∧ Look X.env s.heap m x u
  cell : ∀ x c, X.env.cells.lookup x = some c → ∃ v, s.heap.IsCell c v
  free : H X.env.locals = none
  freeC : ∀ x c, X.env.cells.lookup x = some c → H c = none
  pin : ∀ p ∈ X.pn ++ pins, s.heap.get? p.1 = some p.2 ∧ H p.1 = none ∧ p.1 ≠ X.env.locals ∧ p.1 ∉ X.fs ∧ ∀ v, p.2.data ≠ .cell v
  hok : HOk X.prog X.w H s.heap
  len : σ.length = X.N.length
section
variable {X : Cx} {pins : List (Addr × Obj)} {σ : List (Option V)} {H H' : Hp} {s : Shared} {h' : Heap}
theorem Cx.Ok.nofr (ok : X.Ok) {b : Addr} {o : Obj} (e : X.base.get? b = some o) : b ∉ X.fs := fun hb => by
  have := (ok.funs.mem hb).1
  rw [e] at this; cases this
theorem Inv.bs (I : Inv X pins σ H s) : ∀ b o, X.base.get? b = some o → s.heap.get? b = some o ∧ H b = none := fun b o e =>
  ⟨I.base.keep b o (I.ok.bs b o e).1 (I.ok.bs b o e).2 (I.ok.nofr e) (I.ok.noex b o e), I.base.free b o (I.ok.bs b o e).1 (I.ok.bs b o e).2 (I.ok.noex b o e)⟩
theorem Inv.bk (I : Inv X pins σ H s) : ∀ b o, X.base.get? b = some o → s.heap.get? b = some o := fun b o e => (I.bs b o e).1
theorem Inv.mod (I : Inv X pins σ H s) : Mod X.K X.mg X.base := I.ok.mod
theorem Inv.kIn (I : Inv X pins σ H s) : X.K.In s.heap := I.ok.mod.kin.keeps I.bk
theorem Inv.nolimit (I : Inv X pins σ H s) : s.heap.NoLimit := I.ok.mod.nolimit.keeps I.bk
theorem Inv.fr (I : Inv X pins σ H s) : ∃ m, Fr X.base X.env.locals s.heap m :=
  let ⟨m, hn, _⟩ := I.loc
  ⟨m, hn, I.bk, Nat.le_trans I.ok.bsz I.ok.above⟩
theorem Inv.lt (I : Inv X pins σ H s) : X.env.locals < s.heap.objs.size := let ⟨_, hn, _⟩ := I.loc; hn.lt
theorem Inv.sz (I : Inv X pins σ H s) : X.s₀.heap.objs.size ≤ s.heap.objs.size := Nat.le_trans I.ok.above (Nat.le_of_lt I.lt)
theorem Inv.nofs (I : Inv X pins σ H s) {a : Addr} (h : s.heap.objs.size ≤ a) : a ∉ X.fs := fun hb => by
  obtain ⟨_, o, ho, _⟩ := I.ok.funs.mem hb
  exact absurd (Nat.lt_of_lt_of_le (Heap.lt_size ho) (Nat.le_trans I.sz h)) (Nat.lt_irrefl _)
theorem Inv.cne (I : Inv X pins σ H s) : ∀ x c, X.env.cells.lookup x = some c → c ≠ X.env.locals := fun x c e z => by
  obtain ⟨v, o, ho, hd⟩ := I.cell x c e
  obtain ⟨m, ⟨o', es, ep, ho', hd', _⟩, _⟩ := I.loc
  rw [z, ho'] at ho; cases ho; rw [hd'] at hd; cases hd
theorem Inv.funs (I : Inv X pins σ H s) : s.heap.FunFrames X.base X.outer := by
  have all : ∀ (l : List Env), (∀ b ∈ frs l, b ∈ X.fs) → X.s₀.heap.FunFrames X.base l → s.heap.FunFrames X.base l := by
    intro l
    induction l with
    | nil => intro _ _; trivial
    | cons env r ih =>
      intro hs hl
      obtain ⟨hk, ⟨L, o, hf, hn, ho, hd⟩, hr⟩ := hl
      have hL : L ∈ X.fs := hs L (by unfold frs; rw [List.filterMap_cons, hf]; exact List.mem_cons_self)
      obtain ⟨sl, e⟩ := I.base.slot L o ho (I.ok.frf L hL) hL fun z => I.ok.exfs L z hL
      exact ⟨hk, ⟨L, _, hf, hn, e, hd⟩, ih (fun b hb => hs b (by unfold frs; rw [List.filterMap_cons, hf]; exact List.mem_cons_of_mem _ hb)) hr⟩
  exact all X.outer (fun _ hb => hb) I.ok.funs
theorem Inv.stack (I : Inv X pins σ H s) : s.heap.FunFrames X.base X.stack := by
  rcases I.ok.stk with e | ⟨e, hf⟩
  · rw [e]; exact I.funs
  · rw [e]
    obtain ⟨m, hn, _⟩ := I.loc
    refine .cons (by rw [I.ok.kind]; decide) hf hn ?_ I.funs
    exact Heap.get?_none_of_le (Nat.le_trans I.ok.bsz I.ok.above)
theorem Inv.stkSub (I : Inv X pins σ H s) : ∀ b ∈ frs X.stack, b ∈ X.env.locals :: X.fs := fun b hb => by
  rcases I.ok.stk with e | ⟨e, hf⟩
  · rw [e] at hb; exact List.mem_cons_of_mem _ hb
  · rw [e] at hb
    unfold frs at hb
    rw [List.filterMap_cons, hf] at hb
    exact hb
theorem Inv.stkFree (I : Inv X pins σ H s) : ∀ b ∈ frs X.stack, H b = none := fun b hb => by
  rcases List.mem_cons.mp (I.stkSub b hb) with e | hb
  · rw [e]; exact I.free
  · obtain ⟨_, o, ho, _⟩ := I.ok.funs.mem hb
    exact I.base.free b o ho (I.ok.frf b hb) fun z => I.ok.exfs b z hb
theorem Inv.step {g' : Array GenState} {t' : Nat} {d' : Drawn} {ch : List Addr} (I : Inv X pins σ H s)
    (hch : ∀ b ∈ ch, (b ∈ X.ex ∨ X.s₀.heap.objs.size ≤ b) ∧ b ≠ X.env.locals ∧ (∀ x c, X.env.cells.lookup x = some c → c ≠ b) ∧ ∀ p ∈ X.pn ++ pins, p.1 ≠ b)
    (keep : ∀ b o, b ≠ X.env.locals → b ∉ X.fs → b ∉ ch → s.heap.get? b = some o → H b = none → h'.get? b = some o)
    (slot : ∀ b o, b ≠ X.env.locals → b ∈ X.fs → b ∉ ch → s.heap.get? b = some o → H b = none → ∃ sl, h'.get? b = some { o with slots := sl }) (free : ∀ b o, b ∉ ch → s.heap.get? b = some o → H b = none → H' b = none)
    (there : ∀ b o, b ∉ ch → s.heap.get? b = some o → ∃ o', h'.get? b = some o')
    (tups : ∀ b xs, H b = some (.tup xs) → H' b = some (.tup xs)) (frzs : ∀ b o u, H b = some (.frz o u) → H' b = some (.frz o u)) (tbls : ∀ b ps, H b = some (.tbl ps) → ∃ more, H' b = some (.tbl (ps ++ more)))
    (ns : ∀ m, s.heap.Ns X.env.locals m → h'.Ns X.env.locals m) (hok : HOk X.prog X.w H' h') (hg : AllBare g') :
    Inv X pins σ H' { s with heap := h', gens := g', drawn := d', toks := t' } := by
  have neL : ∀ b o, X.s₀.heap.get? b = some o → b ≠ X.env.locals := fun b o e => Nat.ne_of_lt (Nat.lt_of_lt_of_le (Heap.lt_size e) I.ok.above)
  have neC : ∀ b o, X.s₀.heap.get? b = some o → b ∉ X.ex → b ∉ ch := fun b o e hx hb => by
    rcases (hch b hb).1 with z | z
    · exact hx z
    · exact absurd (Nat.lt_of_lt_of_le (Heap.lt_size e) z) (Nat.lt_irrefl _)
  have cellK : ∀ x c, X.env.cells.lookup x = some c → ∀ v, s.heap.IsCell c v → h'.IsCell c v := fun x c e v ⟨o, ho, hd⟩ => by
    have nch : c ∉ ch := fun z => (hch c z).2.2.1 x c e rfl
    by_cases hc : c ∈ X.fs
    · obtain ⟨sl, q⟩ := slot c o (I.cne x c e) hc nch ho (I.freeC x c e)
      exact ⟨_, q, hd⟩
    · exact ⟨o, keep c o (I.cne x c e) hc nch ho (I.freeC x c e), hd⟩
  refine ⟨I.ok, I.os, hg, ⟨fun b o e n hb hx => ?_, fun b o e n hb hx => ?_, fun b o e n hx => ?_, fun b o e hx => ?_, fun b xs e => tups b xs (I.base.tups b xs e), fun b o xs e => frzs b o xs (I.base.frzs b o xs e), fun b ps e => ?_⟩, ?_, fun x c e => ?_, ?_, fun x c e => ?_, fun p hp => ?_, hok, I.len⟩
  · exact keep b o (neL b o e) hb (neC b o e hx) (I.base.keep b o e n hb hx) (I.base.free b o e n hx)
  · obtain ⟨sl, e1⟩ := I.base.slot b o e n hb hx
    obtain ⟨sl', e2⟩ := slot b _ (neL b o e) hb (neC b o e hx) e1 (I.base.free b o e n hx)
    exact ⟨sl', e2⟩
  · obtain ⟨o', e1⟩ := I.base.there b o e hx
    exact free b o' (neC b o e hx) e1 (I.base.free b o e n hx)
  · obtain ⟨o', e1⟩ := I.base.there b o e hx
    exact there b o' (neC b o e hx) e1
  · obtain ⟨m1, e1⟩ := I.base.tbls b ps e
    obtain ⟨m2, e2⟩ := tbls b _ e1
    exact ⟨m1 ++ m2, by rw [e2, Array.append_assoc]⟩
  · obtain ⟨m, hn, hl⟩ := I.loc
    refine ⟨m, ns m hn, fun i x v e1 e2 e3 => ?_⟩
    obtain ⟨u, r, l⟩ := hl i x v e1 e2 e3
    refine ⟨u, r, ?_⟩
    rcases l with l | ⟨k, c, e, z⟩
    · exact .inl l
    · exact .inr ⟨k, c, e, cellK x c e _ z⟩
  · obtain ⟨v, z⟩ := I.cell x c e
    exact ⟨v, cellK x c e v z⟩
  · obtain ⟨m, ⟨o, _, _, ho, _⟩, _⟩ := I.loc
    exact free _ o (fun z => (hch _ z).2.1 rfl) ho I.free
  · obtain ⟨v, o, ho, hd⟩ := I.cell x c e
    exact free c o (fun z => (hch c z).2.2.1 x c e rfl) ho (I.freeC x c e)
  · obtain ⟨e, n, ne, nf, d⟩ := I.pin p hp
    have nch : p.1 ∉ ch := fun z => (hch p.1 z).2.2.2 p hp rfl
    exact ⟨keep p.1 p.2 ne nf nch e n, free p.1 p.2 nch e n, ne, nf, d⟩
theorem Inv.un {t' : Nat} (I : Inv X pins σ H s) (u : Un X.fs [] H H' s.heap h') (hok : HOk X.prog X.w H' h') : Inv X pins σ H' { s with heap := h', toks := t' } := by
  obtain ⟨m, ⟨o, es, ep, ho, r⟩, _⟩ := id I.loc
  obtain ⟨sl, hL⟩ := u.any ho I.free (by simp)
  exact I.step (g' := s.gens) (d' := s.drawn) (ch := []) (fun _ z => nomatch z) (fun b o _ hb _ e n => u.keep b o e n hb (by simp)) (fun b o _ hb _ e n => u.slot b o e n hb (by simp)) (fun b o _ e n => u.free b o e n (by simp)) (fun b o _ e => u.there b o e (by simp)) u.tups u.frzs u.tbls (fun m' hm => by
    obtain ⟨o', es', ep', ho', r'⟩ := hm
    rw [ho] at ho'; cases ho'
    exact ⟨_, es', ep', hL, r'⟩) hok I.bare
theorem Inv.call {g' : Array GenState} {t' : Nat} {d' : Drawn} {ch : List Addr} (I : Inv X pins σ H s) (u : Un (frs X.stack) ch H H' s.heap h') (hok : HOk X.prog X.w H' h') (hg : AllBare g')
    (hch : ∀ b ∈ ch, (b ∈ X.ex ∨ X.s₀.heap.objs.size ≤ b) ∧ b ≠ X.env.locals ∧ (∀ x c, X.env.cells.lookup x = some c → c ≠ b) ∧ ∀ p ∈ X.pn ++ pins, p.1 ≠ b) :
    Inv X pins σ H' { s with heap := h', gens := g', drawn := d', toks := t' } := by
  obtain ⟨m, ⟨o, es, ep, ho, r⟩, _⟩ := id I.loc
  obtain ⟨sl, hL⟩ := u.any ho I.free fun z => (hch _ z).2.1 rfl
  exact I.step (ch := ch) hch (fun b o hL hb hc e n => u.keep b o e n (fun z => (List.mem_cons.mp (I.stkSub b z)).elim hL hb) hc) (fun b o _ _ hc e n => u.any e n hc) (fun b o hc e n => u.free b o e n hc) (fun b o hc e => u.there b o e hc) u.tups u.frzs u.tbls (fun m' hm => by
    obtain ⟨o', es', ep', ho', r'⟩ := hm
    rw [ho] at ho'; cases ho'
    exact ⟨_, es', ep', hL, r'⟩) hok hg
theorem Inv.turned {t' : Nat} {it : Addr} (I : Inv X pins σ H s) (k : ∀ b o, b ≠ it → s.heap.get? b = some o → h'.get? b = some o) (hn : H it = none) (hL : it ≠ X.env.locals)
    (h1 : it ∈ X.ex ∨ X.s₀.heap.objs.size ≤ it) (h2 : ∀ x c, X.env.cells.lookup x = some c → c ≠ it) (h3 : ∀ p ∈ X.pn ++ pins, p.1 ≠ it) : Inv X pins σ H { s with heap := h', toks := t' } := by
  have nit : ∀ b u, H b = some u → b ≠ it := fun b u e z => by rw [z, hn] at e; cases e
  refine I.step (g' := s.gens) (d' := s.drawn) (ch := [it]) (fun b hb => ?_) (fun b o _ _ hc e _ => k b o (fun z => hc (by simp [z])) e) (fun b o _ _ hc e _ => ⟨o.slots, k b o (fun z => hc (by simp [z])) e⟩) (fun _ _ _ _ n => n)
    (fun b o hc e => ⟨o, k b o (fun z => hc (by simp [z])) e⟩) (fun _ _ e => e) (fun _ _ _ e => e) (fun b ps e => ⟨#[], by rw [e]; simp⟩) (fun m hm => ?_) (fun b u e => ?_) I.bare
  · have e : b = it := by simpa using hb
    subst e
    exact ⟨h1, hL, h2, h3⟩
  · obtain ⟨o, es, ep, ho, r⟩ := hm
    exact ⟨o, es, ep, k _ o (Ne.symm hL) ho, r⟩
  · refine (I.hok b u e).stay (fun c v hc q => k c v ?_ q) (fun _ q => q) fun _ _ q => q
    rcases hc with z | z
    · rw [z]; exact nit b u e
    · exact nit c _ z
theorem Inv.tok (I : Inv X pins σ H s) (t : Nat) : Inv X pins σ H { s with toks := t } := I.un (h' := s.heap) (t' := t) Un.refl I.hok
theorem Inv.kept {t' : Nat} (I : Inv X pins σ H s) (k : ∀ b u, s.heap.get? b = some u → h'.get? b = some u) : Inv X pins σ H { s with heap := h', toks := t' } := I.un (Un.kept k) (I.hok.kept k)
theorem Inv.laid {a : Addr} {o : HO} {t' : Nat} (I : Inv X pins σ H s) (k : ∀ b u, s.heap.get? b = some u → h'.get? b = some u) (hp : s.heap.objs.size ≤ a) (new : ObjOk X.prog X.w (upd H a o) h' a o) :
    Inv X pins σ (upd H a o) { s with heap := h', toks := t' } := I.un (Un.laid k hp (I.hok.fresh hp)) (I.hok.laid k hp new)
theorem Inv.write {x e : Addr} {o : HO} {t' : Nat} (I : Inv X pins σ H s) (mu : Mut (H x)) (he : e = x ∨ H e = some (.own x)) (k : ∀ b u, b ≠ e → s.heap.get? b = some u → h'.get? b = some u) (heo : ∃ u, h'.get? e = some u)
    (new : ObjOk X.prog X.w (upd H x o) h' x o) : Inv X pins σ (upd H x o) { s with heap := h', toks := t' } := I.un (Un.write mu he k heo) (I.hok.write mu he k heo new)
theorem Inv.weak {σ' : List (Option V)} (I : Inv X pins σ H s) (hl : σ'.length = σ.length) (w : ∀ (i : Nat) v, σ'[i]? = some (some v) → σ[i]? = some (some v)) : Inv X pins σ' H s :=
  ⟨I.ok, I.os, I.bare, I.base, let ⟨m, hn, hl'⟩ := I.loc; ⟨m, hn, fun i x v e1 e2 e3 => hl' i x v e1 (w i v e2) e3⟩, I.cell, I.free, I.freeC, I.pin, I.hok, hl.trans I.len⟩
theorem Inv.pins_of {pins' : List (Addr × Obj)} (I : Inv X pins σ H s) (h : ∀ p ∈ pins', s.heap.get? p.1 = some p.2 ∧ H p.1 = none ∧ p.1 ≠ X.env.locals ∧ p.1 ∉ X.fs ∧ ∀ v, p.2.data ≠ .cell v) : Inv X pins' σ H s :=
  ⟨I.ok, I.os, I.bare, I.base, I.loc, I.cell, I.free, I.freeC, fun p hp => (List.mem_append.mp hp).elim (fun z => I.pin p (List.mem_append_left _ z)) (h p), I.hok, I.len⟩
theorem nodup_ix {N : List Str} (hN : N.Nodup) {i j : Nat} {x : Str} (a : N[i]? = some x) (b : N[j]? = some x) : i = j := by
  obtain ⟨h1, e1⟩ := List.getElem?_eq_some_iff.mp a
  obtain ⟨h2, e2⟩ := List.getElem?_eq_some_iff.mp b
  exact (List.getElem_inj hN).mp (e1.trans e2.symm)
theorem store_ok2 {M : Model} {A : Around} {E : Value → Shared → Prop} {i : Nat} {x : Str} {v : V} {u : Value} {Q : Unit → Shared → Prop} (I : Inv X pins σ H s) (hN : X.N.Nodup) (hi : X.N[i]? = some x) (hx : Loc X.env.scope x) (r : RelV v u)
    (h : ∀ s', Inv X pins (σ.set i (some v)) H s' → (∃ a, Heap.SameBut a s.heap s'.heap ∧ (a = X.env.locals ∨ X.env.cells.lookup x = some a)) → Q () s') (hf : X.fn x = true ∨ X.env.scope.names.lookup x = some .local := by first | exact .inl rfl | exact .inr rfl | assumption) : wpAny M A (storeName X.env x u) Q E s := by
  obtain ⟨m, hn, hl⟩ := id I.loc
  have hcls : (X.env.scope.kind == .class || (X.env.scope.kind == .module && X.env.locals != X.env.globals)) = false := by rw [I.ok.kind]; rfl
  have hiσ : i < σ.length := by rw [I.len]; exact (List.getElem?_eq_some_iff.mp hi).1
  have cne := I.cne
  have tracked : ∀ {a : Addr} {h' : Heap}, (∃ o, s.heap.get? a = some o ∧ H a = none) → Heap.SameBut a s.heap h' → HOk X.prog X.w H h' := fun {a h'} ha hs b ob e => by
    obtain ⟨_, _, hfree⟩ := ha
    refine (I.hok b ob e).stay (fun c w' hc q => (hs.2 c ?_).trans q) (fun _ q => q) fun _ _ q => q
    rintro rfl
    rcases hc with rfl | hc
    · rw [hfree] at e; cases e
    · rw [hfree] at hc; cases hc
  rcases hx with hk | hk
  · refine wpAny_storeName_local hk hn (fun h' hn' hs => ?_) hcls
    obtain ⟨oL, _, _, hoL, _⟩ := id hn
    refine h _ ⟨I.ok, I.os, I.bare, ⟨fun b o e n hb hx => ?_, fun b o e n hb hx => ?_, I.base.free, fun b o e hx => ?_, I.base.tups, I.base.frzs, I.base.tbls⟩, ⟨_, hn', fun j y v' e1 e2 e3 => ?_⟩, fun y c e => ?_, I.free, I.freeC, fun p hp => ?_, tracked ⟨oL, hoL, I.free⟩ hs, by simpa using I.len⟩ ⟨_, hs, .inl rfl⟩
    · exact (hs.2 b (Nat.ne_of_lt (Nat.lt_of_lt_of_le (Heap.lt_size e) I.ok.above))).trans (I.base.keep b o e n hb hx)
    · obtain ⟨sl, e1⟩ := I.base.slot b o e n hb hx
      exact ⟨sl, (hs.2 b (Nat.ne_of_lt (Nat.lt_of_lt_of_le (Heap.lt_size e) I.ok.above))).trans e1⟩
    · obtain ⟨o', e1⟩ := I.base.there b o e hx
      exact ⟨o', (hs.2 b (Nat.ne_of_lt (Nat.lt_of_lt_of_le (Heap.lt_size e) I.ok.above))).trans e1⟩
    · by_cases hj : j = i
      · subst hj
        rw [hi] at e1; cases e1
        rw [List.getElem?_set_self hiσ] at e2
        cases e2
        exact ⟨u, r, .inl ⟨hk, by simp⟩⟩
      · rw [List.getElem?_set_ne (Ne.symm hj)] at e2
        obtain ⟨u', r', q⟩ := hl j y v' e1 e2 e3
        refine ⟨u', r', ?_⟩
        rcases q with ⟨k, e⟩ | ⟨k, c, e, z⟩
        · refine .inl ⟨k, ?_⟩
          have : y ≠ x := fun e => hj (nodup_ix hN e1 (e ▸ hi))
          simp [this, e]
        · exact .inr ⟨k, c, e, z.sameBut hs (cne y c e)⟩
    · obtain ⟨w', z⟩ := I.cell y c e
      exact ⟨w', z.sameBut hs (cne y c e)⟩
    · obtain ⟨e, n, ne, nf, d⟩ := I.pin p hp
      exact ⟨(hs.2 p.1 ne).trans e, n, ne, nf, d⟩
  · have hfn : X.fn x = true := by
      rcases hf with z | z
      · exact z
      · rw [z] at hk; cases hk
    obtain ⟨c, hc⟩ := I.ok.has x (.inl hk)
    obtain ⟨w', z⟩ := I.cell x c hc
    refine wpAny_storeName_cell I.ok.kind hk hc z (fun h' hc' hs => ?_)
    obtain ⟨oc, hoc, hocd⟩ := id z
    refine h { s with heap := h' } ⟨I.ok, I.os, I.bare, ⟨fun b o e n hb hx => ?_, fun b o e n hb hx => ?_, I.base.free, fun b o e hx => ?_, I.base.tups, I.base.frzs, I.base.tbls⟩, ⟨m, hn.sameBut hs (Ne.symm (cne x c hc)), fun j y v' e1 e2 e3 => ?_⟩, fun y c' e => ?_, I.free, I.freeC, fun p hp => ?_, tracked ⟨oc, hoc, I.freeC x c hc⟩ hs, by simpa using I.len⟩ ⟨c, hs, .inr hc⟩
    · exact (hs.2 b (Nat.ne_of_lt (Nat.lt_of_lt_of_le (Heap.lt_size e) (I.ok.cab x c hfn hc)))).trans (I.base.keep b o e n hb hx)
    · obtain ⟨sl, e1⟩ := I.base.slot b o e n hb hx
      exact ⟨sl, (hs.2 b (Nat.ne_of_lt (Nat.lt_of_lt_of_le (Heap.lt_size e) (I.ok.cab x c hfn hc)))).trans e1⟩
    · obtain ⟨o', e1⟩ := I.base.there b o e hx
      exact ⟨o', (hs.2 b (Nat.ne_of_lt (Nat.lt_of_lt_of_le (Heap.lt_size e) (I.ok.cab x c hfn hc)))).trans e1⟩
    · by_cases hj : j = i
      · subst hj
        rw [hi] at e1; cases e1
        rw [List.getElem?_set_self hiσ] at e2
        cases e2
        exact ⟨u, r, .inr ⟨.inl hk, c, hc, hc'⟩⟩
      · rw [List.getElem?_set_ne (Ne.symm hj)] at e2
        obtain ⟨u', r', q⟩ := hl j y v' e1 e2 e3
        refine ⟨u', r', ?_⟩
        rcases q with q | ⟨k, c', e, z'⟩
        · exact .inl q
        · refine .inr ⟨k, c', e, z'.sameBut hs ?_⟩
          rintro rfl
          exact hj (nodup_ix hN e1 (I.ok.inj _ _ _ e hc ▸ hi))
    · by_cases hcc : c' = c
      · subst hcc; exact ⟨_, hc'⟩
      · obtain ⟨w2, z2⟩ := I.cell y c' e
        exact ⟨w2, z2.sameBut hs hcc⟩
    · obtain ⟨e, n, ne, nf, d⟩ := I.pin p hp
      refine ⟨(hs.2 p.1 ?_).trans e, n, ne, nf, d⟩
      intro q
      rw [q, hoc] at e
      have q' : oc = p.2 := Option.some.inj e
      exact d w' (by rw [← q']; exact hocd)
theorem store_ok {M : Model} {A : Around} {E : Value → Shared → Prop} {i : Nat} {x : Str} {v : V} {u : Value} {Q : Unit → Shared → Prop} (I : Inv X pins σ H s) (hN : X.N.Nodup) (hi : X.N[i]? = some x) (hx : Loc X.env.scope x) (r : RelV v u)
    (h : ∀ s', Inv X pins (σ.set i (some v)) H s' → Q () s') (hf : X.fn x = true ∨ X.env.scope.names.lookup x = some .local := by first | exact .inl rfl | exact .inr rfl | assumption) : wpAny M A (storeName X.env x u) Q E s :=
  store_ok2 I hN hi hx r (fun s' I' _ => h s' I') hf
theorem Inv.call' {s' : Shared} {ch : List Addr} (I : Inv X pins σ H s) (ho : s'.os = s.os) (u : Un (frs X.stack) ch H H' s.heap s'.heap) (hok : HOk X.prog X.w H' s'.heap) (hg : AllBare s'.gens)
    (hch : ∀ b ∈ ch, (b ∈ X.ex ∨ X.s₀.heap.objs.size ≤ b) ∧ b ≠ X.env.locals ∧ (∀ x c, X.env.cells.lookup x = some c → c ≠ b) ∧ ∀ p ∈ X.pn ++ pins, p.1 ≠ b) : Inv X pins σ H' s' := by
  obtain ⟨h', g', d', t', o'⟩ := s'
  have e : o' = s.os := ho
  subst e
  exact I.call (g' := g') (t' := t') (d' := d') u hok hg hch
end
abbrev XK := Value → Option Addr → Hp → Prop
abbrev St := List (Option V)
abbrev VK := V → Hp → Prop
abbrev TE := St → Hp → VK → Prop
abbrev TT := St → Hp → (Bool → Hp → Prop) → Prop
abbrev TA := St → Hp → (List V → Hp → Prop) → Prop
structure Ends where
  nx : St → Hp → Prop
  rt : VK
  bk : St → Hp → Prop := fun _ _ => False
  ct : St → Hp → Prop := fun _ _ => False
abbrev TS := Ends → St → Hp → Prop
def EP (X : Cx) (pins : List (Addr × Obj)) (σ : St) (Q : VK) (u : Value) (s' : Shared) : Prop := ∃ v H', Inv X pins σ H' s' ∧ RelV v u ∧ Q v H'
def TP (X : Cx) (pins : List (Addr × Obj)) (σ : St) (Q : Bool → Hp → Prop) (b : Bool) (s' : Shared) : Prop := ∃ H', Inv X pins σ H' s' ∧ Q b H'
def AP (X : Cx) (pins : List (Addr × Obj)) (σ : St) (Q : List V → Hp → Prop) (us : List Value) (s' : Shared) : Prop := ∃ vs H', Inv X pins σ H' s' ∧ Vals vs us ∧ Q vs H'
def SP (X : Cx) (pins : List (Addr × Obj)) (D : Ends) (f : Flow) (s' : Shared) : Prop :=
  match f with
  | .next => ∃ σ' H', Inv X pins σ' H' s' ∧ D.nx σ' H'
  | .brk => ∃ σ' H', Inv X pins σ' H' s' ∧ D.bk σ' H'
  | .cont => ∃ σ' H', Inv X pins σ' H' s' ∧ D.ct σ' H'
  | .ret u => ∃ v σ' H', Inv X pins σ' H' s' ∧ RelV v u ∧ D.rt v H'
def PE (X : Cx) (e : Expr) (t : TE) : Prop :=
  ∀ (pins : List (Addr × Obj)) (s : Shared) (σ : St) (H : Hp) (Q : VK), Inv X pins σ H s → t σ H Q → wpAny (model X.prog X.w) X.A (eval e X.env) (EP X pins σ Q) X.xe s
def PT (X : Cx) (e : Expr) (t : TT) : Prop :=
  ∀ (pins : List (Addr × Obj)) (s : Shared) (σ : St) (H : Hp) (Q : Bool → Hp → Prop), Inv X pins σ H s → t σ H Q → wpAny (model X.prog X.w) X.A (isTrue e X.env (eval e X.env)) (TP X pins σ Q) X.xe s
def PW (X : Cx) (e : Expr) (t : TT) : Prop :=
  ∀ (whole : Sem Value) (pins : List (Addr × Obj)) (s : Shared) (σ : St) (H : Hp) (Q : Bool → Hp → Prop), Inv X pins σ H s → t σ H Q → wpAny (model X.prog X.w) X.A (isTrue e X.env whole) (TP X pins σ Q) X.xe s
theorem PW.pt {X : Cx} {e : Expr} {t : TT} (h : PW X e t) : PT X e t := h _
def PA (X : Cx) (es : List Expr) (t : TA) : Prop :=
  ∀ (pos : Pos) (pins : List (Addr × Obj)) (s : Shared) (σ : St) (H : Hp) (Q : List V → Hp → Prop), Inv X pins σ H s → t σ H Q → wpAny (model X.prog X.w) X.A (spliced (backTo pos (starEach es X.env))) (AP X pins σ Q) X.xe s
def PS (X : Cx) (st : Stmt) (t : TS) : Prop :=
  ∀ (pins : List (Addr × Obj)) (s : Shared) (σ : St) (H : Hp) (D : Ends), Inv X pins σ H s → t D σ H → wpAny (model X.prog X.w) X.A (exec st X.env) (SP X pins D) X.xe s
def PSs (X : Cx) (st : List Stmt) (t : TS) : Prop :=
  ∀ (pins : List (Addr × Obj)) (s : Shared) (σ : St) (H : Hp) (D : Ends), Inv X pins σ H s → t D σ H → wpAny (model X.prog X.w) X.A (execs st X.env) (SP X pins D) X.xe s
theorem thn {α : Type} {t : Sem α} {Q Q' : α → Shared → Prop} {M : Model} {A : Around} {E : Value → Shared → Prop} {s : Shared} (h : wpAny M A t Q E s) (hQ : ∀ a s, Q a s → Q' a s) : wpAny M A t Q' E s := wpAny_mono h hQ fun _ _ x => x
end L2
namespace L2
open PySem PySem.Spec PyProof.Rows
section
variable {X : Cx}
def tVar (i : Nat) : TE := fun σ H Q => ∃ v, σ[i]? = some (some v) ∧ Q v H
def tC (v : V) : TE := fun _ H Q => Q v H
theorem pe_var {i : Nat} {x : Str} {pos : Pos} (hN : X.N[i]? = some x) (hv : Vis X.env.scope x) (hd : (x == ("__debug__" : Str)) = false := by decide) (hcd : (x == ("__classdict__" : Str)) = false := by decide) : PE X (.Name x pos) (tVar i) := by
  intro pins s σ H Q I h
  obtain ⟨v, e, h⟩ := h
  obtain ⟨m, hn, hl⟩ := I.loc
  obtain ⟨u, r, l⟩ := hl i x v hN e hv
  have fin : EP X pins σ Q u s := ⟨v, H, I, r, h⟩
  rcases l with ⟨hk, hm⟩ | ⟨hk, c, hc, hcell⟩
  · exact wpAny_Name (wpAny_loadName_local I.ok.kind hk hn hm fin) hd
  · rcases hk with hk | hk
    · exact wpAny_Name (wpAny_loadName_cell I.ok.kind hk hc hcell fin) hd
    · exact wpAny_Name (wpAny_loadName_free I.ok.kind hk hc hcell fin hcd) hd
theorem pe_int {i j pos} : PE X (.Constant (.int i) j pos) (tC (.int i)) := fun _ _ _ H _ I h => wpAny_Constant_int ⟨.int i, H, I.tok _, ⟨_, rfl⟩, h⟩
theorem pe_bl {b j pos} : PE X (.Constant (.bool b) j pos) (tC (.bl b)) := fun _ _ _ H _ I h => Constant_bool ⟨.bl b, H, I, rfl, h⟩
theorem pe_non {j pos} : PE X (.Constant .none j pos) (tC .non) := fun _ _ _ H _ I h => Constant_none ⟨.non, H, I, rfl, h⟩
theorem pe_str {x j pos} : PE X (.Constant (.str x) j pos) (tC (.str x)) := fun _ _ _ H _ I h => Calls.Constant_str ⟨.str x, H, I.tok _, ⟨_, rfl⟩, h⟩
def Gl (X : Cx) (x : Str) : Prop := X.env.kindOf x = some .globalImplicit
theorem ld_glob {E : Value → Shared → Prop} {pins : List (Addr × Obj)} {s : Shared} {σ : St} {H : Hp} {x : Str} {u : Value} {pos : Pos} {Q : Value → Shared → Prop} (I : Inv X pins σ H s) (hg : Gl X x) (hm : X.mg x = some u) (h : Q u s)
    (hd : (x == ("__debug__" : Str)) = false := by decide) : wpAny (model X.prog X.w) X.A (eval (.Name x pos) X.env) Q E s :=
  Calls.Name_function_global I.ok.kind hg (Calls.loadGlobal_global (by rw [I.ok.glob]; exact I.mod.glob.keeps I.bk) hm h) hd
theorem ld_blt {E : Value → Shared → Prop} {pins : List (Addr × Obj)} {s : Shared} {σ : St} {H : Hp} {x : Str} {u : Value} {pos : Pos} {Q : Value → Shared → Prop} (I : Inv X pins σ H s) (hg : Gl X x) (hm : X.mg x = none) (hv : bootBuiltins x = some u) (h : Q u s)
    (hn : x ≠ "__name__" := by decide) (hd : (x == ("__debug__" : Str)) = false := by decide) : wpAny (model X.prog X.w) X.A (eval (.Name x pos) X.env) Q E s := by
  obtain ⟨mb, h1, h2⟩ := I.mod.blt
  exact Calls.Name_function_global I.ok.kind hg (Calls.loadGlobal_builtin (by rw [I.ok.glob]; exact I.mod.glob.keeps I.bk) hm (by rw [I.ok.blt]; exact h1.keeps I.bk) ((h2 x hn).trans hv) h) hd
theorem pe_glob {x : Str} {v : V} {u : Value} {pos : Pos} (hg : Gl X x) (hm : X.mg x = some u) (r : RelV v u) (hd : (x == ("__debug__" : Str)) = false := by decide) : PE X (.Name x pos) (tC v) :=
  fun _ _ _ H _ I h => ld_glob I hg hm ⟨v, H, I, r, h⟩ hd
theorem pe_bltn {x : Str} {v : V} {u : Value} {pos : Pos} (hg : Gl X x) (hm : X.mg x = none) (hv : bootBuiltins x = some u) (r : RelV v u) (hn : x ≠ "__name__" := by decide) (hd : (x == ("__debug__" : Str)) = false := by decide) : PE X (.Name x pos) (tC v) :=
  fun _ _ _ H _ I h => ld_blt I hg hm hv ⟨v, H, I, r, h⟩ hn hd
variable {a b : Expr} {ta tb : TE} {pos : Pos}
def tB (t : TE) : TT := fun σ H Q => t σ H fun x H1 => ∃ c, x = .bl c ∧ Q c H1
theorem pt_val {e : Expr} {t : TE} (h : PE X e t) (he : ∀ whole, isTrue e X.env whole = (do let v ← whole; standAt e.pos; holding [v] (truthy v)) := by intro _; rfl) : PT X e (tB t) := by
  intro pins s σ H Q I hw
  refine isTrue_plain (thn (h pins s σ H _ I hw) fun v s1 ⟨x, H1, I1, r1, q1⟩ => ?_) (he _)
  obtain ⟨d, rfl, q⟩ := q1
  cases r1
  exact wpAny_truthy_bool ⟨H1, I1, q⟩
variable {tA tB' : TT} {rest : List Expr}
def tAnd (t u : TT) : TT := fun σ H Q => t σ H fun c H1 => if c = true then u σ H1 Q else Q false H1
def tOr (t u : TT) : TT := fun σ H Q => t σ H fun c H1 => if c = true then Q true H1 else u σ H1 Q
def tNot (t : TT) : TT := fun σ H Q => t σ H fun c H1 => Q (!c) H1
theorem pw_and1 (ha : PT X a tA) : PW X (.BoolOp .And [a] pos) tA := by
  intro wh pins s σ H Q I h
  refine isTrue_and (thn (ha pins s σ H Q I h) fun c s1 e => ?_)
  cases c with
  | true => exact isTrue_and_nil e
  | false => exact e
theorem pw_or1 (ha : PT X a tA) : PW X (.BoolOp .Or [a] pos) tA := by
  intro wh pins s σ H Q I h
  refine isTrue_or (thn (ha pins s σ H Q I h) fun c s1 e => ?_)
  cases c with
  | false => exact isTrue_or_nil e
  | true => exact e
theorem pw_and (ha : PT X a tA) (hb : PW X (.BoolOp .And (b :: rest) pos) tB') : PW X (.BoolOp .And (a :: b :: rest) pos) (tAnd tA tB') := by
  intro wh pins s σ H Q I h
  refine isTrue_and (thn (ha pins s σ H _ I h) fun c s1 ⟨H1, I1, q1⟩ => ?_)
  cases c with
  | true => exact hb wh pins s1 σ H1 Q I1 q1
  | false => exact ⟨H1, I1, q1⟩
theorem pw_or (ha : PT X a tA) (hb : PW X (.BoolOp .Or (b :: rest) pos) tB') : PW X (.BoolOp .Or (a :: b :: rest) pos) (tOr tA tB') := by
  intro wh pins s σ H Q I h
  refine isTrue_or (thn (ha pins s σ H _ I h) fun c s1 ⟨H1, I1, q1⟩ => ?_)
  cases c with
  | true => exact ⟨H1, I1, q1⟩
  | false => exact hb wh pins s1 σ H1 Q I1 q1
theorem pt_not (ha : PT X a tA) : PT X (.UnaryOp .Not a pos) (tNot tA) := by
  intro pins s σ H Q I h
  exact isTrue_not (ha pins s σ H (fun c H1 => Q (!c) H1) I h)
def tAndV (ta tb : TE) : TE := fun σ H Q => ta σ H fun x H1 => ∃ c, x = .bl c ∧ if c = true then tb σ H1 Q else Q (.bl false) H1
def tNotV (ta : TE) : TE := fun σ H Q => ta σ H fun x H1 => ∃ c, x = .bl c ∧ Q (.bl (!c)) H1
theorem pe_one {op} {t : TE} (h : PE X a t) : PE X (.BoolOp op [a] pos) t := fun pins s σ H Q I hw => BoolOp_one (h pins s σ H Q I hw)
theorem pe_and (ha : PE X a ta) (hb : PE X (.BoolOp .And (b :: rest) pos) tb) : PE X (.BoolOp .And (a :: b :: rest) pos) (tAndV ta tb) := by
  intro pins s σ H Q I h
  refine BoolOp_and (thn (ha pins s σ H _ I h) fun v s1 ⟨x, H1, I1, r1, q1⟩ => ?_)
  obtain ⟨c, rfl, q1⟩ := q1
  cases r1
  refine wpAny_truthy_bool ?_
  cases c with
  | true => exact hb pins s1 σ H1 Q I1 q1
  | false => exact ⟨.bl false, H1, I1, rfl, q1⟩
theorem pe_not (ha : PE X a ta) : PE X (.UnaryOp .Not a pos) (tNotV ta) := by
  intro pins s σ H Q I h
  refine UnaryOp_ (thn (ha pins s σ H _ I h) fun v s1 ⟨x, H1, I1, r1, q1⟩ => ?_)
  obtain ⟨c, rfl, q1⟩ := q1
  cases r1
  exact not_of (wpAny_truthy_bool ⟨.bl (!c), H1, I1, rfl, q1⟩)
def tIf (t : TT) (ta tb : TE) : TE := fun σ H Q => t σ H fun c H1 => if c = true then ta σ H1 Q else tb σ H1 Q
theorem pe_ifExp {c : Expr} (hc : PT X c tA) (ha : PE X a ta) (hb : PE X b tb) : PE X (.IfExp c a b pos) (tIf tA ta tb) := by
  intro pins s σ H Q I h
  refine wpAny_IfExp (thn (hc pins s σ H _ I h) fun d s1 ⟨H1, I1, q1⟩ => ?_)
  cases d with
  | true => exact ha pins s1 σ H1 Q I1 q1
  | false => exact hb pins s1 σ H1 Q I1 q1
end
end L2
namespace L2
open PySem PySem.Spec PyProof.Rows
def SqL (K : PySem.W.Frag) (H : Hp) (a : Addr) (xs : List V) : Prop :=
  Rd H a (.lst xs) ∨
    ∃ (o : Obj) (its : Array Value) (n : Nat), K.lookup a = some o ∧ o.cls = .type "list" ∧ o.dict = none ∧ o.data = .seq its n ∧ its.size ≤ sizeLine ∧ Vals xs its.toList
def SqT (K : PySem.W.Frag) (H : Hp) (a : Addr) (xs : List V) : Prop :=
  Rd H a (.tup xs) ∨
    ∃ (o : Obj) (its : Array Value) (n : Nat), K.lookup a = some o ∧ o.cls = .type "tuple" ∧ o.data = .seq its n ∧ its.size ≤ sizeLine ∧ Vals xs its.toList
def absV : Value → Option V
  | .none => some .non
  | .bool b => some (.bl b)
  | .int i _ => some (.int i)
  | .str x _ => some (.str x)
  | .bytes b _ => some (.byt b)
  | .float b _ => some (.flt b)
  | .ref a => some (.ref a)
  | .type n => some (.ty n)
  | _ => none
theorem RelV.abs {x : V} {u : Value} (r : RelV x u) : absV u = some x := by
  cases x with
  | non => cases r; rfl
  | bl _ => cases r; rfl
  | int _ => obtain ⟨t, rfl⟩ := r; rfl
  | str _ => obtain ⟨t, rfl⟩ := r; rfl
  | byt _ => obtain ⟨t, rfl⟩ := r; rfl
  | flt _ => obtain ⟨t, rfl⟩ := r; rfl
  | ref _ => cases r; rfl
  | ty _ => cases r; rfl
theorem RelV.inj {x y : V} {u : Value} (r : RelV x u) (q : RelV y u) : x = y := Option.some.inj (r.abs.symm.trans q.abs)
theorem Vals.inj : ∀ {xs ys : List V} {us : List Value}, Vals xs us → Vals ys us → xs = ys
  | _, _, _, .nil, .nil => rfl
  | _, _, _, .cons r t, .cons r' t' => by rw [r.inj r', Vals.inj t t']
section
variable {X : Cx} {pins : List (Addr × Obj)} {σ : St} {H : Hp} {s : Shared} {a : Addr} {xs ys : List V}
theorem SqL.of {K : PySem.W.Frag} (h : H a = some (.lst xs)) : SqL K H a xs := .inl (.inl h)
theorem SqT.of {K : PySem.W.Frag} (h : H a = some (.tup xs)) : SqT K H a xs := .inl (.inl h)
theorem Inv.list (I : Inv X pins σ H s) (h : SqL X.K H a xs) : ∃ its : List Value, Vals xs its ∧ PlainL s.heap a its.toArray ∧ xs.length ≤ sizeLine := by
  rcases h with h | ⟨o, its, n, hk, hc, hd, hs, hz, r⟩
  · obtain ⟨z, its, n, r, e⟩ := h.ok I.hok
    exact ⟨its, r, ⟨_, n, e, rfl, rfl, rfl⟩, z⟩
  · refine ⟨its.toList, r, ⟨o, n, I.kIn a o hk, hc, hd, by simpa using hs⟩, ?_⟩
    have e := r.length
    simp only [Array.length_toList] at e
    omega
theorem Inv.tuple (I : Inv X pins σ H s) (h : SqT X.K H a xs) : ∃ its : List Value, Vals xs its ∧ IsTup s.heap a its.toArray ∧ xs.length ≤ sizeLine := by
  rcases h with h | ⟨o, its, n, hk, hc, hs, hz, r⟩
  · obtain ⟨z, its, r, p⟩ := h.ok I.hok
    exact ⟨its, r, p, z⟩
  · refine ⟨its.toList, r, ⟨o, I.kIn a o hk, hc, n, by simpa using hs⟩, ?_⟩
    have e := r.length
    simp only [Array.length_toList] at e
    omega
theorem Inv.list_inj (I : Inv X pins σ H s) (h : SqL X.K H a xs) (h' : SqL X.K H a ys) : xs = ys := by
  obtain ⟨its, r, ⟨o, n, e, _, _, d⟩, _⟩ := I.list h
  obtain ⟨its', r', ⟨o', n', e', _, _, d'⟩, _⟩ := I.list h'
  rw [e] at e'; cases e'
  rw [d] at d'
  injection d' with d1 _
  have : its = its' := by simpa using congrArg Array.toList d1
  subst this
  exact r.inj r'
theorem Inv.tuple_inj (I : Inv X pins σ H s) (h : SqT X.K H a xs) (h' : SqT X.K H a ys) : xs = ys := by
  obtain ⟨its, r, ⟨o, e, _, n, d⟩, _⟩ := I.tuple h
  obtain ⟨its', r', ⟨o', e', _, n', d'⟩, _⟩ := I.tuple h'
  rw [e] at e'; cases e'
  rw [d] at d'
  injection d' with d1 _
  have : its = its' := by simpa using congrArg Array.toList d1
  subst this
  exact r.inj r'
end
abbrev Cx.wish (X : Cx) (E : Value → Shared → Prop) : Cx := { X with xe := E }
abbrev Cx.nox (X : Cx) : Cx := X.wish fun _ _ => False
theorem Cx.Ok.wish {X : Cx} (ok : X.Ok) (E : Value → Shared → Prop) : (X.wish E).Ok :=
  ⟨ok.mod, ok.kind, ok.glob, ok.blt, ok.above, ok.inj, ok.has, ok.cab, ok.hd, ok.frames, ok.stk, ok.exf, ok.bs, ok.bsz, ok.noex, ok.exfs, ok.funs, ok.frf⟩
theorem Cx.Ok.unwish {X : Cx} {E : Value → Shared → Prop} (ok : (X.wish E).Ok) : X.Ok :=
  ⟨ok.mod, ok.kind, ok.glob, ok.blt, ok.above, ok.inj, ok.has, ok.cab, ok.hd, ok.frames, ok.stk, ok.exf, ok.bs, ok.bsz, ok.noex, ok.exfs, ok.funs, ok.frf⟩
section
variable {X : Cx} {pins : List (Addr × Obj)} {σ : St} {H : Hp} {s : Shared} {E : Value → Shared → Prop}
theorem Inv.wish (I : Inv X pins σ H s) (E : Value → Shared → Prop) : Inv (X.wish E) pins σ H s := ⟨I.ok.wish E, I.os, I.bare, I.base, I.loc, I.cell, I.free, I.freeC, I.pin, I.hok, I.len⟩
theorem Inv.unwish (I : Inv (X.wish E) pins σ H s) : Inv X pins σ H s := ⟨I.ok.unwish, I.os, I.bare, I.base, I.loc, I.cell, I.free, I.freeC, I.pin, I.hok, I.len⟩
theorem SP.unwish {D : Ends} {f : Flow} {s' : Shared} (h : SP (X.wish E) pins D f s') : SP X pins D f s' := by
  cases f with
  | next => obtain ⟨σ', H', I, q⟩ := h; exact ⟨σ', H', I.unwish, q⟩
  | brk => obtain ⟨σ', H', I, q⟩ := h; exact ⟨σ', H', I.unwish, q⟩
  | cont => obtain ⟨σ', H', I, q⟩ := h; exact ⟨σ', H', I.unwish, q⟩
  | ret u => obtain ⟨v, σ', H', I, r, q⟩ := h; exact ⟨v, σ', H', I.unwish, r, q⟩
theorem PE.nox {e : Expr} {t : TE} (h : PE X.nox e t) : PE X e t := fun pins s σ H Q I hw =>
  wpAny_mono (h pins s σ H Q (I.wish _) hw) (fun _ _ ⟨v, H', I', r, q⟩ => ⟨v, H', I'.unwish, r, q⟩) fun _ _ z => False.elim z
theorem PT.nox {e : Expr} {t : TT} (h : PT X.nox e t) : PT X e t := fun pins s σ H Q I hw =>
  wpAny_mono (h pins s σ H Q (I.wish _) hw) (fun _ _ ⟨H', I', q⟩ => ⟨H', I'.unwish, q⟩) fun _ _ z => False.elim z
theorem PSs.nox {st : List Stmt} {t : TS} (h : PSs X.nox st t) : PSs X st t := fun pins s σ H D I hw =>
  wpAny_mono (h pins s σ H D (I.wish _) hw) (fun _ _ q => q.unwish) fun _ _ z => False.elim z
end
section
variable {X : Cx} {st : Stmt} {rest : List Stmt} {t u : TS} {e : Expr} {te : TE} {pos : Pos}
def tNext : TS := fun D σ H => D.nx σ H
def tSeq (t u : TS) : TS := fun D σ H => t { D with nx := u D } σ H
theorem pss_nil : PSs X [] tNext := fun _ _ σ H _ I h => wpAny_execs_nil ⟨σ, H, I, h⟩
theorem pss_cons (h1 : PS X st t) (h2 : PSs X rest u) : PSs X (st :: rest) (tSeq t u) := by
  intro pins s σ H D I h
  refine wpAny_execs_cons (thn (h1 pins s σ H { D with nx := u D } I h) fun f s1 q => ?_)
  cases f with
  | next =>
    obtain ⟨σ', H', I', q⟩ := q
    exact h2 pins s1 σ' H' D I' q
  | ret v => exact q
  | brk => exact q
  | cont => exact q
theorem pss_one (h1 : PS X st t) : PSs X [st] t := by
  intro pins s σ H D I h
  refine wpAny_execs_cons (thn (h1 pins s σ H D I h) fun f s1 q => ?_)
  cases f with
  | next => exact wpAny_execs_nil q
  | ret v => exact q
  | brk => exact q
  | cont => exact q
theorem Inv.quiet {pins : List (Addr × Obj)} {σ : St} {H : Hp} {s : Shared} (I : Inv X pins σ H s) : interactive X.env = false := by simp [interactive, I.ok.kind]
def tDrop (te : TE) : TS := fun D σ H => te σ H fun _ H1 => D.nx σ H1
theorem ps_expr (he : PE X e te) (hs : swapsWith e none pos.line X.env = pure false := by rfl) : PS X (.Expr e pos) (tDrop te) := by
  intro pins s σ H D I h
  exact wpAny_Expr_any (thn (he pins s σ H _ I h) fun v s1 ⟨x, H1, I1, r1, q1⟩ => ⟨σ, H1, I1, q1⟩) I.quiet hs
def tRet (te : TE) : TS := fun D σ H => te σ H D.rt
theorem ps_ret (he : PE X e te) : PS X (.Return (some e) pos) (tRet te) := by
  intro pins s σ H D I h
  exact wpAny_Return_some (thn (he pins s σ H _ I h) fun v s1 ⟨x, H1, I1, r1, q1⟩ => ⟨x, σ, H1, I1, r1, q1⟩)
def tIfS (c : TT) (t u : TS) : TS := fun D σ H => c σ H fun b H1 => if b = true then t D σ H1 else u D σ H1
theorem ps_if {c : Expr} {a b : List Stmt} {tc : TT} (hc : PT X c tc) (ha : PSs X a t) (hb : PSs X b u) : PS X (.If c a b pos) (tIfS tc t u) := by
  intro pins s σ H D I h
  refine wpAny_If (thn (hc pins s σ H _ I h) fun d s1 ⟨H1, I1, q1⟩ => ?_)
  cases d with
  | true => exact ha pins s1 σ H1 D I1 q1
  | false => exact hb pins s1 σ H1 D I1 q1
end
abbrev TG := V → St → Hp → (St → Hp → Prop) → Prop
abbrev TGs := List V → St → Hp → (St → Hp → Prop) → Prop
def PG (X : Cx) (target : Expr) (t : TG) : Prop :=
  ∀ (pins : List (Addr × Obj)) (s : Shared) (σ : St) (H : Hp) (v : V) (u : Value) (Q : St → Hp → Prop), Inv X pins σ H s → RelV v u → t v σ H Q →
    wpAny (model X.prog X.w) X.A (assign target X.env u) (fun _ s' => ∃ σ' H', Inv X pins σ' H' s' ∧ Q σ' H') X.xe s
def PGs (X : Cx) (ts : List Expr) (t : TGs) : Prop :=
  ∀ (pins : List (Addr × Obj)) (s : Shared) (σ : St) (H : Hp) (vs : List V) (us : List Value) (Q : St → Hp → Prop), Inv X pins σ H s → Vals vs us → t vs σ H Q →
    wpAny (model X.prog X.w) X.A (assignInOrder ((assignEach ts X.env).map (·.2)) us) (fun _ s' => ∃ σ' H', Inv X pins σ' H' s' ∧ Q σ' H') X.xe s
abbrev TSet := V → V → V → Hp → (Hp → Prop) → Prop
def PSet (X : Cx) (t : TSet) : Prop :=
  ∀ (pins : List (Addr × Obj)) (s : Shared) (σ : St) (H : Hp) (o i v : V) (ov iv u : Value) (Q : Hp → Prop), Inv X pins σ H s → RelV o ov → RelV i iv → RelV v u → t o i v H Q →
    wpAny (model X.prog X.w) X.A (setItem ov iv u) (fun _ s' => ∃ H', Inv X pins σ H' s' ∧ Q H') X.xe s
section
variable {X : Cx} {pos : Pos}
def gName (i : Nat) : TG := fun v σ H Q => Q (σ.set i (some v)) H
theorem pg_name {i : Nat} {x : Str} (hN : X.N.Nodup) (hi : X.N[i]? = some x) (hx : Loc X.env.scope x) (hf : X.fn x = true ∨ X.env.scope.names.lookup x = some .local := by first | exact .inl rfl | exact .inr rfl | assumption) : PG X (.Name x pos) (gName i) := by
  intro pins s σ H v u Q I r h
  exact wpAny_assign_Name (store_ok I hN hi hx r (fun s' I' => ⟨_, H, I', h⟩) hf)
def gNil : TGs := fun vs σ H Q => vs = [] ∧ Q σ H
def gCons (t : TG) (u : TGs) : TGs := fun vs σ H Q => ∃ v r, vs = v :: r ∧ t v σ H fun σ' H' => u r σ' H' Q
theorem pgs_nil : PGs X [] gNil := by
  intro pins s σ H vs us Q I r h
  obtain ⟨e, h⟩ := h
  subst e
  cases r
  exact assignInOrder_nil ⟨σ, H, I, h⟩
theorem pgs_cons {e : Expr} {es : List Expr} {t : TG} {u : TGs} (h1 : PG X e t) (h2 : PGs X es u)
    (hs : (assignEach (e :: es) X.env).map (·.2) = assign e X.env :: (assignEach es X.env).map (·.2) := by rfl) : PGs X (e :: es) (gCons t u) := by
  intro pins s σ H vs us Q I r h
  obtain ⟨v, vr, e1, h⟩ := h
  subst e1
  cases r with
  | cons r rr =>
    rw [hs]
    refine assignInOrder_cons (thn (h1 pins s σ H _ _ _ I r h) fun _ s1 ⟨σ1, H1, I1, q1⟩ => ?_)
    exact h2 pins s1 σ1 H1 _ _ Q I1 rr q1
def gTup (K : PySem.W.Frag) (n : Nat) (t : TGs) : TG := fun v σ H Q => ∃ a xs, v = .ref a ∧ SqT K H a xs ∧ xs.length = n ∧ t xs σ H Q
theorem pg_tup {es : List Expr} {k : Nat} {t : TGs} {n : Nat} (hc : X.calm = true) (h : PGs X es t)
    (hn : (assignEach es X.env).length = n := by rfl) (hst : (assignEach es X.env).findIdx? (·.1) = none := by rfl) : PG X (.Tuple es k pos) (gTup X.K n t) := by
  intro pins s σ H v u Q I r hw
  obtain ⟨a, xs, e1, hq, hl, hw⟩ := hw
  subst e1
  cases r
  obtain ⟨its, rv, ht, hz⟩ := I.tuple hq
  refine assign_Tuple_tuple (I.ok.hd hc) ht (by simp [hn, ← hl, rv.length]) hst fun h' hx => ?_
  have I1 : Inv X pins σ H { s with heap := h' } := I.kept (t' := s.toks) fun b o e => hx b o (Nat.ne_of_lt (Heap.lt_size e)) e
  exact h pins _ σ H xs _ Q I1 (by simpa using rv) hw
def gSub (to ti : TE) (t : TSet) : TG := fun v σ H Q => to σ H fun o H1 => ti σ H1 fun i H2 => t o i v H2 fun H3 => Q σ H3
theorem pg_sub {o i : Expr} {to ti : TE} {t : TSet} (ho : PE X o to) (hi : PE X i ti) (hs : PSet X t)
    (ha : ∀ v, assign (.Subscript o i pos) X.env v = (do
      let ov ← holding [v] (eval o X.env)
      let iv ← holding [v, ov] (eval i X.env)
      standAt pos
      holding [v, ov, iv] (setItem ov iv v)
      release [v, ov, iv] []) := by intro _; rfl) : PG X (.Subscript o i pos) (gSub to ti t) := by
  intro pins s σ H v u Q I r h
  rw [ha]
  refine wpAny_bind (wpAny_holding (thn (ho pins s σ H _ I h) fun ov s1 ⟨x, H1, I1, r1, q1⟩ => ?_))
  refine wpAny_bind (wpAny_holding (thn (hi pins s1 σ H1 _ I1 q1) fun iv s2 ⟨y, H2, I2, r2, q2⟩ => ?_))
  refine wpAny_bind (wpAny_standAt (wpAny_bind (wpAny_holding (thn (hs pins s2 σ H2 x y v ov iv u _ I2 r1 r2 r q2) fun _ s3 ⟨H3, I3, q3⟩ => ?_))))
  exact wpAny_release ⟨σ, H3, I3, q3⟩
def tAsg (te : TE) (g : TG) : TS := fun D σ H => te σ H fun x H1 => g x σ H1 D.nx
theorem ps_asg {tg e : Expr} {te : TE} {g : TG} (he : PE X e te) (hg : PG X tg g) (hs : swapsWithSole [tg] e pos.line X.env = pure false := by rfl) (hw : swappedStores [tg] e X.env = pure none := by rfl)
    (h1 : (assignEach [tg] X.env).map (·.2) = [assign tg X.env] := by rfl) : PS X (.Assign [tg] e pos) (tAsg te g) := by
  intro pins s σ H D I h
  refine wpAny_Assign_stores (thn (he pins s σ H _ I h) fun v s1 ⟨x, H1, I1, r1, q1⟩ => ?_) hs hw
  rw [h1]
  exact thn (hg pins s1 σ H1 x v _ I1 r1 q1) fun _ s2 q => q
theorem ps_set {i : Nat} {x : Str} {e : Expr} {te : TE} {pos' : Pos} (hN : X.N.Nodup) (hi : X.N[i]? = some x) (hx : Loc X.env.scope x) (he : PE X e te) (hs : swapsWith e (some (.Name x pos')) pos.line X.env = pure false := by rfl) (hf : X.fn x = true ∨ X.env.scope.names.lookup x = some .local := by first | exact .inl rfl | exact .inr rfl | assumption) :
    PS X (.Assign [.Name x pos'] e pos) (tAsg te (gName i)) := by
  intro pins s σ H D I h
  refine wpAny_Assign_Name (thn (he pins s σ H _ I h) fun v s1 ⟨y, H1, I1, r1, q1⟩ => ?_) hs
  exact store_ok I1 hN hi hx r1 (fun s2 I2 => ⟨_, H1, I2, q1⟩) hf
end
section
variable {X : Cx} {pos : Pos}
end
structure It where
  go : Nat → Hp → Prop
  yld : Nat → Hp → V → Hp → Prop
  stop : Nat → Hp → Prop
def FpOk (X : Cx) (pins : List (Addr × Obj)) (H : Hp) (b : Addr) : Prop :=
  H b = none ∧ b ≠ X.env.locals ∧ b ∉ X.fs ∧ (b ∈ X.ex ∨ X.s₀.heap.objs.size ≤ b) ∧ (∀ x c, X.env.cells.lookup x = some c → c ≠ b) ∧ ∀ p ∈ X.pn ++ pins, p.1 ≠ b
theorem Inv.fpOk {X : Cx} {pins : List (Addr × Obj)} {σ : St} {H H' : Hp} {s : Shared} {b : Addr} (I : Inv X pins σ H s) (hb : s.heap.objs.size ≤ b) (hn : H' b = none) : FpOk X pins H' b := by
  refine ⟨hn, Nat.ne_of_gt (Nat.lt_of_lt_of_le I.lt hb), I.nofs hb, .inr (Nat.le_trans I.sz hb), fun x c e z => ?_, fun p hp z => ?_⟩
  · obtain ⟨v, q⟩ := I.cell x c e
    exact absurd (Nat.lt_of_lt_of_le q.lt (by rw [z]; exact hb)) (Nat.lt_irrefl _)
  · exact absurd (Nat.lt_of_lt_of_le (Heap.lt_size (I.pin p hp).1) (by rw [z]; exact hb)) (Nat.lt_irrefl _)
structure Turn (P : Program) (w : World) (K : PySem.W.Frag) (tg : Expr) (J : It) (fp : List Addr) (it : Addr) (tn : Nat → Heap → Prop) : Prop where
  mem : it ∈ fp
  obj : ∀ i h, tn i h → ∀ b ∈ fp, ∃ o, h.get? b = some o ∧ ∀ v, o.data ≠ .cell v
  keep : ∀ i h h', tn i h → (∀ b ∈ fp, ∀ o, h.get? b = some o → h'.get? b = some o) → tn i h'
  item : ∀ (X : Cx), X.prog = P → X.w = w → X.K = K → X.calm = true → ∀ (i : Nat) (pins : List (Addr × Obj)) (s : Shared) (σ : St) (H : Hp) (E : Value → Shared → Prop), Inv X pins σ H s → (∀ b ∈ fp, FpOk X pins H b) → tn i s.heap → J.go i H →
    wpAny (model P w) X.A (pyNext (.ref it)) (fun r s1 => ∃ u, r = some u ∧
      wpAny (model P w) X.A (letOwnedTupleGo tg (.ref it) u) (fun _ s2 => ∃ x H', Inv X pins σ H' s2 ∧ RelV x u ∧ J.yld i H x H' ∧ tn (i + 1) s2.heap ∧ ∀ b ∈ fp, H' b = none) E s1) E s
  done : ∀ (X : Cx), X.prog = P → X.w = w → X.K = K → X.calm = true → ∀ (i : Nat) (pins : List (Addr × Obj)) (s : Shared) (σ : St) (H : Hp) (E : Value → Shared → Prop), Inv X pins σ H s → (∀ b ∈ fp, FpOk X pins H b) → tn i s.heap → J.stop i H →
    wpAny (model P w) X.A (pyNext (.ref it)) (fun r s1 => r = none ∧ Inv X pins σ H s1) E s
  self : ∀ (A : Around) (i : Nat) (s : Shared) (Q : Value → Shared → Prop) (E : Value → Shared → Prop), tn i s.heap → Q (.ref it) s → wpAny (model P w) A (pyIter (.ref it)) Q E s
abbrev TI := St → Hp → (It → Hp → Prop) → Prop
def PIE (X : Cx) (pins : List (Addr × Obj)) (σ : St) (tg : Expr) (R : It → Hp → Prop) (itv : Value) (s2 : Shared) : Prop :=
  ∃ (it : Addr) (fp : List Addr) (tn : Nat → Heap → Prop) (J : It) (H' : Hp), itv = .ref it ∧ Inv X pins σ H' s2 ∧ Turn X.prog X.w X.K tg J fp it tn ∧ tn 0 s2.heap ∧ (∀ b ∈ fp, FpOk X pins H' b) ∧ R J H'
def PI (X : Cx) (tg iter : Expr) (wi : TI) : Prop :=
  ∀ (pins : List (Addr × Obj)) (s : Shared) (σ : St) (H : Hp) (R : It → Hp → Prop), Inv X pins σ H s → wi σ H R →
    wpAny (model X.prog X.w) X.A (eval iter X.env) (fun v s1 => wpAny (model X.prog X.w) X.A (pyIter v) (PIE X pins σ tg R) X.xe s1) X.xe s
theorem go_of {M : Model} {A : Around} {E : Value → Shared → Prop} {s : Shared} {tg : Expr} {it : Addr} {u : Value} {o : Obj} {n : String} {vs : Array Value} {Q : Unit → Shared → Prop} (ho : s.heap.get? it = some o) (hc : o.cls = .type n) (hd : o.data = .fields vs)
    (hn : ["enumerate", "zip", "dict_itemiterator", "dict_reverseitemiterator", "odict_iterator", "itertools.zip_longest", "itertools.pairwise"].contains n = false) (hQ : Q () s) : wpAny M A (letOwnedTupleGo tg (.ref it) u) Q E s := by
  unfold letOwnedTupleGo
  cases tg <;> first
    | exact wpAny_pure hQ
    | (cases u <;> first
        | exact wpAny_pure hQ
        | (refine wpAny_bind (wpAny_load ho ?_)
           rw [hc, hd]
           show wpAny M A (if (["enumerate", "zip", "dict_itemiterator", "dict_reverseitemiterator", "odict_iterator", "itertools.zip_longest", "itertools.pairwise"].contains n && vs[0]? == some (rawInt _)) = true then _ else _) Q E s
           rw [if_neg (by intro h; rw [hn, Bool.false_and] at h; cases h)]
           exact wpAny_pure hQ))
def Itl (K : PySem.W.Frag) (a : Addr) : It :=
  ⟨fun i H => ∃ xs x, SqL K H a xs ∧ xs[i]? = some x, fun i H x H' => H' = H ∧ ∀ xs, SqL K H a xs → xs[i]? = some x, fun i H => ∃ xs, SqL K H a xs ∧ xs.length ≤ i⟩
def Itt (K : PySem.W.Frag) (a : Addr) : It :=
  ⟨fun i H => ∃ xs x, SqT K H a xs ∧ xs[i]? = some x, fun i H x H' => H' = H ∧ ∀ xs, SqT K H a xs → xs[i]? = some x, fun i H => ∃ xs, SqT K H a xs ∧ xs.length ≤ i⟩
def Itr (lo : Int) (n : Nat) : It := ⟨fun i _ => i < n, fun i H x H' => H' = H ∧ x = .int (lo + i), fun i _ => n ≤ i⟩
theorem turn_list {P : Program} {w : World} {K : PySem.W.Frag} {tg : Expr} (a it : Addr) : Turn P w K tg (Itl K a) [it] it (fun i h => h.IsListIter it a i) where
  mem := by simp
  obj := fun i h st b hb => by
    have e : b = it := by simpa using hb
    subst e
    obtain ⟨o, e, c, d⟩ := st
    exact ⟨o, e, fun v z => by rw [d] at z; cases z⟩
  keep := fun i h h' st k => st.at fun o e => k it (by simp) o e
  item := by
    intro X hP hw hK hc i pins s σ H E I hf st hg
    subst hP hw hK
    obtain ⟨xs, x, hq, hx⟩ := hg
    obtain ⟨its, rv, p, hz⟩ := I.list hq
    obtain ⟨u, hu, ru⟩ := rv.get hx
    obtain ⟨f0, f1, f2, f3, f4, f5⟩ := hf it (by simp)
    refine wpAny_pyNext_list_item st p.isList (x := u) (by simpa using hu) fun h' st' sb => ?_
    have I1 : Inv X pins σ H { s with heap := h' } := I.turned (t' := s.toks) (fun b o hb e => (sb.2 b hb).trans e) f0 f1 f3 f4 f5
    obtain ⟨o, e, c, d⟩ := id st'
    exact ⟨u, rfl, go_of (s := { s with heap := h' }) e c d (by decide) ⟨x, H, I1, ru, ⟨rfl, fun ys hy => by rw [I.list_inj hy hq]; exact hx⟩, st', fun b hb => (hf b hb).1⟩⟩
  done := by
    intro X hP hw hK hc i pins s σ H E I hf st hg
    subst hP hw hK
    obtain ⟨xs, hq, hx⟩ := hg
    obtain ⟨its, rv, p, hz⟩ := I.list hq
    obtain ⟨f0, f1, f2, f3, f4, f5⟩ := hf it (by simp)
    have hl := rv.length
    exact wpAny_pyNext_list_end (I.ok.hd hc) st p.isList (by simp; omega) fun h' eb => ⟨rfl, I.turned (t' := s.toks) (fun b o hb e => eb b o hb e) f0 f1 f3 f4 f5⟩
  self := fun _ _ _ _ _ st h => wpAny_pyIter_listiter st h
theorem turn_tuple {P : Program} {w : World} {K : PySem.W.Frag} {tg : Expr} (a it : Addr) : Turn P w K tg (Itt K a) [it] it (fun i h => h.IsTupleIter it a i) where
  mem := by simp
  obj := fun i h st b hb => by
    have e : b = it := by simpa using hb
    subst e
    obtain ⟨o, e, c, d⟩ := st
    exact ⟨o, e, fun v z => by rw [d] at z; cases z⟩
  keep := fun i h h' st k => st.at fun o e => k it (by simp) o e
  item := by
    intro X hP hw hK hc i pins s σ H E I hf st hg
    subst hP hw hK
    obtain ⟨xs, x, hq, hx⟩ := hg
    obtain ⟨its, rv, p, hz⟩ := I.tuple hq
    obtain ⟨u, hu, ru⟩ := rv.get hx
    obtain ⟨f0, f1, f2, f3, f4, f5⟩ := hf it (by simp)
    refine wpAny_pyNext_tuple_item st (show s.heap.IsTuple a its.toArray from p) (x := u) (by simpa using hu) fun h' st' sb => ?_
    have I1 : Inv X pins σ H { s with heap := h' } := I.turned (t' := s.toks) (fun b o hb e => (sb.2 b hb).trans e) f0 f1 f3 f4 f5
    obtain ⟨o, e, c, d⟩ := id st'
    exact ⟨u, rfl, go_of (s := { s with heap := h' }) e c d (by decide) ⟨x, H, I1, ru, ⟨rfl, fun ys hy => by rw [I.tuple_inj hy hq]; exact hx⟩, st', fun b hb => (hf b hb).1⟩⟩
  done := by
    intro X hP hw hK hc i pins s σ H E I hf st hg
    subst hP hw hK
    obtain ⟨xs, hq, hx⟩ := hg
    obtain ⟨its, rv, p, hz⟩ := I.tuple hq
    obtain ⟨f0, f1, f2, f3, f4, f5⟩ := hf it (by simp)
    have hl := rv.length
    exact wpAny_pyNext_tuple_end (I.ok.hd hc) st (show s.heap.IsTuple a its.toArray from p) (by simp; omega) fun h' eb => ⟨rfl, I.turned (t' := s.toks) (fun b o hb e => eb b o hb e) f0 f1 f3 f4 f5⟩
  self := fun _ _ _ _ _ st h => wpAny_pyIter_tupleiter st h
theorem turn_range {P : Program} {w : World} {K : PySem.W.Frag} {tg : Expr} (it : Addr) (lo : Int) (n : Nat) : Turn P w K tg (Itr lo n) [it] it (fun i h => IsRangeIter h it (lo + (i : Nat) * 1) ((n : Int) - (i : Nat)) 1) where
  mem := by simp
  obj := fun i h st b hb => by
    have e : b = it := by simpa using hb
    subst e
    exact ⟨_, st, fun v z => by
      have z' : Data.fields _ = Data.cell v := z
      cases z'⟩
  keep := fun i h h' st k => k it (by simp) _ st
  item := by
    intro X hP hw hK hc i pins s σ H E I hf st hg
    subst hP hw hK
    obtain ⟨f0, f1, f2, f3, f4, f5⟩ := hf it (by simp)
    have W := Walks.range (prog := X.prog) (w := X.w) (I.ok.hd hc) it lo 1 n
    refine W.item i s _ _ hg st fun v h' tk hv st' kk => ?_
    obtain ⟨t, rfl⟩ := hv
    have I1 : Inv X pins σ H { s with heap := h', toks := tk } := I.turned (fun b o hb e => kk b o (by simpa using hb) e) f0 f1 f3 f4 f5
    refine ⟨_, rfl, go_of (s := { s with heap := h', toks := tk }) (n := "range_iterator") st' rfl rfl (by decide) ⟨.int (lo + i), H, I1, ⟨t, ?_⟩, ⟨rfl, rfl⟩, st', fun b hb => (hf b hb).1⟩⟩
    rw [Int.mul_one]
  done := by
    intro X hP hw hK hc i pins s σ H E I hf st hg
    subst hP hw hK
    obtain ⟨f0, f1, f2, f3, f4, f5⟩ := hf it (by simp)
    exact wpAny_pyNext_range_end (I.ok.hd hc) st (by have : n ≤ i := hg; omega) fun h' eb => ⟨rfl, I.turned (t' := s.toks) (fun b o hb e => eb b o hb e) f0 f1 f3 f4 f5⟩
  self := fun _ _ _ _ _ st h => wpAny_pyIter_rangeiter st h
end L2
namespace L2
open PySem PySem.Spec PyProof.Rows
section
variable {X : Cx} {tg : Expr}
theorem range_it {pins : List (Addr × Obj)} {σ : St} {H : Hp} {s : Shared} {R : It → Hp → Prop} {E : Value → Shared → Prop} {lo hi : Int} {t u v : Tok} {tk : Nat} (I : Inv X pins σ H s) (h1 : -(2 ^ 62) ≤ lo) (h2 : lo < 2 ^ 62) (h3 : -(2 ^ 62) ≤ hi) (h4 : hi < 2 ^ 62)
    (q : R (Itr lo (hi - lo).toNat) H) : wpAny (model X.prog X.w) X.A (pyIter (.ref s.heap.objs.size)) (PIE X pins σ tg R) E { s with heap := s.heap.push { cls := .type "range", data := .fields #[.int lo t, .int hi u, .int 1 v] }, toks := tk } := by
  refine wpAny_pyIter_range (IsRange.new ..) (small_one h1 h2 h3 h4) ?_
  have I1 : Inv X pins σ H { s with heap := s.heap.push { cls := .type "range", data := .fields #[.int lo t, .int hi u, .int 1 v] }, toks := tk } := I.kept fun b o e => Heap.get?_push_of_some _ e
  refine ⟨(s.heap.push { cls := .type "range", data := .fields #[.int lo t, .int hi u, .int 1 v] }).objs.size, [(s.heap.push { cls := .type "range", data := .fields #[.int lo t, .int hi u, .int 1 v] }).objs.size], _, _, H, rfl,
    I1.kept (t' := tk) fun b o e => Heap.get?_push_of_some _ e, turn_range _ lo (hi - lo).toNat, ?_, fun b hb => ?_, q⟩
  · have e1 : lo + ((0 : Nat) : Int) * 1 = lo := by simp
    have e2 : (((hi - lo).toNat : Nat) : Int) - ((0 : Nat) : Int) = Builtin.Range.rangeSize lo hi 1 := by rw [rangeSize_one]; split <;> omega
    show IsRangeIter _ _ (lo + ((0 : Nat) : Int) * 1) ((((hi - lo).toNat : Nat) : Int) - ((0 : Nat) : Int)) 1
    rw [e1, e2]
    exact Heap.get?_push_size _ rfl
  · have e : b = (s.heap.push { cls := .type "range", data := .fields #[.int lo t, .int hi u, .int 1 v] }).objs.size := by simpa using hb
    subst e
    exact I1.fpOk (Nat.le_refl _) (I1.hok.fresh (Nat.le_refl _))
def iRng1 (ta : TA) : TI := fun σ H R => ta σ H fun vs H1 => ∃ j : Int, vs = [.int j] ∧ -(2 ^ 62) ≤ j ∧ j < 2 ^ 62 ∧ R (Itr 0 j.toNat) H1
theorem pi_range1 {a : Expr} {ta : TA} {p pos : Pos} (hg : Gl X "range") (hm : X.mg "range" = none) (ha : PA X [a] ta) (hs : starEach [a] X.env = [(false, eval a X.env)] := by rfl) : PI X tg (.Call (.Name "range" p) [a] [] pos) (iRng1 ta) := by
  intro pins s σ H R I h
  refine Call_ (ld_blt I hg hm boot_range (PyProof.Rows.callWith_type1 (thn (ha pos pins s σ H _ I h) fun us s1 ⟨vs, H1, I1, r1, q1⟩ => ?_) hs rfl))
  obtain ⟨j, e, q1, q2, q⟩ := q1
  subst e
  cases r1 with
  | cons r rr =>
    cases rr
    obtain ⟨t, rfl⟩ := r
    exact call_range_1 (range_it I1 (by omega) (by omega) q1 q2 (by simpa using q))
def tFor (wi : TI) (g : TG) (tb : TS) : TS := fun D σ H => wi σ H fun J H1 => ∃ W : Nat → Nat → St → Hp → Prop, (∃ m, W 0 m σ H1) ∧ ∀ i m σ H, W i m σ H →
  (J.stop i H ∧ D.nx σ H) ∨ (J.go i H ∧ ∃ N : St → Hp → Prop, (∀ σ' H', N σ' H' → ∃ m', m' < m ∧ W (i + 1) m' σ' H') ∧ ∀ x H', J.yld i H x H' → g x σ H' fun σ2 H2 => tb { D with nx := N, ct := N, bk := D.nx } σ2 H2)
def pinsAt (fp : List Addr) (h : Heap) : List (Addr × Obj) := fp.filterMap fun b => (h.get? b).map fun o => (b, o)
theorem mem_pinsAt {fp : List Addr} {h : Heap} {b : Addr} {o : Obj} (hb : b ∈ fp) (e : h.get? b = some o) : (b, o) ∈ pinsAt fp h := List.mem_filterMap.mpr ⟨b, hb, by rw [e]; rfl⟩
theorem of_pinsAt {fp : List Addr} {h : Heap} {p : Addr × Obj} (hp : p ∈ pinsAt fp h) : p.1 ∈ fp ∧ h.get? p.1 = some p.2 := by
  obtain ⟨b, hb, e⟩ := List.mem_filterMap.mp hp
  cases q : h.get? b with
  | none => rw [q] at e; cases e
  | some o =>
    rw [q] at e
    have e' : (b, o) = p := Option.some.inj e
    subst e'
    exact ⟨hb, q⟩
theorem Inv.pinned {pins : List (Addr × Obj)} {σ : St} {H : Hp} {s : Shared} {fp : List Addr} (I : Inv X pins σ H s) (hf : ∀ b ∈ fp, FpOk X pins H b) (ho : ∀ b ∈ fp, ∃ o, s.heap.get? b = some o ∧ ∀ v, o.data ≠ .cell v) : Inv X (pins ++ pinsAt fp s.heap) σ H s :=
  I.pins_of fun p hp => (List.mem_append.mp hp).elim (fun z => I.pin p (List.mem_append_right _ z)) fun z => by
    obtain ⟨hb, e⟩ := of_pinsAt z
    obtain ⟨f0, f1, f2, _⟩ := hf p.1 hb
    obtain ⟨o, e', d⟩ := ho p.1 hb
    rw [e] at e'; cases e'
    exact ⟨e, f0, f1, f2, d⟩
theorem Inv.unpinned {pins pl : List (Addr × Obj)} {σ : St} {H : Hp} {s : Shared} (I : Inv X (pins ++ pl) σ H s) : Inv X pins σ H s := I.pins_of fun p hp => I.pin p (List.mem_append_right _ (List.mem_append_left _ hp))
theorem ps_for {iter : Expr} {body : List Stmt} {wi : TI} {g : TG} {tb : TS} {pos : Pos} (hp : PassesOwn (model X.prog X.w) X.A X.env X.xe) (hc : X.calm = true) (hi : PI X tg iter wi) (hg : PG X tg g) (hb : PSs X body tb)
    (hs : ∀ x, foldedSetIterable iter X.env x = pure x := by intro _; rfl) : PS X (.For tg iter body [] pos) (tFor wi g tb) := by
  intro pins s σ H D I h
  refine wpAny_For (thn (hi pins s σ H _ I h) fun v s1 h1 => thn h1 fun itv s2 h2 => ?_) hs
  obtain ⟨it, fp, tn, J, H2, e, I2, T, st2, f2, W, ⟨m0, w0⟩, turn⟩ := h2
  subst e
  have stat : ∀ {H' : Hp}, (∀ b ∈ fp, H' b = none) → ∀ b ∈ fp, FpOk X pins H' b := fun hn b hb => ⟨hn b hb, (f2 b hb).2⟩
  refine codeAny_forLoop_any (fun n s' => ∃ i σ' H', Inv X pins σ' H' s' ∧ tn i s'.heap ∧ (∀ b ∈ fp, H' b = none) ∧ W i n σ' H') ?_ m0 ⟨0, σ, H2, I2, st2, fun b hb => (f2 b hb).1, w0⟩
  rintro n s3 ⟨i, σ3, H3, I3, st3, fr3, w3⟩
  rcases turn i n σ3 H3 w3 with ⟨stop, qn⟩ | ⟨go, N, hN, step⟩
  · refine wpAny_passesOwn hp (thn (T.done X rfl rfl rfl hc i pins s3 σ3 H3 X.xe I3 (stat fr3) st3 stop) fun r s4 ⟨hr, I4⟩ => ?_)
    subst hr
    exact wpAny_execs_nil ⟨σ3, H3, I4, qn⟩
  · refine wpAny_passesOwn hp (thn (T.item X rfl rfl rfl hc i pins s3 σ3 H3 X.xe I3 (stat fr3) st3 go) fun r s4 ⟨u, hr, h4⟩ => ?_)
    subst hr
    refine wpAny_passesOwn hp (thn h4 fun _ s5 ⟨x, H5, I5, r5, y5, st5, fr5⟩ => ?_)
    have I5' := I5.pinned (stat fr5) (T.obj _ _ st5)
    refine wpAny_passesOwn hp (thn (hg _ s5 σ3 H5 x u _ I5' r5 (step x H5 y5)) fun _ s6 ⟨σ6, H6, I6, q6⟩ => ?_)
    refine wpAny_passesOwn hp (thn (hb _ s6 σ6 H6 _ I6 q6) fun f s7 q7 => ?_)
    have again : ∀ {σ7 : St} {H7 : Hp}, Inv X (pins ++ pinsAt fp s5.heap) σ7 H7 s7 → N σ7 H7 → ∃ m, m < n ∧ ∃ i σ' H', Inv X pins σ' H' s7 ∧ tn i s7.heap ∧ (∀ b ∈ fp, H' b = none) ∧ W i m σ' H' := fun {σ7 H7} I7 n7 => by
      obtain ⟨m', hm, w7⟩ := hN σ7 H7 n7
      refine ⟨m', hm, i + 1, σ7, H7, I7.unpinned, T.keep _ _ _ st5 fun b hb o e => (I7.pin (b, o) (List.mem_append_right _ (List.mem_append_right _ (mem_pinsAt hb e)))).1, fun b hb => ?_, w7⟩
      obtain ⟨o, e, d⟩ := T.obj _ _ st5 b hb
      exact (I7.pin (b, o) (List.mem_append_right _ (List.mem_append_right _ (mem_pinsAt hb e)))).2.1
    cases f with
    | next => obtain ⟨σ7, H7, I7, n7⟩ := q7; exact again I7 n7
    | cont => obtain ⟨σ7, H7, I7, n7⟩ := q7; exact again I7 n7
    | brk => obtain ⟨σ7, H7, I7, q7⟩ := q7; exact ⟨σ7, H7, I7.unpinned, q7⟩
    | ret v => obtain ⟨x7, σ7, H7, I7, r7, q7⟩ := q7; exact ⟨x7, σ7, H7, I7.unpinned, r7, q7⟩
end
end L2
namespace L2
open PySem PySem.Spec PyProof.Rows
abbrev R2 := V → V → Hp → VK → Prop
def OpR (X : Cx) (f : Value → Value → Sem Value) (r : R2) : Prop :=
  ∀ (pins : List (Addr × Obj)) (s : Shared) (σ : St) (H : Hp) (x y : V) (v u : Value) (Q : VK), Inv X pins σ H s → RelV x v → RelV y u → r x y H Q →
    wpAny (model X.prog X.w) X.A (f v u) (EP X pins σ Q) X.xe s
def CallR (X : Cx) (f : Value) (r : List V → Hp → VK → Prop) : Prop :=
  ∀ (pins : List (Addr × Obj)) (s : Shared) (σ : St) (H : Hp) (xs : List V) (us : List Value) (Q : VK), Inv X pins σ H s → Vals xs us → r xs H Q →
    wpAny (model X.prog X.w) X.A (call f us) (EP X pins σ Q) X.xe s
def tOp (r : R2) (ta tb : TE) : TE := fun σ H Q => ta σ H fun x H1 => tb σ H1 fun y H2 => r x y H2 Q
def rI (C : Int → Int → Prop) (g : Int → Int → V) : R2 := fun x y H Q => ∃ i j, x = .int i ∧ y = .int j ∧ C i j ∧ Q (g i j) H
def rI0 (g : Int → Int → V) : R2 := fun x y H Q => ∃ i j, x = .int i ∧ y = .int j ∧ Q (g i j) H
section
variable {X : Cx} {a b c : Expr} {ta tb tc : TE} {pos : Pos}
theorem binT (ha : PE X a ta) (hb : PE X b tb) {pins : List (Addr × Obj)} {s : Shared} {σ : St} {H : Hp} {R : V → V → Hp → Prop} (I : Inv X pins σ H s)
    (h : ta σ H fun x H1 => tb σ H1 fun y H2 => R x y H2) {Q : Value → Shared → Prop} {f : Value → Value → Sem Value}
    (hf : ∀ v u s2 x y H2, Inv X pins σ H2 s2 → RelV x v → RelV y u → R x y H2 → wpAny (model X.prog X.w) X.A (f v u) Q X.xe s2) :
    wpAny (model X.prog X.w) X.A (eval a X.env) (fun v s₁ => wpAny (model X.prog X.w) X.A (eval b X.env) (fun u s₂ => wpAny (model X.prog X.w) X.A (f v u) Q X.xe s₂) X.xe s₁) X.xe s := by
  refine thn (ha pins s σ H _ I h) fun v s1 ⟨x, H1, I1, r1, q1⟩ => ?_
  refine thn (hb pins s1 σ H1 _ I1 q1) fun u s2 ⟨y, H2, I2, r2, q2⟩ => ?_
  exact hf v u s2 x y H2 I2 r1 r2 q2
theorem pe_op {op : Operator} {r : R2} (ho : OpR X (binaryOp op) r) (ha : PE X a ta) (hb : PE X b tb) : PE X (.BinOp a op b pos) (tOp r ta tb) := by
  intro pins s σ H Q I h
  exact wpAny_BinOp (binT ha hb I h fun v u s2 x y H2 I2 rx ry q => ho pins s2 σ H2 x y v u Q I2 rx ry q)
theorem opI {f : Value → Value → Sem Value} {C : Int → Int → Prop} {g : Int → Int → Int}
    (rule : ∀ (i j : Int) (t u : Tok) (s : Shared) (Q : Value → Shared → Prop) (E : Value → Shared → Prop), C i j → Q (.int (g i j) s.toks) { s with toks := s.toks + 1 } → wpAny (model X.prog X.w) X.A (f (.int i t) (.int j u)) Q E s) :
    OpR X f (rI C fun i j => .int (g i j)) := by
  intro pins s σ H x y v u Q I rx ry h
  obtain ⟨i, j, rfl, rfl, hc, q⟩ := h
  obtain ⟨t, rfl⟩ := rx
  obtain ⟨t', rfl⟩ := ry
  exact rule i j t t' s _ _ hc ⟨.int (g i j), H, I.tok _, ⟨_, rfl⟩, q⟩
theorem opI0 {f : Value → Value → Sem Value} {g : Int → Int → Int}
    (rule : ∀ (i j : Int) (t u : Tok) (s : Shared) (Q : Value → Shared → Prop) (E : Value → Shared → Prop), Q (.int (g i j) s.toks) { s with toks := s.toks + 1 } → wpAny (model X.prog X.w) X.A (f (.int i t) (.int j u)) Q E s) :
    OpR X f (rI0 fun i j => .int (g i j)) := by
  intro pins s σ H x y v u Q I rx ry h
  obtain ⟨i, j, rfl, rfl, q⟩ := h
  obtain ⟨t, rfl⟩ := rx
  obtain ⟨t', rfl⟩ := ry
  exact rule i j t t' s _ _ ⟨.int (g i j), H, I.tok _, ⟨_, rfl⟩, q⟩
theorem opB0 {f : Value → Value → Sem Value} {g : Int → Int → Bool}
    (rule : ∀ (i j : Int) (t u : Tok) (s : Shared) (Q : Value → Shared → Prop) (E : Value → Shared → Prop), Q (.bool (g i j)) s → wpAny (model X.prog X.w) X.A (f (.int i t) (.int j u)) Q E s) :
    OpR X f (rI0 fun i j => .bl (g i j)) := by
  intro pins s σ H x y v u Q I rx ry h
  obtain ⟨i, j, rfl, rfl, q⟩ := h
  obtain ⟨t, rfl⟩ := rx
  obtain ⟨t', rfl⟩ := ry
  exact rule i j t t' s _ _ ⟨.bl (g i j), H, I, rfl, q⟩
def CDiv (i j : Int) : Prop := 0 < j ∧ j < 1073741824
def CMul (i j : Int) : Prop := (-(2 ^ 64) < i ∧ i < 2 ^ 64) ∨ (-(2 ^ 64) < j ∧ j < 2 ^ 64)
theorem CMul.ok {i j : Int} (h : CMul i j) : IntMulOk i j := by
  rcases h with ⟨h1, h2⟩ | ⟨h1, h2⟩
  · exact .of_left (intBits_le_64 h1 h2)
  · exact .of_right (intBits_le_64 h1 h2)
theorem op_add : OpR X (binaryOp .Add) (rI0 fun i j => .int (i + j)) := opI0 fun _ _ _ _ _ _ _ q => add_int q
theorem op_sub : OpR X (binaryOp .Sub) (rI0 fun i j => .int (i - j)) := opI0 fun _ _ _ _ _ _ _ q => sub_int q
theorem op_mul : OpR X (binaryOp .Mult) (rI CMul fun i j => .int (i * j)) := opI fun _ _ _ _ _ _ _ hc q => mul_int q hc.ok
theorem op_fdiv : OpR X (binaryOp .FloorDiv) (rI CDiv fun i j => .int (i / j)) := opI fun i j _ _ _ _ _ hc q => by
  have h1 : (0 : Int) < j := hc.1
  have h2 : j < 1073741824 := hc.2
  exact floordiv_int (by omega) (by rw [Int.fdiv_eq_ediv_of_nonneg i (by omega)]; exact q) (.inl (PyProof.noPylong_small (by omega)))
theorem op_mod : OpR X (binaryOp .Mod) (rI (fun _ j => 0 < j) fun i j => .int (i % j)) := opI fun i j _ _ _ _ _ hc q => by
  have h1 : (0 : Int) < j := hc
  exact mod_int' (by omega) (by rw [Int.fmod_eq_emod_of_nonneg i (by omega)]; exact q)
end
def scal : V → V → Bool
  | .non, .non => true | .non, .int _ => true | .int _, .non => true | .non, .bl _ => true | .bl _, .non => true | .non, .str _ => true | .str _, .non => true
  | .int _, .int _ => true | .bl _, .bl _ => true | .str _, .str _ => true | .byt _, .byt _ => true
  | .int _, .str _ => true | .str _, .int _ => true | .bl _, .str _ => true | .str _, .bl _ => true
  | _, _ => false
def rEq : R2 := fun x y H Q => scal x y = true ∧ Q (.bl (decide (x = y))) H
def rNe : R2 := fun x y H Q => scal x y = true ∧ Q (.bl (!decide (x = y))) H
theorem dec_int {i j : Int} : decide (V.int i = V.int j) = (i == j) := by
  rw [Bool.eq_iff_iff]
  simp
theorem dec_bl {i j : Bool} : decide (V.bl i = V.bl j) = (i == j) := by
  rw [Bool.eq_iff_iff]
  simp
theorem dec_str {i j : Str} : decide (V.str i = V.str j) = (i == j) := by
  rw [Bool.eq_iff_iff]
  simp
theorem dec_byt {i j : Array UInt8} : decide (V.byt i = V.byt j) = (i.toList == j.toList) := by
  rw [Bool.eq_iff_iff]
  cases i
  cases j
  simp
section
variable {X : Cx} {a b c : Expr} {ta tb tc : TE} {pos : Pos}
theorem fin_bl {pins : List (Addr × Obj)} {σ : St} {H : Hp} {s : Shared} {Q : VK} {k k' : Bool} (I : Inv X pins σ H s) (q : Q (.bl k) H) (e : k = k') : EP X pins σ Q (.bool k') s := by
  subst e
  exact ⟨.bl k, H, I, rfl, q⟩
theorem op_eq : OpR X (compareOp .Eq) rEq := by
  intro pins s σ H x y v u Q I rx ry h
  obtain ⟨hs, q⟩ := h
  cases x with
  | non =>
    cases rx
    cases y with
    | non => cases ry; exact PySem.EqNone.eq_none_none (fin_bl I q (by simp))
    | bl j => cases ry; exact PySem.EqNone.eq_none_bool (fin_bl I q (by simp))
    | int j => obtain ⟨t', rfl⟩ := ry; exact PySem.EqNone.eq_none_int (fin_bl I q (by simp))
    | str j => obtain ⟨t', rfl⟩ := ry; exact PySem.EqNone.eq_none_str (fin_bl I q (by simp))
    | _ => exact absurd (show false = true from hs) Bool.false_ne_true
  | bl i =>
    cases rx
    cases y with
    | non => cases ry; exact PySem.EqNone.eq_bool_none (fin_bl I q (by simp))
    | bl j => cases ry; exact eq_bool (fin_bl I q dec_bl)
    | str j => obtain ⟨t', rfl⟩ := ry; exact PySem.EqMixed.eq_bool_str (fin_bl I q (by simp))
    | _ => exact absurd (show false = true from hs) Bool.false_ne_true
  | int i =>
    obtain ⟨t, rfl⟩ := rx
    cases y with
    | non => cases ry; exact PySem.EqNone.eq_int_none (fin_bl I q (by simp))
    | int j => obtain ⟨t', rfl⟩ := ry; exact eq_int (fin_bl I q dec_int)
    | str j => obtain ⟨t', rfl⟩ := ry; exact PySem.EqMixed.eq_int_str (fin_bl I q (by simp))
    | _ => exact absurd (show false = true from hs) Bool.false_ne_true
  | str i =>
    obtain ⟨t, rfl⟩ := rx
    cases y with
    | non => cases ry; exact PySem.EqNone.eq_str_none (fin_bl I q (by simp))
    | bl j => cases ry; exact PySem.EqMixed.eq_str_bool (fin_bl I q (by simp))
    | int j => obtain ⟨t', rfl⟩ := ry; exact PySem.EqMixed.eq_str_int (fin_bl I q (by simp))
    | str j => obtain ⟨t', rfl⟩ := ry; exact eq_str (fin_bl I q dec_str)
    | _ => exact absurd (show false = true from hs) Bool.false_ne_true
  | byt i =>
    obtain ⟨t, rfl⟩ := rx
    cases y with
    | byt j => obtain ⟨t', rfl⟩ := ry; exact PySem.W.eq_bytes (fin_bl I q dec_byt)
    | _ => exact absurd (show false = true from hs) Bool.false_ne_true
  | _ => cases y <;> exact absurd (show false = true from hs) Bool.false_ne_true
theorem op_ne : OpR X (compareOp .NotEq) rNe := by
  intro pins s σ H x y v u Q I rx ry h
  obtain ⟨hs, q⟩ := h
  cases x with
  | non =>
    cases rx
    cases y with
    | non => cases ry; exact PySem.EqNone.ne_none_none (fin_bl I q (by simp))
    | bl j => cases ry; exact PySem.EqNone.ne_none_bool (fin_bl I q (by simp))
    | int j => obtain ⟨t', rfl⟩ := ry; exact PySem.EqNone.ne_none_int (fin_bl I q (by simp))
    | str j => obtain ⟨t', rfl⟩ := ry; exact PySem.EqNone.ne_none_str (fin_bl I q (by simp))
    | _ => exact absurd (show false = true from hs) Bool.false_ne_true
  | bl i =>
    cases rx
    cases y with
    | non => cases ry; exact PySem.EqNone.ne_bool_none (fin_bl I q (by simp))
    | bl j => cases ry; exact ne_bool (fin_bl I q (congrArg not dec_bl))
    | str j => obtain ⟨t', rfl⟩ := ry; exact PySem.EqMixed.ne_bool_str (fin_bl I q (by simp))
    | _ => exact absurd (show false = true from hs) Bool.false_ne_true
  | int i =>
    obtain ⟨t, rfl⟩ := rx
    cases y with
    | non => cases ry; exact PySem.EqNone.ne_int_none (fin_bl I q (by simp))
    | int j => obtain ⟨t', rfl⟩ := ry; exact ne_int (fin_bl I q (congrArg not dec_int))
    | str j => obtain ⟨t', rfl⟩ := ry; exact PySem.EqMixed.ne_int_str (fin_bl I q (by simp))
    | _ => exact absurd (show false = true from hs) Bool.false_ne_true
  | str i =>
    obtain ⟨t, rfl⟩ := rx
    cases y with
    | non => cases ry; exact PySem.EqNone.ne_str_none (fin_bl I q (by simp))
    | bl j => cases ry; exact PySem.EqMixed.ne_str_bool (fin_bl I q (by simp))
    | int j => obtain ⟨t', rfl⟩ := ry; exact PySem.EqMixed.ne_str_int (fin_bl I q (by simp))
    | str j => obtain ⟨t', rfl⟩ := ry; exact ne_str (fin_bl I q (congrArg not dec_str))
    | _ => exact absurd (show false = true from hs) Bool.false_ne_true
  | byt i =>
    obtain ⟨t, rfl⟩ := rx
    cases y with
    | byt j => obtain ⟨t', rfl⟩ := ry; exact PySem.W.ne_bytes (fin_bl I q (congrArg not dec_byt))
    | _ => exact absurd (show false = true from hs) Bool.false_ne_true
  | _ => cases y <;> exact absurd (show false = true from hs) Bool.false_ne_true
theorem op_lt : OpR X (compareOp .Lt) (rI0 fun i j => .bl (decide (i < j))) := opB0 fun _ _ _ _ _ _ _ q => lt_int q
theorem op_le : OpR X (compareOp .LtE) (rI0 fun i j => .bl (decide (i ≤ j))) := opB0 fun _ _ _ _ _ _ _ q => le_int q
theorem op_gt : OpR X (compareOp .Gt) (rI0 fun i j => .bl (decide (j < i))) := opB0 fun _ _ _ _ _ _ _ q => gt_int q
theorem OpR.or {f : Value → Value → Sem Value} {r r' : R2} (h : OpR X f r) (h' : OpR X f r') : OpR X f (fun x y H Q => r x y H Q ∨ r' x y H Q) := by
  intro pins s σ H x y v u Q I rx ry q
  rcases q with q | q
  · exact h pins s σ H x y v u Q I rx ry q
  · exact h' pins s σ H x y v u Q I rx ry q
theorem nomark (b : Expr) {op : CmpOp} (h : op ≠ .In := by decide) (h2 : op ≠ .NotIn := by decide) : behindInMarks op b = false := by
  have e1 : (op == CmpOp.In) = false := by cases op <;> first | rfl | exact absurd rfl h
  have e2 : (op == CmpOp.NotIn) = false := by cases op <;> first | rfl | exact absurd rfl h2
  cases b <;> simp [behindInMarks, e1, e2]
theorem pe_cmpR {op : CmpOp} {r : R2} (ho : OpR X (compareOp op) r) (ha : PE X a ta) (hb : PE X b tb) (hm : behindInMarks op b = false) : PE X (.Compare a [op] [b] pos) (tOp r ta tb) := by
  intro pins s σ H Q I h
  exact wpAny_Compare1 (binT ha hb I h fun v u s2 x y H2 I2 rx ry q => ho pins s2 σ H2 x y v u Q I2 rx ry q) hm
def tTest (t : TE) : TT := fun σ H Q => t σ H fun x H' => ∃ k, x = .bl k ∧ Q k H'
theorem pt_cmpR {op : CmpOp} {r : R2} (ho : OpR X (compareOp op) r) (ha : PE X a ta) (hb : PE X b tb) (hm : behindInMarks op b = false) : PT X (.Compare a [op] [b] pos) (tTest (tOp r ta tb)) := by
  intro pins s σ H Q I h
  refine wpAny_isTrue_Compare1 (thn (ha pins s σ H _ I h) fun v s1 ⟨x, H1, I1, r1, q1⟩ => thn (hb pins s1 σ H1 _ I1 q1) fun u s2 ⟨y, H2, I2, r2, q2⟩ =>
    thn (ho pins s2 σ H2 x y v u _ I2 r1 r2 q2) fun c s3 ⟨z, H3, I3, r3, k, e, q3⟩ => ?_) hm
  subst e
  cases r3
  exact wpAny_truthy_bool ⟨H3, I3, q3⟩
def tChain (r r' : R2) (ta tb tc : TE) : TE := fun σ H Q => ta σ H fun x H1 => tb σ H1 fun y H2 => r x y H2 fun z H3 => ∃ k, z = .bl k ∧
  (if k = true then tc σ H3 fun w' H4 => r' y w' H4 Q else Q (.bl false) H3)
theorem pt_chain {op op' : CmpOp} {r r' : R2} (ho : OpR X (compareOp op) r) (ho' : OpR X (compareOp op') r') (ha : PE X a ta) (hb : PE X b tb) (hc : PE X c tc)
    (hm : lastMarks [op, op'] [b, c] = false := by with_unfolding_all rfl) : PT X (.Compare a [op, op'] [b, c] pos) (tTest (tChain r r' ta tb tc)) := by
  intro pins s σ H Q I h
  refine isTrue_chain (thn (ha pins s σ H _ I h) fun v s1 ⟨x, H1, I1, r1, q1⟩ => test_link (thn (hb pins s1 σ H1 _ I1 q1) fun u s2 ⟨y, H2, I2, r2, q2⟩ =>
    thn (ho pins s2 σ H2 x y v u _ I2 r1 r2 q2) fun d s3 ⟨z, H3, I3, r3, k, e, q3⟩ => ?_)) hm
  subst e
  cases r3
  refine wpAny_truthy_bool ?_
  cases k with
  | false =>
    obtain ⟨k', e', q'⟩ := q3
    cases e'
    exact ite_ff ⟨H3, I3, q'⟩
  | true =>
    refine ite_tt (test_last (thn (hc pins s3 σ H3 _ I3 q3) fun w' s4 ⟨z', H4, I4, r4, q4⟩ => thn (ho' pins s4 σ H4 y z' u w' _ I4 r2 r4 q4) fun d' s5 ⟨z2, H5, I5, r5, k2, e2, q5⟩ => ?_))
    subst e2
    cases r5
    exact wpAny_truthy_bool ⟨H5, I5, q5⟩
theorem line63 : (sizeLine : Nat) < 2 ^ 63 := by rw [sizeLine_eq]; decide
theorem vals1 {x : V} {us : List Value} (r : Vals [x] us) : ∃ u, us = [u] ∧ RelV x u := by
  cases r with
  | cons r1 r2 => cases r2; exact ⟨_, rfl, r1⟩
theorem vals2 {x y : V} {us : List Value} (r : Vals [x, y] us) : ∃ u w', us = [u, w'] ∧ RelV x u ∧ RelV y w' := by
  cases r with
  | cons r1 r2 =>
    cases r2 with
    | cons r3 r4 => cases r4; exact ⟨_, _, rfl, r1, r3⟩
theorem call_max2 (hc : X.calm = true) : CallR X (.builtin "max") (fun xs H Q => ∃ i j, xs = [.int i, .int j] ∧ Q (.int (if j > i then j else i)) H) := by
  intro pins s σ H xs us Q I r h
  obtain ⟨i, j, rfl, q⟩ := h
  obtain ⟨u, w', rfl, ⟨t, rfl⟩, ⟨t', rfl⟩⟩ := vals2 r
  refine max_two_ints (I.ok.hd hc) fun h' tk k => ⟨_, H, I.kept k, ?_, q⟩
  by_cases hj : j > i
  · rw [if_pos hj, if_pos hj]; exact ⟨_, rfl⟩
  · rw [if_neg hj, if_neg hj]; exact ⟨_, rfl⟩
theorem call_min2 (hc : X.calm = true) : CallR X (.builtin "min") (fun xs H Q => ∃ i j, xs = [.int i, .int j] ∧ Q (.int (if j < i then j else i)) H) := by
  intro pins s σ H xs us Q I r h
  obtain ⟨i, j, rfl, q⟩ := h
  obtain ⟨u, w', rfl, ⟨t, rfl⟩, ⟨t', rfl⟩⟩ := vals2 r
  refine min_two_ints (I.ok.hd hc) fun h' tk k => ⟨_, H, I.kept k, ?_, q⟩
  by_cases hj : j < i
  · rw [if_pos hj, if_pos hj]; exact ⟨_, rfl⟩
  · rw [if_neg hj, if_neg hj]; exact ⟨_, rfl⟩
theorem call_int1 : CallR X (.type "int") (fun xs H Q => (∃ i, xs = [.int i] ∧ Q (.int i) H) ∨ ∃ k, xs = [.bl k] ∧ Q (.int (if k then 1 else 0)) H) := by
  intro pins s σ H xs us Q I r h
  rcases h with ⟨i, rfl, q⟩ | ⟨k, rfl, q⟩
  · obtain ⟨u, rfl, t, rfl⟩ := vals1 r
    exact call_int_int ⟨.int i, H, I, ⟨_, rfl⟩, q⟩
  · obtain ⟨u, rfl, r1⟩ := vals1 r
    cases r1
    exact call_int_bool ⟨.int (if k then 1 else 0), H, I.tok _, ⟨_, rfl⟩, q⟩
end
end L2
namespace L2
open PySem PySem.Spec PyProof.Rows
structure ObjM (h : Heap) (x dx C : Addr) (mA : Str → Option Value) : Prop where
  obj : h.get? x = some (PySem.W.instObj C dx)
  ns : h.Ns1 dx mA
  ne : dx ≠ x
theorem lookIn_ns {h : Heap} {dx : Addr} {mA : Str → Option Value} (n : h.Ns1 dx mA) : ∃ od, h.get? dx = some od ∧ ∀ name, PySem.W.lookIn name od = some (mA name) := by
  obtain ⟨o, es, ep, ho, hd, hk, _, hm⟩ := n
  refine ⟨o, ho, fun name => ?_⟩
  have e := hm name
  unfold nsFind findBy at e
  rw [← Array.find?_toList] at e
  unfold PySem.W.lookIn
  rw [hd]
  dsimp only
  split
  · rename_i y q
    rw [q] at e
    exact congrArg some e
  · rename_i q
    rw [q] at e
    have a : es.toList.any (·.refKey) = false := by
      rw [List.any_eq_false]
      intro y hy
      obtain ⟨z, t, hkey⟩ := hk y (Array.mem_toList_iff.mp hy)
      simp [DictEntry.refKey, hkey]
    have a' : ¬ es.toList.any (·.refKey) = true := by rw [a]; exact Bool.false_ne_true
    rw [if_neg a']
    exact congrArg some e
theorem ObjM.look {h : Heap} {x dx C : Addr} {mA : Str → Option Value} (I : ObjM h x dx C mA) : ∃ od, PySem.W.InstAt h x (PySem.W.instObj C dx) C (some od) ∧ ∀ name, PySem.W.lookIn name od = some (mA name) :=
  let ⟨od, ho, hl⟩ := lookIn_ns I.ns
  ⟨od, ⟨I.obj, rfl, rfl, ho⟩, hl⟩
section
variable {prog : Program} {w : World} {A : Around} {E : Value → Shared → Prop} {s : Shared} {K : PySem.W.Frag} {x dx C f : Addr} {mA : Str → Option Value} {name : Str} {v : Value}
theorem get_map {expr : Bool} {Q : Value → Shared → Prop} (X : K.In s.heap) (I : ObjM s.heap x dx C mA) (hg : PySem.W.plainGet K C name = true) (hh : PySem.W.hasDictIn K C = true)
    (ha : PySem.W.findIn K (.ref C) name = some none) (hv : mA name = some v) (hv' : PySem.W.handedIn v = true) (h : Q v { s with toks := s.toks + 1 }) :
    wpAny (model prog w) A (getAttr (.ref x) name expr) Q E s := by
  obtain ⟨od, J, hl⟩ := I.look
  exact PySem.W.get_value X J (PySem.W.plainGet_of hg).1 (PySem.W.findObj_own hh ha rfl (by rw [hl, hv])) hv' h
theorem set_map {ns : List Str} {Q : Unit → Shared → Prop} (X : K.In s.heap) (I : ObjM s.heap x dx C mA)
    (hs : PySem.W.findIn K (.ref C) "__setattr__" = some (some (.builtin "object.__setattr__"))) (hp : PySem.W.plainOver K C = true) (ht : PySem.W.takerIn K C name = some none) (hh : PySem.W.hasDictIn K C = true)
    (hw : PySem.Within mA ns) (hsz : ns.length ≤ sizeLine)
    (h : ∀ h', ObjM h' x dx C (fun y => if y = name then some v else mA y) → Heap.SameBut dx s.heap h' → Q () { s with heap := h', toks := s.toks + 2 }) :
    wpAny (model prog w) A (setAttr (.ref x) name v) Q E s := by
  obtain ⟨od, J, hl⟩ := I.look
  refine PySem.W.set_plain X J hs (PySem.W.osa_open (s := { s with toks := s.toks + 1 }) (r := none) X J hp ht fun b => ?_)
  obtain ⟨cd, hc, hd'⟩ := PySem.W.any_some hh
  have hx : s.heap.get? x = some ⟨.ref C, some dx, .plain, #[]⟩ := I.obj
  refine wpAny_bind (wpAny_pure (wpAny_bind (wpAny_bind (wpAny_loadPart hx (wpAny_bind (PySem.W.Looks.here (s := { s with toks := s.toks + 1 }) (PySem.W.looks_clsIn X hc) ?_))))))
  rw [hd']
  refine wpAny_pure (a := some dx) (wpAny_bind (wpAny_pure (wpAny_bind ?_)))
  refine wpAny_nsSet1 (s := { s with toks := s.toks + 1 }) I.ns fun h' hn2 hs2 => ?_
  obtain ⟨oD, esD, epD, hoD, hdD, hcD⟩ := hn2.count (PySem.Within.cons name v hw)
  refine wpAny_bind (wpAny_lookBehind hoD (by rw [hdD]; exact pastItsLine_dict (Nat.le_trans hcD (by rw [List.length_cons]; omega))) ?_)
  exact wpAny_pure (h _ ⟨(hs2.2 _ (Ne.symm I.ne)).trans I.obj, hn2, I.ne⟩ hs2)
theorem make_map {R : Result → Shared → Prop} {vs : List Value} {kw : List (Str × Value)} (X : K.In s.heap) (hm : PySem.W.makesIn K C = true)
    (hi : PySem.W.findIn K (.ref C) "__init__" = some (some (.ref f))) (hf : PySem.W.typeIn K (.ref f) = some (.type "function"))
    (h : codeAny (model prog w) (A.under (.builtin "type.__call__" ⟨.ref C :: vs, kw⟩)) (.call (.ref f) ⟨.ref (s.heap.objs.size + 1) :: vs, kw⟩) (PySem.W.InitBack (s.heap.objs.size + 1) R)
      { s with heap := (s.heap.push PySem.W.emptyDict).push (PySem.W.instObj C s.heap.objs.size) }) :
    codeAny (model prog w) A (.call (.ref C) ⟨vs, kw⟩) R s := by
  obtain ⟨hh, g, d, t, os⟩ := s
  exact PySem.W.make_core (PySem.W.makes_of X hm) (PySem.W.looks_findIn X hi) (fun self => PySem.W.bind_fn X self hf) (.inl rfl) h
end
def putF (f : Str) (v : V) : List (Str × V) → List (Str × V)
  | [] => [(f, v)]
  | (g, x) :: r => if g = f then (g, v) :: r else (g, x) :: putF f v r
theorem lookup_putF (f g : Str) (v : V) : ∀ fs : List (Str × V), (putF f v fs).lookup g = if g = f then some v else fs.lookup g
  | [] => by
    show List.lookup g [(f, v)] = _
    by_cases h : g = f
    · have hb : (g == f) = true := beq_iff_eq.mpr h
      simp only [List.lookup, hb, if_pos h]
    · have hb : (g == f) = false := beq_eq_false_iff_ne.mpr h
      simp only [List.lookup, hb, if_neg h]
  | (k, x) :: r => by
    have ih := lookup_putF f g v r
    rw [show putF f v ((k, x) :: r) = (if k = f then (k, v) :: r else (k, x) :: putF f v r) from rfl]
    by_cases hk : k = f
    · rw [if_pos hk]
      by_cases h : g = k
      · have hb : (g == k) = true := beq_iff_eq.mpr h
        simp only [List.lookup, hb, if_pos (h.trans hk)]
      · have hb : (g == k) = false := beq_eq_false_iff_ne.mpr h
        simp only [List.lookup, hb, if_neg (fun e : g = f => h (e.trans hk.symm))]
    · rw [if_neg hk]
      by_cases h : g = k
      · have hb : (g == k) = true := beq_iff_eq.mpr h
        simp only [List.lookup, hb, if_neg (fun e : g = f => hk (h.symm.trans e))]
      · have hb : (g == k) = false := beq_eq_false_iff_ne.mpr h
        simp only [List.lookup, hb]
        exact ih
theorem keys_putF (f : Str) (v : V) : ∀ fs : List (Str × V), f ∈ (putF f v fs).map (·.1) ∧ ∀ g, g ∈ fs.map (·.1) → g ∈ (putF f v fs).map (·.1)
  | [] => ⟨by simp [putF], fun g h => by simp at h⟩
  | (k, x) :: r => by
    obtain ⟨i1, i2⟩ := keys_putF f v r
    rw [show putF f v ((k, x) :: r) = (if k = f then (k, v) :: r else (k, x) :: putF f v r) from rfl]
    by_cases hk : k = f
    · rw [if_pos hk]
      subst hk
      exact ⟨by simp, fun g h => by simpa using h⟩
    · rw [if_neg hk]
      refine ⟨?_, fun g h => ?_⟩
      · rw [List.map_cons]
        exact List.mem_cons_of_mem _ i1
      · rw [List.map_cons] at h ⊢
        rcases List.mem_cons.mp h with e | e
        · exact List.mem_cons.mpr (.inl e)
        · exact List.mem_cons_of_mem _ (i2 g e)
theorem length_putF (f : Str) (v : V) : ∀ fs : List (Str × V), (putF f v fs).length ≤ fs.length + 1
  | [] => by simp [putF]
  | (k, x) :: r => by
    have ih := length_putF f v r
    rw [show putF f v ((k, x) :: r) = (if k = f then (k, v) :: r else (k, x) :: putF f v r) from rfl]
    by_cases hk : k = f
    · rw [if_pos hk, List.length_cons, List.length_cons]; omega
    · rw [if_neg hk, List.length_cons, List.length_cons]; omega
theorem RelO.some_of {v : V} {o : Option Value} (r : RelO (some v) o) : ∃ u, o = some u ∧ RelV v u := by
  cases o with
  | none => exact (show False from r).elim
  | some u => exact ⟨u, rfl, r⟩
theorem handed_of {v : V} {u : Value} (r : RelV v u) : PySem.W.handedIn u = true := by
  cases v with
  | non => cases (show u = Value.none from r); rfl
  | bl b => cases (show u = Value.bool b from r); rfl
  | int i => obtain ⟨t, e⟩ := (show ∃ t, u = Value.int i t from r); cases e; rfl
  | str x => obtain ⟨t, e⟩ := (show ∃ t, u = Value.str x t from r); cases e; rfl
  | byt b => obtain ⟨t, e⟩ := (show ∃ t, u = Value.bytes b t from r); cases e; rfl
  | flt b => obtain ⟨t, e⟩ := (show ∃ t, u = Value.float b t from r); cases e; rfl
  | ref a => cases (show u = Value.ref a from r); rfl
  | ty n => cases (show u = Value.type n from r); rfl
section
variable {P : Program} {w : World} {H H' : Hp} {h h' : Heap} {a C dx : Addr} {fs fs' : List (Str × V)}
theorem ins_get (hok : HOk P w H h) (e : H a = some (.ins C dx fs)) : ∃ mA, ObjM h a dx C mA ∧ (∀ f, RelO (fs.lookup f) (mA f)) ∧ PySem.Within mA (fs.map (·.1)) ∧ fs.length ≤ 1000 ∧ H dx = some (.own a) := by
  obtain ⟨d, z, ne, ob, mA, n, r, q⟩ := (show ObjOk P w H h a (.ins C dx fs) from hok a _ e)
  exact ⟨mA, ⟨ob, n, ne⟩, r, q, z, d⟩
end
structure Cls (K : PySem.W.Frag) (C : Addr) : Prop where
  pg : PySem.W.plainGet K C Str.empty = true
  hd : PySem.W.hasDictIn K C = true
  po : PySem.W.plainOver K C = true
  sa : PySem.W.findIn K (.ref C) "__setattr__" = some (some (.builtin "object.__setattr__"))
theorem Cls.get {K : PySem.W.Frag} {C : Addr} (c : Cls K C) (f : Str) : PySem.W.plainGet K C f = true := c.pg
def NoAttr (K : PySem.W.Frag) (C : Addr) (f : Str) : Prop := PySem.W.findIn K (.ref C) f = some none
theorem NoAttr.taker {K : PySem.W.Frag} {C : Addr} {f : Str} (n : NoAttr K C f) : PySem.W.takerIn K C f = some none := by
  unfold PySem.W.takerIn
  rw [show PySem.W.findIn K (.ref C) f = some none from n]
  rfl
structure Con (K : PySem.W.Frag) (C : Addr) (f : Str) (v : V) (u : Value) : Prop where
  at_ : PySem.W.findIn K (.ref C) f = some (some u)
  rel : RelV v u
  get : PySem.W.specialIn K u "__get__" = some none
  cp : PySem.W.copiedNames.contains f = false
structure Meth (K : PySem.W.Frag) (C : Addr) (m : Str) (f : Addr) : Prop where
  at_ : PySem.W.findIn K (.ref C) m = some (some (.ref f))
  fn : PySem.W.isFn K (.ref f) = true
  kp : PySem.W.keepIn K (.ref f) = true
section
variable {X : Cx} {pins : List (Addr × Obj)} {σ : St} {H : Hp} {s : Shared} {a C dx : Addr} {fs : List (Str × V)} {f : Str} {v : V} {A : Around} {E : Value → Shared → Prop}
theorem getattr_ok {b : Bool} {Q : Value → Shared → Prop} (I : Inv X pins σ H s) (e : H a = some (.ins C dx fs)) (c : Cls X.K C) (n : NoAttr X.K C f) (l : fs.lookup f = some v)
    (h : ∀ u s', Inv X pins σ H s' → RelV v u → Q u s') : wpAny (model X.prog X.w) A (getAttr (.ref a) f b) Q E s := by
  obtain ⟨mA, O, r, _, _, _⟩ := ins_get I.hok e
  obtain ⟨u, hu, ru⟩ := RelO.some_of (v := v) (o := mA f) (by rw [← l]; exact r f)
  exact get_map I.kIn O (c.get f) c.hd n hu (handed_of ru) (h u _ (I.tok _) ru)
theorem setattr_ok {y : V} {u : Value} {Q : Unit → Shared → Prop} (I : Inv X pins σ H s) (e : H a = some (.ins C dx fs)) (c : Cls X.K C) (n : NoAttr X.K C f) (hl : fs.length < 1000) (ry : RelV y u)
    (h : ∀ s', Inv X pins σ (upd H a (.ins C dx (putF f y fs))) s' → Q () s') : wpAny (model X.prog X.w) A (setAttr (.ref a) f u) Q E s := by
  obtain ⟨mA, O, r, wi, _, ho⟩ := ins_get I.hok e
  have hz : (fs.map (·.1)).length ≤ sizeLine := by rw [List.length_map, sizeLine_eq]; omega
  refine set_map I.kIn O c.sa c.po n.taker c.hd wi hz fun h' O' sb => h _ ?_
  have hd : ∃ o, h'.get? dx = some o := let ⟨o, _, _, e', _⟩ := O'.ns; ⟨o, e'⟩
  refine I.write (x := a) (e := dx) (by rw [e]; exact True.intro) (.inr ho) (fun b q hb z => (sb.2 b hb).trans z) hd ?_
  refine ⟨by rw [upd_ne O.ne]; exact ho, ?_, O.ne, O'.obj, _, O'.ns, fun g => ?_, fun g hg => ?_⟩
  · have := length_putF f y fs; omega
  · show RelO ((putF f y fs).lookup g) (if g = f then some u else mA g)
    rw [lookup_putF]
    by_cases q : g = f
    · rw [if_pos q, if_pos q]; exact ry
    · rw [if_neg q, if_neg q]; exact r g
  · by_cases q : g = f
    · rw [q]; exact (keys_putF f y fs).1
    · refine (keys_putF f y fs).2 g (wi g fun z => hg ?_)
      show (if g = f then some u else mA g) = none
      rw [if_neg q]; exact z
theorem Inv.made (I : Inv X pins σ H s) : Inv X pins σ (upd (upd H s.heap.objs.size (.own (s.heap.objs.size + 1))) (s.heap.objs.size + 1) (.ins C s.heap.objs.size []))
    { s with heap := (s.heap.push PySem.W.emptyDict).push (PySem.W.instObj C s.heap.objs.size) } := by
  have e1 : (s.heap.push PySem.W.emptyDict).get? s.heap.objs.size = some PySem.W.emptyDict := Heap.get?_push_size s.heap rfl
  have e2 : ((s.heap.push PySem.W.emptyDict).push (PySem.W.instObj C s.heap.objs.size)).get? (s.heap.objs.size + 1) = some (PySem.W.instObj C s.heap.objs.size) := by
    have := Heap.get?_push_size (s.heap.push PySem.W.emptyDict) (o := PySem.W.instObj C s.heap.objs.size) rfl
    rwa [Heap.size_push] at this
  have e3 : (s.heap.push PySem.W.emptyDict).Ns s.heap.objs.size (fun _ => none) := ⟨PySem.W.emptyDict, #[], _, e1, rfl, (fun e he => absurd he (by simp)), fun _ => rfl⟩
  have I1 := I.laid (a := s.heap.objs.size) (o := .own (s.heap.objs.size + 1)) (h' := s.heap.push PySem.W.emptyDict) (t' := s.toks) (fun b u q => Heap.get?_push_of_some _ q) (Nat.le_refl _) ⟨_, e1⟩
  refine I1.laid (a := s.heap.objs.size + 1) (o := .ins C s.heap.objs.size []) (t' := s.toks) (fun b u q => Heap.get?_push_of_some _ q) (Nat.le_of_eq (Heap.size_push _ _)) ?_
  have ne : s.heap.objs.size ≠ s.heap.objs.size + 1 := Nat.ne_of_lt (Nat.lt_succ_self _)
  refine ⟨by rw [upd_ne ne, upd_same], Nat.zero_le _, ne, e2, fun _ => none, (Heap.Ns1.of_empty e3).at fun o q => Heap.get?_push_of_some _ q, fun _ => True.intro, fun y hy => absurd rfl hy⟩
theorem attr_of {prog : Program} {w : World} {env : Env} {e : Expr} {f : Str} {pos : Pos} {s : Shared} {Q : Value → Shared → Prop} (hb : attributeBase e f env (eval e env) = eval e env)
    (h : wpAny (model prog w) A (eval e env) (fun o s₁ => wpAny (model prog w) A (getAttr o f true) Q E s₁) E s) : wpAny (model prog w) A (eval (.Attribute e f pos) env) Q E s :=
  Attribute_any_ h (by rw [arm_eval_Attribute, hb])
end
def sFld (K : PySem.W.Frag) (ta tv : TE) (f : Str) : TS := fun D σ H => tv σ H fun y H1 => ta σ H1 fun x H2 => ∃ a C dx fs, x = .ref a ∧ H2 a = some (.ins C dx fs) ∧ Cls K C ∧ NoAttr K C f ∧ fs.length < 1000 ∧
  D.nx σ (upd H2 a (.ins C dx (putF f y fs)))
section
variable {X : Cx} {o e value : Expr} {f : Str} {pos pos' tpos : Pos} {ta tv : TE}
theorem ps_fld (ha : PE X o ta) (hv : PE X value tv) (hs : swapsWith value (some (.Attribute o f pos')) pos.line X.env = pure false) : PS X (.Assign [.Attribute o f pos'] value pos) (sFld X.K ta tv f) := by
  intro pins s σ H D I h
  refine plainObj_wpAny_Assign_Attribute (thn (hv pins s σ H _ I h) fun u s1 ⟨y, H1, I1, ry, q⟩ => thn (ha pins s1 σ H1 _ I1 q) fun ov s2 ⟨x, H2, I2, rx, a, C, dx, fs, ex, ea, c, n, l, q2⟩ => ?_) hs
  subst ex
  obtain rfl : ov = Value.ref a := rx
  exact setattr_ok I2 ea c n l ry fun s3 I3 => ⟨σ, _, I3, q2⟩
end
section
variable {X : Cx} {pins : List (Addr × Obj)} {σ : St} {H : Hp} {s : Shared} {A : Around} {E : Value → Shared → Prop} {Q : Value → Shared → Prop} {c : Value} {b : Bool}
inductive TyOf (K : PySem.W.Frag) (H : Hp) : V → Value → Prop where
  | non : TyOf K H .non (.type "NoneType")
  | bl (x : Bool) : TyOf K H (.bl x) (.type "bool")
  | int (i : Int) : TyOf K H (.int i) (.type "int")
  | str (x : Str) : TyOf K H (.str x) (.type "str")
  | flt (x : UInt64) : TyOf K H (.flt x) (.type "float")
  | lst {a : Addr} {xs : List V} (e : H a = some (.lst xs)) : TyOf K H (.ref a) (.type "list")
  | frz {a : Addr} {o : Obj} {xs : List V} (e : H a = some (.frz o (.lst xs))) : TyOf K H (.ref a) (.type "list")
  | tup {a : Addr} {xs : List V} (e : H a = some (.tup xs)) : TyOf K H (.ref a) (.type "tuple")
  | dK {a : Addr} {kvs : List (Key × V)} (e : H a = some (.dK kvs)) : TyOf K H (.ref a) (.type "dict")
  | dT {a : Addr} {kvs : List (List Key × V)} (e : H a = some (.dT kvs)) : TyOf K H (.ref a) (.type "dict")
  | ins {a C dx : Addr} {fs : List (Str × V)} (e : H a = some (.ins C dx fs)) (cl : Cls K C) (ha : PySem.W.findIn K (.ref C) "__class__" = some (some (.builtin "object.__class__")))
      (hn : PySem.W.specialIn K (.builtin "object.__class__") "__get__" = some (some (.builtin "getset_descriptor.__get__"))) (htk : PySem.W.takesIn K (.builtin "object.__class__") = some true)
      (hm : PySem.W.mroIn K C (.type "object") = some true) : TyOf K H (.ref a) (.ref C)
theorem isinst_ok {x : V} {u t : Value} (I : Inv X pins σ H s) (rx : RelV x u) (ty : TyOf X.K H x t) (e : PySem.W.kitOne X.K t c = some b) (h : ∀ tk, Q (.bool b) { s with toks := tk }) :
    wpAny (model X.prog X.w) A (call (.builtin "isinstance") [u, c]) Q E s := by
  cases ty with
  | non => cases (show u = Value.none from rx); exact PySem.W.kia_one PySem.W.kitx_none I.kIn True.intro e (fun z => nomatch z) h
  | bl y => cases (show u = Value.bool y from rx); exact PySem.W.kia_one PySem.W.kitx_bool I.kIn True.intro e (fun z => nomatch z) h
  | int i => obtain ⟨t, q⟩ := (show ∃ t, u = Value.int i t from rx); cases q; exact PySem.W.kia_one PySem.W.kitx_int I.kIn True.intro e (fun z => nomatch z) h
  | str y => obtain ⟨t, q⟩ := (show ∃ t, u = Value.str y t from rx); cases q; exact PySem.W.kia_one PySem.W.kitx_str I.kIn True.intro e (fun z => nomatch z) h
  | flt y => obtain ⟨t, q⟩ := (show ∃ t, u = Value.float y t from rx); cases q; exact PySem.W.kia_one PySem.W.kitx_float I.kIn True.intro e (fun z => nomatch z) h
  | @lst a xs ea =>
    cases (show u = Value.ref a from rx)
    obtain ⟨_, _, n, _, h1⟩ := (show ObjOk X.prog X.w H s.heap a (.lst xs) from I.hok a _ ea)
    exact PySem.W.kia_one PySem.W.kitx_list I.kIn ⟨_, h1, rfl⟩ e (fun z => nomatch z) h
  | @frz a ob xs ea =>
    cases (show u = Value.ref a from rx)
    obtain ⟨_, _, _, n, _, h1⟩ := (show ObjOk X.prog X.w H s.heap a (.frz ob (.lst xs)) from I.hok a _ ea)
    exact PySem.W.kia_one PySem.W.kitx_list I.kIn ⟨_, h1, rfl⟩ e (fun z => nomatch z) h
  | @tup a xs ea =>
    cases (show u = Value.ref a from rx)
    obtain ⟨_, _, _, p⟩ := (show ObjOk X.prog X.w H s.heap a (.tup xs) from I.hok a _ ea)
    obtain ⟨o, h1, h2, _⟩ := p
    exact PySem.W.kia_one PySem.W.kitx_tuple I.kIn ⟨o, h1, h2⟩ e (fun z => nomatch z) h
  | @dK a kvs ea =>
    cases (show u = Value.ref a from rx)
    obtain ⟨_, _, vs, _, p⟩ := (show ObjOk X.prog X.w H s.heap a (.dK kvs) from I.hok a _ ea)
    obtain ⟨o, es, ep, h1, h2, _⟩ := p
    exact PySem.W.kia_one PySem.W.kitx_dict I.kIn ⟨o, h1, h2.1⟩ e (fun z => nomatch z) h
  | @dT a kvs ea =>
    cases (show u = Value.ref a from rx)
    obtain ⟨_, _, xs, _, o, es, ep, h1, h2, _⟩ := (show ObjOk X.prog X.w H s.heap a (.dT kvs) from I.hok a _ ea)
    exact PySem.W.kia_one PySem.W.kitx_dict I.kIn ⟨o, h1, h2.1⟩ e (fun z => nomatch z) h
  | @ins a C dx fs ea cl ha hn htk hm =>
    cases (show u = Value.ref a from rx)
    obtain ⟨mA, O, _⟩ := ins_get I.hok ea
    obtain ⟨od, J, _⟩ := O.look
    exact PySem.W.kia_one (PySem.W.kitx_own (cl.get _) cl.hd ha hn htk hm) I.kIn J e (fun z => nomatch z) h
end
end L2
namespace L2
open PySem PySem.Spec PyProof.Rows
structure Room (k : Nat) (A : Around) : Prop where
  hd : A.handled = none
  dp : A.depth + 3 * k + 5 < recursionLimit
  un : A.units + 16 * k + 200 < cLine
theorem Room.mono {j k : Nat} {A : Around} (r : Room k A) (h : j ≤ k) : Room j A := ⟨r.hd, by have := r.dp; omega, by have := r.un; omega⟩
theorem Room.deeper {k : Nat} {A : Around} (r : Room (k + 1) A) (env : Env) : Room k (A.deeper env) :=
  ⟨r.hd, by have := r.dp; show A.depth + 1 + 3 * k + 5 < _; omega, by have := r.un; show A.units + 3 + 16 * k + 200 < _; omega⟩
theorem Room.in1 {k : Nat} {A : Around} (r : Room (k + 1) A) : Room k A.in1 :=
  ⟨r.hd, by have := r.dp; show A.depth + 3 * k + 5 < _; omega, by have := r.un; show A.units + 1 + 16 * k + 200 < _; omega⟩
theorem make_depth {A : Around} {C : Addr} {us : List Value} {kw : List (Str × Value)} : (A.under (.builtin "type.__call__" ⟨.ref C :: us, kw⟩)).depth = A.depth + 1 := by
  first | rfl | simp [Around.under, Code.weight, Code.isCreation, Code.isGuard, Code.isCaller, Code.frames, Code.isFrame, guardIds]
theorem make_units {A : Around} {C : Addr} {us : List Value} {kw : List (Str × Value)} : (A.under (.builtin "type.__call__" ⟨.ref C :: us, kw⟩)).units = A.units + 1 := by
  first | rfl | simp [Around.under, Code.cUnits, Code.frames, Code.isFrame]
theorem Room.make {k : Nat} {A : Around} (r : Room (k + 1) A) (C : Addr) (us : List Value) (kw : List (Str × Value)) : Room k (A.under (.builtin "type.__call__" ⟨.ref C :: us, kw⟩)) :=
  ⟨r.hd, by have := r.dp; rw [make_depth]; omega, by have := r.un; rw [make_units]; omega⟩
theorem Room.depth {k : Nat} {A : Around} (r : Room k A) : A.depth < recursionLimit := by have := r.dp; omega
theorem Room.units {k : Nat} {A : Around} (r : Room k A) : A.units + 64 < cLine := by have := r.un; omega
def tNil : TA := fun _ H Q => Q [] H
def tCons (ta : TE) (tr : TA) : TA := fun σ H Q => ta σ H fun x H1 => tr σ H1 fun xs H2 => Q (x :: xs) H2
section
variable {X : Cx} {e : Expr} {es : List Expr} {te : TE} {t : TA} {pos : Pos}
theorem pa_nil : PA X [] tNil := fun _ _ _ _ H Q I h => Calls.spliced_nil ⟨[], H, I, .nil, h⟩
theorem pa_cons (ha : PE X e te) (hr : PA X es t) (hs : starEach (e :: es) X.env = (false, eval e X.env) :: starEach es X.env := by rfl) : PA X (e :: es) (tCons te t) := by
  intro pos pins s σ H Q I h
  rw [hs]
  show wpAny _ _ (spliced ((false, eval e X.env) :: backTo pos (starEach es X.env))) _ _ s
  refine Calls.spliced_cons (thn (ha pins s σ H _ I h) fun u s1 ⟨x, H1, I1, r1, q1⟩ => ?_)
  exact thn (hr pos pins s1 σ H1 _ I1 q1) fun us s2 ⟨xs, H2, I2, r2, q2⟩ => ⟨x :: xs, H2, I2, .cons r1 r2, q2⟩
def tTup (t : TA) : TE := fun σ H Q => t σ H fun xs H1 => xs.length ≤ sizeLine ∧ ∀ p, H1 p = none → Q (.ref p) (upd H1 p (.tup xs))
def tLst (t : TA) : TE := fun σ H Q => t σ H fun xs H1 => xs.length ≤ sizeLine ∧ ∀ p, H1 p = none → Q (.ref p) (upd H1 p (.lst xs))
theorem pe_tup {x1} (h : PA X es t) : PE X (.Tuple es x1 pos) (tTup t) := by
  intro pins s σ H Q I hq
  refine wpAny_Tuple_spliced (thn (h pos pins s σ H _ I hq) fun us s1 ⟨xs, H1, I1, r, z, q⟩ => ⟨by rw [← r.length]; exact z, ?_⟩)
  have hf : H1 s1.heap.objs.size = none := I1.hok.fresh (Nat.le_refl _)
  refine ⟨.ref s1.heap.objs.size, upd H1 s1.heap.objs.size (.tup xs), I1.laid (t' := s1.toks) (fun b u e => Heap.get?_push_of_some _ e) (Nat.le_refl _) ?_, rfl, q _ hf⟩
  exact ⟨z, us, r, ⟨_, Heap.get?_push_size _ rfl, rfl, _, rfl⟩⟩
theorem pe_lst (h : PA X es t) : PE X (.List es pos) (tLst t) := by
  intro pins s σ H Q I hq
  refine wpAny_List_spliced (thn (h pos pins s σ H _ I hq) fun us s1 ⟨xs, H1, I1, r, z, q⟩ => ⟨by rw [← r.length]; exact z, ?_⟩)
  have hf : H1 s1.heap.objs.size = none := I1.hok.fresh (Nat.le_refl _)
  refine ⟨.ref s1.heap.objs.size, upd H1 s1.heap.objs.size (.lst xs), I1.laid (t' := s1.toks) (fun b u e => Heap.get?_push_of_some _ e) (Nat.le_refl _) ?_, rfl, q _ hf⟩
  exact ⟨z, us, 0, r, Heap.get?_push_size _ rfl⟩
end
abbrev Sp := List V → Hp → VK → XK → Prop
abbrev CXT := List Env → Hp → Shared → XK → Value → Shared → Prop
structure Env0 (P : Program) (w : World) (K : PySem.W.Frag) (mg : Str → Option Value) (base : Heap) (A : Around) (outer : List Env) (s : Shared) (H : Hp) : Prop where
  frames : A.frames = some outer
  mod : Mod K mg base
  bs : ∀ b o, base.get? b = some o → s.heap.get? b = some o ∧ H b = none
  bsz : base.objs.size ≤ s.heap.objs.size
  funs : s.heap.FunFrames base outer
  frf : ∀ b ∈ frs outer, H b = none
  hok : HOk P w H s.heap
  bare : AllBare s.gens
def CE (outer : List Env) (P : Program) (w : World) (H : Hp) (s : Shared) (Q : VK) (u : Value) (s' : Shared) : Prop :=
  ∃ v H', s'.os = s.os ∧ AllBare s'.gens ∧ Un (frs outer) [] H H' s.heap s'.heap ∧ HOk P w H' s'.heap ∧ RelV v u ∧ Q v H'
def CR (CX : CXT) (outer : List Env) (P : Program) (w : World) (H : Hp) (s : Shared) (Q : VK) (E : XK) (r : Result) (s' : Shared) : Prop :=
  match r with
  | .ok (.ret u) => CE outer P w H s Q u s'
  | .ok _ => False
  | .error e => CX outer H s E e s'
structure FnOk (P : Program) (w : World) (K : PySem.W.Frag) (mg : Str → Option Value) (base : Heap) (CX : CXT) (k : Nat) (f : Addr) (fd : FuncData) (ps : List Str) (sp : Sp) : Prop where
  len : ∀ vs H Q E, sp vs H Q E → vs.length = ps.length
  run : ∀ (A : Around) (outer : List Env) (s : Shared) (H : Hp) (args : Args) (us : List Value) (vs : List V) (Q : VK) (E : XK), Room k A → Env0 P w K mg base A outer s H → BindsTo s fd args (ps.zip us) → Vals vs us → sp vs H Q E →
    codeAny (model P w) A (.call (.ref f) args) (CR CX outer P w H s Q E) s
theorem FnOk.mono {P : Program} {w : World} {K : PySem.W.Frag} {mg : Str → Option Value} {base : Heap} {CX : CXT} {j k : Nat} {f : Addr} {fd : FuncData} {ps : List Str} {sp : Sp} (F : FnOk P w K mg base CX j f fd ps sp) (h : j ≤ k) :
    FnOk P w K mg base CX k f fd ps sp := ⟨F.len, fun A outer s H args us vs Q E hr => F.run A outer s H args us vs Q E (hr.mono h)⟩
theorem FnOk.imp {P : Program} {w : World} {K : PySem.W.Frag} {mg : Str → Option Value} {base : Heap} {CX : CXT} {k : Nat} {f : Addr} {fd : FuncData} {ps : List Str} {sp sp' : Sp} (F : FnOk P w K mg base CX k f fd ps sp)
    (h : ∀ vs H Q E, sp' vs H Q E → sp vs H Q E) : FnOk P w K mg base CX k f fd ps sp' :=
  ⟨fun vs H Q E q => F.len vs H Q E (h _ _ _ _ q), fun A outer s H args us vs Q E hr he hb hv hs => F.run A outer s H args us vs Q E hr he hb hv (h _ _ _ _ hs)⟩
theorem Env0.make {P : Program} {w : World} {K : PySem.W.Frag} {mg : Str → Option Value} {base : Heap} {A : Around} {outer : List Env} {s : Shared} {H : Hp} (e : Env0 P w K mg base A outer s H) (C : Addr) (us : List Value) (kw : List (Str × Value)) :
    Env0 P w K mg base (A.under (.builtin "type.__call__" ⟨.ref C :: us, kw⟩)) outer s H := ⟨by first | exact e.frames | (simpa [Around.under, Code.envs, Code.isFrame, pushEnvs] using e.frames), e.mod, e.bs, e.bsz, e.funs, e.frf, e.hok, e.bare⟩
theorem Env0.in1 {P : Program} {w : World} {K : PySem.W.Frag} {mg : Str → Option Value} {base : Heap} {A : Around} {outer : List Env} {s : Shared} {H : Hp} (e : Env0 P w K mg base A outer s H) :
    Env0 P w K mg base A.in1 outer s H := ⟨e.frames, e.mod, e.bs, e.bsz, e.funs, e.frf, e.hok, e.bare⟩
section
variable {X : Cx} {pins : List (Addr × Obj)} {σ : St} {H : Hp} {s s' : Shared}
theorem Inv.env0 (I : Inv X pins σ H s) : Env0 X.prog X.w X.K X.mg X.base X.A X.stack s H :=
  ⟨I.ok.frames, I.ok.mod, I.bs, Nat.le_trans I.ok.bsz I.sz, I.stack, I.stkFree, I.hok, I.bare⟩
theorem Inv.after {Q : VK} {u : Value} (I : Inv X pins σ H s) (h : CE X.stack X.prog X.w H s Q u s') : EP X pins σ Q u s' := by
  obtain ⟨v, H', os, bare, un, hok, r, q⟩ := h
  obtain ⟨hh, g, d, t, os'⟩ := s'
  obtain rfl : os' = s.os := os
  exact ⟨v, H', I.call (h' := hh) (g' := g) (d' := d) (t' := t) (ch := []) un hok bare (fun b z => absurd z (by simp)), r, q⟩
end
def tCall (sp : Sp) (dvs : List V) (E : XK) (t : TA) : TE := fun σ H Q => t σ H fun vs H1 => sp (vs ++ dvs) H1 Q E
def tMake (C : Addr) (sp : Sp) (dvs : List V) (E : XK) (t : TA) : TE := fun σ H Q => t σ H fun vs H1 => ∀ x dx, H1 x = none → H1 dx = none → dx ≠ x →
  sp (.ref x :: (vs ++ dvs)) (upd (upd H1 dx (.own x)) x (.ins C dx [])) (fun v H2 => v = .non ∧ Q (.ref x) H2) E
def Binds (K : PySem.W.Frag) (fd : FuncData) (ps : List Str) (ds : List Value) : Prop :=
  ∀ (s : Shared) (us : List Value), K.In s.heap → (us ++ ds).length = ps.length → BindsTo s fd ⟨us, []⟩ (ps.zip (us ++ ds))
theorem Binds.all {K : PySem.W.Frag} {fd : FuncData} {ps : List Str} (h : ∀ us : List Value, us.length = ps.length → bindArgs fd ⟨us, []⟩ = pure (ps.zip us)) : Binds K fd ps [] := fun s us _ hl => by
  rw [List.append_nil] at hl ⊢
  exact .of_eq (h us hl)
def Passes (CX : CXT) (X : Cx) (E : XK) : Prop := ∀ (pins : List (Addr × Obj)) (σ : St) (H : Hp) (s : Shared) (e : Value) (s' : Shared), Inv X pins σ H s → CX X.stack H s E e s' → X.xe e s'
section
variable {X : Cx} {CX : CXT} {k : Nat} {f C : Addr} {fd : FuncData} {ps : List Str} {sp : Sp} {dvs : List V} {ds : List Value} {E : XK} {x m : Str} {p pos apos : Pos} {e o : Expr} {es : List Expr} {ta : TE} {t : TA}
theorem run_fn {pins : List (Addr × Obj)} {σ : St} {H : Hp} {s : Shared} {Q : VK} {us : List Value} {vs : List V} (F : FnOk X.prog X.w X.K X.mg X.base CX k f fd ps sp) (hr : Room k X.A) (hb : Binds X.K fd ps ds) (hd : Vals dvs ds) (hx : Passes CX X E)
    (I : Inv X pins σ H s) (r : Vals vs us) (h : sp (vs ++ dvs) H Q E) : wpAny (model X.prog X.w) X.A (call (.ref f) us) (EP X pins σ Q) X.xe s := by
  have r2 : Vals (vs ++ dvs) (us ++ ds) := r.append hd
  have hl : (us ++ ds).length = ps.length := by rw [← r2.length]; exact F.len _ _ _ _ h
  refine wpAny_call (codeAny_mono (F.run X.A X.stack s H ⟨us, []⟩ (us ++ ds) (vs ++ dvs) Q E hr I.env0 (hb s us I.kIn hl) r2 h) fun r s' hq => ?_)
  cases r with
  | error e => exact hx pins σ H s e s' I hq
  | ok fl =>
    cases fl with
    | ret u => exact I.after hq
    | next => exact False.elim hq
    | brk => exact False.elim hq
    | cont => exact False.elim hq
theorem pe_call (F : FnOk X.prog X.w X.K X.mg X.base CX k f fd ps sp) (hr : Room k X.A) (hg : Gl X x) (hm : X.mg x = some (.ref f)) (hk : PySem.W.keepIn X.K (.ref f) = true) (hb : Binds X.K fd ps ds) (hd : Vals dvs ds) (hx : Passes CX X E)
    (ha : PA X (e :: es) t) (hdb : (x == ("__debug__" : Str)) = false := by decide) (he : starEach (e :: es) X.env = (false, eval e X.env) :: starEach es X.env := by rfl) (hpl : (backTo pos (starEach es X.env)).any (·.1) = false := by rfl) :
    PE X (.Call (.Name x p) (e :: es) [] pos) (tCall sp dvs E t) := by
  intro pins s σ H Q I h
  refine wpAny_Call_Name_kw (ld_glob I hg hm ?_ hdb)
  refine PySem.W.callWith_K (h₀ := X.base) I.ok.mod.kin hk (thn (ha pos pins s σ H _ I h) fun us s1 ⟨vs, H1, I1, r, q⟩ => ⟨I1.kIn, ?_⟩) he hpl
  exact run_fn F hr hb hd hx I1 r q
structure Mk (K : PySem.W.Frag) (C f : Addr) : Prop where
  makes : PySem.W.makesIn K C = true
  init : PySem.W.findIn K (.ref C) "__init__" = some (some (.ref f))
  fn : PySem.W.isFn K (.ref f) = true
  kp : PySem.W.keepIn K (.ref C) = true
theorem run_make {pins : List (Addr × Obj)} {σ : St} {H : Hp} {s : Shared} {Q : VK} {us : List Value} {vs : List V} (M : Mk X.K C f) (F : FnOk X.prog X.w X.K X.mg X.base CX k f fd ps sp) (hr : Room (k + 1) X.A) (hb : Binds X.K fd ps ds) (hd : Vals dvs ds)
    (hx : Passes CX X E) (I : Inv X pins σ H s) (r : Vals vs us)
    (h : ∀ x dx, H x = none → H dx = none → dx ≠ x → sp (.ref x :: (vs ++ dvs)) (upd (upd H dx (.own x)) x (.ins C dx [])) (fun v H2 => v = .non ∧ Q (.ref x) H2) E) :
    wpAny (model X.prog X.w) X.A (call (.ref C) us) (EP X pins σ Q) X.xe s := by
  have hq := h (s.heap.objs.size + 1) s.heap.objs.size (I.hok.fresh (Nat.le_succ _)) (I.hok.fresh (Nat.le_refl _)) (Nat.ne_of_lt (Nat.lt_succ_self _))
  have I2 := Inv.made (C := C) I
  have r2 : Vals (V.ref (s.heap.objs.size + 1) :: (vs ++ dvs)) (Value.ref (s.heap.objs.size + 1) :: (us ++ ds)) := .cons rfl (r.append hd)
  have hl : (Value.ref (s.heap.objs.size + 1) :: us ++ ds).length = ps.length := by
    have e := r2.length
    rw [F.len _ _ _ _ hq] at e
    exact e.symm
  refine wpAny_call (make_map (f := f) I.kIn M.makes M.init (beq_iff_eq.mp M.fn) (codeAny_mono (F.run _ X.stack _ _ ⟨Value.ref (s.heap.objs.size + 1) :: us, []⟩ (Value.ref (s.heap.objs.size + 1) :: (us ++ ds)) _ _ E (hr.make C us [])
    (I2.env0.make C us []) (hb _ (Value.ref (s.heap.objs.size + 1) :: us) I2.kIn hl) r2 hq) fun r s' hq' => ?_))
  cases r with
  | error e => exact hx pins σ _ _ e s' I2 hq'
  | ok fl =>
    cases fl with
    | ret u =>
      obtain ⟨v, H', I3, rv, ev, q3⟩ := I2.after hq'
      subst ev
      exact ⟨rv, ⟨V.ref (s.heap.objs.size + 1), H', I3, rfl, q3⟩⟩
    | next => exact False.elim hq'
    | brk => exact False.elim hq'
    | cont => exact False.elim hq'
theorem pe_make (M : Mk X.K C f) (F : FnOk X.prog X.w X.K X.mg X.base CX k f fd ps sp) (hr : Room (k + 1) X.A) (hg : Gl X x) (hm : X.mg x = some (.ref C)) (hb : Binds X.K fd ps ds) (hd : Vals dvs ds) (hx : Passes CX X E)
    (ha : PA X (e :: es) t) (hdb : (x == ("__debug__" : Str)) = false := by decide) (he : starEach (e :: es) X.env = (false, eval e X.env) :: starEach es X.env := by rfl) (hpl : (backTo pos (starEach es X.env)).any (·.1) = false := by rfl) :
    PE X (.Call (.Name x p) (e :: es) [] pos) (tMake C sp dvs E t) := by
  intro pins s σ H Q I h
  refine wpAny_Call_Name_kw (ld_glob I hg hm ?_ hdb)
  refine PySem.W.callWith_K (h₀ := X.base) I.ok.mod.kin M.kp (thn (ha pos pins s σ H _ I h) fun us s1 ⟨vs, H1, I1, r, q⟩ => ⟨I1.kIn, ?_⟩) he hpl
  exact run_make M F hr hb hd hx I1 r q
end
section
variable {X : Cx} {CX : CXT} {k : Nat} {f C : Addr} {fd : FuncData} {ps ks : List Str} {sp : Sp} {E : XK} {x m : Str} {p pos apos kpos : Pos} {e o : Expr} {es : List Expr} {kws : List Keyword} {te ta : TE} {t tk : TA} {nm : Option Str}
structure KBinds (K : PySem.W.Frag) (fd : FuncData) (ps ks : List Str) (g : List Value → List Value → List Value) (gV : List V → List V → List V) : Prop where
  to : ∀ (s : Shared) (us ws : List Value), K.In s.heap → (g us ws).length = ps.length → BindsTo s fd ⟨us, ks.zip ws⟩ (ps.zip (g us ws))
  rel : ∀ {vs : List V} {us : List Value} {zs : List V} {ws : List Value}, Vals vs us → Vals zs ws → Vals (gV vs zs) (g us ws)
variable {g : List Value → List Value → List Value} {gV : List V → List V → List V}
end
structure FnScope (N P : List Str) (sc : Scope) : Prop where
  kind : sc.kind = .function
  co : sc.isCoroutine = false
  gen : sc.isGenerator = false
  nd : N.Nodup
  pre : N.take P.length = P
  par : ∀ x ∈ P, sc.names.lookup x = some .local ∨ sc.names.lookup x = some .cell
  nofree : ∀ y ∈ sc.names, y.2 ≠ .free
theorem bindL_out {kindOf : Str → Option NameKind} {x : Str} : ∀ {binds : List (Str × Value)} {m : Str → Option Value}, (∀ v, (x, v) ∉ binds) → bindL kindOf binds m x = m x
  | [], _, _ => rfl
  | (n, v) :: r, m, h => by
    unfold bindL
    rw [bindL_out fun w hw => h w (List.mem_cons_of_mem _ hw)]
    split
    · have : x ≠ n := by rintro rfl; exact h v List.mem_cons_self
      simp [this]
    · rfl
theorem bindC_out {kindOf : Str → Option NameKind} {x : Str} : ∀ {binds : List (Str × Value)} {m : Str → Option Value}, (∀ v, (x, v) ∉ binds) → bindC kindOf binds m x = m x
  | [], _, _ => rfl
  | (n, v) :: r, m, h => by
    unfold bindC
    rw [bindC_out fun w hw => h w (List.mem_cons_of_mem _ hw)]
    split
    · rfl
    · have : x ≠ n := by rintro rfl; exact h v List.mem_cons_self
      simp [this]
theorem bindL_get {kindOf : Str → Option NameKind} {x : Str} {v : Value} : ∀ {P : List Str} {vs : List Value} {i : Nat} {m : Str → Option Value}, P.Nodup → P[i]? = some x → vs[i]? = some v → kindOf x = some .local →
    bindL kindOf (P.zip vs) m x = some v
  | [], _, _, _, _, h, _, _ => by simp at h
  | _ :: _, [], _, _, _, _, h, _ => by simp at h
  | p :: P, w :: vs, 0, m, nd, h1, h2, hk => by
    simp at h1 h2; subst h1; subst h2
    show bindL kindOf ((p, w) :: P.zip vs) m p = _
    unfold bindL
    rw [bindL_out fun v hv => (List.nodup_cons.mp nd).1 (List.of_mem_zip hv).1, if_pos hk]
    simp
  | p :: P, w :: vs, i + 1, m, nd, h1, h2, hk => by
    show bindL kindOf ((p, w) :: P.zip vs) m x = _
    unfold bindL
    exact bindL_get (i := i) (List.nodup_cons.mp nd).2 (by simpa using h1) (by simpa using h2) hk
theorem bindC_get {kindOf : Str → Option NameKind} {x : Str} {v : Value} : ∀ {P : List Str} {vs : List Value} {i : Nat} {m : Str → Option Value}, P.Nodup → P[i]? = some x → vs[i]? = some v → kindOf x ≠ some .local →
    bindC kindOf (P.zip vs) m x = some v
  | [], _, _, _, _, h, _, _ => by simp at h
  | _ :: _, [], _, _, _, _, h, _ => by simp at h
  | p :: P, w :: vs, 0, m, nd, h1, h2, hk => by
    simp at h1 h2; subst h1; subst h2
    show bindC kindOf ((p, w) :: P.zip vs) m p = _
    unfold bindC
    rw [bindC_out fun v hv => (List.nodup_cons.mp nd).1 (List.of_mem_zip hv).1, if_neg hk]
    simp
  | p :: P, w :: vs, i + 1, m, nd, h1, h2, hk => by
    show bindC kindOf ((p, w) :: P.zip vs) m x = _
    unfold bindC
    exact bindC_get (i := i) (List.nodup_cons.mp nd).2 (by simpa using h1) (by simpa using h2) hk
def start (N : List Str) (vs : List V) : St := vs.map some ++ List.replicate (N.length - vs.length) none
def cxOf (CX : CXT) (P : Program) (w : World) (K : PySem.W.Frag) (mg : Str → Option Value) (base : Heap) (N : List Str) (qual : Str) (scope : Scope) (f : Addr) (cd : Value) (A : Around) (outer : List Env) (s : Shared) (H : Hp) (E : XK) : Cx where
  prog := P
  w := w
  K := K
  mg := mg
  base := base
  A := A.deeper (envOfC qual scope s.heap.objs.size f cd)
  N := N
  s₀ := s
  H₀ := H
  env := envOfC qual scope s.heap.objs.size f cd
  outer := outer
  stack := envOfC qual scope s.heap.objs.size f cd :: outer
  ex := []
  calm := true
  fn := fun _ => true
  pn := []
  xe := fun e s' => wpAny (model P w) (A.deeper (envOfC qual scope s.heap.objs.size f cd)) (leaving (envOfC qual scope s.heap.objs.size f cd) e) (fun _ s'' => CX outer H s E e s'') (fun e' s'' => CX outer H s E e' s'') s'
theorem cell_has {sc : Scope} {n : Nat} {x : Str} (h : sc.names.lookup x = some .cell) : ∃ c, (cellsFrom n sc.names []).lookup x = some c := by
  have q := PySem.W.cellsFrom_some sc.names n [] (.inl h)
  exact Option.isSome_iff_exists.mp q
theorem inv_start {CX : CXT} {P : Program} {w : World} {K : PySem.W.Frag} {mg : Str → Option Value} {base : Heap} {N ps : List Str} {qual : Str} {scope : Scope} {f : Addr} {cd : Value} {A : Around} {outer : List Env} {s s1 : Shared} {H : Hp} {E : XK} {us : List Value} {vs : List V}
    (S : FnScope N ps scope) (hd : A.handled = none) (e0 : Env0 P w K mg base A outer s H) (hl : vs.length = ps.length) (r : Vals vs us)
    (x : InCallC s s.heap.objs.size (bindL (envOfC qual scope s.heap.objs.size f cd).kindOf (ps.zip us) fun _ => none) (cellsFrom (s.heap.objs.size + 1) scope.names []) (bindC (envOfC qual scope s.heap.objs.size f cd).kindOf (ps.zip us) fun _ => none) s1) :
    Inv (cxOf CX P w K mg base N qual scope f cd A outer s H E) [] (start N vs) H s1 := by
  have hpl : ps.length ≤ N.length := by have := congrArg List.length S.pre; rw [List.length_take] at this; omega
  obtain ⟨h1, tk, rfl, hk⟩ := x.done
  have noA : ∀ b : Addr, b ∉ (cxOf CX P w K mg base N qual scope f cd A outer s H E).ex := fun b z => absurd (show b ∈ ([] : List Addr) from z) (by simp)
  refine ⟨⟨e0.mod, S.kind, rfl, rfl, Nat.le_refl _, fun y z c h1 h2 => ?_, fun y hy => ?_, fun y c _ h => ?_, fun _ => hd, Around.frames_deeper e0.frames, .inr ⟨rfl, rfl⟩, fun b z => absurd z (noA b), e0.bs, e0.bsz, fun b _ _ => noA b, fun b z => absurd z (noA b), e0.funs, e0.frf⟩,
    rfl, e0.bare, Un.kept hk, ⟨_, x.toInCall.ns, fun i y v h1 h2 h3 => ?_⟩, fun y c h => ⟨_, x.cell y c h⟩, e0.hok.fresh (Nat.le_refl _), fun y c h => ?_, fun p hp => absurd (show p ∈ ([] : List (Addr × Obj)) from hp) (by simp), e0.hok.kept hk, ?_⟩
  · exact name_of_addr x.apart (PySem.mem_of_lookup h1) (PySem.mem_of_lookup h2)
  · have hy : scope.names.lookup y = some .cell ∨ scope.names.lookup y = some .free := hy
    rcases hy with hy | hy
    · exact cell_has hy
    · exact absurd rfl (S.nofree _ (PySem.mem_of_lookup hy))
  · exact Nat.le_of_lt (x.above y c (PySem.mem_of_lookup h))
  · have hi : i < vs.length := by
      unfold start at h2
      by_cases hi : i < vs.length
      · exact hi
      · rw [List.getElem?_append_right (by simpa using hi)] at h2
        rw [List.getElem?_replicate] at h2
        split at h2 <;> cases h2
    have ha : vs[i]? = some v := by
      unfold start at h2
      rw [List.getElem?_append_left (by simpa using hi), List.getElem?_map] at h2
      cases e : vs[i]? with
      | none => rw [e] at h2; cases h2
      | some a => rw [e] at h2; cases h2; rfl
    obtain ⟨u, hu, rv⟩ := r.get ha
    have hp : ps[i]? = some y := by
      rw [← S.pre, List.getElem?_take_of_lt (by omega)]; exact h1
    have ndP : ps.Nodup := by rw [← S.pre]; exact S.nd.sublist (List.take_sublist _ _)
    refine ⟨u, rv, ?_⟩
    rcases S.par y (List.mem_of_getElem? hp) with k | k
    · exact .inl ⟨k, bindL_get ndP hp hu k⟩
    · obtain ⟨c, e⟩ := cell_has (n := s.heap.objs.size + 1) k
      refine .inr ⟨.inl k, c, e, ?_⟩
      have q := x.cell y c e
      rw [bindC_get ndP hp hu (by show scope.names.lookup y ≠ _; rw [k]; decide)] at q
      exact q
  · exact e0.hok.fresh (Nat.le_of_lt (x.above y c (PySem.mem_of_lookup h)))
  · unfold start
    show _ = N.length
    rw [List.length_append, List.length_map, List.length_replicate]
    omega
theorem fn_of {CX : CXT} {P : Program} {w : World} {K : PySem.W.Frag} {mg : Str → Option Value} {base : Heap} {k : Nat} {f : Addr} {name qual : Str} {params : Arguments} {body : List Stmt} {scope : Scope} {dV kV doc pm cdv ct oc : Value} {an od : Option Addr}
    {osl : Array (Option Value)} {N ps : List Str} {sp : Sp} (lk : K.lookup f = some ⟨oc, od, .func (PySem.W.fnOf name qual params body scope dV kV doc pm an cdv ct), osl⟩) (hcd : PySem.W.codeIn K cdv qual = true) (S : FnScope N ps scope)
    (len : ∀ vs H Q E, sp vs H Q E → vs.length = ps.length)
    (hbody : ∀ (A : Around) (outer : List Env) (s : Shared) (H : Hp) (vs : List V) (Q : VK) (E : XK), Room k (A.deeper (envOfC qual scope s.heap.objs.size f cdv)) → sp vs H Q E →
      ∃ t, PSs (cxOf CX P w K mg base N qual scope f cdv A outer s H E) body t ∧ t { nx := fun _ H' => Q .non H', rt := Q } (start N vs) H) :
    FnOk P w K mg base CX (k + 1) f (PySem.W.fnOf name qual params body scope dV kV doc pm an cdv ct) ps sp := by
  refine ⟨len, fun A outer s H args us vs Q E hr e0 hb r hsp => ?_⟩
  have hl := len _ _ _ _ hsp
  have KX : K.In s.heap := e0.mod.kin.keeps fun b o e => (e0.bs b o e).1
  have lim : s.heap.NoLimit := e0.mod.nolimit.keeps fun b o e => (e0.bs b o e).1
  have hkind : ∀ y ∈ ps.zip us, scope.names.lookup y.1 = some .local ∨ (scope.names.lookup y.1 = some .cell ∧ ((cellsFrom (s.heap.objs.size + 1) scope.names []).lookup y.1).isSome = true) := fun ⟨n, v⟩ hy => by
    rcases S.par n (List.of_mem_zip hy).1 with q | q
    · exact .inl q
    · exact .inr ⟨q, PySem.W.cellsFrom_some _ _ _ (.inl q)⟩
  refine codeAny_call_function hr.depth (KX _ _ lk) rfl S.co S.gen rfl (PySem.W.codeRec_of KX hcd) (hb _ _ _ _ ?_)
  refine wpAny_newFunctionEnv_cells S.kind hkind fun env he s1 x => ?_
  subst he
  refine ⟨lim.keeps x.toInCall.keep, codeAny_func ?_⟩
  obtain ⟨t, ht, hq⟩ := hbody A outer s H vs Q E (hr.deeper _) hsp
  have I : Inv (cxOf CX P w K mg base N qual scope f cdv A outer s H E) [] (start N vs) H s1 := inv_start S hr.hd e0 hl r x
  refine wpAny_mono (ht [] s1 (start N vs) H _ I hq) (fun fl s' hs => ?_) fun e s' hs => hs
  have fin : ∀ {σ' : St} {H' : Hp} {v : V} {u : Value}, Inv (cxOf CX P w K mg base N qual scope f cdv A outer s H E) [] σ' H' s' → RelV v u → Q v H' → CE outer P w H s Q u s' :=
    fun {σ' H' v u} J rv q => ⟨v, H', J.os, J.bare, J.base, J.hok, rv, q⟩
  cases fl with
  | ret u =>
    obtain ⟨v, σ', H', J, rv, q⟩ := hs
    exact fin J rv q
  | next =>
    obtain ⟨σ', H', J, q⟩ := hs
    exact fin (v := V.non) (u := Value.none) J rfl q
  | brk =>
    obtain ⟨_, _, _, q⟩ := hs
    exact False.elim q
  | cont =>
    obtain ⟨_, _, _, q⟩ := hs
    exact False.elim q
end L2
namespace L2
open PySem PySem.Spec PyProof.Rows
section
variable {X : Cx} {x : Str} {p pos : Pos} {e : Expr} {es : List Expr} {t : TA} {id T : String} {r : List V → Hp → VK → Prop}
def tCB (r : List V → Hp → VK → Prop) (t : TA) : TE := fun σ H Q => t σ H fun vs H1 => r vs H1 Q
theorem pe_callB (hc : CallR X (.builtin id) r) (hg : Gl X x) (hm : X.mg x = none) (hv : bootBuiltins x = some (.builtin id)) (ha : PA X (e :: es) t) (hn : x ≠ "__name__" := by decide) (hdb : (x == ("__debug__" : Str)) = false := by decide)
    (he : starEach (e :: es) X.env = (false, eval e X.env) :: starEach es X.env := by rfl) (hpl : (backTo pos (starEach es X.env)).any (·.1) = false := by rfl) : PE X (.Call (.Name x p) (e :: es) [] pos) (tCB r t) := by
  intro pins s σ H Q I h
  refine wpAny_Call_Name_kw (ld_blt I hg hm hv ?_ hn hdb)
  exact PyProof.Rows.callWith_builtin1 (thn (ha pos pins s σ H _ I h) fun us s1 ⟨vs, H1, I1, r1, q1⟩ => hc pins s1 σ H1 vs us Q I1 r1 q1) he hpl
theorem pe_callTy (hc : CallR X (.type T) r) (hg : Gl X x) (hm : X.mg x = none) (hv : bootBuiltins x = some (.type T)) (ha : PA X (e :: es) t) (hn : x ≠ "__name__" := by decide) (hdb : (x == ("__debug__" : Str)) = false := by decide)
    (he : starEach (e :: es) X.env = (false, eval e X.env) :: starEach es X.env := by rfl) (hpl : (backTo pos (starEach es X.env)).any (·.1) = false := by rfl) : PE X (.Call (.Name x p) (e :: es) [] pos) (tCB r t) := by
  intro pins s σ H Q I h
  refine wpAny_Call_Name_kw (ld_blt I hg hm hv ?_ hn hdb)
  exact PyProof.Rows.callWith_type1 (thn (ha pos pins s σ H _ I h) fun us s1 ⟨vs, H1, I1, r1, q1⟩ => hc pins s1 σ H1 vs us Q I1 r1 q1) he hpl
end
end L2
namespace HT
open PySem PyProof.Rows
section
open PySem.SeqAt
open PySem.AutoSeq1 (wpAny_loadPart')
open PySem.MeetsSeq PySem.MeetsSeq2 PySem.MeetsSeq3
end
section
variable {prog : Program} {w : World} {A : Around} {E : Value → Shared → Prop} {s : Shared}
theorem cat_tup {t b : Addr} {vs ws : List Value} {Q : Value → Shared → Prop} (ht : IsTup s.heap t vs.toArray) (hb : IsTup s.heap b ws.toArray) (hv : vs ≠ [])
    (h1 : ws = [] → Q (.ref t) s) (h2 : ws ≠ [] → Q (.ref s.heap.objs.size) { s with heap := s.heap.push { cls := .type "tuple", data := .seq (vs ++ ws).toArray } })
    (hsz : vs.length + ws.length ≤ sizeLine) : wpAny (model prog w) A (binaryOp .Add (.ref t) (.ref b)) Q E s := by
  obtain ⟨⟨cls, dd, data, sl⟩, ho, hc, n, hd⟩ := id ht
  obtain ⟨⟨cls2, dd2, data2, sl2⟩, ho2, hc2, n2, hd2⟩ := id hb
  simp only at hc hd hc2 hd2
  subst hc hd hc2 hd2
  have e : vs.toArray ++ ws.toArray = (vs ++ ws).toArray := by simp
  by_cases hw : ws = []
  · exact concat_meets ⟨_, ho, rfl⟩ ⟨_, ho2, rfl⟩ noFill_tuple_add seq_tuple_add PySem.F.slot_tuple_add PySem.F.entry_tuple_add (PySem.F.args_tuple_add_2 _ _)
      (tuple_addW1 t b vs.toArray ws.toArray n n2 dd dd2 sl sl2 (by simpa using hv) (by simp [hw])) ⟨ho, ho2, h1 hw⟩
  · refine concat_meets ⟨_, ho, rfl⟩ ⟨_, ho2, rfl⟩ noFill_tuple_add seq_tuple_add PySem.F.slot_tuple_add PySem.F.entry_tuple_add (PySem.F.args_tuple_add_2 _ _)
      (tuple_addW2 t b vs.toArray ws.toArray n n2 dd dd2 sl sl2 (by simpa using hv) (by simpa using hw) (by rw [List.size_toArray, List.size_toArray]; exact hsz)) ⟨ho, ho2, ?_⟩
    rw [e]
    exact h2 hw
def sIx (n d : Nat) : Option Int → Nat
  | none => d
  | some v => if v < 0 then (v + (n : Int)).toNat else min v.toNat n
theorem sIx_none (n d : Nat) : sIx n d none = d := rfl
theorem sIx_le (n d : Nat) (hd : d ≤ n) (o : Option Int) : sIx n d o ≤ n := by
  cases o with
  | none => exact hd
  | some v =>
    show (if v < 0 then (v + (n : Int)).toNat else min v.toNat n) ≤ n
    by_cases hv : v < 0
    · rw [if_pos hv]; omega
    · rw [if_neg hv]; exact Nat.min_le_right _ _
theorem clip_eq (v : Int) (n d : Nat) : (if v < 0 then max (v + (n : Int)) 0 else min v (n : Int)) = ((sIx n d (some v) : Nat) : Int) := by
  show (if v < 0 then max (v + (n : Int)) 0 else min v (n : Int)) = (((if v < 0 then (v + (n : Int)).toNat else min v.toNat n) : Nat) : Int)
  by_cases hv : v < 0
  · simp only [if_pos hv]; omega
  · simp only [if_neg hv]; omega
theorem adjust_gen (lo hi : Option Int) (n : Nat) : Builtin.Slice.sliceAdjust lo hi 1 (n : Int) = (((sIx n 0 lo : Nat) : Int), ((sIx n n hi : Nat) : Int)) := by
  have h1 : ¬ ((1 : Int) < 0) := by omega
  unfold Builtin.Slice.sliceAdjust
  simp only [h1, if_false]
  refine Prod.ext ?_ ?_
  · cases lo with
    | none => rfl
    | some v => exact clip_eq v n 0
  · cases hi with
    | none => rfl
    | some v => exact clip_eq v n n
theorem places_gen (i j : Nat) : Builtin.Slice.slicePlaces (i : Int) (j : Int) 1 = j - i := by
  unfold Builtin.Slice.slicePlaces
  have h1 : (1 : Int) > 0 := by omega
  simp only [h1, if_true, Int.ediv_one]
  split <;> omega
theorem slicePart_ {v : Value} {o : Option Int} {Q : Option Int → Shared → Prop} (p : IsPart v o) (h : Q o s) : wpAny (model prog w) A (Builtin.Slice.slicePartIndex v) Q E s := by
  cases p with
  | none => exact slicePart_none h
  | int i t => exact slicePart_int h
theorem sliceApplied_gen {sl : Addr} {vl vu : Value} {lo hi : Option Int} {n : Nat} {Q : Int × Int × Nat → Shared → Prop} (hs : s.heap.IsSliceOf sl vl vu .none) (pl : IsPart vl lo) (pu : IsPart vu hi)
    (h : Q (((sIx n 0 lo : Nat) : Int), 1, sIx n n hi - sIx n 0 lo) s) : wpAny (model prog w) A (Builtin.Slice.sliceApplied (.ref sl) (pure (n : Int))) Q E s := by
  obtain ⟨os, hos, hcs, hds⟩ := id hs
  unfold Builtin.Slice.sliceApplied Builtin.Slice.sliceFields
  refine wpAny_bind (wpAny_bind (wpAny_field hos hds (x := vl) rfl (wpAny_bind (wpAny_field hos hds (x := vu) rfl (wpAny_bind (wpAny_field hos hds (x := .none) rfl (wpAny_pure ?_)))))))
  refine wpAny_bind (slicePart_none ?_)
  show wpAny _ _ (if ((1 : Int) == 0) = true then _ else _) _ _ s
  rw [if_neg (by decide)]
  refine wpAny_bind (slicePart_ pl (wpAny_bind (slicePart_ pu (wpAny_bind (wpAny_pure ?_)))))
  show wpAny _ _ (match Builtin.Slice.sliceAdjust lo hi 1 (n : Int) with | (lo, hi) => pure (lo, (1 : Int), Builtin.Slice.slicePlaces lo hi 1)) _ _ s
  rw [adjust_gen lo hi n]
  show wpAny _ _ (pure (((sIx n 0 lo : Nat) : Int), (1 : Int), Builtin.Slice.slicePlaces ((sIx n 0 lo : Nat) : Int) ((sIx n n hi : Nat) : Int) 1)) _ _ s
  rw [places_gen]
  exact wpAny_pure h
theorem pick_gen (xs : Array Value) (i k : Nat) : ((List.range k).filterMap fun (m : Nat) => xs[((i : Int) + (m : Int) * 1).toNat]?).toArray = ((xs.toList.drop i).take k).toArray := by
  have e : (fun (m : Nat) => xs[((i : Int) + (m : Int) * 1).toNat]?) = fun m => xs[i + m]? := by
    funext m
    have : ((i : Int) + (m : Int) * 1).toNat = i + m := by omega
    rw [this]
  rw [e]
  have := pick_run xs i k
  rw [List.filterMap_map] at this
  have e2 : ((fun x => xs[x]?) ∘ fun x => i + x) = fun m => xs[i + m]? := rfl
  rw [e2] at this
  rw [this]
theorem getItem_tuple_cut {t sl : Addr} {items : Array Value} {vl vu : Value} {lo hi : Option Int} {Q : Value → Shared → Prop} (ht : IsTup s.heap t items) (hs : s.heap.IsSliceOf sl vl vu .none) (pl : IsPart vl lo) (pu : IsPart vu hi)
    (hw : ¬ (sIx items.size 0 lo = 0 ∧ sIx items.size items.size hi = items.size))
    (h : Q (.ref s.heap.objs.size) { s with heap := s.heap.push { cls := .type "tuple", data := .seq ((items.toList.drop (sIx items.size 0 lo)).take (sIx items.size items.size hi - sIx items.size 0 lo)).toArray } })
    (hsz : items.size ≤ sizeLine) : wpAny (model prog w) A (getItem (.ref t) (.ref sl)) Q E s := by
  have htake : sizeOk (.seq ((items.toList.drop (sIx items.size 0 lo)).take (sIx items.size items.size hi - sIx items.size 0 lo)).toArray) := by
    show ((items.toList.drop (sIx items.size 0 lo)).take (sIx items.size items.size hi - sIx items.size 0 lo)).toArray.size ≤ sizeLine
    rw [List.size_toArray, List.length_take, List.length_drop, Array.length_toList]
    omega
  have hj : sIx items.size items.size hi ≤ items.size := sIx_le _ _ (Nat.le_refl _) hi
  obtain ⟨os, hos, hcs, hds⟩ := id hs
  have hTs : s.TypeIs (.ref sl) "slice" := ⟨os, hos, hcs⟩
  unfold getItem
  try with_reducible refine wpAny_holding ?_
  first | refine wpAny_bind (wpAny_pure ?_) | skip
  refine wpAny_bind (wpAny_sequenceKey ht.typeIs (by decide) ?_)
  refine wpAny_bind (wpAny_callSpecial?_slot (name := Str.ofString "__getitem__") ht.typeIs PyProof.Rows.slot_tuple_getitem
    (wpAny_call_entry PyProof.Rows.slot_tuple_getitem ht.typeIs entry_tuple_getitem ?_ (args_tuple_getitem _ _)))
  show wpAny _ _ (Builtin.Tuple.tupleItemsOf (.ref t) >>= _) _ _ s
  refine wpAny_bind (tupleItemsOf_ ht ?_)
  refine wpAny_bind (wpAny_typeOf hTs ?_)
  rw [if_pos (by decide)]
  refine wpAny_bind (sliceApplied_gen hs pl pu ?_)
  have hno : ¬ ((((sIx items.size 0 lo : Nat) : Int) == 0 && (1 : Int) == 1 && (sIx items.size items.size hi - sIx items.size 0 lo) == items.size) = true) := by
    intro q
    rw [Bool.and_eq_true, Bool.and_eq_true] at q
    have q1 : ((sIx items.size 0 lo : Nat) : Int) = 0 := eq_of_beq q.1.1
    have q2 : sIx items.size items.size hi - sIx items.size 0 lo = items.size := eq_of_beq q.2
    exact hw ⟨by omega, by omega⟩
  show wpAny _ _ (if (((sIx items.size 0 lo : Nat) : Int) == 0 && (1 : Int) == 1 && (sIx items.size items.size hi - sIx items.size 0 lo) == items.size) = true then _ else _) _ _ s
  rw [if_neg hno, pick_gen]
  first
    | exact wpAny_bind (m := Builtin.Tuple.tupleExact _) (wpAny_newObj_type (wpAny_pure ⟨_, rfl, wpAny_pure h⟩) htake)
    | exact wpAny_bind (m := Builtin.Tuple.tupleExact _) (wpAny_newObj_type (wpAny_bind (wpAny_pure (wpAny_pure ⟨_, rfl, wpAny_pure h⟩))) htake)
    | exact wpAny_bind (wpAny_bind (m := Builtin.Tuple.tupleExact _) (wpAny_newObj_type (wpAny_pure (wpAny_pure ⟨_, rfl, wpAny_pure h⟩)) htake))
    | exact wpAny_bind (wpAny_bind (m := Builtin.Tuple.tupleExact _) (wpAny_newObj_type (wpAny_pure ⟨_, rfl, wpAny_pure h⟩) htake))
end
end HT
namespace L2
open PySem PySem.Spec PyProof.Rows
abbrev TO := St → Hp → (Option Int → Hp → Prop) → Prop
def PO (X : Cx) (e : Option Expr) (t : TO) : Prop :=
  ∀ (pins : List (Addr × Obj)) (s : Shared) (σ : St) (H : Hp) (Q : Option Int → Hp → Prop), Inv X pins σ H s → t σ H Q →
    wpAny (model X.prog X.w) X.A (evalPart e X.env) (fun u s' => ∃ o H', Inv X pins σ H' s' ∧ IsPart u o ∧ Q o H') X.xe s
def tNoPart : TO := fun _ H Q => Q none H
def tPart (t : TE) : TO := fun σ H Q => t σ H fun x H1 => ∃ i, x = .int i ∧ Q (some i) H1
section
variable {X : Cx} {e : Expr} {te : TE} {lo hi : Option Expr} {tl th : TO} {pos p2 : Pos}
theorem po_none : PO X none tNoPart := by
  intro pins s σ H Q I h
  rw [evalPart_none]
  exact wpAny_pure ⟨none, H, I, .none, h⟩
theorem po_some (h : PE X e te) : PO X (some e) (tPart te) := by
  intro pins s σ H Q I hw
  rw [evalPart_some]
  refine thn (h pins s σ H _ I hw) fun u s1 ⟨x, H1, I1, r1, q1⟩ => ?_
  obtain ⟨i, rfl, q⟩ := q1
  obtain ⟨t, rfl⟩ := r1
  exact ⟨some i, H1, I1, .int i t, q⟩
def SlR (X : Cx) (r : V → Option Int → Option Int → Hp → VK → Prop) : Prop :=
  ∀ (pins : List (Addr × Obj)) (s : Shared) (σ : St) (H : Hp) (x : V) (v vl vu : Value) (lo hi : Option Int) (sl : Addr) (Q : VK), Inv X pins σ H s → RelV x v → s.heap.IsSliceOf sl vl vu .none → IsPart vl lo → IsPart vu hi → r x lo hi H Q →
    ∃ T id, typeLookup (.type T) "__getitem__" = pure (some (.builtin id)) ∧ s.TypeIs v T ∧ wpAny (model X.prog X.w) X.A (getItem v (.ref sl)) (EP X pins σ Q) X.xe s
theorem SlR.or {r r' : V → Option Int → Option Int → Hp → VK → Prop} (h : SlR X r) (h' : SlR X r') : SlR X (fun x lo hi H Q => r x lo hi H Q ∨ r' x lo hi H Q) := by
  intro pins s σ H x v vl vu lo hi sl Q I rx hs pl pu q
  rcases q with q | q
  · exact h pins s σ H x v vl vu lo hi sl Q I rx hs pl pu q
  · exact h' pins s σ H x v vl vu lo hi sl Q I rx hs pl pu q
def tSl (r : V → Option Int → Option Int → Hp → VK → Prop) (te : TE) (tl th : TO) : TE := fun σ H Q => te σ H fun x H1 => tl σ H1 fun l H2 => th σ H2 fun u H3 => r x l u H3 Q
theorem pe_slice {r : V → Option Int → Option Int → Hp → VK → Prop} (hr : SlR X r) (he : PE X e te) (hl : PO X lo tl) (hu : PO X hi th) : PE X (.Subscript e (.Slice lo hi none p2) pos) (tSl r te tl th) := by
  intro pins s σ H Q I h
  refine Subscript_ (thn (he pins s σ H _ I h) fun v s1 ⟨x, H1, I1, r1, q1⟩ => ?_)
  refine wpAny_Slice (thn (hl pins s1 σ H1 _ I1 q1) fun vl s2 ⟨l, H2, I2, pl, q2⟩ => thn (hu pins s2 σ H2 _ I2 q2) fun vu s3 ⟨u, H3, I3, pu, q3⟩ => ?_)
  rw [evalPart_none]
  refine wpAny_pure ?_
  have I4 : Inv X pins σ H3 { s3 with heap := s3.heap.push { cls := .type "slice", data := .fields #[vl, vu, .none] } } := I3.kept (t' := s3.toks) fun b ob q => Heap.get?_push_of_some _ q
  obtain ⟨T, id, hT, ht, hg⟩ := hr pins { s3 with heap := s3.heap.push { cls := .type "slice", data := .fields #[vl, vu, .none] } } σ H3 x v vl vu l u s3.heap.objs.size Q I4 r1 (Heap.IsSliceOf.new ..) pl pu q3
  show wpAny (model X.prog X.w) X.A (subscriptTail e (.Slice lo hi none p2) v (.ref s3.heap.objs.size)) (EP X pins σ Q) X.xe { s3 with heap := s3.heap.push { cls := .type "slice", data := .fields #[vl, vu, .none] } }
  exact tail_any (ops := [.ref s3.heap.objs.size, v]) ht hT hg (by with_unfolding_all rfl)
def cutV (xs : List V) (lo hi : Option Int) : List V := (xs.drop (HT.sIx xs.length 0 lo)).take (HT.sIx xs.length xs.length hi - HT.sIx xs.length 0 lo)
theorem cutV_length (xs : List V) (lo hi : Option Int) : (cutV xs lo hi).length ≤ xs.length := by
  unfold cutV
  rw [List.length_take, List.length_drop]
  omega
def rSlT (K : PySem.W.Frag) : V → Option Int → Option Int → Hp → VK → Prop := fun x lo hi H Q => ∃ a xs, x = .ref a ∧ SqT K H a xs ∧
  ¬ (HT.sIx xs.length 0 lo = 0 ∧ HT.sIx xs.length xs.length hi = xs.length) ∧ ∀ p, H p = none → Q (.ref p) (upd H p (.tup (cutV xs lo hi)))
theorem sl_tup : SlR X (rSlT X.K) := by
  intro pins s σ H x v vl vu lo hi sl Q I rx hs pl pu h
  obtain ⟨a, xs, rfl, hx, hw, q⟩ := h
  cases rx
  obtain ⟨its, r, ht, hz⟩ := I.tuple hx
  have hlen : its.toArray.size = xs.length := by rw [List.size_toArray]; exact r.length.symm
  refine ⟨"tuple", _, PyProof.Rows.slot_tuple_getitem.lookup, ht.typeIs, ?_⟩
  refine HT.getItem_tuple_cut ht hs pl pu (by rw [hlen]; exact hw) ?_ (by rw [hlen]; exact hz)
  rw [hlen]
  refine ⟨.ref s.heap.objs.size, _, I.laid (t' := s.toks) (o := .tup (cutV xs lo hi)) (fun b ob q => Heap.get?_push_of_some _ q) (Nat.le_refl _) ?_, rfl, q _ (I.hok.fresh (Nat.le_refl _))⟩
  exact ⟨Nat.le_trans (cutV_length xs lo hi) hz, _, (r.drop (HT.sIx xs.length 0 lo)).take (HT.sIx xs.length xs.length hi - HT.sIx xs.length 0 lo), IsTup.new _ _⟩
def rCatT (K : PySem.W.Frag) : R2 := fun x y H Q => ∃ a b xs ys, x = .ref a ∧ y = .ref b ∧ SqT K H a xs ∧ SqT K H b ys ∧ xs ≠ [] ∧ xs.length + ys.length ≤ sizeLine ∧
  (ys = [] → Q (.ref a) H) ∧ (ys ≠ [] → ∀ p, H p = none → Q (.ref p) (upd H p (.tup (xs ++ ys))))
theorem Vals.nil_iff {xs : List V} {us : List Value} (r : Vals xs us) : us = [] ↔ xs = [] := by
  cases r with
  | nil => simp
  | cons _ _ => simp
theorem op_catT : OpR X (binaryOp .Add) (rCatT X.K) := by
  intro pins s σ H x y v u Q I rx ry h
  obtain ⟨a, b, xs, ys, rfl, rfl, ha, hb, hx, hz, q1, q2⟩ := h
  cases rx
  cases ry
  obtain ⟨its, r1, p1, _⟩ := I.tuple ha
  obtain ⟨its2, r2, p2, _⟩ := I.tuple hb
  refine HT.cat_tup p1 p2 (fun z => hx (r1.nil_iff.mp z)) (fun z => ⟨.ref a, H, I, rfl, q1 (r2.nil_iff.mp z)⟩) (fun z => ?_) (by rw [← r1.length, ← r2.length]; exact hz)
  refine ⟨.ref s.heap.objs.size, _, I.laid (t' := s.toks) (o := .tup (xs ++ ys)) (fun b ob q => Heap.get?_push_of_some _ q) (Nat.le_refl _) ?_, rfl, q2 (fun w => z (r2.nil_iff.mpr w)) _ (I.hok.fresh (Nat.le_refl _))⟩
  exact ⟨by rw [List.length_append]; exact hz, _, r1.append r2, IsTup.new _ _⟩
end
end L2
namespace L2
open PySem PySem.Spec PyProof.Rows
def ixN (n : Nat) (i : Int) : Option Nat := if 0 ≤ i then (if i < n then some i.toNat else none) else if -(n : Int) ≤ i then some (i + n).toNat else none
def atI {α : Type} (xs : List α) (i : Int) : Option α := (ixN xs.length i).bind fun j => xs[j]?
theorem ixN_seq {n : Nat} {i : Int} {j : Nat} (h : ixN n i = some j) : seqIndex? i n = some j ∧ j < n ∧ -(n : Int) ≤ i ∧ i < n := by
  unfold ixN at h
  by_cases h0 : 0 ≤ i
  · rw [if_pos h0] at h
    by_cases h1 : i < n
    · rw [if_pos h1] at h
      have e : i.toNat = j := Option.some.inj h
      exact ⟨by rw [seqIndex_of h0 h1, e], by omega, by omega, h1⟩
    · rw [if_neg h1] at h; cases h
  · rw [if_neg h0] at h
    by_cases h1 : -(n : Int) ≤ i
    · rw [if_pos h1] at h
      have e : (i + n).toNat = j := Option.some.inj h
      exact ⟨by rw [seqIndex_neg (by omega) h1, e], by omega, h1, by omega⟩
    · rw [if_neg h1] at h; cases h
theorem atI_get {α : Type} {xs : List α} {i : Int} {v : α} (h : atI xs i = some v) : ∃ j, seqIndex? i xs.length = some j ∧ xs[j]? = some v ∧ j < xs.length ∧ -(xs.length : Int) ≤ i ∧ i < xs.length := by
  unfold atI at h
  cases e : ixN xs.length i with
  | none => rw [e] at h; cases h
  | some j =>
    rw [e] at h
    obtain ⟨h1, h2, h3, h4⟩ := ixN_seq e
    exact ⟨j, h1, h, h2, h3, h4⟩
theorem atI_nat {α : Type} {xs : List α} {j : Nat} {v : α} (h : xs[j]? = some v) : atI xs (j : Int) = some v := by
  have hj : j < xs.length := (List.getElem?_eq_some_iff.mp h).1
  have e : ixN xs.length (j : Int) = some j := by
    unfold ixN
    rw [if_pos (by omega), if_pos (by omega)]; simp
  unfold atI; rw [e]; exact h
def PlainIx (b : Expr) : Prop := ∀ o i, subscripted b false o i = operate [o, i] (getItem o i)
def IxR (X : Cx) (r : R2) : Prop :=
  ∀ (value slice : Expr) (pins : List (Addr × Obj)) (s : Shared) (σ : St) (H : Hp) (x y : V) (v u : Value) (Q : VK), Inv X pins σ H s → RelV x v → RelV y u → r x y H Q →
    subscripted slice false v u = operate [v, u] (getItem v u) → wpAny (model X.prog X.w) X.A (subscriptTail value slice v u) (EP X pins σ Q) X.xe s
def MtR (X : Cx) (id : String) (r : V → List V → Hp → VK → Prop) : Prop :=
  ∀ (pins : List (Addr × Obj)) (s : Shared) (σ : St) (H : Hp) (x : V) (xs : List V) (v : Value) (us : List Value) (Q : VK), Inv X pins σ H s → RelV x v → Vals xs us → r x xs H Q →
    wpAny (model X.prog X.w) X.A (call (.builtin id) (v :: us)) (EP X pins σ Q) X.xe s
section
variable {X : Cx} {a b : Expr} {ta tb : TE} {pos : Pos}
theorem IxR.or {r r' : R2} (h : IxR X r) (h' : IxR X r') : IxR X (fun x y H Q => r x y H Q ∨ r' x y H Q) := by
  intro value slice pins s σ H x y v u Q I rx ry q hs
  rcases q with q | q
  · exact h value slice pins s σ H x y v u Q I rx ry q hs
  · exact h' value slice pins s σ H x y v u Q I rx ry q hs
theorem MtR.or {id : String} {r r' : V → List V → Hp → VK → Prop} (h : MtR X id r) (h' : MtR X id r') : MtR X id (fun x xs H Q => r x xs H Q ∨ r' x xs H Q) := by
  intro pins s σ H x xs v us Q I rx rs q
  rcases q with q | q
  · exact h pins s σ H x xs v us Q I rx rs q
  · exact h' pins s σ H x xs v us Q I rx rs q
theorem pe_ix {r : R2} (hr : IxR X r) (ha : PE X a ta) (hb : PE X b tb) (hs : PlainIx b) : PE X (.Subscript a b pos) (tOp r ta tb) := by
  intro pins s σ H Q I h
  exact Subscript_ (binT ha hb I h fun v u s2 x y H2 I2 rx ry q => hr a b pins s2 σ H2 x y v u Q I2 rx ry q (hs _ _))
def rIxL (K : PySem.W.Frag) : R2 := fun x y H Q => ∃ p xs i v, x = .ref p ∧ y = .int i ∧ SqL K H p xs ∧ atI xs i = some v ∧ Q v H
def rIxT (K : PySem.W.Frag) : R2 := fun x y H Q => ∃ p xs i v, x = .ref p ∧ y = .int i ∧ SqT K H p xs ∧ atI xs i = some v ∧ Q v H
theorem ix_list : IxR X (rIxL X.K) := by
  intro value slice pins s σ H x y v u Q I rx ry h hs
  obtain ⟨p, xs, i, z, rfl, rfl, hq, he, q⟩ := h
  cases rx
  obtain ⟨t, rfl⟩ := ry
  obtain ⟨its, r, pl, hz⟩ := I.list hq
  obtain ⟨j, h1, h2, h3, h4, h5⟩ := atI_get he
  obtain ⟨w, ew, rw'⟩ := r.get h2
  have hl := r.length
  have hn := line63
  have fin : EP X pins σ Q w s := ⟨z, H, I, rw', q⟩
  by_cases h0 : 0 ≤ i
  · have hj : i.toNat = j := by
      rw [seqIndex_of h0 h5] at h1
      exact Option.some.inj h1
    exact item_listR pl.isList h0 (by omega) (by rw [hj]; simpa using ew) fin hs
  · have hj : (i + (its.toArray.size : Int)).toNat = j := by
      rw [seqIndex_neg (by omega) h4] at h1
      rw [List.size_toArray, ← hl]
      exact Option.some.inj h1
    exact subscriptTail_builtinR (x := w) pl.isList.typeIs slot_list_getitem.lookup
      (wpAny_getItem_list_neg (Q := fun r s' => r = w ∧ EP X pins σ Q r s') pl.isList (by omega) (by rw [List.size_toArray] <;> omega) (by omega) (by rw [hj]; simpa using ew) ⟨rfl, fin⟩) hs
theorem ix_tup : IxR X (rIxT X.K) := by
  intro value slice pins s σ H x y v u Q I rx ry h hs
  obtain ⟨p, xs, i, z, rfl, rfl, hq, he, q⟩ := h
  cases rx
  obtain ⟨t, rfl⟩ := ry
  obtain ⟨its, r, pl, hz⟩ := I.tuple hq
  obtain ⟨j, h1, h2, h3, h4, h5⟩ := atI_get he
  obtain ⟨w, ew, rw'⟩ := r.get h2
  have hl := r.length
  have hn := line63
  have fin : EP X pins σ Q w s := ⟨z, H, I, rw', q⟩
  exact subscriptTail_builtinR (x := w) pl.typeIs slot_tuple_getitem.lookup
    (getItem_tuple (j := j) (Q := fun r s' => r = w ∧ EP X pins σ Q r s') pl (by omega) (by omega) (by rw [List.size_toArray, ← hl]; exact h1) (by simpa using ew) ⟨rfl, fin⟩) hs
theorem mapSeq_set (its : List Value) (n j : Nat) (u : Value) : Obj.mapSeq (·.setIfInBounds j u) { cls := .type "list", data := .seq its.toArray n } = { cls := .type "list", data := .seq (its.set j u).toArray n } := by
  simp [Obj.mapSeq]
theorem Inv.lst {pins : List (Addr × Obj)} {σ : St} {H : Hp} {s : Shared} {p : Addr} {xs : List V} (I : Inv X pins σ H s) (h : H p = some (.lst xs)) :
    ∃ (its : List Value) (n : Nat), Vals xs its ∧ s.heap.get? p = some { cls := .type "list", data := .seq its.toArray n } ∧ xs.length ≤ sizeLine := by
  obtain ⟨z, its, n, r, e⟩ := I.hok p _ h
  exact ⟨its, n, r, e, z⟩
theorem Inv.lstUpd {pins : List (Addr × Obj)} {σ : St} {H : Hp} {s : Shared} {p : Addr} {xs ys : List V} {its its' : List Value} {n n' : Nat} {f : Obj → Obj} (I : Inv X pins σ H s) (h : H p = some (.lst xs))
    (ho : s.heap.get? p = some { cls := .type "list", data := .seq its.toArray n }) (hf : f { cls := .type "list", data := .seq its.toArray n } = { cls := .type "list", data := .seq its'.toArray n' }) (r : Vals ys its') (hz : ys.length ≤ sizeLine) (t : Nat) :
    Inv X pins σ (upd H p (.lst ys)) { s with heap := s.heap.update p f, toks := t } := by
  have e : (s.heap.update p f).get? p = some { cls := .type "list", data := .seq its'.toArray n' } := by
    rw [Heap.get?_update_self f ho (by rw [hf] <;> rfl), hf]
  refine I.write (x := p) (e := p) (by rw [h]; trivial) (.inl rfl) (fun b u hb q => (Heap.get?_update_other _ _ (Ne.symm hb)).trans q) ⟨_, e⟩ ?_
  exact ⟨hz, its', n', r, e⟩
def rSetL : V → V → V → Hp → (Hp → Prop) → Prop := fun o i v H Q => ∃ p xs k j, o = .ref p ∧ i = .int k ∧ H p = some (.lst xs) ∧ ixN xs.length k = some j ∧ Q (upd H p (.lst (xs.set j v)))
theorem set_list : PSet X rSetL := by
  intro pins s σ H o i v ov iv u Q I ro ri rv h
  obtain ⟨p, xs, k, j, rfl, rfl, hp, hj, q⟩ := h
  cases ro
  obtain ⟨t, rfl⟩ := ri
  obtain ⟨its, n, r, ho, hz⟩ := I.lst hp
  obtain ⟨h1, h2, h3, h4⟩ := ixN_seq hj
  have hl := r.length
  have hn := line63
  have I' : Inv X pins σ (upd H p (.lst (xs.set j v))) { s with heap := s.heap.update p (Obj.mapSeq (·.setIfInBounds j u)) } :=
    I.lstUpd hp ho (mapSeq_set its n j u) (r.set rv j) (by rw [List.length_set]; exact hz) s.toks
  by_cases h0 : 0 ≤ k
  · have hk : k.toNat = j := by
      rw [seqIndex_of h0 h4] at h1
      exact Option.some.inj h1
    exact PySem.W.ki_setAt ho h0 (by omega) (by rw [List.size_toArray, ← hl]; exact h4) (by rw [hk]; exact ⟨_, I', q⟩)
  · have hk : (k + (its.toArray.size : Int)).toNat = j := by
      rw [seqIndex_neg (by omega) h3] at h1
      rw [List.size_toArray, ← hl]
      exact Option.some.inj h1
    exact PySem.W.ki_setBack ho (by omega) (by rw [List.size_toArray, ← hl]; exact h3) (by omega) (by rw [hk]; exact ⟨_, I', q⟩)
theorem slice_bounds (lo hi : Option Int) (n : Nat) : (sliceBounds lo hi none n).1 = ((HT.sIx n 0 lo : Nat) : Int) ∧ (sliceBounds lo hi none n).2.1 = ((HT.sIx n n hi : Nat) : Int) ∧ (sliceBounds lo hi none n).2.2 = 1 := by
  refine ⟨?_, ?_, rfl⟩
  · cases lo with
    | none => simp [sliceBounds, HT.sIx]
    | some i =>
      simp only [sliceBounds, HT.sIx, Option.getD_none, show (1 : Int) > 0 by decide, if_true]
      by_cases h : i < 0
      · simp only [h, if_true] <;> omega
      · simp only [h, if_false] <;> omega
  · cases hi with
    | none => simp [sliceBounds, HT.sIx]
    | some i =>
      simp only [sliceBounds, HT.sIx, Option.getD_none, show (1 : Int) > 0 by decide, if_true]
      by_cases h : i < 0
      · simp only [h, if_true] <;> omega
      · simp only [h, if_false] <;> omega
theorem slicePick_cut (its : List Value) (lo hi : Option Int) : slicePick its.toArray lo hi none = ((its.drop (HT.sIx its.length 0 lo)).take (HT.sIx its.length its.length hi - HT.sIx its.length 0 lo)).toArray := by
  obtain ⟨h1, h2, h3⟩ := slice_bounds lo hi its.toArray.size
  unfold slicePick
  rw [h1, h2, h3]
  simp only [sliceRange_one, pick_run, List.size_toArray] <;> rfl
def rSlL (K : PySem.W.Frag) : V → Option Int → Option Int → Hp → VK → Prop := fun x lo hi H Q => ∃ a xs, x = .ref a ∧ SqL K H a xs ∧ ∀ p, H p = none → Q (.ref p) (upd H p (.lst (cutV xs lo hi)))
theorem sl_list : SlR X (rSlL X.K) := by
  intro pins s σ H x v vl vu lo hi sl Q I rx hs pl pu h
  obtain ⟨a, xs, rfl, hx, q⟩ := h
  cases rx
  obtain ⟨its, r, ht, hz⟩ := I.list hx
  have hlen := r.length
  refine ⟨"list", _, slot_list_getitem.lookup, ht.isList.typeIs, ?_⟩
  refine wpAny_getItem_list_slice ht.isList hs pl pu .none (by simp) ?_ (by rw [List.size_toArray] <;> omega)
  rw [slicePick_cut, ← hlen]
  refine ⟨.ref s.heap.objs.size, _, I.laid (t' := s.toks) (o := .lst (cutV xs lo hi)) (fun b ob q => Heap.get?_push_of_some _ q) (Nat.le_refl _) ?_, rfl, q _ (I.hok.fresh (Nat.le_refl _))⟩
  exact ⟨Nat.le_trans (cutV_length xs lo hi) hz, _, 0, (r.drop (HT.sIx xs.length 0 lo)).take (HT.sIx xs.length xs.length hi - HT.sIx xs.length 0 lo), Heap.get?_push_size _ rfl⟩
def flatV : V → Bool
  | .non => true
  | .bl _ => true
  | .int _ => true
  | .str _ => true
  | _ => false
def eqV : V → V → Bool
  | .non, .non => true
  | .bl a, .bl b => a == b
  | .bl a, .int b => (if a then 1 else 0) == b
  | .int a, .bl b => a == (if b then 1 else 0)
  | .int a, .int b => a == b
  | .str a, .str b => a == b
  | _, _ => false
theorem eqAt_V {A : Around} {s : Shared} {y x : V} {u v : Value} (ry : RelV y u) (rx : RelV x v) (fy : flatV y = true) (fx : flatV x = true) : SeqAt.EqAt A s u v (eqV y x) := by
  cases y with
  | non =>
    cases ry
    cases x with
    | non => cases rx; exact SeqAt.EqAt.same _
    | bl b => cases rx; exact SeqAt.EqAt.none_bool b
    | int b => obtain ⟨t, rfl⟩ := rx; exact SeqAt.EqAt.none_int b t
    | str b => obtain ⟨t, rfl⟩ := rx; exact SeqAt.EqAt.none_str b t
    | _ => exact absurd (show false = true from fx) Bool.false_ne_true
  | bl a =>
    cases ry
    cases x with
    | non => cases rx; exact SeqAt.EqAt.bool_none a
    | bl b => cases rx; exact SeqAt.EqAt.bool_bool a b
    | int b => obtain ⟨t, rfl⟩ := rx; exact SeqAt.EqAt.bool_int a b t
    | str b => obtain ⟨t, rfl⟩ := rx; exact SeqAt.EqAt.bool_str a b t
    | _ => exact absurd (show false = true from fx) Bool.false_ne_true
  | int a =>
    obtain ⟨t', rfl⟩ := ry
    cases x with
    | non => cases rx; exact SeqAt.EqAt.int_none a t'
    | bl b => cases rx; exact SeqAt.EqAt.int_bool a t' b
    | int b => obtain ⟨t, rfl⟩ := rx; exact SeqAt.EqAt.int_int a t' b t
    | str b => obtain ⟨t, rfl⟩ := rx; exact SeqAt.EqAt.int_str a t' b t
    | _ => exact absurd (show false = true from fx) Bool.false_ne_true
  | str a =>
    obtain ⟨t', rfl⟩ := ry
    cases x with
    | non => cases rx; exact SeqAt.EqAt.str_none a t'
    | bl b => cases rx; exact SeqAt.EqAt.str_bool a t' b
    | int b => obtain ⟨t, rfl⟩ := rx; exact SeqAt.EqAt.str_int a t' b t
    | str b => obtain ⟨t, rfl⟩ := rx; exact SeqAt.EqAt.str_str a t' b t
    | _ => exact absurd (show false = true from fx) Bool.false_ne_true
  | _ => exact absurd (show false = true from fy) Bool.false_ne_true
def eqU (x : V) (u : Value) : Bool := match u with
  | .none => eqV .non x
  | .bool b => eqV (.bl b) x
  | .int i _ => eqV (.int i) x
  | .str z _ => eqV (.str z) x
  | _ => false
theorem eqU_of {x y : V} {u : Value} (r : RelV y u) (f : flatV y = true) : eqU x u = eqV y x := by
  cases y with
  | non => cases r; rfl
  | bl b => cases r; rfl
  | int i => obtain ⟨t, rfl⟩ := r; rfl
  | str z => obtain ⟨t, rfl⟩ := r; rfl
  | _ => exact absurd (show false = true from f) Bool.false_ne_true
theorem any_eqU {x : V} : ∀ {xs : List V} {us : List Value}, Vals xs us → xs.all flatV = true → us.any (eqU x) = xs.any fun y => eqV y x
  | _, _, .nil, _ => rfl
  | y :: xs, u :: us, .cons r t, f => by
    rw [List.all_cons, Bool.and_eq_true] at f
    rw [List.any_cons, List.any_cons, eqU_of r f.1, any_eqU t f.2]
theorem mem_eqAt {A : Around} {s : Shared} {x : V} {v : Value} (rx : RelV x v) (fx : flatV x = true) : ∀ {xs : List V} {us : List Value}, Vals xs us → xs.all flatV = true → ∀ u ∈ us, SeqAt.EqAt A s u v (eqU x u)
  | _, _, .nil, _ => fun u hu => by cases hu
  | y :: xs, u :: us, .cons r t, f => fun u' hu => by
    rw [List.all_cons, Bool.and_eq_true] at f
    rcases List.mem_cons.mp hu with rfl | hu
    · rw [eqU_of r f.1]; exact eqAt_V r rx f.1 fx
    · exact mem_eqAt rx fx t f.2 u' hu
def inV (x : V) (xs : List V) : Bool := xs.any fun y => eqV y x
def rIn (K : PySem.W.Frag) (neg : Bool) : R2 := fun x y H Q => ∃ p xs, y = .ref p ∧ (SqL K H p xs ∨ SqT K H p xs) ∧ flatV x = true ∧ xs.all flatV = true ∧ Q (.bl (if neg then !inV x xs else inV x xs)) H
theorem op_notIn_seq : OpR X (compareOp .NotIn) (rIn X.K true) := by
  intro pins s σ H x y v u Q I rx ry h
  obtain ⟨p, xs, rfl, hq, fx, fs, q⟩ := h
  cases ry
  rcases hq with hq | hq
  · obtain ⟨its, r, pl, hz⟩ := I.list hq
    refine SeqAt.notIn_listAt (eqU x) pl.isList (fun w hw => mem_eqAt rx fx r fs w (by simpa using hw)) ⟨.bl _, H, I, rfl, ?_⟩
    rw [show its.toArray.any (eqU x) = its.any (eqU x) by simp, any_eqU r fs]
    exact q
  · obtain ⟨its, r, pl, hz⟩ := I.tuple hq
    refine SeqAt.notIn_tupleAt (eqU x) pl (fun w hw => mem_eqAt rx fx r fs w (by simpa using hw)) ⟨.bl _, H, I, rfl, ?_⟩
    rw [show its.toArray.any (eqU x) = its.any (eqU x) by simp, any_eqU r fs]
    exact q
theorem call_len_seq : CallR X (.builtin "len") (fun xs H Q => ∃ p ys, xs = [.ref p] ∧ (SqL X.K H p ys ∨ SqT X.K H p ys) ∧ Q (.int ys.length) H) := by
  intro pins s σ H xs us Q I r h
  obtain ⟨p, ys, rfl, hq, q⟩ := h
  obtain ⟨u, rfl, rx⟩ := vals1 r
  cases rx
  have hn := line63
  rcases hq with hq | hq
  · obtain ⟨its, r', pl, hz⟩ := I.list hq
    have hlen := r'.length
    exact Calls.call_len_list pl.isList (by simp only [List.size_toArray] <;> omega) ⟨.int ys.length, H, I.tok _, ⟨s.toks + 1, by rw [List.size_toArray, hlen]⟩, q⟩
  · obtain ⟨its, r', pl, hz⟩ := I.tuple hq
    have hlen := r'.length
    exact len_tuple pl (by simp only [List.size_toArray] <;> omega) ⟨.int ys.length, H, I.tok _, ⟨s.toks + 1, by rw [List.size_toArray, hlen]⟩, q⟩
theorem CallR.or {f : Value} {r r' : List V → Hp → VK → Prop} (h : CallR X f r) (h' : CallR X f r') : CallR X f (fun xs H Q => r xs H Q ∨ r' xs H Q) := by
  intro pins s σ H xs us Q I rs q
  rcases q with q | q
  · exact h pins s σ H xs us Q I rs q
  · exact h' pins s σ H xs us Q I rs q
theorem call_list_of : CallR X (.type "list") (fun xs H Q => ∃ p ys, xs = [.ref p] ∧ (SqL X.K H p ys ∨ SqT X.K H p ys) ∧ ∀ l, H l = none → Q (.ref l) (upd H l (.lst ys))) := by
  intro pins s σ H xs us Q I r h
  obtain ⟨p, ys, rfl, hq, q⟩ := h
  obtain ⟨u, rfl, rx⟩ := vals1 r
  cases rx
  have fin : ∀ (its : List Value), Vals ys its → ys.length ≤ sizeLine → ∀ (h' : Heap) (c' : Nat), (∀ b o', s.heap.get? b = some o' → h'.get? b = some o') →
      h'.get? s.heap.objs.size = some { cls := .type "list", dict := none, data := .seq its.toArray c', slots := #[] } → EP X pins σ Q (.ref s.heap.objs.size) { s with heap := h' } := fun its r' hz h' c' kp e =>
    ⟨.ref s.heap.objs.size, _, I.laid (t' := s.toks) kp (Nat.le_refl _) (show ObjOk X.prog X.w _ h' _ (.lst ys) from ⟨hz, its, c', r', e⟩), rfl, q _ (I.hok.fresh (Nat.le_refl _))⟩
  rcases hq with hq | hq
  · obtain ⟨its, r', pl, hz⟩ := I.list hq
    have hlen := r'.length
    obtain ⟨o, ho, hc, n, hd⟩ := pl.isList
    exact call_list_seq p (.inl rfl) ho hc hd (fun h' c' kp e => fin its r' hz h' c' kp e) (by simp only [List.size_toArray] <;> omega)
  · obtain ⟨its, r', pl, hz⟩ := I.tuple hq
    have hlen := r'.length
    obtain ⟨o, ho, hc, n, hd⟩ := pl
    exact call_list_seq p (.inr rfl) ho hc hd (fun h' c' kp e => fin its r' hz h' c' kp e) (by simp only [List.size_toArray] <;> omega)
theorem call_tuple_of : CallR X (.type "tuple") (fun xs H Q => ∃ p ys, xs = [.ref p] ∧ ((SqL X.K H p ys ∧ ∀ l, H l = none → Q (.ref l) (upd H l (.tup ys))) ∨ (SqT X.K H p ys ∧ Q (.ref p) H))) := by
  intro pins s σ H xs us Q I r h
  obtain ⟨p, ys, rfl, h⟩ := h
  obtain ⟨u, rfl, rx⟩ := vals1 r
  cases rx
  rcases h with ⟨hq, q⟩ | ⟨hq, q⟩
  · obtain ⟨its, r', pl, hz⟩ := I.list hq
    have hlen := r'.length
    refine call_tuple_list pl.isList (fun h' kp => ?_) (by simp only [List.size_toArray] <;> omega)
    have I1 : Inv X pins σ H { s with heap := h' } := I.kept (t' := s.toks) kp
    have I2 : Inv X pins σ (upd H h'.objs.size (.tup ys)) { s with heap := h'.push { cls := .type "tuple", data := .seq its.toArray } } :=
      I1.laid (t' := s.toks) (fun b o e => Heap.get?_push_of_some _ e) (Nat.le_refl _) (show ObjOk X.prog X.w _ _ _ (.tup ys) from ⟨hz, its, r', IsTup.new _ _⟩)
    exact ⟨.ref h'.objs.size, _, I2, rfl, q _ (I1.hok.fresh (Nat.le_refl _))⟩
  · obtain ⟨its, r', pl, hz⟩ := I.tuple hq
    exact call_tuple_same pl ⟨.ref p, H, I, rfl, q⟩
def tyV (K : PySem.W.Frag) (T : String) (x : V) (H : Hp) : Prop := match x with
  | .str _ => T = "str"
  | .int _ => T = "int"
  | .ref p => (T = "list" ∧ ∃ xs, SqL K H p xs) ∨ (T = "tuple" ∧ ∃ o, K.lookup p = some o ∧ o.cls = .type "tuple" ∧ o.dict = none) ∨
      (T = "dict" ∧ ((∃ kvs, H p = some (.dK kvs)) ∨ ∃ kvs, H p = some (.dT kvs))) ∨ (T = "set" ∧ ∃ S n, H p = some (.set S n))
  | _ => False
theorem tyV_is {pins : List (Addr × Obj)} {σ : St} {H : Hp} {s : Shared} {T : String} {x : V} {v : Value} (I : Inv X pins σ H s) (r : RelV x v) (ty : tyV X.K T x H) :
    s.TypeIs v T ∧ ∀ a, v = .ref a → ∃ ob, s.heap.get? a = some ob ∧ ob.dict = none := by
  cases x with
  | str z =>
    obtain ⟨t, rfl⟩ := r
    cases (show T = "str" from ty)
    exact ⟨typeIs_str s z t, fun _ e => nomatch e⟩
  | int i =>
    obtain ⟨t, rfl⟩ := r
    cases (show T = "int" from ty)
    exact ⟨typeIs_int s i t, fun _ e => nomatch e⟩
  | ref p =>
    cases r
    rcases ty with ⟨rfl, xs, hq⟩ | ⟨rfl, o, hk, hc, hd⟩ | ⟨rfl, hk⟩ | ⟨rfl, S, n, hk⟩
    · obtain ⟨its, _, pl, _⟩ := I.list hq
      refine ⟨pl.isList.typeIs, fun a e => ?_⟩
      cases e
      obtain ⟨o, n, e, c, hd, _⟩ := pl
      exact ⟨o, e, hd⟩
    · refine ⟨⟨o, I.kIn p o hk, hc⟩, fun a e => ?_⟩
      cases e
      exact ⟨o, I.kIn _ o hk, hd⟩
    · have z : ∃ o, s.heap.get? p = some o ∧ o.ExactDict := by
        rcases hk with ⟨kvs, hk⟩ | ⟨kvs, hk⟩
        · obtain ⟨_, _, _, _, o, _, _, e, ex, _⟩ := I.hok p _ hk
          exact ⟨o, e, ex⟩
        · obtain ⟨_, _, _, _, o, _, _, e, ex, _⟩ := I.hok p _ hk
          exact ⟨o, e, ex⟩
      obtain ⟨o, e, ex⟩ := z
      refine ⟨⟨o, e, ex.1⟩, fun a e2 => ?_⟩
      cases e2
      exact ⟨o, e, ex.2.1⟩
    · obtain ⟨o, _, _, _, e, ex, _⟩ := I.hok p _ hk
      refine ⟨⟨o, e, ex.1⟩, fun a e2 => ?_⟩
      cases e2
      exact ⟨o, e, ex.2.1⟩
  | _ => exact False.elim ty
def tBM (K : PySem.W.Frag) (T : String) (r : V → List V → Hp → VK → Prop) (to : TE) (t : TA) : TE := fun σ H Q => to σ H fun x H1 => tyV K T x H1 ∧ t σ H1 fun xs H2 => r x xs H2 Q
variable {o e : Expr} {es : List Expr} {to : TE} {t : TA} {name : Str} {apos cpos : Pos} {T id : String} {r : V → List V → Hp → VK → Prop}
theorem pe_bm (pa : PlainAttrs T) (slot : Slot T name id) (hty : typeOf (.builtin id) = pure (.type "method_descriptor")) (hm : MtR X id r) (ho : PE X o to) (ha : PA X (e :: es) t)
    (hbase : attributeBase o name X.env (eval o X.env) = eval o X.env := by rfl)
    (hfew : ((backTo cpos (starEach (e :: es) X.env)).all (fun x => !x.1) && (backToKw cpos (keywordEach [] X.env)).all (fun x => x.1.isSome)
      && decide ((e :: es).length + ([] : List Keyword).length + (if ([] : List Keyword).isEmpty then 0 else 1) < 30)) = true := by rfl)
    (hline : (apos.endLine == cpos.line) = true := by rfl) (hs : starEach (e :: es) X.env = (false, eval e X.env) :: starEach es X.env := by rfl) (hplain : (backTo cpos (starEach es X.env)).any (·.1) = false := by rfl) :
    PE X (.Call (.Attribute o name apos) (e :: es) [] cpos) (tBM X.K T r to t) := by
  intro pins s σ H Q I h
  refine wpAny_Call_method_late hbase hfew hline rfl (thn (ho pins s σ H _ I h) fun v s1 ⟨x, H1, I1, r1, ty, q1⟩ => ?_)
  obtain ⟨h1, h2⟩ := tyV_is I1 r1 ty
  refine ⟨T, id, pa, slot, hty, h1, h2, ?_⟩
  have hA := ha cpos pins s1 σ H1 _ I1 q1
  rw [hs] at hA ⊢
  refine Calls.callWith_builtin (by show (false || (backTo cpos (starEach es X.env)).any (·.1)) = false; rw [hplain] <;> rfl) (Calls.evalArgs_plain ?_)
  exact thn hA fun us s2 ⟨vs, H2, I2, r2, q2⟩ => hm pins s2 σ H2 x vs v us Q I2 r1 r2 q2
end
end L2
namespace L2
open PySem PySem.Spec PyProof.Rows
def MtM (X : Cx) (id : String) (r : V → List V → Hp → VK → Prop) : Prop :=
  ∀ (pins : List (Addr × Obj)) (s : Shared) (σ : St) (H : Hp) (x : V) (xs : List V) (v : Value) (us : List Value) (Q : VK), Inv X pins σ H s → RelV x v → Vals xs us → r x xs H Q →
    wpAny (model X.prog X.w) X.A (call (.builtin id) (v :: us)) (EP X pins σ Q) X.xe s
theorem Vals.one : ∀ {x : V} {us : List Value}, Vals [x] us → ∃ u, us = [u] ∧ RelV x u
  | _, _, .cons r .nil => ⟨_, rfl, r⟩
theorem Vals.two : ∀ {x y : V} {us : List Value}, Vals [x, y] us → ∃ u v, us = [u, v] ∧ RelV x u ∧ RelV y v
  | _, _, _, .cons r (.cons q .nil) => ⟨_, _, rfl, r, q⟩
theorem Vals.zero : ∀ {us : List Value}, Vals [] us → us = []
  | _, .nil => rfl
theorem Vals.dropLast {xs : List V} {us : List Value} (h : Vals xs us) : Vals xs.dropLast us.dropLast := by
  induction h with
  | nil => exact .nil
  | cons r t ih =>
    cases t with
    | nil => exact .nil
    | cons q t' => exact .cons r ih
theorem Vals.reverse {xs : List V} {us : List Value} (h : Vals xs us) : Vals xs.reverse us.reverse := by
  induction h with
  | nil => exact .nil
  | cons r t ih => rw [List.reverse_cons, List.reverse_cons]; exact Vals.append ih (.cons r .nil)
section
variable {X : Cx} {pins : List (Addr × Obj)} {σ : St} {H : Hp} {s : Shared} {l b : Addr} {xs ys zs : List V}
theorem Inv.lset {its its' : List Value} {n : Nat} {f : Array Value → Array Value} {t' : Nat} (I : Inv X pins σ H s) (hH : H l = some (.lst xs))
    (e : s.heap.get? l = some { cls := .type "list", data := .seq its.toArray n }) (hf : f its.toArray = its'.toArray) (hv : Vals ys its') (hz : ys.length ≤ sizeLine) :
    Inv X pins σ (upd H l (.lst ys)) { s with heap := s.heap.update l (Obj.mapSeq f), toks := t' } := by
  have q := PySem.IsL.update e f
  rw [hf] at q
  refine I.write (x := l) (e := l) (by rw [hH]; exact trivial) (.inl rfl) (fun b' u hb hu => (Heap.get?_update_other s.heap (Obj.mapSeq f) (Ne.symm hb)).trans hu) ⟨_, q⟩ ?_
  exact ⟨hz, its', _, hv, q⟩
theorem Inv.lnew {its : List Value} {t' : Nat} (I : Inv X pins σ H s) (hv : Vals ys its) (hz : ys.length ≤ sizeLine) :
    Inv X pins σ (upd H s.heap.objs.size (.lst ys)) { s with heap := s.heap.push { cls := .type "list", data := .seq its.toArray }, toks := t' } :=
  I.laid (fun _ _ q => Heap.get?_push_of_some _ q) (Nat.le_refl _) ⟨hz, its, 0, hv, Heap.get?_push_size _ rfl⟩
theorem Inv.fresh (I : Inv X pins σ H s) : H s.heap.objs.size = none := I.hok.fresh (Nat.le_refl _)
theorem Inv.lstM (I : Inv X pins σ H s) (hH : H l = some (.lst xs)) : xs.length ≤ sizeLine ∧ ∃ (its : List Value) (n : Nat), Vals xs its ∧ xs.length = its.length ∧ s.heap.get? l = some { cls := .type "list", data := .seq its.toArray n } := by
  obtain ⟨z, its, n, r, e⟩ := I.hok l _ hH
  exact ⟨z, its, n, r, r.length, e⟩
end
section
variable {X : Cx}
def rAppend : V → List V → Hp → VK → Prop := fun x vs H Q => ∃ l xs y, x = .ref l ∧ vs = [y] ∧ H l = some (.lst xs) ∧ xs.length < sizeLine ∧ Q .non (upd H l (.lst (xs ++ [y])))
theorem mt_append : MtM X "list.append" rAppend := by
  intro pins s σ H x vs v us Q I rx rv h
  obtain ⟨l, xs, y, rfl, rfl, hH, hz, q⟩ := h
  cases rx
  obtain ⟨u, rfl, ru⟩ := rv.one
  obtain ⟨z, its, n, r, hl, e⟩ := I.lstM hH
  refine call_meets F.slot_list_append ⟨_, e, rfl⟩ F.entry_list_append (F.args_list_append_2 _ _) (PySem.list_append l its.toArray n u (by rw [List.size_toArray]; omega)) ⟨e, ?_⟩
  refine ⟨.non, _, I.lset (its' := its ++ [u]) hH e (by simp) (r.append (.cons ru .nil)) ?_, rfl, q⟩
  rw [List.length_append, List.length_singleton]
  omega
def rCat : R2 := fun x y H Q => ∃ l b xs zs, x = .ref l ∧ y = .ref b ∧ H l = some (.lst xs) ∧ H b = some (.lst zs) ∧ xs.length + zs.length ≤ sizeLine ∧ ∀ p, H p = none → Q (.ref p) (upd H p (.lst (xs ++ zs)))
theorem op_cat : OpR X (binaryOp .Add) rCat := by
  intro pins s σ H x y v u Q I rx ry h
  obtain ⟨l, b, xs, zs, rfl, rfl, hH, hB, hz, q⟩ := h
  cases rx
  cases ry
  obtain ⟨z, its, n, r, hl, e⟩ := I.lstM hH
  obtain ⟨z2, its2, n2, r2, hl2, e2⟩ := I.lstM hB
  refine PySem.P.add_list e e2 ?_ (by rw [List.size_toArray, List.size_toArray]; omega)
  have ea : its.toArray ++ its2.toArray = (its ++ its2).toArray := by simp
  rw [ea]
  exact ⟨.ref _, _, I.lnew (t' := s.toks) (r.append r2) (by rw [List.length_append]; omega), rfl, q _ I.fresh⟩
end
section
variable {prog : Program} {w : World} {A : Around} {E : Value → Shared → Prop} {s : Shared}
end
section
variable {X : Cx}
end
end L2
namespace Att
open PySem PySem.W PySem.Calls PyProof.Rows
theorem ints_of_wellAll {P : Params} {h : Heap} : ∀ (ns : List Int) (vs : List Value), WellAll P h vs (ns.map WData.int) → IntsAre vs ns := by
  intro ns
  induction ns with
  | nil =>
    intro vs w
    rw [List.map_nil] at w
    cases w
    exact .nil
  | cons n ns ih =>
    intro vs w
    rw [List.map_cons] at w
    cases w with
    | cons a b =>
      cases a
      exact .cons _ _ (ih _ b)
theorem script_of {l : OpenLaw} {n : Nat} (hn : l.most = some n) {P : Params} {h : Heap} {args : List WData} {vals : List Value}
    (hpre : l.row.toRowW.claim.pre args = true) (hwl : WellAll P h vals args) :
    ∃ a vs ns, vals = [Value.ref a] ∧ args = [WData.list (ns.map WData.int)] ∧ h.get? a = some { cls := .type "list", data := .seq vs.toArray } ∧ IntsAre vs ns ∧ ns.length ≤ n := by
  have hsh : WShape.hasAll [] args [.list .int] = true := (pre_splitW hpre).1
  have hc : l.pre.holds [] { args := args } = true := (pre_splitW hpre).2
  obtain ⟨d, r, rfl, h1, h2⟩ := hasAllW_cons hsh
  obtain rfl := hasAllW_nil h2
  obtain ⟨xs, rfl, h3⟩ := hasW_list h1
  obtain ⟨ns, rfl⟩ := items_int h3
  have hlen : ns.length ≤ n := by
    unfold OpenLaw.pre at hc
    have h4 : (WTm.not (.lt (.lit (.int (n : Int))) (.len (.arg 0)))).holds [] { args := [.list (ns.map .int)] } = true := by
      have h4 := (holds_andW hc).1
      rw [hn] at h4
      exact h4
    have h5 := condW_of h4 (w_not (w_lt w_lit (w_len_list (w_arg rfl))))
    rw [List.length_map] at h5
    refine Nat.le_of_not_lt fun q => ?_
    have q' : (n : Int) < ((ns.length : Nat) : Int) := by omega
    first
      | (rw [decide_eq_true q'] at h5; exact absurd h5 (by decide))
      | (simp at h5; omega)
  cases hwl with
  | cons w1 w2 =>
    cases w2
    cases w1 with
    | list ho hall => exact ⟨_, _, ns, rfl, rfl, ho, ints_of_wellAll ns _ hall, hlen⟩
theorem post_true (l : OpenLaw) (args : List WData) : l.row.toRowW.claim.post args (.bool true) args = true :=
  postW_of (r := l.row.toRowW) (X := (true == true))
    (show WShape.has [] (.bool true) .bool = true by first | rfl | decide | simp [WShape.has, WShape.arms, WShape.armsAll])
    (show (WTm.eq .res (.lit (.bool true))).value [] { args := args, res := some (.bool true), after := args } = some (.bool (true == true)) from w_eq_bool (w_res rfl) w_lit) rfl
theorem attach_call {l : OpenLaw} {n : Nat} {q : Program} {loose : List Str} {XP : (Str → Option Value) → Heap → Prop} {YP : World → Heap → Prop} {d : DefRec}
    (hn : l.most = some n) (hdf : d.params.defaults = [])
    (call : ∀ (w : World) (s₀ s₁ : Shared) (mg mb : Str → Option Value) (fa : Addr) (o : Obj) (pm cd doc : Value) (a : Addr) (vs : List Value) (ns : List Int),
      Ground q loose [] XP w s₀ mg mb s₁.heap → YP w s₁.heap →
      s₁.heap.get? fa = some o → o.data = .func (docDef d.name d.params d.body d.scope pm cd doc) → s₁.heap.CodeRec cd d.name → mg d.name = some (.ref fa) →
      s₁.heap.get? a = some { cls := .type "list", data := .seq vs.toArray } → IntsAre vs ns → ns.length ≤ n → s₁.gens = #[] →
      codeAny (model l.prog w) callerA (.call (.ref fa) ⟨[.ref a], []⟩) (fun r s' => r = .ok (.ret (.bool true)) ∧ OldK s₁.heap s'.heap ∧ s'.os = s₁.os ∧ AllBare s'.gens) s₁) :
    WalkO q loose XP YP l.row.toRowW d [] (fun f vs => PySem.call f vs) := by
  intro w s₀ s₁ mg mb G Y fa o pm cd doc dV kV ho hd hcd hD hmg hg args vals as hpre hlay hrd hwl hlo
  obtain rfl : dV = .none := Dflts.none hD hdf
  obtain rfl : kV = .none := Dflts.noKw hD
  obtain ⟨a, vs, ns, rfl, rfl, hobj, hints, hlen⟩ := script_of hn hpre hwl
  refine enter_call (codeAny_mono (call w s₀ s₁ mg mb fa o pm cd doc a vs ns G Y ho (fd_plain hd) hcd hmg hobj hints hlen hg) fun r s' hq => ?_)
  obtain ⟨rfl, h2, h3, h4⟩ := hq
  exact ⟨.inl ⟨.bool true, .bool true, [], rfl, fun _ => rfl, .bool true, post_true l _, fun _ => ⟨List.Pairwise.nil, fun _ hm => (nomatch hm)⟩⟩, h2, h3, h4⟩
section
variable {prog : Program} {w : World} {A : Around} {E : Value → Shared → Prop} {s : Shared} {K : Frag}
def ledger (h : Heap) (L d : Addr) : List (Addr × Obj) := (List.range h.objs.size).filterMap fun a => if a = L ∨ a = d then none else (h.get? a).map fun o => (a, o)
end
end Att
namespace L2
open PySem PySem.Spec PyProof.Rows
theorem vals_ints : ∀ {vs : List Value} {ns : List Int}, IntsAre vs ns → Vals (ns.map V.int) vs
  | _, _, .nil => .nil
  | _, _, .cons n t h => .cons ⟨t, rfl⟩ (vals_ints h)
def Only (H : Hp) : Prop := ∀ b, H b = none ∨ ∃ o xs, H b = some (.frz o (.lst xs))
theorem law_call {P : Program} {w : World} {K : PySem.W.Frag} {mg mb : Str → Option Value} {CX : CXT} {k : Nat} {fa a : Addr} {fd : FuncData} {x : Str} {sp : Sp} {s₁ : Shared} {vs : List Value} {ns : List Int}
    (KX : K.In s₁.heap) (hns : s₁.heap.Ns mainGlobals mg) (hb : s₁.heap.Ns builtinsNs mb) (hbb : ∀ x : Str, x ≠ "__name__" → mb x = bootBuiltins x) (hlim : s₁.heap.NoLimit) (hg : s₁.gens = #[])
    (ha : s₁.heap.get? a = some { cls := .type "list", data := .seq vs.toArray }) (hi : IntsAre vs ns) (hl : ns.length ≤ sizeLine) (hr : Room k callerA)
    (F : ∀ base : Heap, K.In base → base.Ns mainGlobals mg → FnOk P w K mg base CX k fa fd [x] sp) (hbind : ∀ (s : Shared) (u : Value), BindsTo s fd ⟨[u], []⟩ [(x, u)])
    (hsp : ∀ H : Hp, Only H → SqL K H a (ns.map V.int) → sp [.ref a] H (fun v _ => v = .bl true) fun _ _ _ => False)
    (hCX : ∀ H e s', CX [] H s₁ (fun _ _ _ => False) e s' → False) :
    codeAny (model P w) callerA (.call (.ref fa) ⟨[.ref a], []⟩) (fun r s' => r = .ok (.ret (.bool true)) ∧ OldK s₁.heap s'.heap ∧ s'.os = s₁.os ∧ AllBare s'.gens) s₁ := by
  have rv := vals_ints hi
  have lenV := hi.length
  have core : ∀ H : Hp, Only H → SqL K H a (ns.map V.int) → HOk P w H s₁.heap → (∀ b, H b ≠ none → b = a) → (H a ≠ none → K.lookup a = none) →
      codeAny (model P w) callerA (.call (.ref fa) ⟨[.ref a], []⟩) (fun r s' => r = .ok (.ret (.bool true)) ∧ OldK s₁.heap s'.heap ∧ s'.os = s₁.os ∧ AllBare s'.gens) s₁ := by
    intro H hO hS hok hA hK
    have base_of : ∀ {b : Addr} {o : Obj}, s₁.heap.get? b = some o → H b = none → (hidT s₁.heap H).get? b = some o := fun e n => hidT_get e n
    have noA : ∀ {b : Addr} {o : Obj} {es : Array DictEntry} {ep : Nat}, s₁.heap.get? b = some o → o.data = .dict es ep → H b = none := fun {b o es ep} e d => by
      cases q : H b with
      | none => rfl
      | some u =>
        have e' : b = a := hA b (by rw [q]; simp)
        subst e'
        rw [ha] at e; cases e
        have d' : Data.seq vs.toArray _ = Data.dict es ep := d
        cases d'
    have nsK : ∀ {b : Addr} {m : Str → Option Value}, s₁.heap.Ns b m → (hidT s₁.heap H).Ns b m := fun {b m} ⟨o, es, ep, e, d, r⟩ => ⟨o, es, ep, base_of e (noA e d), d, r⟩
    have hKb : K.In (hidT s₁.heap H) := fun b o e => base_of (KX b o e) (by
      cases q : H b with
      | none => rfl
      | some u =>
        have e' : b = a := hA b (by rw [q]; simp)
        subst e'
        rw [hK (by rw [q]; simp)] at e; cases e)
    have hM : Mod K mg (hidT s₁.heap H) := ⟨hKb, nsK hns, ⟨mb, nsK hb, hbb⟩, let ⟨mc, h1, h2⟩ := hlim; ⟨mc, nsK h1, h2⟩⟩
    have e0 : Env0 P w K mg (hidT s₁.heap H) callerA [] s₁ H := ⟨rfl, hM, fun b o e => of_hidT e, Nat.le_of_eq (hidT_size _ _), trivial, fun b hb => absurd (show b ∈ ([] : List Addr) from hb) (by simp), hok, .of_eq hg⟩
    refine codeAny_mono ((F _ hKb (nsK hns)).run callerA [] s₁ H ⟨[.ref a], []⟩ [.ref a] [.ref a] _ _ hr e0 (hbind s₁ (.ref a)) (.cons rfl .nil) (hsp H hO hS)) fun r s' h => ?_
    cases r with
    | error e => exact (hCX H e s' h).elim
    | ok fl =>
      cases fl with
      | next => exact False.elim h
      | brk => exact False.elim h
      | cont => exact False.elim h
      | ret u =>
        obtain ⟨v, H', os, bare, un, hok', r', q⟩ := h
        have q' : v = .bl true := q
        subst q'
        obtain rfl : u = Value.bool true := r'
        refine ⟨rfl, OldK.of_keep fun b o e => ?_, os, bare⟩
        cases q : H b with
        | none => exact un.keep b o e q (by intro z; exact absurd (show b ∈ ([] : List Addr) from z) (by simp)) (by simp)
        | some u =>
          rcases hO b with z | ⟨ob, xs, z⟩
          · rw [q] at z; cases z
          · have z2 := un.frzs b ob _ z
            obtain ⟨e1, _⟩ := hok b _ z
            obtain ⟨e2, _⟩ := hok' b _ z2
            rw [e] at e1; cases e1
            exact e2
  cases hk : K.lookup a with
  | some o =>
    have e := KX a o hk
    rw [ha] at e
    cases e
    refine core (fun _ => none) (fun _ => .inl rfl) (.inr ⟨_, vs.toArray, _, hk, rfl, rfl, rfl, by rw [List.size_toArray, lenV]; exact hl, by simpa using rv⟩) (fun b u z => by have z' : (none : Option HO) = some u := z; cases z') (fun b z => absurd rfl z) fun z => absurd rfl z
  | none =>
    refine core (fun b => if b = a then some (.frz { cls := .type "list", data := .seq vs.toArray } (.lst (ns.map V.int))) else none) (fun b => ?_) (.inl (.inr ⟨{ cls := .type "list", data := .seq vs.toArray }, if_pos rfl⟩)) (fun b u z => ?_) (fun b z => ?_) fun _ => hk
    · by_cases hb : b = a
      · exact .inr ⟨_, _, if_pos hb⟩
      · exact .inl (if_neg hb)
    · by_cases hb : b = a
      · have z' := (if_pos hb).symm.trans z
        cases z'
        subst hb
        exact ⟨ha, by rw [List.length_map]; exact hl, vs, _, rv, ha⟩
      · have z' := (if_neg hb).symm.trans z
        cases z'
    · by_cases hb : b = a
      · exact hb
      · exact absurd (if_neg hb) z
end L2
namespace L2
open PySem PySem.Spec PyProof.Rows
theorem walk_of {l : PySem.W.OpenLaw} {n k : Nat} {q : Program} {loose : List Str} {XP : (Str → Option Value) → Heap → Prop} {YP : World → Heap → Prop} {d : DefRec} {K : Params → PySem.W.Frag} {CX : World → CXT} {sp : World → Sp} {x : Str}
    (hn : l.most = some n) (hn2 : n ≤ sizeLine) (hdf : d.params.defaults = []) (hr : Room k callerA)
    (hY : ∀ (w : World) (h : Heap), YP w h → (K w.params).In h)
    (F : ∀ (w : World) (mg : Str → Option Value) (fa : Addr) (h : Heap), (K w.params).In h → h.Ns mainGlobals mg → mg d.name = some (.ref fa) →
      ∃ fd : FuncData, (∀ (s : Shared) (u : Value), BindsTo s fd ⟨[u], []⟩ [(x, u)]) ∧
        ∀ base : Heap, (K w.params).In base → base.Ns mainGlobals mg → FnOk l.prog w (K w.params) mg base (CX w) k fa fd [x] (sp w))
    (hsp : ∀ (w : World) (H : Hp) (a : Addr) (ns : List Int), ns.length ≤ n → Only H → SqL (K w.params) H a (ns.map V.int) → sp w [.ref a] H (fun v _ => v = .bl true) fun _ _ _ => False)
    (hCX : ∀ (w : World) (H : Hp) (s : Shared) (e : Value) (s' : Shared), CX w [] H s (fun _ _ _ => False) e s' → False) :
    PySem.W.WalkO q loose XP YP l.row.toRowW d [] (fun f vs => PySem.call f vs) := by
  refine Att.attach_call hn hdf fun w s₀ s₁ mg mb fa o pm cd doc a vs ns G Y ho hd hcd hmg hobj hints hlen hg => ?_
  have KX := hY w _ Y
  obtain ⟨fd, hb, hF⟩ := F w mg fa _ KX G.T.g hmg
  exact law_call KX G.T.g G.T.b G.T.builtins G.T.nolimit hg hobj hints (Nat.le_trans hlen hn2) hr hF hb (fun H hO hS => hsp w H a ns hlen hO hS) fun H e s' => hCX w H s₁ e s'
end L2
namespace L2
open PySem PySem.Spec PyProof.Rows
def inClass (s : Stmt) (j : Nat) : Stmt := match s with
  | .ClassDef _ _ _ body _ _ _ _ _ _ _ => body.getD j (.Pass ⟨0, 0, 0, 0⟩)
  | _ => .Pass ⟨0, 0, 0, 0⟩
def defArgs (s : Stmt) : Arguments := match s with
  | .FunctionDef _ a _ _ _ _ _ _ _ _ => a
  | _ => { posonlyargs := [], args := [], vararg := none, kwonlyargs := [], kw_defaults := [], kwarg := none, defaults := [] }
def defBody (s : Stmt) : List Stmt := match s with
  | .FunctionDef _ _ b _ _ _ _ _ _ _ => b
  | _ => []
def defScope (s : Stmt) : Scope := match s with
  | .FunctionDef _ _ _ _ _ _ sc _ _ _ => sc
  | _ => { kind := .function, names := [], isGenerator := false, isCoroutine := false }
abbrev CX0 : CXT := fun _ _ _ _ _ _ => False
abbrev E0 : XK := fun _ _ _ => False
theorem pass0 {X : Cx} : Passes CX0 X E0 := fun _ _ _ _ _ _ _ h => h.elim
structure Fun (K : PySem.W.Frag) (x qual : Str) (st : Stmt) (f : Addr) (fd : FuncData) : Prop where
  ex : ∃ (oc : Value) (od : Option Addr) (kV doc pm : Value) (an : Option Addr) (cdv ct : Value) (osl : Array (Option Value)),
    fd = PySem.W.fnOf x qual (defArgs st) (defBody st) (defScope st) .none kV doc pm an cdv ct ∧ K.lookup f = some ⟨oc, od, .func fd, osl⟩ ∧ PySem.W.codeIn K cdv qual = true
  kp : PySem.W.keepIn K (.ref f) = true
section
variable {P : Program} {w : World} {K : PySem.W.Frag} {mg : Str → Option Value} {base : Heap}
theorem Fun.ok {x qual : Str} {st : Stmt} {f : Addr} {fd : FuncData} {N ps : List Str} {k : Nat} {sp : Sp} (F : Fun K x qual st f fd) (S : FnScope N ps (defScope st)) (len : ∀ vs H Q E, sp vs H Q E → vs.length = ps.length)
    (hbody : ∀ (cdv : Value) (A : Around) (outer : List Env) (s : Shared) (H : Hp) (vs : List V) (Q : VK) (E : XK), Room k (A.deeper (envOfC qual (defScope st) s.heap.objs.size f cdv)) → sp vs H Q E →
      ∃ t, PSs (cxOf CX0 P w K mg base N qual (defScope st) f cdv A outer s H E).nox (defBody st) t ∧ t { nx := fun _ H' => Q .non H', rt := Q } (start N vs) H) : FnOk P w K mg base CX0 (k + 1) f fd ps sp := by
  obtain ⟨oc, od, kV, doc, pm, an, cdv, ct, osl, rfl, lk, hcd⟩ := F.ex
  refine fn_of lk hcd S len fun A outer s H vs Q E hr hsp => ?_
  obtain ⟨t, h, q⟩ := hbody cdv A outer s H vs Q E hr hsp
  exact ⟨t, h.nox, q⟩
theorem Fun.binds {x qual : Str} {st : Stmt} {f : Addr} {fd : FuncData} {ps : List Str} (F : Fun K x qual st f fd)
    (h : ∀ (kV doc pm : Value) (an : Option Addr) (cdv ct : Value) (us : List Value), us.length = ps.length → bindArgs (PySem.W.fnOf x qual (defArgs st) (defBody st) (defScope st) .none kV doc pm an cdv ct) ⟨us, []⟩ = pure (ps.zip us)) : Binds K fd ps [] := by
  obtain ⟨oc, od, kV, doc, pm, an, cdv, ct, osl, rfl, lk, hcd⟩ := F.ex
  exact .all (h kV doc pm an cdv ct)
theorem fun_mk {x qual : Str} {st : Stmt} {f : Addr} {oc : Value} {od an : Option Addr} {osl : Array (Option Value)} {kV doc pm cdv ct : Value} (l : K.lookup f = some ⟨oc, od, .func (PySem.W.fnOf x qual (defArgs st) (defBody st) (defScope st) .none kV doc pm an cdv ct), osl⟩)
    (c : PySem.W.codeIn K cdv qual = true) (k : PySem.W.keepIn K (.ref f) = true) : Fun K x qual st f (PySem.W.fnOf x qual (defArgs st) (defBody st) (defScope st) .none kV doc pm an cdv ct) := ⟨⟨oc, od, kV, doc, pm, an, cdv, ct, osl, rfl, l, c⟩, k⟩
end
theorem small1000 {n : Nat} (h : n ≤ 1000) : n < sizeLine := Nat.lt_of_le_of_lt h (by decide)
section
variable {X : Cx}
theorem pv (i : Nat) {x : Str} {pos : Pos} (hN : X.N[i]? = some x := by rfl) (hv : Vis X.env.scope x := by first | exact Or.inl rfl | exact Or.inr (Or.inl rfl) | exact Or.inr (Or.inr rfl)) (hd : (x == ("__debug__" : Str)) = false := by decide)
    (hcd : (x == ("__classdict__" : Str)) = false := by decide) : PE X (.Name x pos) (tVar i) := pe_var hN hv hd hcd
end
theorem iteF {A B : Prop} (h : B) : if false = true then A else B := by
  rw [if_neg Bool.false_ne_true]
  exact h
theorem iteT {A B : Prop} (h : A) : if true = true then A else B := by
  rw [if_pos rfl]
  exact h
theorem ite2 {c A B : Prop} [Decidable c] (h1 : c → A) (h2 : ¬ c → B) : if c then A else B := by
  by_cases h : c
  · rw [if_pos h]
    exact h1 h
  · rw [if_neg h]
    exact h2 h
def Same (H H' : Hp) : Prop := ∀ b o, H b = some o → H' b = some o
theorem Same.refl (H : Hp) : Same H H := fun _ _ h => h
theorem Same.trans {H H1 H2 : Hp} (a : Same H H1) (b : Same H1 H2) : Same H H2 := fun c o h => b c o (a c o h)
theorem Same.free {H H' : Hp} (e : Same H H') {l : Addr} (h : H' l = Option.none) : H l = Option.none := by
  cases q : H l with
  | none => rfl
  | some o =>
    rw [e l o q] at h
    cases h
theorem Same.seq {K : PySem.W.Frag} {H H' : Hp} {a : Addr} {xs : List V} (e : Same H H') (h : SqL K H a xs) : SqL K H' a xs := by
  rcases h with (h | ⟨o, h⟩) | h
  · exact .inl (.inl (e _ _ h))
  · exact .inl (.inr ⟨o, e _ _ h⟩)
  · exact .inr h
end L2
namespace L2
open PySem PySem.Spec PyProof.Rows
def clOf (en : Env) : List (Str × NameKind) → List (Str × Addr) → List (Str × Addr)
  | [], cs => cs
  | (n, k) :: r, cs => if (k == NameKind.free) = true then clOf en r ((n, (en.cells.lookup n).getD 0) :: cs) else clOf en r cs
theorem clOf_for {en : Env} : ∀ (ns : List (Str × NameKind)) (cs : List (Str × Addr)), (∀ y ∈ ns, y.2 = .free → (en.cells.lookup y.1).isSome = true) →
    (forIn ns cs fun (y : Str × NameKind) (r : List (Str × Addr)) => (if (y.2 == NameKind.free) = true then (cellOf en y.1 >>= fun a => pure (ForInStep.yield ((y.1, a) :: r))) else pure (ForInStep.yield r) : Sem (ForInStep (List (Str × Addr))))) = pure (clOf en ns cs) := by
  intro ns
  induction ns with
  | nil => intro cs _; rfl
  | cons y r ih =>
    intro cs h
    obtain ⟨n, k⟩ := y
    rw [List.forIn_cons]
    have hr := fun cs => ih cs fun y hy => h y (List.mem_cons_of_mem _ hy)
    dsimp only
    by_cases hk : (k == NameKind.free) = true
    · have hk' : k = .free := by simpa using hk
      obtain ⟨a, ha⟩ := Option.isSome_iff_exists.mp (h (n, k) List.mem_cons_self hk')
      have e1 : cellOf en n = pure a := by unfold cellOf; dsimp only at ha; rw [ha]
      have e2 : clOf en ((n, k) :: r) cs = clOf en r ((n, a) :: cs) := by
        show (if (k == NameKind.free) = true then _ else _) = _
        rw [if_pos hk]; dsimp only at ha; rw [ha]; rfl
      rw [if_pos hk, e1, e2]
      simp only [pure_bind]
      exact hr _
    · have e2 : clOf en ((n, k) :: r) cs = clOf en r cs := by
        show (if (k == NameKind.free) = true then _ else _) = _
        rw [if_neg hk]
      rw [if_neg hk, e2]
      simp only [pure_bind]
      exact hr _
theorem closureFor_cl {en : Env} {sc : Scope} (h : ∀ y ∈ sc.names, y.2 = .free → (en.cells.lookup y.1).isSome = true) : closureFor sc en = pure (clOf en sc.names []) := by
  have q := clOf_for (en := en) sc.names [] h
  unfold closureFor
  refine Eq.trans ?_ (show (forIn sc.names ([] : List (Str × Addr)) _ >>= pure) = _ by rw [q]; rfl)
  rfl
theorem clOf_sub {en : Env} : ∀ (ns : List (Str × NameKind)) (cs : List (Str × Addr)), (∀ y ∈ ns, y.2 = .free → (en.cells.lookup y.1).isSome = true) → (∀ x c, cs.lookup x = some c → en.cells.lookup x = some c) →
    ∀ x c, (clOf en ns cs).lookup x = some c → en.cells.lookup x = some c
  | [], cs, _, hc, x, c, e => hc x c e
  | (n, k) :: r, cs, h, hc, x, c, e => by
    have hr : ∀ y ∈ r, y.2 = .free → (en.cells.lookup y.1).isSome = true := fun y hy => h y (List.mem_cons_of_mem _ hy)
    unfold clOf at e
    by_cases hk : (k == NameKind.free) = true
    · rw [if_pos hk] at e
      refine clOf_sub r _ hr (fun x' c' e' => ?_) x c e
      rw [List.lookup_cons] at e'
      cases hx : x' == n with
      | true =>
        rw [hx] at e'
        have hx' : x' = n := by simpa using hx
        obtain ⟨a, ha⟩ := Option.isSome_iff_exists.mp (h (n, k) List.mem_cons_self (by simpa using hk))
        dsimp only at ha e'
        rw [ha] at e'
        rw [hx', ha]
        exact e'
      | false => rw [hx] at e'; exact hc x' c' e'
    · rw [if_neg hk] at e
      exact clOf_sub r cs hr hc x c e
theorem clOf_has {en : Env} : ∀ (ns : List (Str × NameKind)) (cs : List (Str × Addr)) (x : Str), ((x, NameKind.free) ∈ ns ∨ (cs.lookup x).isSome = true) → ((clOf en ns cs).lookup x).isSome = true
  | [], cs, x, h => by
    rcases h with h | h
    · cases h
    · exact h
  | (n, k) :: r, cs, x, h => by
    unfold clOf
    by_cases hk : (k == NameKind.free) = true
    · rw [if_pos hk]
      refine clOf_has r _ x ?_
      rcases h with h | h
      · rcases List.mem_cons.mp h with e | h
        · right
          rw [List.lookup_cons, show (x == n) = true by simpa using congrArg Prod.fst e]
          rfl
        · exact .inl h
      · right
        rw [List.lookup_cons]
        cases hx : x == n with
        | true => rfl
        | false => exact h
    · rw [if_neg hk]
      refine clOf_has r _ x ?_
      rcases h with h | h
      · rcases List.mem_cons.mp h with e | h
        · exfalso
          have e' : NameKind.free = k := congrArg Prod.snd e
          rw [← e'] at hk
          exact hk (by decide)
        · exact .inl h
      · exact .inr h
theorem relabel_free {en : Env} : ∀ {ns : List (Str × NameKind)} {x : Str}, ns.lookup x = some .free →
    (ns.map fun (n, k) => if (k == NameKind.free && en.scope.kind == .function && en.kindOf n == some .cell) then (n, NameKind.cell) else (n, k)).lookup x = some .cell ∨
    (ns.map fun (n, k) => if (k == NameKind.free && en.scope.kind == .function && en.kindOf n == some .cell) then (n, NameKind.cell) else (n, k)).lookup x = some .free
  | [], _, h => by simp at h
  | (n, k) :: r, x, h => by
    have ih := @relabel_free en r x
    rw [List.map_cons]
    cases hx : x == n with
    | true =>
      simp only [List.lookup_cons, hx] at h
      cases h
      dsimp only
      split
      · left; simp [List.lookup_cons, hx]
      · right; simp [List.lookup_cons, hx]
    | false =>
      simp only [List.lookup_cons, hx] at h
      dsimp only
      split
      · simp only [List.lookup_cons, hx]; exact ih h
      · simp only [List.lookup_cons, hx]; exact ih h
theorem relabel_of {en : Env} : ∀ {ns : List (Str × NameKind)} {x : Str} {q : NameKind}, (q = .cell ∨ q = .free) →
    (ns.map fun (n, k) => if (k == NameKind.free && en.scope.kind == .function && en.kindOf n == some .cell) then (n, NameKind.cell) else (n, k)).lookup x = some q → (x, NameKind.free) ∈ ns ∨ (x, NameKind.cell) ∈ ns
  | [], _, _, _, h => by simp at h
  | (n, k) :: r, x, q, hq, h => by
    have ih := @relabel_of en r x q hq
    rw [List.map_cons] at h
    dsimp only at h
    by_cases hc : (k == NameKind.free && en.scope.kind == .function && en.kindOf n == some .cell) = true
    · rw [if_pos hc] at h
      have hk : k = .free := by
        simp only [Bool.and_eq_true] at hc
        simpa using hc.1.1
      cases hx : x == n with
      | true =>
        have hx' : x = n := by simpa using hx
        exact .inl (by rw [hx', hk]; exact List.mem_cons_self)
      | false =>
        simp only [List.lookup_cons, hx] at h
        rcases ih h with z | z
        · exact .inl (List.mem_cons_of_mem _ z)
        · exact .inr (List.mem_cons_of_mem _ z)
    · rw [if_neg hc] at h
      cases hx : x == n with
      | true =>
        have hx' : x = n := by simpa using hx
        simp only [List.lookup_cons, hx] at h
        cases h
        rcases hq with z | z
        · exact .inr (by rw [hx', ← z]; exact List.mem_cons_self)
        · exact .inl (by rw [hx', ← z]; exact List.mem_cons_self)
      | false =>
        simp only [List.lookup_cons, hx] at h
        rcases ih h with z | z
        · exact .inl (List.mem_cons_of_mem _ z)
        · exact .inr (List.mem_cons_of_mem _ z)
abbrev blk (X : Cx) (N' : List Str) (sc : Scope) (C : Addr) (s2 : Shared) (H2 : Hp) (ex : List Addr) : Cx :=
  { X with N := N', s₀ := s2, H₀ := H2, env := compEnvC sc (clOf X.env sc.names []) C X.env, outer := X.stack, stack := X.stack, ex := ex, fn := fun _ => false, xe := fun _ _ => False }
def cst (σ : St) (nl : Nat) (js : List Nat) : St := List.replicate nl none ++ js.map fun j => (σ[j]?).getD none
structure CScope (X : Cx) (sc : Scope) (N' : List Str) (nl : Nat) (js : List Nat) : Prop where
  kind : sc.kind = .function
  nocell : ∀ y ∈ sc.names, y.2 ≠ .cell
  locs : ∀ y ∈ sc.names, y.2 = .local → sc.names.lookup y.1 = some .local
  frees : ∀ y ∈ sc.names, y.2 = .free → X.env.kindOf y.1 = some .cell ∨ X.env.kindOf y.1 = some .free
  cap : ∀ (i j : Nat), js[i]? = some j → ∃ x, N'[nl + i]? = some x ∧ X.N[j]? = some x ∧ sc.names.lookup x = some .free
  len : N'.length = nl + js.length
def Wk (σ0 σ2 : St) : Prop := σ0.length = σ2.length ∧ ∀ (i : Nat) v, σ0[i]? = some (some v) → σ2[i]? = some (some v)
def PIf (X : Cx) (ifs : List Expr) (t : TT) : Prop :=
  ∀ (pins : List (Addr × Obj)) (s : Shared) (σ : St) (H : Hp) (Q : Bool → Hp → Prop), Inv X pins σ H s → t σ H Q →
    wpAny (model X.prog X.w) X.A (forIn ifs true fun c r => if r = true then do let ok ← isTrue c X.env (eval c X.env); pure (ForInStep.yield ok) else pure (ForInStep.yield r)) (TP X pins σ Q) X.xe s
theorem pif_nil {X : Cx} : PIf X [] (fun _ H Q => Q true H) := fun _ _ _ H _ I h => wpAny_tests_nil ⟨H, I, h⟩
section
variable {X : Cx} {sc : Scope} {N' : List Str} {nl : Nat} {js : List Nat} {pins : List (Addr × Obj)} {σ : St} {H : Hp} {s : Shared}
theorem CScope.hasC (S : CScope X sc N' nl js) (ok : X.Ok) : ∀ y ∈ sc.names, y.2 = .free → (X.env.cells.lookup y.1).isSome = true := fun y hy hf => by
  obtain ⟨c, e⟩ := ok.has y.1 (S.frees y hy hf)
  rw [e]; rfl
theorem CScope.sub (S : CScope X sc N' nl js) (ok : X.Ok) {x : Str} {c : Addr} (e : (clOf X.env sc.names []).lookup x = Option.some c) : X.env.cells.lookup x = Option.some c :=
  clOf_sub sc.names [] (S.hasC ok) (fun _ _ z => by simp at z) x c e
theorem blk_ok (S : CScope X sc N' nl js) (I : Inv X pins σ H s) {fp : List Addr} {C : Addr} (hf : ∀ b ∈ fp, FpOk X pins H b) (hC : s.heap.objs.size ≤ C) (hfC : ∀ b ∈ fp, b ≠ C) : (blk X N' sc C s H fp).Ok where
  mod := I.ok.mod
  kind := S.kind
  glob := I.ok.glob
  blt := I.ok.blt
  above := hC
  inj := fun x y c h1 h2 => I.ok.inj x y c (S.sub I.ok h1) (S.sub I.ok h2)
  has := fun x hx => by
    have hm : (x, NameKind.free) ∈ sc.names ∨ (x, NameKind.cell) ∈ sc.names := by
      rcases hx with z | z
      · exact relabel_of (.inl rfl) z
      · exact relabel_of (.inr rfl) z
    rcases hm with z | z
    · exact Option.isSome_iff_exists.mp (clOf_has sc.names [] x (.inl z))
    · exact absurd rfl (S.nocell _ z)
  cab := fun x c h _ => absurd (show false = true from h) Bool.false_ne_true
  hd := I.ok.hd
  frames := I.ok.frames
  stk := .inl rfl
  exf := fun b hb => ⟨hfC b hb, fun x c e => (hf b hb).2.2.2.2.1 x c (S.sub I.ok e)⟩
  bs := I.bs
  bsz := Nat.le_trans I.ok.bsz I.sz
  noex := fun b o e hb => by
    rcases (hf b hb).2.2.2.1 with z | z
    · exact I.ok.noex b o e z
    · exact absurd (Nat.lt_of_lt_of_le (Heap.lt_size (I.ok.bs b o e).1) z) (Nat.lt_irrefl _)
  exfs := fun b hb hs => by
    rcases List.mem_cons.mp (I.stkSub b hs) with z | z
    · exact (hf b hb).2.1 z
    · exact (hf b hb).2.2.1 z
  funs := I.stack
  frf := I.stkFree
theorem cst_len (hl : N'.length = nl + js.length) : (cst σ nl js).length = N'.length := by
  unfold cst
  rw [List.length_append, List.length_replicate, List.length_map, hl]
theorem cst_get {i : Nat} {v : V} (e : (cst σ nl js)[i]? = some (some v)) : ∃ k j, i = nl + k ∧ js[k]? = some j ∧ σ[j]? = some (some v) := by
  unfold cst at e
  by_cases hi : i < nl
  · rw [List.getElem?_append_left (by simpa using hi), List.getElem?_replicate] at e
    rw [if_pos hi] at e
    cases e
  · rw [List.getElem?_append_right (by simpa using hi), List.length_replicate, List.getElem?_map] at e
    cases q : js[i - nl]? with
    | none => rw [q] at e; cases e
    | some j =>
      rw [q] at e
      have e' : (σ[j]?).getD none = some v := by simpa using e
      refine ⟨i - nl, j, by omega, q, ?_⟩
      cases z : σ[j]? with
      | none => rw [z] at e'; cases e'
      | some w' => rw [z] at e'; simpa using e'
theorem blk_inv (S : CScope X sc N' nl js) (I : Inv X pins σ H s) {fp : List Addr} {C : Addr} {h' : Heap} {t' : Nat} {m : Str → Option Value} (hf : ∀ b ∈ fp, FpOk X pins H b) (hC : s.heap.objs.size ≤ C) (hfC : ∀ b ∈ fp, b ≠ C)
    (k : ∀ b u, s.heap.get? b = some u → h'.get? b = some u) (hn : h'.Ns C m) : Inv (blk X N' sc C s H fp) pins (cst σ nl js) H { s with heap := h', toks := t' } where
  ok := blk_ok S I hf hC hfC
  os := rfl
  bare := I.bare
  base := Un.kept k
  loc := by
    refine ⟨m, hn, fun i x v e1 e2 e3 => ?_⟩
    obtain ⟨q, j, rfl, hj, hv⟩ := cst_get e2
    obtain ⟨x', n1, n2, n3⟩ := S.cap q j hj
    have ex : x' = x := by
      have z : N'[nl + q]? = some x := e1
      rw [n1] at z; exact Option.some.inj z
    subst ex
    obtain ⟨m0, _, hl⟩ := I.loc
    have kf := S.frees (x', .free) (PySem.mem_of_lookup n3) rfl
    obtain ⟨u, r, l⟩ := hl j x' v n2 hv (by
      rcases kf with z | z
      · exact .inr (.inl z)
      · exact .inr (.inr z))
    refine ⟨u, r, ?_⟩
    rcases l with ⟨z, _⟩ | ⟨_, c, hc, hcell⟩
    · rcases kf with y | y
      · rw [z] at y; cases y
      · rw [z] at y; cases y
    · obtain ⟨c', hc'⟩ := Option.isSome_iff_exists.mp (clOf_has (en := X.env) sc.names [] x' (.inl (PySem.mem_of_lookup n3)))
      have e : c' = c := by
        have z := S.sub I.ok hc'
        rw [hc] at z; exact (Option.some.inj z).symm
      subst e
      obtain ⟨o, ho, hd⟩ := hcell
      exact .inr ⟨relabel_free n3, c', hc', ⟨o, k _ _ ho, hd⟩⟩
  cell := fun x c e => by
    obtain ⟨v, o, ho, hd⟩ := I.cell x c (S.sub I.ok e)
    exact ⟨v, o, k _ _ ho, hd⟩
  free := I.hok.fresh hC
  freeC := fun x c e => I.freeC x c (S.sub I.ok e)
  pin := fun p hp => by
    obtain ⟨e, n, ne, nf, d⟩ := I.pin p hp
    refine ⟨k _ _ e, n, Nat.ne_of_lt (Nat.lt_of_lt_of_le (Heap.lt_size e) hC), fun z => ?_, d⟩
    rcases List.mem_cons.mp (I.stkSub _ z) with y | y
    · exact ne y
    · exact nf y
  hok := I.hok.kept k
  len := cst_len S.len
end
theorem compLoop_any {prog : Program} {w : World} {A : Around} {R : Result → Shared → Prop} {s : Shared} {elt tg it' : Expr} {ifs : List Expr} {sc : Scope} {pos : Pos} {it acc : Value} {en : Env} (I : Nat → Shared → Prop)
    (turn : ∀ n s, I n s → wpAny (model prog w) A (pyNext it) (fun r s1 => match r with
      | none => R (.ok .next) s1
      | some v => wpAny (model prog w) A (letOwnedTupleGo tg it v) (fun _ s2 => wpAny (model prog w) A (assign tg en v) (fun _ s3 =>
          wpAny (model prog w) A (forIn ifs true fun c r => if r = true then do let ok ← isTrue c en (eval c en); pure (ForInStep.yield ok) else pure (ForInStep.yield r)) (fun ok s4 =>
            if ok = true then wpAny (model prog w) A (eval elt en) (fun x s5 => wpAny (model prog w) A (call (.builtin "list.append") [acc, x]) (fun _ s6 => ∃ m, m < n ∧ I m s6) (fun _ _ => False) s5) (fun _ _ => False) s4
            else ∃ m, m < n ∧ I m s4) (fun _ _ => False) s3) (fun _ _ => False) s2) (fun _ _ => False) s1) (fun _ _ => False) s)
    (n : Nat) (h : I n s) : codeAny (model prog w) A (.compLoop (.ListComp elt [⟨tg, it', ifs, 0⟩] sc pos) 0 it acc en) R s := by
  refine codeAny_loop rfl I (fun n s hI => ?_) n h
  show wpAny _ A ((compTurn (.ListComp elt [⟨tg, it', ifs, 0⟩] sc pos) 0 it acc en).onRaise (fun x => do noteFrame x en; theTreesLotGoes x)) _ _ s
  refine wpAny_noted ?_
  rw [compTurn_list]
  refine wpAny_bind (wpAny_standAt (wpAny_bind (wpAny_mono (turn n s hI) (fun r s1 h1 => ?_) fun _ _ z => z.elim)))
  cases r with
  | none => exact wpAny_pure h1
  | some v =>
    refine wpAny_bind (wpAny_mono h1 (fun _ s2 h2 => ?_) fun _ _ z => z.elim)
    refine wpAny_bind (wpAny_mono h2 (fun _ s3 h3 => ?_) fun _ _ z => z.elim)
    refine wpAny_bind (wpAny_mono h3 (fun ok s4 h4 => ?_) fun _ _ z => z.elim)
    cases ok with
    | false => exact wpAny_pure ⟨rfl, h4⟩
    | true =>
      refine wpAny_bind (wpAny_bind (wpAny_mono h4 (fun x s5 h5 => ?_) fun _ _ z => z.elim))
      exact wpAny_bind (wpAny_mono h5 (fun _ s6 h6 => wpAny_pure (wpAny_pure ⟨rfl, h6⟩)) fun _ _ z => z.elim)
def LcW (J : It) (g : TG) (tt : TT) (te : TE) (σ0 : St) (Q : VK) (H1 : Hp) : Prop :=
  ∃ W : Nat → Nat → List V → Hp → Prop, (∃ m, W 0 m [] H1) ∧ ∀ i m ys H, W i m ys H → ys.length ≤ sizeLine ∧
    ((J.stop i H ∧ ∀ p, H p = none → Q (.ref p) (upd H p (.lst ys))) ∨
     (J.go i H ∧ ∀ x H', J.yld i H x H' → g x σ0 H' fun σ2 H2 => Wk σ0 σ2 ∧ tt σ2 H2 fun k H3 => if k = true then te σ2 H3 fun v H4 => ys.length < sizeLine ∧ ∃ m', m' < m ∧ W (i + 1) m' (ys ++ [v]) H4 else ∃ m', m' < m ∧ W (i + 1) m' ys H3))
def tLc (wi : TI) (g : TG) (tt : TT) (te : TE) (nl : Nat) (js : List Nat) : TE := fun σ H Q => wi σ H fun J H1 => LcW J g tt te (cst σ nl js) Q H1
section
variable {X : Cx} {sc : Scope} {N' : List Str} {nl : Nat} {js : List Nat} {tg iter elt : Expr} {ifs : List Expr} {pos : Pos} {wi : TI} {g : TG} {tt : TT} {te : TE}
theorem lc_core {pins : List (Addr × Obj)} {σ : St} {H : Hp} {s : Shared} {E : Value → Shared → Prop} {RR : Value → Addr → Result → Shared → Prop} {it : Addr} {fp : List Addr} {tn : Nat → Heap → Prop} {J : It} {Q : VK} (hc : X.calm = true) (S : CScope X sc N' nl js)
    (hg : ∀ C s2 H2 ex, PG (blk X N' sc C s2 H2 ex) tg g) (ht : ∀ C s2 H2 ex, PIf (blk X N' sc C s2 H2 ex) ifs tt) (he : ∀ C s2 H2 ex, PE (blk X N' sc C s2 H2 ex) elt te)
    (I : Inv X pins σ H s) (T : Turn X.prog X.w X.K tg J fp it tn) (st : tn 0 s.heap) (hf : ∀ b ∈ fp, FpOk X pins H b) (h : LcW J g tt te (cst σ nl js) Q H)
    (fin : ∀ D C H' s' m, Inv X pins σ H' s' → s'.heap.Ns C m → FpOk X pins H' C → Q (.ref D) H' → RR (.ref D) C (.ok .next) s') :
    wpAny (model X.prog X.w) X.A (newList []) (fun acc s3 => wpAny (model X.prog X.w) X.A (newFunctionEnv sc X.env.globals (clOf X.env sc.names []) [] X.env.qual none .none (some X.env)) (fun cenv s4 =>
      codeAny (model X.prog X.w) X.A (.compStart (.ListComp elt [⟨tg, iter, ifs, 0⟩] sc pos) 0 (.ref it) acc { cenv with scope := relabel sc X.env }) (RR acc cenv.locals) s4) E s3) E s := by
  obtain ⟨W, ⟨m0, w0⟩, step⟩ := h
  refine wpAny_newObj_type (wpAny_newFunctionEnv S.nocell (by intro y hy; simp at hy) (fun h1 hns hsb => ?_) S.kind)
  dsimp only at hns hsb ⊢
  generalize hP : s.heap.push { cls := .type "list", dict := none, data := .seq ([] : List Value).toArray } = P1 at hns hsb ⊢
  have hCs : P1.objs.size = s.heap.objs.size + 1 := by rw [← hP, Heap.size_push]
  have hDC : s.heap.objs.size ≠ P1.objs.size := by rw [hCs]; exact Nat.ne_of_lt (Nat.lt_succ_self _)
  have hCle : s.heap.objs.size ≤ P1.objs.size := by rw [hCs]; exact Nat.le_succ _
  have ltf : ∀ b ∈ fp, b < s.heap.objs.size := fun b hb => by
    obtain ⟨o, e, _⟩ := T.obj 0 _ st b hb
    exact Heap.lt_size e
  have hfC : ∀ b ∈ fp, b ≠ P1.objs.size := fun b hb => Nat.ne_of_lt (Nat.lt_of_lt_of_le (ltf b hb) hCle)
  have old : ∀ b o, s.heap.get? b = some o → h1.get? b = some o := fun b o e =>
    hsb.extBut b o (Nat.ne_of_lt (Nat.lt_of_lt_of_le (Heap.lt_size e) hCle)) (Heap.get?_push_of_some _ (hP ▸ Heap.get?_push_of_some _ e))
  have accD : h1.get? s.heap.objs.size = some { cls := .type "list", data := .seq ([] : List Value).toArray 0 } := hsb.extBut _ _ hDC (Heap.get?_push_of_some _ (hP ▸ Heap.get?_push_size _ rfl))
  generalize hDd : s.heap.objs.size = D at *
  generalize hCd : P1.objs.size = C at *
  have ltp : ∀ p ∈ X.pn ++ pins, p.1 < D := fun p hp => by rw [← hDd]; exact Heap.lt_size (I.pin p hp).1
  have ltc : ∀ x c, X.env.cells.lookup x = some c → c < D := fun x c e => by
    obtain ⟨v, o, ho, _⟩ := I.cell x c e
    rw [← hDd]; exact Heap.lt_size ho
  have noD : D ∉ frs X.stack := fun z => by
    rcases List.mem_cons.mp (I.stkSub _ z) with y | y
    · have := I.lt; rw [← y, hDd] at this; exact Nat.lt_irrefl _ this
    · exact I.nofs (Nat.le_of_eq hDd) y
  have fpB : ∀ {H' : Hp} {o : Obj}, (∀ b ∈ fp, H' b = none) → ∀ b ∈ fp, FpOk (blk X N' sc C s H fp) (pins ++ [(D, o)]) H' b := fun {H' o} hn b hb => by
    obtain ⟨f0, f1, f2, f3, f4, f5⟩ := hf b hb
    refine ⟨hn b hb, hfC b hb, fun z => ?_, .inl hb, fun x c e => f4 x c (S.sub I.ok e), fun p hp => ?_⟩
    · rcases List.mem_cons.mp (I.stkSub _ z) with y | y
      · exact f1 y
      · exact f2 y
    · have hp' : p ∈ (X.pn ++ pins) ++ [(D, o)] := by rw [List.append_assoc]; exact hp
      rcases List.mem_append.mp hp' with z | z
      · exact f5 p z
      · have e : p = (D, o) := by simpa using z
        subst e
        exact Nat.ne_of_gt (ltf b hb)
  have repin : ∀ {σ' : St} {H' : Hp} {s' : Shared} {its : List Value} {c : Nat}, Inv (blk X N' sc C s H fp) pins σ' H' s' → H' D = none → s'.heap.get? D = some { cls := .type "list", data := .seq its.toArray c } →
      Inv (blk X N' sc C s H fp) (pins ++ [(D, { cls := .type "list", data := .seq its.toArray c })]) σ' H' s' := fun {σ' H' s' its c} I' hn e =>
    I'.pins_of fun p hp => by
      rcases List.mem_append.mp hp with z | z
      · exact I'.pin p (List.mem_append_right _ z)
      · have e' : p = (D, { cls := .type "list", data := .seq its.toArray c }) := by simpa using z
        subst e'
        exact ⟨e, hn, hDC, noD, fun v z => by cases z⟩
  have loop : ∀ s4 : Shared, s4 = { s with heap := h1, toks := s.toks + ([] : List (Str × Value)).length } →
      codeAny (model X.prog X.w) X.A (.compLoop (.ListComp elt [⟨tg, iter, ifs, 0⟩] sc pos) 0 (.ref it) (.ref D) (compEnvC sc (clOf X.env sc.names []) C X.env)) (RR (.ref D) C) s4 := by
    rintro s4 rfl
    refine compLoop_any (fun n s' => ∃ (i : Nat) (ys : List V) (H' : Hp) (its : List Value) (c : Nat), Inv (blk X N' sc C s H fp) (pins ++ [(D, { cls := .type "list", data := .seq its.toArray c })]) (cst σ nl js) H' s' ∧
      tn i s'.heap ∧ (∀ b ∈ fp, H' b = none) ∧ Vals ys its ∧ W i n ys H') ?_ m0 ⟨0, [], H, [], 0, ?_, ?_, fun b hb => (hf b hb).1, .nil, w0⟩
    · rintro n s' ⟨i, ys, H', its, c, I', st', fr', rv, w'⟩
      obtain ⟨hz, alt⟩ := step i n ys H' w'
      rcases alt with ⟨stop, qn⟩ | ⟨go, more⟩
      · refine wpAny_mono (T.done (blk X N' sc C s H fp) rfl rfl rfl hc i _ s' _ H' (fun _ _ => False) I' (fpB fr') st' stop) (fun r s5 ⟨hr, I5⟩ => ?_) fun _ _ z => z
        subst hr
        obtain ⟨eD, nD, _⟩ := I5.pin (D, _) (List.mem_append_right _ (List.mem_append_right _ List.mem_cons_self))
        dsimp only at eD nD
        obtain ⟨mC, hnC, _⟩ := I5.loc
        have hHD : H D = none := I.hok.fresh (Nat.le_of_eq hDd)
        have I6 : Inv X pins σ (upd H' D (.lst ys)) s5 := by
          refine I.call' (ch := fp) I5.os ?_ ?_ I5.bare fun b hb => ?_
          · have B : Un (frs X.stack) fp H H' s.heap s5.heap := I5.base
            refine ⟨B.keep, B.slot, fun b o e n hx => ?_, B.there, fun b xs e => ?_, fun b o u e => ?_, fun b ps e => ?_⟩
            · rw [upd_ne (by rw [← hDd]; exact Nat.ne_of_lt (Heap.lt_size e))]; exact B.free b o e n hx
            · rw [upd_ne (ne_of_none e hHD)]; exact B.tups b xs e
            · rw [upd_ne (ne_of_none e hHD)]; exact B.frzs b o u e
            · rw [upd_ne (ne_of_none e hHD)]; exact B.tbls b ps e
          · intro b u e
            by_cases hb : b = D
            · subst hb
              rw [upd_same] at e
              cases e
              exact ⟨hz, its, c, rv, eD⟩
            · rw [upd_ne hb] at e
              exact (I5.hok b u e).stay (fun _ _ _ q => q) (fun x q => by rw [upd_ne (ne_of_none q nD)]; exact q) fun x xs q => by rw [upd_ne (ne_of_none q nD)]; exact q
          · obtain ⟨f0, f1, f2, f3, f4, f5⟩ := hf b hb
            exact ⟨f3, f1, f4, f5⟩
        refine fin D C _ s5 mC I6 hnC ⟨?_, ?_, ?_, ?_, ?_, ?_⟩ (qn D nD)
        · rw [upd_ne (Ne.symm hDC)]; exact I5.free
        · have := I.lt; rw [hDd] at this; exact Nat.ne_of_gt (Nat.lt_of_lt_of_le this hCle)
        · exact I.nofs (by rw [hDd]; exact hCle)
        · exact .inr (Nat.le_trans I.sz (by rw [hDd]; exact hCle))
        · exact fun x c' e => Nat.ne_of_lt (Nat.lt_of_lt_of_le (ltc x c' e) hCle)
        · exact fun p hp => Nat.ne_of_lt (Nat.lt_of_lt_of_le (ltp p hp) hCle)
      · refine wpAny_mono (T.item (blk X N' sc C s H fp) rfl rfl rfl hc i _ s' _ H' (fun _ _ => False) I' (fpB fr') st' go) (fun r s5 ⟨u, hr, h5⟩ => ?_) fun _ _ z => z
        subst hr
        refine wpAny_mono h5 (fun _ s6 ⟨x, H6, I6, r6, y6, st6, fr6⟩ => ?_) fun _ _ z => z
        have I6' := I6.pinned (fpB fr6) (T.obj _ _ st6)
        refine wpAny_mono (hg C s H fp _ s6 _ H6 x u _ I6' r6 (more x H6 y6)) (fun _ s7 ⟨σ7, H7, I7, wk, q7⟩ => ?_) fun _ _ z => z
        refine wpAny_mono (ht C s H fp _ s7 σ7 H7 _ I7 q7) (fun ok s8 ⟨H8, I8, q8⟩ => ?_) fun _ _ z => z
        have again : ∀ {H9 : Hp} {s9 : Shared}, Inv (blk X N' sc C s H fp) ((pins ++ [(D, { cls := .type "list", data := .seq its.toArray c })]) ++ pinsAt fp s6.heap) σ7 H9 s9 →
            (∀ b ∈ fp, ∀ o, s6.heap.get? b = some o → s9.heap.get? b = some o) ∧ (∀ b ∈ fp, H9 b = none) := fun {H9 s9} I9 => by
          refine ⟨fun b hb o e => (I9.pin (b, o) (List.mem_append_right _ (List.mem_append_right _ (mem_pinsAt hb e)))).1, fun b hb => ?_⟩
          obtain ⟨o, e, d⟩ := T.obj _ _ st6 b hb
          exact (I9.pin (b, o) (List.mem_append_right _ (List.mem_append_right _ (mem_pinsAt hb e)))).2.1
        cases ok with
        | false =>
          rw [if_neg Bool.false_ne_true] at q8 ⊢
          obtain ⟨m', hm, w8⟩ := q8
          obtain ⟨k8, fr8⟩ := again I8
          exact ⟨m', hm, i + 1, ys, H8, its, c, I8.unpinned.weak wk.1 wk.2, T.keep _ _ _ st6 k8, fr8, rv, w8⟩
        | true =>
          rw [if_pos rfl] at q8 ⊢
          refine wpAny_mono (he C s H fp _ s8 σ7 H8 _ I8 q8) (fun y s9 ⟨v, H9, I9, r9, hz9, m', hm, w9⟩ => ?_) fun _ _ z => z
          obtain ⟨k9, fr9⟩ := again I9
          have I9' := I9.unpinned
          obtain ⟨eD, nD, _⟩ := I9'.pin (D, _) (List.mem_append_right _ (List.mem_append_right _ List.mem_cons_self))
          dsimp only at eD nD
          have hl := rv.length
          refine wpAny_list_append_plain ⟨c, eD⟩ (fun h' pl sb => ?_) (by rw [List.size_toArray]; omega)
          have I10 : Inv (blk X N' sc C s H fp) pins σ7 H9 { s9 with heap := h' } := I9'.unpinned.turned (it := D) (t' := s9.toks) (fun b o hb e => (sb.2 b hb).trans e) nD hDC
            (.inr (Nat.le_of_eq hDd)) (fun x c' e => Nat.ne_of_lt (ltc x c' (S.sub I.ok e))) fun p hp => Nat.ne_of_lt (ltp p hp)
          obtain ⟨c2, e2⟩ := pl
          have ea : its.toArray.push y = (its ++ [y]).toArray := by simp
          rw [ea] at e2
          refine ⟨m', hm, i + 1, ys ++ [v], H9, its ++ [y], c2, (repin I10 nD e2).weak wk.1 wk.2, T.keep _ _ _ st6 fun b hb o e => ?_, fr9, rv.append (.cons r9 .nil), w9⟩
          exact (sb.2 b (Nat.ne_of_lt (ltf b hb))).trans (k9 b hb o e)
    · exact repin (blk_inv S I hf (by rw [hDd]; exact hCle) hfC old hns) (I.hok.fresh (Nat.le_of_eq hDd)) accD
    · exact T.keep _ _ _ st fun b _ o e => old b o e
  exact codeAny_compStart_list (loop _ rfl) (T.self _ 0 _ _ _ (T.keep _ _ _ st fun b _ o e => old b o e) (loop _ rfl))
theorem pe_lc (hc : X.calm = true) (S : CScope X sc N' nl js) (hi : PI X tg iter wi)
    (hg : ∀ C s2 H2 ex, PG (blk X N' sc C s2 H2 ex) tg g) (ht : ∀ C s2 H2 ex, PIf (blk X N' sc C s2 H2 ex) ifs tt) (he : ∀ C s2 H2 ex, PE (blk X N' sc C s2 H2 ex) elt te)
    (hs : ∀ x, foldedSetIterable iter X.env x = pure x := by intro _; rfl) : PE X (.ListComp elt [⟨tg, iter, ifs, 0⟩] sc pos) (tLc wi g tt te nl js) := by
  intro pins s σ H Q I h
  rw [eval_ListComp]
  refine wpAny_comprehension_free (use := none) rfl hs (closureFor_cl (S.hasC I.ok)) S.kind S.locs (thn (hi pins s σ H _ I h) fun v s1 h1 => thn h1 fun itv s2 h2 => ?_)
  obtain ⟨it, fp, tn, J, H2, rfl, I2, T, st2, f2, q2⟩ := h2
  refine lc_core (RR := fun acc C => compPost (model X.prog X.w) X.A X.xe none (EP X pins σ Q) acc C) hc S hg ht he I2 T st2 f2 q2 fun D C H' s' m I' hn ⟨f0, f1, f2, f3, f4, f5⟩ q => ?_
  exact ⟨m, hn, fun h' sb => ⟨.ref D, H', I'.turned (it := C) (t' := s'.toks) (fun b o hb e => (sb.2 b hb).trans e) f0 f1 f3 f4 f5, rfl, q⟩⟩
theorem ps_setlc {i : Nat} {x : Str} {pos' spos : Pos} (hc : X.calm = true) (S : CScope X sc N' nl js) (hi : PI X tg iter wi)
    (hg : ∀ C s2 H2 ex, PG (blk X N' sc C s2 H2 ex) tg g) (ht : ∀ C s2 H2 ex, PIf (blk X N' sc C s2 H2 ex) ifs tt) (he : ∀ C s2 H2 ex, PE (blk X N' sc C s2 H2 ex) elt te)
    (hN : X.N.Nodup) (hx : X.N[i]? = some x) (hloc : X.env.scope.names.lookup x = some .local)
    (hsw : swapsWith (.ListComp elt [⟨tg, iter, ifs, 0⟩] sc pos) (some (.Name x pos')) spos.line X.env = pure true := by rfl) (hs : ∀ x, foldedSetIterable iter X.env x = pure x := by intro _; rfl) :
    PS X (.Assign [.Name x pos'] (.ListComp elt [⟨tg, iter, ifs, 0⟩] sc pos) spos) (tAsg (tLc wi g tt te nl js) (gName i)) := by
  intro pins s σ H D0 I h
  rw [exec_Assign_Name_used _ _ _ _ hsw]
  refine wpAny_bind (wpAny_standAt (wpAny_bind ?_))
  show wpAny _ X.A (do let _ ← comprehension (.ListComp elt [⟨tg, iter, ifs, 0⟩] sc pos) sc X.env _ (newList []) false (eval iter X.env) (some (assign (.Name x pos') X.env))) _ _ s
  refine wpAny_bind (wpAny_mono (wpAny_comprehension_free (use := some (assign (.Name x pos') X.env)) (Q := fun _ s' => SP X pins D0 .next s') rfl hs (closureFor_cl (S.hasC I.ok)) S.kind S.locs
    (thn (hi pins s σ H _ I h) fun v s1 h1 => thn h1 fun itv s2 h2 => ?_)) (fun _ s' hq => wpAny_pure (wpAny_pure hq)) fun _ _ e => e)
  obtain ⟨it, fp, tn, J, H2, rfl, I2, T, st2, f2, q2⟩ := h2
  refine lc_core (RR := fun acc C => compPost (model X.prog X.w) X.A X.xe (some (assign (.Name x pos') X.env)) (fun _ s' => SP X pins D0 .next s') acc C) hc S hg ht he I2 T st2 f2 q2 fun D C H' s' m I' hn ⟨f0, f1, f2, f3, f4, f5⟩ q => ?_
  show wpAny _ X.A (assign (.Name x pos') X.env (.ref D)) _ _ s'
  obtain ⟨o, es, ep, ho, hd, r⟩ := hn
  have I2' : Inv X (pins ++ [(C, o)]) σ H' s' := I'.pins_of fun p hp => by
    rcases List.mem_append.mp hp with z | z
    · exact I'.pin p (List.mem_append_right _ z)
    · have e' : p = (C, o) := by simpa using z
      subst e'
      exact ⟨ho, f0, f1, f2, fun v z => by rw [hd] at z; cases z⟩
  refine wpAny_assign_Name (store_ok I2' hN hx (.inl hloc) (v := .ref D) rfl (fun s3 I3 => ?_) (.inr hloc))
  obtain ⟨e3, _⟩ := I3.pin (C, o) (List.mem_append_right _ (List.mem_append_right _ List.mem_cons_self))
  refine ⟨m, ⟨o, es, ep, e3, hd, r⟩, fun h' sb => ⟨_, H', I3.unpinned.turned (it := C) (t' := s3.toks) (fun b o hb e => (sb.2 b hb).trans e) f0 f1 f3 f4 f5, q⟩⟩
end
end L2
namespace L2
open PySem PySem.Spec PyProof.Rows
theorem Vals.tog : ∀ {xs : List V} {us : List Value} {i : Nat} {u : Value}, Vals xs us → us[i]? = some u → ∃ x, xs[i]? = some x ∧ RelV x u
  | _, _, _, _, .nil, e => by simp at e
  | _, _, 0, _, .cons r _, e => by simp at e; subst e; exact ⟨_, rfl, r⟩
  | _, _, i + 1, u, .cons _ t, e => by
    obtain ⟨x, h1, h2⟩ := Vals.tog (i := i) (u := u) t (by simpa using e)
    exact ⟨x, by simpa using h1, h2⟩
theorem Vals.ints_at {ns : List Int} {us : List Value} {i : Nat} {u : Value} (r : Vals (ns.map V.int) us) (e : us.toArray[i]? = some u) : ∃ t, u = .int (ns.getD i 0) t := by
  obtain ⟨x, h1, h2⟩ := r.tog (i := i) (u := u) (by simpa using e)
  rw [List.getElem?_map] at h1
  cases q : ns[i]? with
  | none => rw [q] at h1; cases h1
  | some z =>
    rw [q] at h1
    have e' : V.int z = x := Option.some.inj h1
    subst e'
    obtain ⟨t, rfl⟩ := h2
    exact ⟨t, by rw [List.getD_eq_getElem?_getD, q]; rfl⟩
theorem preSum_take (ns : List Int) : ∀ k, preSum (fun i => ns.getD i 0) k = (ns.take k).sum
  | 0 => by simp [preSum]
  | k + 1 => by
    rw [preSum, preSum_take ns k, List.take_add_one, List.sum_append, List.getD_eq_getElem?_getD]
    cases ns[k]? <;> simp
section
variable {X : Cx} {pins : List (Addr × Obj)} {σ : St} {H : Hp} {s : Shared}
theorem Inv.moved {o : Obj} {s' : Shared} (I : Inv X pins σ H s) (mv : Moved [s.heap.objs.size] (fun a b => b = a) { s with heap := s.heap.push o } s') : Inv X pins σ H s' := by
  have k : ∀ b u, s.heap.get? b = some u → s'.heap.get? b = some u := fun b u e => mv.heap b u (fun z => by
    have z' : b = s.heap.objs.size := by simpa using z
    exact absurd (Heap.lt_size e) (by rw [z']; exact Nat.lt_irrefl _)) (Heap.get?_push_of_some _ e)
  exact I.call' (ch := []) mv.os (Un.kept k) (I.hok.kept k) (by rw [mv.gens]; exact I.bare) fun b z => absurd z (by simp)
theorem iter_seq {A : Around} {E : Value → Shared → Prop} {Q : Value → Shared → Prop} {p : Addr} {ys : List V} (hh : A.handled = none) (I : Inv X pins σ H s) (hq : SqL X.K H p ys ∨ SqT X.K H p ys)
    (h : ∀ (it : Addr) (its : List Value) (fp : List Addr) (T : Nat → Heap → Prop) (s2 : Shared), Vals ys its → Walks X.prog X.w A it fp [it] its.toArray.size (fun i v => its.toArray[i]? = some v) T → T 0 s2.heap → (∀ b ∈ fp, b < s2.heap.objs.size) →
      (∀ s', Moved [it] (fun a b => b = a) s2 s' → Inv X pins σ H s') → Q (.ref it) s2) : wpAny (model X.prog X.w) A (pyIter (.ref p)) Q E s := by
  rcases hq with hq | hq
  · obtain ⟨its, r, pl, hz⟩ := I.list hq
    obtain ⟨o, ho, _⟩ := id pl.isList
    have hlt := Heap.lt_size ho
    refine wpAny_pyIter_list pl.isList (h s.heap.objs.size its [s.heap.objs.size, p] _ _ r (Walks.list hh _ p (Nat.ne_of_lt hlt) its.toArray) ⟨⟨_, Heap.get?_push_size _ rfl, rfl, rfl⟩, pl.isList.at fun o e => Heap.get?_push_of_some _ e⟩ (fun b hb => ?_) fun s' mv => I.moved mv)
    dsimp only
    rw [Heap.size_push]
    rcases List.mem_cons.mp hb with z | z
    · rw [z]; exact Nat.lt_succ_self _
    · have z' : b = p := by simpa using z
      rw [z']; exact Nat.lt_succ_of_lt hlt
  · obtain ⟨its, r, pl, hz⟩ := I.tuple hq
    have pt : s.heap.IsTuple p its.toArray := pl
    obtain ⟨o, ho, _⟩ := id pt
    have hlt := Heap.lt_size ho
    refine wpAny_pyIter_tuple pt (h s.heap.objs.size its [s.heap.objs.size, p] _ _ r (Walks.tuple hh _ p (Nat.ne_of_lt hlt) its.toArray) ⟨⟨_, Heap.get?_push_size _ rfl, rfl, rfl⟩, pt.at fun o e => Heap.get?_push_of_some _ e⟩ (fun b hb => ?_) fun s' mv => I.moved mv)
    dsimp only
    rw [Heap.size_push]
    rcases List.mem_cons.mp hb with z | z
    · rw [z]; exact Nat.lt_succ_self _
    · have z' : b = p := by simpa using z
      rw [z']; exact Nat.lt_succ_of_lt hlt
end
section
variable {X : Cx}
theorem call_sum_seq (hc : X.calm = true) : CallR X (.builtin "sum") (fun xs H Q => ∃ (p : Addr) (ns : List Int), xs = [.ref p] ∧ (SqL X.K H p (ns.map V.int) ∨ SqT X.K H p (ns.map V.int)) ∧ Q (.int ns.sum) H) := by
  intro pins s σ H xs us Q I r h
  obtain ⟨p, ns, rfl, hq, q⟩ := h
  obtain ⟨u, rfl, rx⟩ := vals1 r
  cases rx
  refine call_sum_walkAnyS (iter_seq (I.ok.hd hc) I hq fun it its fp T s2 rv W st hfp inv => ⟨it, fp, [it], _, _, _, _, fun i => ns.getD i 0, rfl, W.toS, st, hfp, fun i v e => rv.ints_at e, fun s' t' mv => ?_⟩)
  have hl : its.toArray.size = ns.length := by
    have := rv.length
    rw [List.length_map] at this
    rw [List.size_toArray]; omega
  refine ⟨.int ns.sum, H, inv s' mv, ⟨t', ?_⟩, q⟩
  rw [preSum_take, hl, List.take_length]
def tv : V → Bool
  | .bl b => b
  | .int i => i != 0
  | _ => false
theorem getD_mem' {ns : List Int} {i : Nat} (h : i < ns.length) : ns.getD i 0 ∈ ns := by
  rw [List.getD_eq_getElem?_getD, List.getElem?_eq_getElem h]
  exact List.getElem_mem h
theorem call_max_seq (hc : X.calm = true) : CallR X (.builtin "max") (fun xs H Q => ∃ (p : Addr) (ns : List Int), xs = [.ref p] ∧ (SqL X.K H p (ns.map V.int) ∨ SqT X.K H p (ns.map V.int)) ∧ 0 < ns.length ∧ ∀ M, M ∈ ns → (∀ a ∈ ns, a ≤ M) → Q (.int M) H) := by
  intro pins s σ H xs us Q I r h
  obtain ⟨p, ns, rfl, hq, hn, q⟩ := h
  obtain ⟨u, rfl, rx⟩ := vals1 r
  cases rx
  refine call_max_walkS (iter_seq (I.ok.hd hc) I hq fun it its fp T s2 rv W st hfp inv => ?_)
  have hl : its.toArray.size = ns.length := by
    have := rv.length
    rw [List.length_map] at this
    rw [List.size_toArray]; omega
  refine ⟨it, fp, [it], _, _, _, _, _, rfl, W.toS, st, hfp, by omega, CmpOf.ints_gt (fun i => ns.getD i 0) (fun i v e => rv.ints_at e), fun v s' e mv => ?_⟩
  obtain ⟨h1, h2⟩ := argBest_gt (fun i => ns.getD i 0) (its.toArray.size - 1)
  obtain ⟨t, rfl⟩ := rv.ints_at e
  refine ⟨.int _, H, inv s' mv, ⟨t, rfl⟩, q _ (getD_mem' (by omega)) fun a ha => ?_⟩
  obtain ⟨j, hj, rfl⟩ := List.mem_iff_getElem.mp ha
  have := h2 j (by omega)
  have ej : ns.getD j 0 = ns[j] := by rw [List.getD_eq_getElem?_getD, List.getElem?_eq_getElem hj]; rfl
  rw [← ej]
  exact this
theorem call_min_seq (hc : X.calm = true) : CallR X (.builtin "min") (fun xs H Q => ∃ (p : Addr) (ns : List Int), xs = [.ref p] ∧ (SqL X.K H p (ns.map V.int) ∨ SqT X.K H p (ns.map V.int)) ∧ 0 < ns.length ∧ ∀ M, M ∈ ns → (∀ a ∈ ns, M ≤ a) → Q (.int M) H) := by
  intro pins s σ H xs us Q I r h
  obtain ⟨p, ns, rfl, hq, hn, q⟩ := h
  obtain ⟨u, rfl, rx⟩ := vals1 r
  cases rx
  refine call_min_walkS (iter_seq (I.ok.hd hc) I hq fun it its fp T s2 rv W st hfp inv => ?_)
  have hl : its.toArray.size = ns.length := by
    have := rv.length
    rw [List.length_map] at this
    rw [List.size_toArray]; omega
  refine ⟨it, fp, [it], _, _, _, _, _, rfl, W.toS, st, hfp, by omega, CmpOf.ints_lt (fun i => ns.getD i 0) (fun i v e => rv.ints_at e), fun v s' e mv => ?_⟩
  obtain ⟨h1, h2⟩ := argBest_lt (fun i => ns.getD i 0) (its.toArray.size - 1)
  obtain ⟨t, rfl⟩ := rv.ints_at e
  refine ⟨.int _, H, inv s' mv, ⟨t, rfl⟩, q _ (getD_mem' (by omega)) fun a ha => ?_⟩
  obtain ⟨j, hj, rfl⟩ := List.mem_iff_getElem.mp ha
  have := h2 j (by omega)
  have ej : ns.getD j 0 = ns[j] := by rw [List.getD_eq_getElem?_getD, List.getElem?_eq_getElem hj]; rfl
  rw [← ej]
  exact this
theorem op_is_bl : OpR X (compareOp .Is) (fun x y H Q => ∃ a b, x = .bl a ∧ y = .bl b ∧ Q (.bl (a == b)) H) := by
  intro pins s σ H x y v u Q I rx ry h
  obtain ⟨a, b, rfl, rfl, q⟩ := h
  cases rx
  cases ry
  exact is_bool ⟨.bl (a == b), H, I, rfl, q⟩
end
structure ItOk (J : It) (n : Nat) (val : Nat → V) (C : Hp → Prop) : Prop where
  go : ∀ i H, C H → i < n → J.go i H
  yld : ∀ i H x H', C H → i < n → J.yld i H x H' → H' = H ∧ x = val i
  stop : ∀ i H, C H → n ≤ i → J.stop i H
theorem itok_list {K : PySem.W.Frag} {a : Addr} {xs : List V} : ItOk (Itl K a) xs.length (fun i => xs.getD i .non) (fun H => SqL K H a xs) where
  go := fun i H q hi => ⟨xs, xs[i], q, by simp [hi]⟩
  yld := fun i H x H' q hi ⟨e, y⟩ => ⟨e, by rw [List.getD_eq_getElem?_getD, y xs q]; rfl⟩
  stop := fun i H q hi => ⟨xs, q, hi⟩
theorem itok_tup {K : PySem.W.Frag} {a : Addr} {xs : List V} : ItOk (Itt K a) xs.length (fun i => xs.getD i .non) (fun H => SqT K H a xs) where
  go := fun i H q hi => ⟨xs, xs[i], q, by simp [hi]⟩
  yld := fun i H x H' q hi ⟨e, y⟩ => ⟨e, by rw [List.getD_eq_getElem?_getD, y xs q]; rfl⟩
  stop := fun i H q hi => ⟨xs, q, hi⟩
theorem itok_range {lo : Int} {n : Nat} : ItOk (Itr lo n) n (fun i => .int (lo + (i : Nat))) (fun _ => True) where
  go := fun i H _ hi => hi
  yld := fun i H x H' _ hi ⟨e, y⟩ => ⟨e, y⟩
  stop := fun i H _ hi => hi
theorem lc_by {J : It} {n : Nat} {val : Nat → V} {C : Hp → Prop} {g : TG} {tt : TT} {te : TE} {σ0 : St} {Q : VK} {H : Hp} (O : ItOk J n val C) (Pv : Nat → List V → Hp → Prop) (hn : n ≤ sizeLine) (h0 : Pv 0 [] H) (hl : ∀ i ys H, i ≤ n → Pv i ys H → C H ∧ ys.length ≤ i)
    (hs : ∀ i ys H, i < n → Pv i ys H → g (val i) σ0 H fun σ2 H2 => Wk σ0 σ2 ∧ tt σ2 H2 fun k H3 => if k = true then te σ2 H3 fun v H4 => ys.length < sizeLine ∧ ∃ m', m' < n - i ∧ (m' = n - (i + 1) ∧ i + 1 ≤ n ∧ Pv (i + 1) (ys ++ [v]) H4) else ∃ m', m' < n - i ∧ (m' = n - (i + 1) ∧ i + 1 ≤ n ∧ Pv (i + 1) ys H3))
    (hd : ∀ ys H, Pv n ys H → ∀ p, H p = none → Q (.ref p) (upd H p (.lst ys))) : LcW J g tt te σ0 Q H := by
  refine ⟨fun i m ys H => m = n - i ∧ i ≤ n ∧ Pv i ys H, ⟨n, by simp, Nat.zero_le _, h0⟩, ?_⟩
  rintro i m ys H ⟨rfl, hi, p⟩
  obtain ⟨c, hy⟩ := hl i ys H hi p
  refine ⟨by omega, ?_⟩
  by_cases hlt : i < n
  · refine .inr ⟨O.go i H c hlt, fun x H' y => ?_⟩
    obtain ⟨rfl, rfl⟩ := O.yld i H x H' c hlt y
    exact hs i ys _ hlt p
  · have e : i = n := by omega
    subst e
    exact .inl ⟨O.stop _ H c (Nat.le_refl _), hd ys H p⟩
theorem for_by {J : It} {n : Nat} {val : Nat → V} {C : Hp → Prop} {g : TG} {tb : TS} {D : Ends} {σ : St} {H : Hp} (O : ItOk J n val C) (Pv : Nat → St → Hp → Prop) (h0 : Pv 0 σ H) (hl : ∀ i σ H, i ≤ n → Pv i σ H → C H)
    (hs : ∀ i σ H, i < n → Pv i σ H → g (val i) σ H fun σ2 H2 => tb { D with nx := Pv (i + 1), ct := Pv (i + 1), bk := D.nx } σ2 H2) (hd : ∀ σ H, Pv n σ H → D.nx σ H) :
    ∃ W : Nat → Nat → St → Hp → Prop, (∃ m, W 0 m σ H) ∧ ∀ i m σ H, W i m σ H →
      (J.stop i H ∧ D.nx σ H) ∨ (J.go i H ∧ ∃ N : St → Hp → Prop, (∀ σ' H', N σ' H' → ∃ m', m' < m ∧ W (i + 1) m' σ' H') ∧ ∀ x H', J.yld i H x H' → g x σ H' fun σ2 H2 => tb { D with nx := N, ct := N, bk := D.nx } σ2 H2) := by
  refine ⟨fun i m σ H => m = n - i ∧ i ≤ n ∧ Pv i σ H, ⟨n, by simp, Nat.zero_le _, h0⟩, ?_⟩
  rintro i m σ H ⟨rfl, hi, p⟩
  have c := hl i σ H hi p
  by_cases hlt : i < n
  · refine .inr ⟨O.go i H c hlt, Pv (i + 1), fun σ' H' p' => ⟨n - (i + 1), by omega, rfl, hlt, p'⟩, fun x H' y => ?_⟩
    obtain ⟨rfl, rfl⟩ := O.yld i H x H' c hlt y
    exact hs i σ _ hlt p
  · have e : i = n := by omega
    subst e
    exact .inl ⟨O.stop _ H c (Nat.le_refl _), hd σ H p⟩
theorem wk_set {σ0 : St} {i : Nat} {v : Option V} (h : σ0[i]? = some none) : Wk σ0 (σ0.set i v) := by
  refine ⟨by rw [List.length_set], fun j w' e => ?_⟩
  by_cases hj : i = j
  · subst hj; rw [h] at e; cases e
  · rw [List.getElem?_set_ne hj]; exact e
theorem Same.new {H : Hp} {p : Addr} {o : HO} (h : H p = none) : Same H (upd H p o) := fun b u e => by
  rw [upd_ne (ne_of_none e h)]
  exact e
theorem Same.tup {K : PySem.W.Frag} {H H' : Hp} {a : Addr} {xs : List V} (e : Same H H') (h : SqT K H a xs) : SqT K H' a xs := by
  rcases h with (h | ⟨o, h⟩) | h
  · exact .inl (.inl (e _ _ h))
  · exact .inl (.inr ⟨o, e _ _ h⟩)
  · exact .inr h
theorem Same.next {H H1 : Hp} {p : Addr} {o : HO} (s : Same H H1) (h : H1 p = none) : Same H (upd H1 p o) := s.trans (Same.new h)
end L2
namespace L2
open PySem PySem.Spec PyProof.Rows
def tCut (t : TS) : TS := fun D σ H => ∃ M : St → Hp → Prop, t { D with nx := M } σ H ∧ ∀ σ' H', M σ' H' → D.nx σ' H'
theorem ps_cut {X : Cx} {st : Stmt} {t : TS} (h : PS X st t) : PS X st (tCut t) := by
  intro pins s σ H D I hw
  obtain ⟨M, h1, h2⟩ := hw
  refine thn (h pins s σ H { D with nx := M } I h1) fun f s' q => ?_
  cases f with
  | next => obtain ⟨σ', H', I', q⟩ := q; exact ⟨σ', H', I', h2 _ _ q⟩
  | brk => exact q
  | cont => exact q
  | ret u => exact q
theorem PI.or {X : Cx} {tg e : Expr} {w1 w2 : TI} (h1 : PI X tg e w1) (h2 : PI X tg e w2) : PI X tg e (fun σ H R => w1 σ H R ∨ w2 σ H R) := by
  intro pins s σ H R I h
  rcases h with h | h
  · exact h1 pins s σ H R I h
  · exact h2 pins s σ H R I h
def Def (P : Program) (w : World) (K : PySem.W.Frag) (mg : Str → Option Value) (base : Heap) (k : Nat) (x : Str) (ps : List Str) (sp : Sp) : Prop :=
  ∃ f fd, FnOk P w K mg base CX0 k f fd ps sp ∧ mg x = some (.ref f) ∧ PySem.W.keepIn K (.ref f) = true ∧ Binds K fd ps []
theorem Def.of {P : Program} {w : World} {K : PySem.W.Frag} {mg : Str → Option Value} {base : Heap} {k : Nat} {x qual : Str} {ps : List Str} {sp : Sp} {st : Stmt} {f : Addr} {fd : FuncData}
    (F : Fun K x qual st f fd) (m : mg x = some (.ref f)) (b : Binds K fd ps []) (ok : FnOk P w K mg base CX0 k f fd ps sp) : Def P w K mg base k x ps sp := ⟨f, fd, ok, m, F.kp, b⟩
theorem pe_def {X : Cx} {k : Nat} {x : Str} {ps : List Str} {sp : Sp} {e : Expr} {es : List Expr} {t : TA} {p pos : Pos} (D : Def X.prog X.w X.K X.mg X.base k x ps sp) (hr : Room k X.A) (hg : Gl X x) (ha : PA X (e :: es) t)
    (hdb : (x == ("__debug__" : Str)) = false := by decide) (he : starEach (e :: es) X.env = (false, eval e X.env) :: starEach es X.env := by rfl) (hpl : (backTo pos (starEach es X.env)).any (·.1) = false := by rfl) :
    PE X (.Call (.Name x p) (e :: es) [] pos) (tCall sp [] E0 t) := by
  obtain ⟨f, fd, F, m, kp, b⟩ := D
  exact pe_call F hr hg m kp b .nil pass0 ha hdb he hpl
def cchk (osc : Scope) (N : List Str) (sc : Scope) (N' : List Str) (nl : Nat) (js : List Nat) : Bool :=
  sc.kind == .function && sc.names.all (fun y => y.2 != .cell) && sc.names.all (fun y => y.2 != .local || sc.names.lookup y.1 == some .local) &&
  sc.names.all (fun y => y.2 != .free || (osc.names.lookup y.1 == some .cell || osc.names.lookup y.1 == some .free)) && (N'.length == nl + js.length) &&
  (List.range js.length).all (fun i => match js[i]?, N'[nl + i]? with | some j, some x => N[j]? == some x && sc.names.lookup x == some .free | _, _ => false)
theorem CScope.of {X : Cx} {osc sc : Scope} {N N' : List Str} {nl : Nat} {js : List Nat} (h : cchk osc N sc N' nl js = true) (h1 : X.env.scope = osc) (h2 : X.N = N) : CScope X sc N' nl js := by
  unfold cchk at h
  simp only [Bool.and_eq_true] at h
  obtain ⟨⟨⟨⟨⟨a1, a2⟩, a3⟩, a4⟩, a5⟩, a6⟩ := h
  refine ⟨by simpa using a1, fun y hy e => ?_, fun y hy e => ?_, fun y hy e => ?_, fun i j e => ?_, by simpa using a5⟩
  · have := List.all_eq_true.mp a2 y hy
    rw [e] at this
    exact absurd this (by decide)
  · have := List.all_eq_true.mp a3 y hy
    rw [e] at this
    simpa using this
  · have := List.all_eq_true.mp a4 y hy
    rw [e] at this
    have this : (osc.names.lookup y.1 == some .cell || osc.names.lookup y.1 == some .free) = true := by simpa using this
    show X.env.scope.names.lookup y.1 = _ ∨ X.env.scope.names.lookup y.1 = _
    rw [h1]
    simpa using this
  · have hi : i < js.length := (List.getElem?_eq_some_iff.mp e).1
    have := List.all_eq_true.mp a6 i (List.mem_range.mpr hi)
    rw [e] at this
    cases q : N'[nl + i]? with
    | none => rw [q] at this; exact absurd (show false = true from this) Bool.false_ne_true
    | some x =>
      rw [q] at this
      dsimp only at this
      rw [Bool.and_eq_true] at this
      exact ⟨x, rfl, by rw [h2]; simpa using this.1, by simpa using this.2⟩
theorem at_int {ns : List Int} {k : Int} (h0 : 0 ≤ k) (h : k < (ns.length : Int)) : atI (ns.map V.int) k = some (.int (ns.getD k.toNat 0)) := by
  have hk : k.toNat < ns.length := by omega
  have := atI_nat (xs := ns.map V.int) (j := k.toNat) (v := .int (ns.getD k.toNat 0)) (by rw [List.getElem?_map, List.getD_eq_getElem?_getD, List.getElem?_eq_getElem hk]; rfl)
  rwa [Int.toNat_of_nonneg h0] at this
theorem flat_ints (ns : List Int) : (ns.map V.int).all flatV = true := by
  rw [List.all_eq_true]
  intro x hx
  obtain ⟨n, _, rfl⟩ := List.mem_map.mp hx
  rfl
theorem inV_ints (z : Int) (ns : List Int) : inV (.int z) (ns.map V.int) = ns.any (· == z) := by
  unfold inV
  rw [List.any_map]
  rfl
theorem getD_map_int {ns : List Int} {i : Nat} (h : i < (ns.map V.int).length) : ∃ z, (ns.map V.int).getD i .non = .int z ∧ ns[i]? = some z := by
  rw [List.length_map] at h
  refine ⟨ns[i], ?_, List.getElem?_eq_getElem h⟩
  rw [List.getD_eq_getElem?_getD, List.getElem?_map, List.getElem?_eq_getElem h]
  rfl
theorem take_snoc {α : Type} {l : List α} {i : Nat} {z : α} (h : l[i]? = some z) : l.take (i + 1) = l.take i ++ [z] := by
  rw [List.take_add_one, h]
  rfl
end L2
namespace L2
open PySem
theorem kit_self (K : PySem.W.Frag) (t : Value) : PySem.W.kitOne K t t = some true := by
  unfold PySem.W.kitOne
  rw [if_pos (by simp)]
end L2
namespace L2
open PySem PySem.Spec PyProof.Rows
mutual
inductive DatV (K : PySem.W.Frag) (H : Hp) : V → PyData → Prop
  | non : DatV K H .non .none
  | bl (b : Bool) : DatV K H (.bl b) (.bool b)
  | int (i : Int) : DatV K H (.int i) (.int i)
  | str (x : Str) : DatV K H (.str x) (.str x)
  | lst {a : Addr} {xs : List V} {ds : List PyData} : SqL K H a xs → DatVs K H xs ds → DatV K H (.ref a) (.list ds)
  | tup {a : Addr} {xs : List V} {ds : List PyData} : SqT K H a xs → DatVs K H xs ds → DatV K H (.ref a) (.tuple ds)
inductive DatVs (K : PySem.W.Frag) (H : Hp) : List V → List PyData → Prop
  | nil : DatVs K H [] []
  | cons {x : V} {d : PyData} {xs : List V} {ds : List PyData} : DatV K H x d → DatVs K H xs ds → DatVs K H (x :: xs) (d :: ds)
end
section
variable {X : Cx} {pins : List (Addr × Obj)} {σ : St} {H : Hp} {s : Shared}
mutual
theorem DatV.reads (I : Inv X pins σ H s) : ∀ {x : V} {d : PyData} {u : Value}, DatV X.K H x d → RelV x u → ∃ as, Reads s.heap u d as
  | _, _, _, .non, r => by cases r; exact ⟨_, .none⟩
  | _, _, _, .bl b, r => by cases r; exact ⟨_, .bool b⟩
  | _, _, _, .int i, r => by obtain ⟨t, rfl⟩ := r; exact ⟨_, .int i t⟩
  | _, _, _, .str x, r => by obtain ⟨t, rfl⟩ := r; exact ⟨_, .str x t⟩
  | _, _, _, .lst hq h, r => by
    cases r
    obtain ⟨its, rv, pl, _⟩ := I.list hq
    obtain ⟨o, n, e, c, _, d⟩ := pl
    obtain ⟨as, q⟩ := DatVs.reads I h rv
    exact ⟨_, .list e c d (by simpa using q)⟩
  | _, _, _, .tup hq h, r => by
    cases r
    obtain ⟨its, rv, pl, _⟩ := I.tuple hq
    obtain ⟨o, e, c, n, d⟩ := pl
    obtain ⟨as, q⟩ := DatVs.reads I h rv
    exact ⟨_, .tuple e c d (by simpa using q)⟩
theorem DatVs.reads (I : Inv X pins σ H s) : ∀ {xs : List V} {ds : List PyData} {us : List Value}, DatVs X.K H xs ds → Vals xs us → ∃ as, ReadsAll s.heap us ds as
  | _, _, _, .nil, .nil => ⟨_, .nil⟩
  | _, _, _, .cons h t, .cons r rr => by
    obtain ⟨as, q⟩ := DatV.reads I h r
    obtain ⟨bs, q'⟩ := DatVs.reads I t rr
    exact ⟨_, .cons q q'⟩
end
end
def rEqD (K : PySem.W.Frag) (f : Bool → Bool) : R2 := fun x y H Q => ∃ d e, DatV K H x d ∧ DatV K H y e ∧ SeqAt.shaped d = true ∧ SeqAt.shaped e = true ∧ Q (.bl (f (PyData.eqv d e))) H
section
variable {X : Cx}
theorem op_neD (hu : X.A.units + 64 < cLine) : OpR X (compareOp .NotEq) (rEqD X.K not) := by
  intro pins s σ H x y v u Q I rx ry h
  obtain ⟨d, e, hd, he, sd, se, q⟩ := h
  obtain ⟨as, r1⟩ := hd.reads I rx
  obtain ⟨bs, r2⟩ := he.reads I ry
  exact ne_dataH r1 r2 sd se hu ⟨.bl _, H, I, rfl, q⟩
end
mutual
theorem DatV.same {K : PySem.W.Frag} {H H' : Hp} (S : Same H H') : ∀ {x : V} {d : PyData}, DatV K H x d → DatV K H' x d
  | _, _, .non => .non
  | _, _, .bl b => .bl b
  | _, _, .int i => .int i
  | _, _, .str x => .str x
  | _, _, .lst hq h => .lst (S.seq hq) (DatVs.same S h)
  | _, _, .tup hq h => .tup (S.tup hq) (DatVs.same S h)
theorem DatVs.same {K : PySem.W.Frag} {H H' : Hp} (S : Same H H') : ∀ {xs : List V} {ds : List PyData}, DatVs K H xs ds → DatVs K H' xs ds
  | _, _, .nil => .nil
  | _, _, .cons h t => .cons (DatV.same S h) (DatVs.same S t)
end
def dI (ns : List Int) : PyData := .list (ns.map PyData.int)
def dP (e : Int × Int) : PyData := .tuple [.int e.1, .int e.2]
def dE (es : List (Int × Int)) : PyData := .list (es.map dP)
theorem dI_lay : ∀ ns : List Int, PyData.canLayAll0 (ns.map PyData.int) = true ∧ PyData.depthAll (ns.map PyData.int) = 0
  | [] => ⟨rfl, rfl⟩
  | n :: r => by
    obtain ⟨h1, h2⟩ := dI_lay r
    simp only [List.map_cons, PyData.canLayAll0, PyData.canLay0, PyData.depthAll, PyData.depth, h1, h2]
    exact ⟨rfl, rfl⟩
theorem dE_lay : ∀ es : List (Int × Int), PyData.canLayAll0 (es.map dP) = true ∧ PyData.depthAll (es.map dP) ≤ 1
  | [] => ⟨rfl, Nat.zero_le _⟩
  | n :: r => by
    obtain ⟨h1, h2⟩ := dE_lay r
    simp only [List.map_cons, dP, PyData.canLayAll0, PyData.canLay0, PyData.depthAll, PyData.depth, h1]
    exact ⟨rfl, Nat.max_le.mpr ⟨by simp, h2⟩⟩
theorem shaped_dE (es : List (Int × Int)) : SeqAt.shaped (dE es) = true := by
  obtain ⟨h1, h2⟩ := dE_lay es
  unfold SeqAt.shaped dE
  simp only [PyData.canLay0, PyData.depth, h1, Bool.true_and]
  exact decide_eq_true (by omega)
theorem eqvAll_dI : ∀ ns ms : List Int, PyData.eqvAll (ns.map PyData.int) (ms.map PyData.int) = decide (ns = ms)
  | [], [] => rfl
  | [], _ :: _ => rfl
  | _ :: _, [] => rfl
  | a :: r, b :: t => by
    simp only [List.map_cons, PyData.eqvAll, PyData.eqv, eqvAll_dI r t]
    by_cases h : a = b <;> by_cases h' : r = t <;> simp [h, h']
theorem eqvAll_dE : ∀ ns ms : List (Int × Int), PyData.eqvAll (ns.map dP) (ms.map dP) = decide (ns = ms)
  | [], [] => rfl
  | [], _ :: _ => rfl
  | _ :: _, [] => rfl
  | (a, a') :: r, (b, b') :: t => by
    simp only [List.map_cons, dP, PyData.eqvAll, PyData.eqv]
    rw [eqvAll_dE r t]
    by_cases h : a = b <;> by_cases h1 : a' = b' <;> by_cases h' : r = t <;> simp [h, h', h1]
theorem eqv_dI (ns ms : List Int) : PyData.eqv (dI ns) (dI ms) = decide (ns = ms) := eqvAll_dI ns ms
theorem eqv_dE (ns ms : List (Int × Int)) : PyData.eqv (dE ns) (dE ms) = decide (ns = ms) := eqvAll_dE ns ms
theorem datVs_ints {K : PySem.W.Frag} {H : Hp} : ∀ ns : List Int, DatVs K H (ns.map V.int) (ns.map PyData.int)
  | [] => .nil
  | n :: r => .cons (.int n) (datVs_ints r)
theorem dat_ints {K : PySem.W.Frag} {H : Hp} {a : Addr} {ns : List Int} (h : SqL K H a (ns.map V.int)) : DatV K H (.ref a) (dI ns) := .lst h (datVs_ints ns)
def Pairs (K : PySem.W.Frag) (H : Hp) : List V → List (Int × Int) → Prop := Paired fun v e => ∃ r, v = .ref r ∧ SqT K H r [.int e.1, .int e.2]
theorem Pairs.same {K : PySem.W.Frag} {H H' : Hp} (S : Same H H') {xs : List V} {es : List (Int × Int)} (h : Pairs K H xs es) : Pairs K H' xs es := Paired.mapP h fun _ _ ⟨r, e, q⟩ => ⟨r, e, S.tup q⟩
theorem Pairs.dat {K : PySem.W.Frag} {H : Hp} : ∀ {xs : List V} {es : List (Int × Int)}, Pairs K H xs es → DatVs K H xs (es.map dP)
  | _, _, .nil => .nil
  | _, _, .cons ⟨_, e, q⟩ t => by subst e; exact .cons (.tup q (.cons (.int _) (.cons (.int _) .nil))) (Pairs.dat t)
theorem dat_ends {K : PySem.W.Frag} {H : Hp} {a : Addr} {xs : List V} {es : List (Int × Int)} (h : SqL K H a xs) (p : Pairs K H xs es) : DatV K H (.ref a) (dE es) := .lst h p.dat
theorem Pairs.len {K : PySem.W.Frag} {H : Hp} {xs : List V} {es : List (Int × Int)} (h : Pairs K H xs es) : xs.length = es.length := Paired.length h
theorem Pairs.at {K : PySem.W.Frag} {H : Hp} : ∀ {xs : List V} {es : List (Int × Int)} {i : Nat}, Pairs K H xs es → i < xs.length → ∃ r e, xs.getD i .non = .ref r ∧ SqT K H r [.int e.1, .int e.2] ∧ es[i]? = some e ∧ e ∈ es
  | _, _, _, .nil, h => absurd h (Nat.not_lt_zero _)
  | _, _, 0, .cons ⟨r, e, q⟩ _, _ => ⟨r, _, e, q, rfl, List.mem_cons_self⟩
  | _, _, i + 1, .cons _ t, h => by
    obtain ⟨r, e, h1, h2, h3, h4⟩ := Pairs.at (i := i) t (by simpa using h)
    exact ⟨r, e, by simpa using h1, h2, by simpa using h3, List.mem_cons_of_mem _ h4⟩
theorem Pairs.snoc {K : PySem.W.Frag} {H : Hp} {xs : List V} {es : List (Int × Int)} {r : Addr} {e : Int × Int} (h : Pairs K H xs es) (q : SqT K H r [.int e.1, .int e.2]) : Pairs K H (xs ++ [.ref r]) (es ++ [e]) := Paired.snoc h ⟨r, rfl, q⟩
def SameX (a : Addr) (H H' : Hp) : Prop := ∀ b o, b ≠ a → H b = some o → H' b = some o
theorem SameX.tup {K : PySem.W.Frag} {H H' : Hp} {a r : Addr} {xs zs : List V} (S : SameX a H H') (ha : H a = some (.lst zs)) (h : SqT K H r xs) : SqT K H' r xs := by
  rcases h with (h | ⟨o, h⟩) | h
  · exact .inl (.inl (S _ _ (ne_of h ha (by intro z; cases z)) h))
  · exact .inl (.inr ⟨o, S _ _ (ne_of h ha (by intro z; cases z)) h⟩)
  · exact .inr h
theorem Pairs.sameX {K : PySem.W.Frag} {H H' : Hp} {a : Addr} {zs : List V} (S : SameX a H H') (ha : H a = some (.lst zs)) {xs : List V} {es : List (Int × Int)} (h : Pairs K H xs es) : Pairs K H' xs es :=
  Paired.mapP h fun _ _ ⟨r, e, q⟩ => ⟨r, e, S.tup ha q⟩
theorem sameX_upd {H : Hp} {a : Addr} {o : HO} : SameX a H (upd H a o) := fun b u hb e => by rw [upd_ne hb]; exact e
end L2
namespace L2
open PySem PySem.Spec PyProof.Rows
section
variable {X : Cx} {tg : Expr}
def iSeq (K : PySem.W.Frag) (tl : TE) : TI := fun σ H R => tl σ H fun x H1 => ∃ a xs, x = .ref a ∧ (SqL K H1 a xs ∨ SqT K H1 a xs) ∧ ∀ J C, ItOk J xs.length (fun i => xs.getD i .non) C → (∀ H2, Same H1 H2 → C H2) → R J H1
theorem pi_seq {l : Expr} {tl : TE} (hl : PE X l tl) : PI X tg l (iSeq X.K tl) := by
  intro pins s σ H R I h
  refine thn (hl pins s σ H _ I h) fun v s1 ⟨x, H1, I1, r1, q1⟩ => ?_
  obtain ⟨a, xs, e, hq, q⟩ := q1
  subst e
  cases r1
  have fp : ∀ b ∈ [s1.heap.objs.size], FpOk X pins H1 b := fun b hb => by
    have e : b = s1.heap.objs.size := by simpa using hb
    rw [e]; exact I1.fpOk (Nat.le_refl _) (I1.hok.fresh (Nat.le_refl _))
  rcases hq with hq | hq
  · obtain ⟨its, rv, p, hz⟩ := I1.list hq
    exact wpAny_pyIter_list p.isList ⟨s1.heap.objs.size, [s1.heap.objs.size], _, _, H1, rfl, I1.kept (t' := s1.toks) fun b o e => Heap.get?_push_of_some _ e, turn_list a _, ⟨_, Heap.get?_push_size _ rfl, rfl, rfl⟩, fp,
      q _ _ itok_list fun H2 S => S.seq hq⟩
  · obtain ⟨its, rv, p, hz⟩ := I1.tuple hq
    exact wpAny_pyIter_tuple (show s1.heap.IsTuple a its.toArray from p) ⟨s1.heap.objs.size, [s1.heap.objs.size], _, _, H1, rfl, I1.kept (t' := s1.toks) fun b o e => Heap.get?_push_of_some _ e, turn_tuple a _, ⟨_, Heap.get?_push_size _ rfl, rfl, rfl⟩, fp,
      q _ _ itok_tup fun H2 S => S.tup hq⟩
end
inductive TyX (K : PySem.W.Frag) (H : Hp) : V → Value → Prop
  | of {x : V} {t : Value} : TyOf K H x t → TyX K H x t
  | tup {a : Addr} {xs : List V} : SqT K H a xs → TyX K H (.ref a) (.type "tuple")
  | lst {a : Addr} {xs : List V} : SqL K H a xs → TyX K H (.ref a) (.type "list")
section
variable {X : Cx}
theorem call_isX : CallR X (.builtin "isinstance") (fun xs H Q => ∃ x c t cv b, xs = [x, c] ∧ RelV c cv ∧ (∀ u, RelV c u → u = cv) ∧ TyX X.K H x t ∧ PySem.W.kitOne X.K t cv = some b ∧ Q (.bl b) H) := by
  intro pins s σ H xs us Q I r h
  obtain ⟨x, c, t, cv, b, rfl, _, hu, ty, e, q⟩ := h
  obtain ⟨u, u', rfl, rx, rc⟩ := vals2 r
  obtain rfl := hu u' rc
  have fin : ∀ tk, EP X pins σ Q (.bool b) { s with toks := tk } := fun tk => ⟨.bl b, H, I.tok _, rfl, q⟩
  cases ty with
  | of ty => exact isinst_ok I rx ty e fin
  | @tup a ys hq =>
    cases (show u = Value.ref a from rx)
    obtain ⟨its, rv, ⟨o, h1, h2, _⟩, hz⟩ := I.tuple hq
    exact PySem.W.kia_one PySem.W.kitx_tuple I.kIn ⟨o, h1, h2⟩ e (fun z => nomatch z) fin
  | @lst a ys hq =>
    cases (show u = Value.ref a from rx)
    obtain ⟨its, rv, ⟨o, n, h1, h2, _⟩, hz⟩ := I.list hq
    exact PySem.W.kia_one PySem.W.kitx_list I.kIn ⟨o, h1, h2⟩ e (fun z => nomatch z) fin
end
end L2
namespace L2
open PySem PySem.Spec PyProof.Rows
theorem pg_pair {X : Cx} {i j : Nat} {x y : Str} {p1 p2 pos : Pos} {k : Nat} (hc : X.calm = true) (hN : X.N.Nodup) (hi : X.N[i]? = some x) (hj : X.N[j]? = some y) (hx : X.env.scope.names.lookup x = some .local) (hy : X.env.scope.names.lookup y = some .local) :
    PG X (.Tuple [.Name x p1, .Name y p2] k pos) (gTup X.K 2 (gCons (gName i) (gCons (gName j) gNil))) := pg_tup hc (pgs_cons (pg_name hN hi (.inl hx) (.inr hx)) (pgs_cons (pg_name hN hj (.inl hy) (.inr hy)) pgs_nil))
theorem kIntBool {K : PySem.W.Frag} : PySem.W.kitOne K (.type "int") (.type "bool") = some false := by with_unfolding_all rfl
theorem Wk.trans {a b d : St} (x : Wk a b) (y : Wk b d) : Wk a d := ⟨x.1.trans y.1, fun i v e => y.2 i v (x.2 i v e)⟩
theorem wk_set2 {σ0 : St} {i j : Nat} {v u : Option V} (h : σ0[i]? = some none) (h' : (σ0.set i v)[j]? = some none) : Wk σ0 ((σ0.set i v).set j u) := (wk_set h).trans (wk_set h')
section
variable {K : PySem.W.Frag} {H H' : Hp} {a r C dx : Addr} {xs : List V} {fs : List (Str × V)}
theorem SameX.seqI (S : SameX a H H') (ha : H a = some (.ins C dx fs)) (h : SqL K H r xs) : SqL K H' r xs := by
  rcases h with (h | ⟨o, h⟩) | h
  · exact .inl (.inl (S _ _ (ne_of h ha (by intro z; cases z)) h))
  · exact .inl (.inr ⟨o, S _ _ (ne_of h ha (by intro z; cases z)) h⟩)
  · exact .inr h
theorem SameX.tupI (S : SameX a H H') (ha : H a = some (.ins C dx fs)) (h : SqT K H r xs) : SqT K H' r xs := by
  rcases h with (h | ⟨o, h⟩) | h
  · exact .inl (.inl (S _ _ (ne_of h ha (by intro z; cases z)) h))
  · exact .inl (.inr ⟨o, S _ _ (ne_of h ha (by intro z; cases z)) h⟩)
  · exact .inr h
theorem Pairs.sameI (S : SameX a H H') (ha : H a = some (.ins C dx fs)) {es : List (Int × Int)} (h : Pairs K H xs es) : Pairs K H' xs es := Paired.mapP h fun _ _ ⟨r, e, q⟩ => ⟨r, e, S.tupI ha q⟩
theorem Pairs.take_snoc {xs : List V} {es : List (Int × Int)} {i : Nat} {e : Int × Int} (h : es[i]? = some e) : es.take (i + 1) = es.take i ++ [e] := L2.take_snoc h
end
end L2
namespace L2
open PySem PySem.Spec PyProof.Rows
theorem PE.imp {X : Cx} {e : Expr} {t t' : TE} (h : PE X e t) (k : ∀ σ H Q, t' σ H Q → t σ H Q) : PE X e t' := fun pins s σ H Q I hw => h pins s σ H Q I (k σ H Q hw)
theorem Same.upd {H H' : Hp} {l : Addr} {o : HO} (e : Same H H') (h : H l = none) : Same H (L2.upd H' l o) := fun b u q => by rw [upd_ne (ne_of_none q h)]; exact e _ _ q
theorem pe_defR {X : Cx} {k k' : Nat} {x : Str} {ps : List Str} {sp : Sp} {e : Expr} {es : List Expr} {t : TA} {p pos : Pos} (D : Def X.prog X.w X.K X.mg X.base k x ps sp) (hr : Room k' X.A) (ha : PA X (e :: es) t) (hk : k ≤ k' := by decide) (hg : Gl X x := by rfl)
    (hdb : (x == ("__debug__" : Str)) = false := by decide) (he : starEach (e :: es) X.env = (false, eval e X.env) :: starEach es X.env := by rfl) (hpl : (backTo pos (starEach es X.env)).any (·.1) = false := by rfl) :
    PE X (.Call (.Name x p) (e :: es) [] pos) (fun σ H Q => t σ H fun vs H1 => sp vs H1 Q E0) := (pe_def D (hr.mono hk) hg ha hdb he hpl).imp fun σ H Q h => by
  show t σ H fun vs H1 => sp (vs ++ []) H1 Q E0
  simp only [List.append_nil]
  exact h
structure WebC (K : PySem.W.Frag) (C : Addr) : Prop where
  cl : Cls K C
  nM : NoAttr K C "many"
  nT : NoAttr K C "ties"
  ca : PySem.W.findIn K (.ref C) "__class__" = some (some (.builtin "object.__class__"))
  cg : PySem.W.specialIn K (.builtin "object.__class__") "__get__" = some (some (.builtin "getset_descriptor.__get__"))
  ck : PySem.W.takesIn K (.builtin "object.__class__") = some true
  co : PySem.W.mroIn K C (.type "object") = some true
abbrev wFs (m : Int) (t : Addr) : List (Str × V) := [("many", .int m), ("ties", .ref t)]
theorem wFs_many (m : Int) (t : Addr) : (wFs m t).lookup ("many" : Str) = some (.int m) := rfl
theorem wFs_ties (m : Int) (t : Addr) : (wFs m t).lookup ("ties" : Str) = some (.ref t) := rfl
def WebAt (K : PySem.W.Frag) (C : Addr) (H : Hp) (a : Addr) (m : Int) (es : List (Int × Int)) : Prop := ∃ dx t xs, H a = some (.ins C dx (wFs m t)) ∧ H t = some (.tup xs) ∧ Pairs K H xs es
theorem WebAt.same {K : PySem.W.Frag} {C : Addr} {H H' : Hp} {a : Addr} {m : Int} {es : List (Int × Int)} (h : WebAt K C H a m es) (S : Same H H') : WebAt K C H' a m es := by
  obtain ⟨dx, t, xs, h1, h2, h3⟩ := h
  exact ⟨dx, t, xs, S _ _ h1, S _ _ h2, h3.same S⟩
theorem WebAt.ty {K : PySem.W.Frag} {C : Addr} {H : Hp} {a : Addr} {m : Int} {es : List (Int × Int)} (W : WebC K C) (h : WebAt K C H a m es) : TyOf K H (.ref a) (.ref C) := by
  obtain ⟨dx, t, xs, h1, _⟩ := h
  exact .ins h1 W.cl W.ca W.cg W.ck W.co
section
variable {X : Cx} {C : Addr} {e : Expr} {ta : TE} {pos : Pos}
def tMany (K : PySem.W.Frag) (C : Addr) (ta : TE) : TE := fun σ H Q => ta σ H fun x H1 => ∃ a m es, x = .ref a ∧ WebAt K C H1 a m es ∧ Q (.int m) H1
def tTies (K : PySem.W.Frag) (C : Addr) (ta : TE) : TE := fun σ H Q => ta σ H fun x H1 => ∃ a m es, x = .ref a ∧ WebAt K C H1 a m es ∧ ∀ t xs, H1 t = some (.tup xs) → Pairs K H1 xs es → Q (.ref t) H1
theorem pe_fld2 {f : Str} {r : V → Hp → VK → Prop} (he : PE X e ta) (hb : attributeBase e f X.env (eval e X.env) = eval e X.env) (k : ∀ x H Q, r x H Q → ∃ a C dx fs v, x = .ref a ∧ H a = some (.ins C dx fs) ∧ Cls X.K C ∧ NoAttr X.K C f ∧ fs.lookup f = some v ∧ Q v H) :
    PE X (.Attribute e f pos) (fun σ H Q => ta σ H fun x H1 => r x H1 Q) := by
  intro pins s σ H Q I h
  refine attr_of hb (thn (he pins s σ H _ I h) fun u s1 ⟨x, H1, I1, rx, q⟩ => ?_)
  obtain ⟨a, C', dx, fs, v, ex, ea, c, n, l, q'⟩ := k _ _ _ q
  subst ex
  obtain rfl : u = Value.ref a := rx
  exact getattr_ok I1 ea c n l fun u' s2 I2 ru => ⟨v, H1, I2, ru, q'⟩
theorem pe_many (W : WebC X.K C) (he : PE X e ta) (hb : attributeBase e "many" X.env (eval e X.env) = eval e X.env := by rfl) : PE X (.Attribute e "many" pos) (tMany X.K C ta) :=
  pe_fld2 (r := fun x H1 Q => ∃ a m es, x = .ref a ∧ WebAt X.K C H1 a m es ∧ Q (.int m) H1) he hb fun x H Q ⟨a, m, es, ex, ⟨dx, t, xs, h1, _⟩, q⟩ => ⟨a, C, dx, _, _, ex, h1, W.cl, W.nM, wFs_many m t, q⟩
theorem pe_ties (W : WebC X.K C) (he : PE X e ta) (hb : attributeBase e "ties" X.env (eval e X.env) = eval e X.env := by rfl) : PE X (.Attribute e "ties" pos) (tTies X.K C ta) :=
  pe_fld2 (r := fun x H1 Q => ∃ a m es, x = .ref a ∧ WebAt X.K C H1 a m es ∧ ∀ t xs, H1 t = some (.tup xs) → Pairs X.K H1 xs es → Q (.ref t) H1) he hb fun x H Q ⟨a, m, es, ex, ⟨dx, t, xs, h1, h2, h3⟩, q⟩ => ⟨a, C, dx, _, _, ex, h1, W.cl, W.nT, wFs_ties m t, q t xs h2 h3⟩
end
def EndsIn (es : List (Int × Int)) (m : Int) : Prop := ∀ e ∈ es, 0 ≤ e.1 ∧ e.1 < m ∧ 0 ≤ e.2 ∧ e.2 < m
theorem EndsIn.nil {m : Int} : EndsIn [] m := fun _ h => nomatch h
theorem EndsIn.snoc {es : List (Int × Int)} {m : Int} {e : Int × Int} (h : EndsIn es m) (q : 0 ≤ e.1 ∧ e.1 < m ∧ 0 ≤ e.2 ∧ e.2 < m) : EndsIn (es ++ [e]) m := fun x hx => by
  rcases List.mem_append.mp hx with z | z
  · exact h x z
  · have e' : x = e := by simpa using z
    rw [e']; exact q
def spInit (K : PySem.W.Frag) (C : Addr) : Sp := fun vs H Q _ => ∃ (x dx p : Addr) (m : Int) (xs : List V) (es : List (Int × Int)), vs = [.ref x, .int m, .ref p] ∧ H x = some (.ins C dx []) ∧ (SqL K H p xs ∨ SqT K H p xs) ∧ Pairs K H xs es ∧
  1 ≤ m ∧ m ≤ 20 ∧ es.length ≤ 40 ∧ EndsIn es m ∧ ∀ H' t ys, SameX x H H' → H' x = some (.ins C dx (wFs m t)) → H' t = some (.tup ys) → Pairs K H' ys es → Q .non H'
def MkDef (P : Program) (w : World) (K : PySem.W.Frag) (mg : Str → Option Value) (base : Heap) (k : Nat) (x : Str) (C : Addr) (ps : List Str) (sp : Sp) : Prop :=
  ∃ f fd, Mk K C f ∧ FnOk P w K mg base CX0 k f fd ps sp ∧ Binds K fd ps [] ∧ mg x = some (.ref C)
def tWeb (K : PySem.W.Frag) (C : Addr) (t : TA) : TE := fun σ H Q => t σ H fun vs H1 => ∃ (p : Addr) (m : Int) (xs : List V) (es : List (Int × Int)), vs = [.int m, .ref p] ∧ (SqL K H1 p xs ∨ SqT K H1 p xs) ∧ Pairs K H1 xs es ∧
  1 ≤ m ∧ m ≤ 20 ∧ es.length ≤ 40 ∧ EndsIn es m ∧ ∀ x H', H1 x = none → Same H1 H' → WebAt K C H' x m es → Q (.ref x) H'
theorem pe_make' {X : Cx} {k k' : Nat} {C : Addr} {x : Str} {ps : List Str} {sp : Sp} {e : Expr} {es : List Expr} {t : TA} {p pos : Pos} {R : List V → Hp → VK → Prop} (D : MkDef X.prog X.w X.K X.mg X.base k x C ps sp) (hr : Room k' X.A) (ha : PA X (e :: es) t)
    (hR : ∀ vs H1 Q, R vs H1 Q → ∀ x dx, H1 x = none → H1 dx = none → dx ≠ x → sp (.ref x :: vs) (upd (upd H1 dx (.own x)) x (.ins C dx [])) (fun v H2 => v = .non ∧ Q (.ref x) H2) E0)
    (hk : k + 1 ≤ k' := by decide) (hg : Gl X x := by rfl)
    (hdb : (x == ("__debug__" : Str)) = false := by decide) (he : starEach (e :: es) X.env = (false, eval e X.env) :: starEach es X.env := by rfl) (hpl : (backTo pos (starEach es X.env)).any (·.1) = false := by rfl) :
    PE X (.Call (.Name x p) (e :: es) [] pos) (fun σ H Q => t σ H fun vs H1 => R vs H1 Q) := by
  obtain ⟨f, fd, M, F, b, m⟩ := D
  intro pins s σ H Q I h
  refine wpAny_Call_Name_kw (ld_glob I hg m ?_ hdb)
  refine PySem.W.callWith_K (h₀ := X.base) I.ok.mod.kin M.kp (thn (ha pos pins s σ H _ I h) fun us s1 ⟨vs, H1, I1, r, q⟩ => ⟨I1.kIn, ?_⟩) he hpl
  exact run_make (dvs := []) (ds := []) M F (hr.mono hk) b .nil pass0 I1 r fun y dy n1 n2 n3 => by
    rw [List.append_nil]
    exact hR vs H1 Q q y dy n1 n2 n3
theorem pe_web {X : Cx} {k k' : Nat} {C : Addr} {x : Str} {ps : List Str} {e : Expr} {es : List Expr} {t : TA} {p pos : Pos} (D : MkDef X.prog X.w X.K X.mg X.base k x C ps (spInit X.K C)) (hr : Room k' X.A) (ha : PA X (e :: es) t)
    (hk : k + 1 ≤ k' := by decide) (hg : Gl X x := by rfl)
    (hdb : (x == ("__debug__" : Str)) = false := by decide) (he : starEach (e :: es) X.env = (false, eval e X.env) :: starEach es X.env := by rfl) (hpl : (backTo pos (starEach es X.env)).any (·.1) = false := by rfl) :
    PE X (.Call (.Name x p) (e :: es) [] pos) (tWeb X.K C t) := by
  refine pe_make' D hr ha (fun vs H1 Q q => ?_) hk hg hdb he hpl
  obtain ⟨p', mm, xs, es', rfl, hq, hp, b1, b2, b3, b4, q⟩ := q
  intro z dz nz ndz ne
  have s1 : Same H1 (upd (upd H1 dz (.own z)) z (.ins C dz [])) := (Same.new ndz).trans (Same.new (by rw [upd_ne ne.symm]; exact nz))
  refine ⟨z, dz, p', mm, xs, es', rfl, upd_same, hq.imp (fun y => s1.seq y) (fun y => s1.tup y), hp.same s1, b1, b2, b3, b4, fun H' tt ys sx h1 h2 h3 => ⟨rfl, ?_⟩⟩
  exact q z H' nz (fun bb o eb => sx _ _ (ne_of_none eb nz) (s1 _ _ eb)) ⟨dz, tt, ys, h1, h2, h3⟩
end L2
namespace L2
open PySem PySem.Spec PyProof.Rows
theorem SameX.of {H H' : Hp} {a : Addr} (S : Same H H') : SameX a H H' := fun b o _ e => S b o e
theorem SameX.trans {H H1 H2 : Hp} {a : Addr} (S : SameX a H H1) (T : SameX a H1 H2) : SameX a H H2 := fun b o n e => T b o n (S b o n e)
theorem SameX.seq {K : PySem.W.Frag} {H H' : Hp} {a r : Addr} {xs : List V} (S : SameX a H H') (hr : r ≠ a) (h : SqL K H r xs) : SqL K H' r xs := by
  rcases h with (h | ⟨o, h⟩) | h
  · exact .inl (.inl (S _ _ hr h))
  · exact .inl (.inr ⟨o, S _ _ hr h⟩)
  · exact .inr h
theorem WebAt.sameX {K : PySem.W.Frag} {C : Addr} {H H' : Hp} {a b : Addr} {m : Int} {es : List (Int × Int)} {zs : List V} (h : WebAt K C H a m es) (S : SameX b H H') (hb : H b = some (.lst zs)) : WebAt K C H' a m es := by
  obtain ⟨dx, t, xs, h1, h2, h3⟩ := h
  exact ⟨dx, t, xs, S _ _ (ne_of h1 hb (by intro z; cases z)) h1, S _ _ (ne_of h2 hb (by intro z; cases z)) h2, h3.sameX S hb⟩
end L2
namespace L2
open PySem PySem.Spec PyProof.Rows
section
variable {X : Cx} {K : PySem.W.Frag}
theorem ixL (h : X.K = K) : IxR X (rIxL K) := by subst h; exact ix_list
theorem ixT (h : X.K = K) : IxR X (rIxT K) := by subst h; exact ix_tup
theorem slL (h : X.K = K) : SlR X (rSlL K) := by subst h; exact sl_list
theorem slT (h : X.K = K) : SlR X (rSlT K) := by subst h; exact sl_tup
theorem opNotIn (h : X.K = K) : OpR X (compareOp .NotIn) (rIn K true) := by subst h; exact op_notIn_seq
theorem opNeD (h : X.K = K) (hu : X.A.units + 64 < cLine) : OpR X (compareOp .NotEq) (rEqD K not) := by subst h; exact op_neD hu
def rLen (K : PySem.W.Frag) : List V → Hp → VK → Prop := fun xs H Q => ∃ p ys, xs = [.ref p] ∧ (SqL K H p ys ∨ SqT K H p ys) ∧ Q (.int ys.length) H
theorem cLen (h : X.K = K) : CallR X (.builtin "len") (rLen K) := by subst h; exact call_len_seq
def rList (K : PySem.W.Frag) : List V → Hp → VK → Prop := fun xs H Q => ∃ p ys, xs = [.ref p] ∧ (SqL K H p ys ∨ SqT K H p ys) ∧ ∀ l, H l = none → Q (.ref l) (upd H l (.lst ys))
theorem cList (h : X.K = K) : CallR X (.type "list") (rList K) := by subst h; exact call_list_of
def rTuple (K : PySem.W.Frag) : List V → Hp → VK → Prop := fun xs H Q => ∃ p ys, xs = [.ref p] ∧ ((SqL K H p ys ∧ ∀ l, H l = none → Q (.ref l) (upd H l (.tup ys))) ∨ (SqT K H p ys ∧ Q (.ref p) H))
theorem cTuple (h : X.K = K) : CallR X (.type "tuple") (rTuple K) := by subst h; exact call_tuple_of
def rSum (K : PySem.W.Frag) : List V → Hp → VK → Prop := fun xs H Q => ∃ (p : Addr) (ns : List Int), xs = [.ref p] ∧ (SqL K H p (ns.map V.int) ∨ SqT K H p (ns.map V.int)) ∧ Q (.int ns.sum) H
theorem cSum (h : X.K = K) (hc : X.calm = true) : CallR X (.builtin "sum") (rSum K) := by subst h; exact call_sum_seq hc
def rMax (K : PySem.W.Frag) : List V → Hp → VK → Prop := fun xs H Q => ∃ (p : Addr) (ns : List Int), xs = [.ref p] ∧ (SqL K H p (ns.map V.int) ∨ SqT K H p (ns.map V.int)) ∧ 0 < ns.length ∧ ∀ M, M ∈ ns → (∀ a ∈ ns, a ≤ M) → Q (.int M) H
theorem cMax (h : X.K = K) (hc : X.calm = true) : CallR X (.builtin "max") (rMax K) := by subst h; exact call_max_seq hc
def rMin (K : PySem.W.Frag) : List V → Hp → VK → Prop := fun xs H Q => ∃ (p : Addr) (ns : List Int), xs = [.ref p] ∧ (SqL K H p (ns.map V.int) ∨ SqT K H p (ns.map V.int)) ∧ 0 < ns.length ∧ ∀ M, M ∈ ns → (∀ a ∈ ns, M ≤ a) → Q (.int M) H
theorem cMin (h : X.K = K) (hc : X.calm = true) : CallR X (.builtin "min") (rMin K) := by subst h; exact call_min_seq hc
def rIs (K : PySem.W.Frag) : List V → Hp → VK → Prop := fun xs H Q => ∃ x c t cv b, xs = [x, c] ∧ RelV c cv ∧ (∀ u, RelV c u → u = cv) ∧ TyX K H x t ∧ PySem.W.kitOne K t cv = some b ∧ Q (.bl b) H
theorem cIs (h : X.K = K) : CallR X (.builtin "isinstance") (rIs K) := by subst h; exact call_isX
theorem piSeq {tg l : Expr} {tl : TE} (h : X.K = K) (hl : PE X l tl) : PI X tg l (iSeq K tl) := by subst h; exact pi_seq hl
theorem pgTup {es : List Expr} {k : Nat} {t : TGs} {n : Nat} {pos : Pos} (hK : X.K = K) (hc : X.calm = true) (h : PGs X es t) (hn : (assignEach es X.env).length = n) (hst : (assignEach es X.env).findIdx? (·.1) = none := by rfl) : PG X (.Tuple es k pos) (gTup K n t) := by
  subst hK; exact pg_tup hc h hn hst
theorem pgPair {i j : Nat} {x y : Str} {p1 p2 pos : Pos} {k : Nat} (hK : X.K = K) (hc : X.calm = true) (hN : X.N.Nodup) (hi : X.N[i]? = some x) (hj : X.N[j]? = some y) (hx : X.env.scope.names.lookup x = some .local) (hy : X.env.scope.names.lookup y = some .local) :
    PG X (.Tuple [.Name x p1, .Name y p2] k pos) (gTup K 2 (gCons (gName i) (gCons (gName j) gNil))) := by subst hK; exact pg_pair hc hN hi hj hx hy
theorem pMany {C : Addr} {e : Expr} {ta : TE} {pos : Pos} (h : X.K = K) (W : WebC K C) (he : PE X e ta) (hb : attributeBase e "many" X.env (eval e X.env) = eval e X.env := by rfl) : PE X (.Attribute e "many" pos) (tMany K C ta) := by subst h; exact pe_many W he hb
theorem pTies {C : Addr} {e : Expr} {ta : TE} {pos : Pos} (h : X.K = K) (W : WebC K C) (he : PE X e ta) (hb : attributeBase e "ties" X.env (eval e X.env) = eval e X.env := by rfl) : PE X (.Attribute e "ties" pos) (tTies K C ta) := by subst h; exact pe_ties W he hb
end
end L2
namespace L2
open PySem PySem.Spec PyProof.Rows
theorem ObjOk.live {P : Program} {w : World} {H : Hp} {h : Heap} {a : Addr} {o : HO} (x : ObjOk P w H h a o) : ∃ ob, h.get? a = some ob := by
  cases o with
  | lst xs => obtain ⟨_, _, _, _, e⟩ := x; exact ⟨_, e⟩
  | tup xs => obtain ⟨_, _, _, ob, e, _⟩ := x; exact ⟨_, e⟩
  | dK kvs => obtain ⟨_, _, _, _, ob, _, _, e, _⟩ := x; exact ⟨_, e⟩
  | dT kvs => obtain ⟨_, _, _, _, ob, _, _, e, _⟩ := x; exact ⟨_, e⟩
  | set S n => obtain ⟨ob, _, _, _, e, _⟩ := x; exact ⟨_, e⟩
  | ins C dx fs => obtain ⟨_, _, _, e, _⟩ := x; exact ⟨_, e⟩
  | own y => exact x
  | xd fs => obtain ⟨_, ⟨_, _, _, e, _⟩, _⟩ := x; exact ⟨_, e⟩
  | rng lo hi => obtain ⟨_, _, _, e⟩ := x; exact ⟨_, e⟩
  | frz ob u => obtain ⟨e, _⟩ := x; exact ⟨_, e⟩
  | tbl ps => exact ⟨_, x⟩
  | met f y => exact ⟨_, x⟩
  | ext φ => obtain ⟨_, e, _⟩ := x; exact e
theorem HOk.dead {P : Program} {w : World} {H : Hp} {h : Heap} {a : Addr} (x : HOk P w H h) (e : h.get? a = none) : H a = none := by
  cases q : H a with
  | none => rfl
  | some o =>
    obtain ⟨ob, z⟩ := (x a o q).live
    rw [e] at z; cases z
def Yg (X : Cx) (H : Hp) (b : Addr) : Prop := X.s₀.heap.get? b = none ∧ H b = none ∧ ∀ p ∈ X.pn, p.1 ≠ b
section
variable {X : Cx} {pins : List (Addr × Obj)} {σ : St} {H : Hp} {s : Shared}
theorem Inv.young (I : Inv X pins σ H s) (hex : X.ex = []) {b : Addr} (e : s.heap.get? b = none) : Yg X H b := by
  refine ⟨?_, I.hok.dead e, fun p hp z => ?_⟩
  · cases q : X.s₀.heap.get? b with
    | none => rfl
    | some o =>
      obtain ⟨o', z⟩ := I.base.there b o q (by rw [hex]; simp)
      rw [e] at z; cases z
  · have := (I.pin p (List.mem_append_left _ hp)).1
    rw [z, e] at this; cases this
theorem Inv.bareP (I : Inv X pins σ H s) : Inv X [] σ H s := I.pins_of fun _ h => nomatch h
theorem Inv.noted {h' : Heap} {ch : List Addr} (I : Inv X [] σ H s) (hch : ∀ b ∈ ch, Yg X H b ∧ ∃ o vs, s.heap.get? b = some o ∧ o.data = .fields vs)
    (keep : ∀ b o, s.heap.get? b = some o → b ∉ ch → b ∉ frs X.stack → h'.get? b = some o)
    (slot : ∀ b o, s.heap.get? b = some o → b ∈ frs X.stack → ∃ sl, h'.get? b = some { o with slots := sl }) : Inv X [] σ H { s with heap := h' } := by
  have up : ∀ b o, s.heap.get? b = some o → b ∉ ch → ∃ sl, h'.get? b = some { o with slots := sl } := fun b o e hb => by
    by_cases hf : b ∈ frs X.stack
    · exact slot b o e hf
    · exact ⟨o.slots, keep b o e hb hf⟩
  have nchF : ∀ b o, s.heap.get? b = some o → (∀ vs, o.data ≠ .fields vs) → b ∉ ch := fun b o e hd hb => by
    obtain ⟨_, o', vs, e', d⟩ := hch b hb
    rw [e] at e'; cases e'
    exact hd vs d
  have nch0 : ∀ b o, X.s₀.heap.get? b = some o → b ∉ ch := fun b o e hb => by
    have := (hch b hb).1.1
    rw [e] at this; cases this
  have nst : ∀ b o, X.s₀.heap.get? b = some o → b ∉ X.fs → b ∉ frs X.stack := fun b o e hb hs => by
    rcases List.mem_cons.mp (I.stkSub b hs) with z | z
    · exact absurd (Nat.lt_of_lt_of_le (Heap.lt_size e) I.ok.above) (by rw [z]; exact Nat.lt_irrefl _)
    · exact hb z
  obtain ⟨m, hn, hl⟩ := id I.loc
  refine ⟨I.ok, I.os, I.bare, ⟨fun b o e n hb hx => ?_, fun b o e n hb hx => ?_, I.base.free, fun b o e hx => ?_, I.base.tups, I.base.frzs, I.base.tbls⟩, ⟨m, ?_, fun i x v e1 e2 e3 => ?_⟩, fun x c e => ?_, I.free, I.freeC, fun p hp => ?_, fun b u e => ?_, I.len⟩
  · exact keep b o (I.base.keep b o e n hb hx) (nch0 b o e) (nst b o e hb)
  · obtain ⟨sl, e1⟩ := I.base.slot b o e n hb hx
    obtain ⟨sl', e2⟩ := up b _ e1 (nch0 b o e)
    exact ⟨sl', e2⟩
  · obtain ⟨o', e1⟩ := I.base.there b o e hx
    obtain ⟨sl, e2⟩ := up b o' e1 (nch0 b o e)
    exact ⟨_, e2⟩
  · obtain ⟨o, es, ep, ho, hd, r⟩ := hn
    obtain ⟨sl, e2⟩ := up _ o ho (nchF _ o ho fun vs z => by rw [hd] at z; cases z)
    exact ⟨_, es, ep, e2, hd, r⟩
  · obtain ⟨u, r, l⟩ := hl i x v e1 e2 e3
    refine ⟨u, r, ?_⟩
    rcases l with l | ⟨k, c, e, o, ho, hd⟩
    · exact .inl l
    · obtain ⟨sl, e2⟩ := up c o ho (nchF c o ho fun vs z => by rw [hd] at z; cases z)
      exact .inr ⟨k, c, e, _, e2, hd⟩
  · obtain ⟨v, o, ho, hd⟩ := I.cell x c e
    obtain ⟨sl, e2⟩ := up c o ho (nchF c o ho fun vs z => by rw [hd] at z; cases z)
    exact ⟨v, _, e2, hd⟩
  · obtain ⟨e, n, ne, nf, d⟩ := I.pin p hp
    refine ⟨keep p.1 p.2 e (fun hb => (hch _ hb).1.2.2 p (by simpa using hp) rfl) (fun hs => ?_), n, ne, nf, d⟩
    rcases List.mem_cons.mp (I.stkSub _ hs) with z | z
    · exact ne z
    · exact nf z
  · refine (I.hok b u e).stay (fun c v hc q => keep c v q (fun hb => ?_) (fun hs => ?_)) (fun _ q => q) fun _ _ q => q
    · have z := (hch c hb).1.2.1
      rcases hc with hc | hc
      · rw [hc, e] at z; cases z
      · rw [hc] at z; cases z
    · have z := I.stkFree c hs
      rcases hc with hc | hc
      · rw [hc, e] at z; cases z
      · rw [hc] at z; cases z
end
def IsX (o : Obj) : Value → Prop
  | .int d A => o.cls = .ref A ∧ o.dict = some d.toNat
  | C => o.cls = C
def FlyO (X : Cx) (H : Hp) (h : Heap) (x : Addr) (C : Value) (fl : Option Value) : Prop :=
  Yg X H x ∧ ∃ oe vs a0, h.get? x = some oe ∧ IsX oe C ∧ oe.data = .fields vs ∧ vs[0]? = some a0 ∧
    match fl with
    | none => vs[1]? = some .none
    | some v => ∃ T oT ts, vs[1]? = some (.ref T) ∧ T ≠ x ∧ Yg X H T ∧ h.get? T = some oT ∧ oT.data = .fields ts ∧ ts[3]? = some v
theorem frames_base {h base base' : Heap} : ∀ {l : List Env}, h.FunFrames base l → (∀ b ∈ frs l, base'.get? b = none) → h.FunFrames base' l
  | [], _, _ => trivial
  | env :: r, hl, hb => by
    obtain ⟨hk, ⟨L, o, hf, hn, ho, hd⟩, hr⟩ := hl
    have e : frs (env :: r) = L :: frs r := by unfold frs; rw [List.filterMap_cons, hf]
    exact ⟨hk, ⟨L, o, hf, hb L (by rw [e]; exact List.mem_cons_self), ho, hd⟩, frames_base hr fun b z => hb b (by rw [e]; exact List.mem_cons_of_mem _ z)⟩
section
variable {X : Cx} {σ : St} {H : Hp} {s : Shared} {M : Model} {A : Around} {E : Value → Shared → Prop} {x : Addr} {C : Value}
theorem FlyO.mv {h h' : Heap} {fl : Option Value} (F : FlyO X H h x C fl) (k : ∀ b o, h.get? b = some o → h'.get? b = some o) : FlyO X H h' x C fl := by
  obtain ⟨y, oe, vs, a0, e, c, d, v0, r⟩ := F
  refine ⟨y, oe, vs, a0, k _ _ e, c, d, v0, ?_⟩
  cases fl with
  | none => exact r
  | some v => obtain ⟨T, oT, ts, r1, r2, r3, r4, r5⟩ := r; exact ⟨T, oT, ts, r1, r2, r3, k _ _ r4, r5⟩
theorem flight_ok {v : Value} {fr : Option Addr} {Q : Unit → Shared → Prop} (I : Inv X [] σ H s) (F : FlyO X H s.heap x C (some v))
    (k : ∀ s', Inv X [] σ H s' → FlyO X H s'.heap x C (some (fr.elim .none fun f => rawInt f)) → Q () s') : wpAny M A (setFlight (.ref x) fr) Q E s := by
  obtain ⟨y, oe, vs, a0, e, c, d, v0, T, oT, ts, r1, r2, r3, r4, r5, r6⟩ := F
  have hz : 3 < ts.size := (Array.getElem?_eq_some_iff.mp r6).1
  unfold setFlight
  refine wpAny_bind (wpAny_field e d r1 ?_)
  rw [if_pos (show (Value.ref T != Value.none) = true from by simp)]
  have other : ∀ b, b ≠ T → ∀ z : Value, (s.heap.update T (Obj.mapFields (·.setIfInBounds 3 z))).get? b = s.heap.get? b := fun b hb z => Heap.get?_update_other _ _ (Ne.symm hb)
  have there := fun z : Value => Heap.get?_update_self (Obj.mapFields (·.setIfInBounds 3 z)) r4 (Obj.isFreed_of_fields (Obj.data_mapFields r5 _))
  refine wpAny_setField r4 r5 hz (k _ (I.noted (ch := [T]) (fun b hb => ?_) (fun b o eb hb _ => ?_) fun b o eb hb => ?_) ?_)
  · have z : b = T := by simpa using hb
    rw [z]; exact ⟨r3, oT, ts, r4, r5⟩
  · rw [other b (fun z => hb (by simp [z]))]; exact eb
  · refine ⟨o.slots, ?_⟩
    rw [other b ?_]
    · exact eb
    · intro z
      obtain ⟨_, o', eo, hd⟩ := I.stack.mem hb
      rw [z, r4] at eo; cases eo
      exact hd ts r5
  · refine ⟨y, oe, vs, a0, by rw [other x (Ne.symm r2)]; exact e, c, d, v0, T, _, _, r1, r2, r3, there _, Obj.data_mapFields r5 _, ?_⟩
    simp [hz]
def hidE (s : Shared) (l : List Addr) : Heap := PySem.W.hideAll s.heap l
theorem IsX.eqv {o o' : Obj} (hc : o'.cls = o.cls) (hd : o'.dict = o.dict) : ∀ {C : Value}, IsX o C → IsX o' C := fun {C} h => by
  cases C <;> first
    | exact ⟨hc.trans h.1, hd.trans h.2⟩
    | exact hc.trans h
structure Hung (e : Addr) (oe tb : Obj) (vs : Array Value) (h h' : Heap) : Prop where
  new : h'.get? h.objs.size = some tb
  rest : ∀ b o, b ≠ e → h.get? b = some o → h'.get? b = some o
  at_ : ∃ o', h'.get? e = some o' ∧ o'.cls = oe.cls ∧ o'.dict = oe.dict ∧ o'.data = .fields (vs.setIfInBounds 1 (.ref h.objs.size))
theorem Hung.mk' {e : Addr} {oe tb : Obj} {vs : Array Value} {h : Heap} (he : h.get? e = some oe) (hd : oe.data = .fields vs) (ht : tb.isFreed = false) : Hung e oe tb vs h ((h.push tb).update e (Obj.mapFields (·.setIfInBounds 1 (.ref h.objs.size)))) := by
  obtain ⟨c, d, x, sl⟩ := oe
  cases hd
  have ne := Nat.ne_of_lt (Heap.lt_size he)
  exact ⟨Heap.get?_update_of_ne _ ne (Heap.get?_push_size _ ht), fun b o hb q => Heap.get?_update_of_ne _ (Ne.symm hb) (Heap.get?_push_of_some _ q), _, Heap.get?_update_self _ (Heap.get?_push_of_some _ he) rfl, rfl, rfl, rfl⟩
theorem entryX {base : Heap} {env : Env} {outer : List Env} {L e : Addr} {oe : Obj} {vs : Array Value} {head a0 : Value} {hadNext : Bool} {Q : Unit → Shared → Prop} (hfr : A.frames = some (env :: outer)) (hl : s.heap.FunFrames base (env :: outer)) (hf : env.frame = some L) (he : s.heap.get? e = some oe) (hkb : base.StaysIn s.heap) (hen : base.get? e = none) (hd : oe.data = .fields vs) (hsz : 1 < vs.size) (h0 : vs[0]? = some a0)
    (h : ∀ h', Heap.NotedW base (env :: outer) e oe.cls a0 (rawInt L) s.heap h' → (∃ o', h'.get? e = some o' ∧ o'.dict = oe.dict) → Q () { s with heap := h' }) : wpAny M A (do let a ← frameOf env; let pl ← entryPlaceOf L hadNext; let b ← EntryCells.newEntry head a .none (rawInt L) .none pl; setField (.ref e) 1 b) Q E s := by
  have plain : ∀ {b : Addr} {o : Obj}, s.heap.get? b = some o → (∀ ws, o.data ≠ .fields ws) → b ≠ e := fun q n z => by cases (z ▸ q).symm.trans he; exact n vs hd
  have apart : e ∉ (env :: outer).filterMap (·.frame) := fun m => let ⟨_, _, q, n⟩ := hl.mem m; plain q n rfl
  refine wpAny_bind (wpAny_frameOf_fun hfr hl hf fun hp S => wpAny_bind (wpAny_entryPlaceOf fun pl place => wpAny_bind (wpAny_newObj_type ?_ (place.sizeOk5 _ _ _ _ _))))
  have there := (S.2.1 e apart).trans he
  have low : base.StaysIn hp := fun b o q => (S.2.1 b fun m => nomatch (hl.mem m).1.symm.trans q).trans (hkb b o q)
  refine wpAny_setField (Heap.get?_push_of_some _ there) hd hsz ?_
  have U := Hung.mk' (tb := ⟨.type "traceback", none, .fields ([head, .ref L, .none, rawInt L, .none] ++ (if pl.isEmpty then List.replicate 6 Value.none else pl)).toArray, #[]⟩) there hd rfl
  obtain ⟨o', q1, q2, q3, q4⟩ := U.at_
  have kept : ∀ b o, s.heap.get? b = some o → (∀ ws, o.data ≠ .fields ws) → ∃ sl, _ := fun b o q n => let ⟨sl, z⟩ := S.2.2 b o q; ⟨sl, U.rest b _ (plain q n) z⟩
  refine h _ ⟨fun b o q => U.rest b o (fun z => nomatch (z ▸ hen).symm.trans q) (low b o q), hl.of_keeps fun b o q n => let ⟨_, z⟩ := kept b o q n; ⟨_, z, rfl⟩, ⟨o', _, hp.objs.size, _, _, q1, ⟨q2, ?_⟩, q4, ?_, low.fresh, (Nat.ne_of_lt (Heap.lt_size there)).symm, U.new, rfl, ?_⟩, kept⟩ ⟨o', q1, q3⟩
  · rw [Array.getElem?_setIfInBounds_ne (by decide), h0]
  · rw [Array.getElem?_setIfInBounds_self_of_lt hsz]
  · rw [List.getElem?_toArray]; rfl
theorem note_end {v : Value} {h' : Heap} {l ch : List Addr} {a0 : Value} {ox : Obj} (I : Inv X [] σ H s) (hex : X.ex = []) (y : Yg X H x) (hx : x ∈ ch) (hl : l = ch ++ frs X.stack) (iX : IsX ox C)
    (hch : ∀ b ∈ ch, Yg X H b ∧ ∃ o vs, s.heap.get? b = some o ∧ o.data = .fields vs) (N : Heap.NotedW (hidE s l) X.stack x ox.cls a0 v s.heap h') (hdc : ∃ o', h'.get? x = some o' ∧ o'.dict = ox.dict) :
    Inv X [] σ H { s with heap := h' } ∧ FlyO X H h' x C (some v) := by
  obtain ⟨n1, n2, n3, n4⟩ := N
  subst hl
  have frd : ∀ b o, s.heap.get? b = some o → b ∈ frs X.stack → ∀ vs, o.data ≠ .fields vs := fun b o e hb => by
    obtain ⟨_, o', eo, hd⟩ := I.stack.mem hb
    rw [e] at eo; cases eo
    exact hd
  refine ⟨I.noted (ch := ch) hch (fun b o e hb hs => n1 b o (PySem.W.hideAll_get _ e fun z => (List.mem_append.mp z).elim hb hs)) (fun b o e hb => n4 b o e (frd b o e hb)), y, ?_⟩
  obtain ⟨oe, vs, T, oT, ts, e, ⟨c, v0⟩, d, r1, r2, r3, r4, r5, r6⟩ := n3
  obtain ⟨o', eo', dd⟩ := hdc
  rw [e] at eo'; cases eo'
  refine ⟨oe, vs, a0, e, IsX.eqv c dd iX, d, v0, T, oT, ts, r1, r3, ?_, r4, r5, r6⟩
  cases q : s.heap.get? T with
  | none => exact I.young hex q
  | some o =>
    by_cases hT : T ∈ ch
    · exact (hch T hT).1
    · by_cases hf : T ∈ frs X.stack
      · exfalso
        obtain ⟨sl, z⟩ := n4 T o q (frd T o q hf)
        rw [r4] at z; cases z
        exact frd T o q hf ts r5
      · have := PySem.W.hideAll_get (ch ++ frs X.stack) q fun z => (List.mem_append.mp z).elim hT hf
        rw [show PySem.W.hideAll s.heap (ch ++ frs X.stack) = hidE s (ch ++ frs X.stack) from rfl, r2] at this; cases this
theorem note_ok {fl : Option Value} {L : Addr} {Q : Unit → Shared → Prop} (I : Inv X [] σ H s) (hex : X.ex = []) (hfr : A.frames = some X.stack) (hst : X.stack = X.env :: X.outer) (hL : X.env.frame = some L)
    (F : FlyO X H s.heap x C fl) (hfl : fl = none ∨ fl = some .none ∨ fl = some (rawInt L))
    (k : ∀ s', Inv X [] σ H s' → FlyO X H s'.heap x C (some (rawInt L)) → Q () s') : wpAny M A (noteFrame (.ref x) X.env) Q E s := by
  have hidS : ∀ l, (hidE s l).StaysIn s.heap := fun l b o e => PySem.W.of_hideAll l e
  have hidN : ∀ l b, b ∈ l → (hidE s l).get? b = none := fun l b hb => PySem.W.hideAll_none l hb
  have hidF : ∀ ch, s.heap.FunFrames (hidE s (ch ++ frs X.stack)) X.stack := fun ch => frames_base I.stack fun b hb => hidN _ b (List.mem_append_right _ hb)
  obtain ⟨y, oe, vs, a0, e, c, d, v0, r⟩ := id F
  rcases hfl with rfl | rfl | rfl
  · have hch : ∀ b ∈ [x], Yg X H b ∧ ∃ o vs, s.heap.get? b = some o ∧ o.data = .fields vs := fun b hb => by
      have z : b = x := by simpa using hb
      rw [z]; exact ⟨y, oe, vs, e, d⟩
    have r' : vs[1]? = some Value.none := r
    unfold noteFrame
    simp only [hL]
    refine wpAny_bind (wpAny_field e d r' ?_)
    rw [if_neg (by decide)]
    refine entryX (base := hidE s ([x] ++ frs X.stack)) (outer := X.outer) (by rw [hfr, hst]) (by rw [← hst]; exact hidF [x]) hL e (hidS _) (hidN _ x (by simp)) d (Array.getElem?_eq_some_iff.mp r').1 v0 fun h' N hdc => ?_
    rw [← hst] at N
    obtain ⟨I', F'⟩ := note_end I hex y (by simp) rfl c hch N hdc
    exact k _ I' F'
  · obtain ⟨T, oT, ts, r1, r2, r3, r4, r5, r6⟩ := id r
    have hch : ∀ b ∈ [x, T], Yg X H b ∧ ∃ o vs, s.heap.get? b = some o ∧ o.data = .fields vs := fun b hb => by
      have z : b = x ∨ b = T := by simpa using hb
      rcases z with z | z
      · rw [z]; exact ⟨y, oe, vs, e, d⟩
      · rw [z]; exact ⟨r3, oT, ts, r4, r5⟩
    unfold noteFrame
    simp only [hL]
    refine wpAny_bind (wpAny_field e d r1 ?_)
    rw [if_pos (show (Value.ref T != Value.none) = true from by simp)]; refine wpAny_bind (wpAny_field r4 r5 r6 ?_)
    rw [if_neg (show ¬ ((Value.none == rawInt L) = true) from by simp [rawInt])]; refine wpAny_bind (wpAny_setField r4 r5 (Array.getElem?_eq_some_iff.mp r6).1 ?_)
    have oth : ∀ b, b ≠ T → (s.heap.update T (Obj.mapFields (·.setIfInBounds 3 Value.none))).get? b = s.heap.get? b := fun b hb => Heap.get?_update_other _ _ (Ne.symm hb)
    have nrec : ∀ b o, s.heap.get? b = some o → (∀ vs, o.data ≠ .fields vs) → b ≠ T := fun b o hb hnf q => by
      rw [q, r4] at hb; cases hb; exact hnf ts r5
    have hidT : (hidE s ([x, T] ++ frs X.stack)).get? T = none := hidN _ T (by simp)
    refine entryX (s := { s with heap := s.heap.update T (Obj.mapFields (·.setIfInBounds 3 Value.none)) }) (base := hidE s ([x, T] ++ frs X.stack)) (outer := X.outer) (by rw [hfr, hst]) (by rw [← hst]; exact (hidF [x, T]).of_keeps fun b o hb hnf => ⟨o, (oth b (nrec b o hb hnf)).trans hb, rfl⟩) hL ((oth x (Ne.symm r2)).trans e)
      (fun b o hbo => (oth b fun q => by rw [q, hidT] at hbo; cases hbo).trans (hidS _ b o hbo)) (hidN _ x (by simp)) d (Array.getElem?_eq_some_iff.mp r1).1 v0 fun h' N hdc => ?_
    rw [← hst] at N
    obtain ⟨x1, x2, x3, x4⟩ := N
    obtain ⟨I', F'⟩ := note_end I hex y (by simp) rfl c hch ⟨x1, x2, x3, fun b o hb hnf => x4 b o ((oth b (nrec b o hb hnf)).trans hb) hnf⟩ hdc
    exact k _ I' F'
  · obtain ⟨T, oT, ts, r1, r2, r3, r4, r5, r6⟩ := id r
    refine wpAny_noteFrame_againW (base := hidE s ([x, T] ++ frs X.stack)) (cls := oe.cls) (a0 := a0) hL ?_ (k s I F)
    exact ⟨oe, vs, T, oT, ts, e, ⟨rfl, v0⟩, d, r1, hidN _ T (by simp), r2, r4, r5, r6⟩
end
def FlyE (X : Cx) (Ex : St → Value → Hp → Prop) : Value → Shared → Prop := fun e s' =>
  ∃ (x : Addr) (C : Value) (fl : Option Value) (σ : St) (H : Hp), e = .ref x ∧ Inv X [] σ H s' ∧ FlyO X H s'.heap x C fl ∧ (fl = none ∨ fl = some .none ∨ fl = some (rawInt X.env.locals)) ∧ Ex σ C H
def CXE (P : Program) (w : World) : CXT := fun outer H s E e s' =>
  ∃ (x : Addr) (C : Value) (H' : Hp), e = .ref x ∧ s'.os = s.os ∧ AllBare s'.gens ∧ Un (frs outer) [] H H' s.heap s'.heap ∧ HOk P w H' s'.heap ∧ s.heap.get? x = none ∧ H' x = none ∧
    (∃ oe vs a0 T oT ts, s'.heap.get? x = some oe ∧ IsX oe C ∧ oe.data = .fields vs ∧ vs[0]? = some a0 ∧ vs[1]? = some (.ref T) ∧ T ≠ x ∧ s.heap.get? T = none ∧ H' T = none ∧ s'.heap.get? T = some oT ∧ oT.data = .fields ts ∧ ts[3]? = some .none) ∧
    E C none H'
structure Body (X : Cx) : Prop where
  ex : X.ex = []
  st : X.stack = X.env :: X.outer
  fr : X.env.frame = some X.env.locals
section
variable {X : Cx} {Ex : St → Value → Hp → Prop}
theorem fly_passes (B : Body X) {A : Around} (hfr : A.frames = some X.stack) : ∀ e s', FlyE X Ex e s' → notedBy (model X.prog X.w) A X.env (cameBackBy (model X.prog X.w) A X.env (FlyE X Ex)) e s' := by
  rintro e s' ⟨x, C, fl, σ, H, rfl, I, F, hfl, q⟩
  refine note_ok (L := X.env.locals) I B.ex hfr B.st B.fr F hfl fun s1 I1 F1 => ?_
  obtain ⟨y, oe, vs, a0, e1, c, d, v0, T, oT, ts, r1, r2, r3, r4, r5, r6⟩ := id F1
  refine wpAny_bind (wpAny_field e1 d r1 ?_)
  rw [if_neg (by simp)]
  refine flight_ok I1 F1 fun s2 I2 F2 => ⟨x, C, _, σ, H, rfl, I2, F2, .inr (.inr ?_), q⟩
  rw [B.fr]; rfl
theorem passE (B : Body X) (ok : X.A.frames = some X.stack) : PassesOwn (model (X.wish (FlyE X Ex)).prog (X.wish (FlyE X Ex)).w) (X.wish (FlyE X Ex)).A (X.wish (FlyE X Ex)).env (X.wish (FlyE X Ex)).xe := fun e s' h => fly_passes B ok e s' h
theorem PSs.more {E1 : Value → Shared → Prop} {st : List Stmt} {t : TS} (h : PSs (X.wish E1) st t) (hE : ∀ e s, E1 e s → X.xe e s) : PSs X st t := fun pins s σ H D I hw =>
  wpAny_mono (h pins s σ H D (I.wish _) hw) (fun _ _ q => q.unwish) fun e s z => hE e s z
end
theorem fly_leaves {P : Program} {w : World} {K : PySem.W.Frag} {mg : Str → Option Value} {base : Heap} {N : List Str} {qual : Str} {scope : Scope} {f : Addr} {cd : Value} {A : Around} {outer : List Env} {s : Shared} {H : Hp} {E : XK}
    (B : Body (cxOf (CXE P w) P w K mg base N qual scope f cd A outer s H E)) : ∀ e s', FlyE (cxOf (CXE P w) P w K mg base N qual scope f cd A outer s H E) (fun _ C H' => E C none H') e s' → (cxOf (CXE P w) P w K mg base N qual scope f cd A outer s H E).xe e s' := by
  rintro e s' ⟨x, C, fl, σ, H1, rfl, I, F, hfl, q⟩
  show wpAny _ _ (leaving _ _) _ _ s'
  unfold leaving
  refine wpAny_bind (note_ok I B.ex I.ok.frames B.st B.fr F hfl fun s1 I1 F1 => ?_)
  refine flight_ok I1 F1 fun s2 I2 F2 => ?_
  obtain ⟨y, oe, vs, a0, e1, c, d, v0, T, oT, ts, r1, r2, r3, r4, r5, r6⟩ := id F2
  exact ⟨x, C, H1, rfl, I2.os, I2.bare, I2.base, I2.hok, y.1, y.2.1, ⟨oe, vs, a0, T, oT, ts, e1, c, d, v0, r1, r2, r3.1, r3.2.1, r4, r5, r6⟩, q⟩
section
variable {P : Program} {w : World} {K : PySem.W.Frag} {mg : Str → Option Value} {base : Heap}
abbrev cxE (P : Program) (w : World) (K : PySem.W.Frag) (mg : Str → Option Value) (base : Heap) (N : List Str) (qual : Str) (scope : Scope) (f : Addr) (cd : Value) (A : Around) (outer : List Env) (s : Shared) (H : Hp) (E : XK) : Cx :=
  (cxOf (CXE P w) P w K mg base N qual scope f cd A outer s H E).wish (FlyE (cxOf (CXE P w) P w K mg base N qual scope f cd A outer s H E) (fun _ C H' => E C none H'))
theorem Fun.okE {x qual : Str} {st : Stmt} {f : Addr} {fd : FuncData} {N ps : List Str} {k : Nat} {sp : Sp} (F : Fun K x qual st f fd) (S : FnScope N ps (defScope st)) (len : ∀ vs H Q E, sp vs H Q E → vs.length = ps.length)
    (hbody : ∀ (cdv : Value) (A : Around) (outer : List Env) (s : Shared) (H : Hp) (vs : List V) (Q : VK) (E : XK), Room k (A.deeper (envOfC qual (defScope st) s.heap.objs.size f cdv)) → sp vs H Q E →
      ∃ t, PSs (cxE P w K mg base N qual (defScope st) f cdv A outer s H E) (defBody st) t ∧ t { nx := fun _ H' => Q .non H', rt := Q } (start N vs) H) : FnOk P w K mg base (CXE P w) (k + 1) f fd ps sp := by
  obtain ⟨oc, od, kV, doc, pm, an, cdv, ct, osl, rfl, lk, hcd⟩ := F.ex
  refine fn_of lk hcd S len fun A outer s H vs Q E hr hsp => ?_
  obtain ⟨t, h, q⟩ := hbody cdv A outer s H vs Q E hr hsp
  exact ⟨t, h.more (fly_leaves ⟨rfl, rfl, rfl⟩), q⟩
theorem bodyE {N : List Str} {qual : Str} {scope : Scope} {f : Addr} {cd : Value} {A : Around} {outer : List Env} {s : Shared} {H : Hp} {E : XK} : Body (cxOf (CXE P w) P w K mg base N qual scope f cd A outer s H E) := ⟨rfl, rfl, rfl⟩
end
section
variable {X : Cx} {Ex : St → Value → Hp → Prop}
theorem ps_forE {tg iter : Expr} {body : List Stmt} {wi : TI} {g : TG} {tb : TS} {pos : Pos} (B : Body X) (hc : X.calm = true) (hi : PI (X.wish (FlyE X Ex)) tg iter wi) (hg : PG (X.wish (FlyE X Ex)) tg g) (hb : PSs (X.wish (FlyE X Ex)) body tb)
    (hs : ∀ x, foldedSetIterable iter X.env x = pure x := by intro _; rfl) : PS (X.wish (FlyE X Ex)) (.For tg iter body [] pos) (tFor wi g tb) := fun pins s σ H D I h =>
  ps_for (X := X.wish (FlyE X Ex)) (passE B I.unwish.ok.frames) hc hi hg hb hs pins s σ H D I h
def DefE (P : Program) (w : World) (K : PySem.W.Frag) (mg : Str → Option Value) (base : Heap) (k : Nat) (x : Str) (ps : List Str) (sp : Sp) : Prop :=
  ∃ f fd, FnOk P w K mg base (CXE P w) k f fd ps sp ∧ mg x = some (.ref f) ∧ PySem.W.keepIn K (.ref f) = true ∧ Binds K fd ps []
theorem DefE.of {P : Program} {w : World} {K : PySem.W.Frag} {mg : Str → Option Value} {base : Heap} {k : Nat} {x qual : Str} {ps : List Str} {sp : Sp} {st : Stmt} {f : Addr} {fd : FuncData}
    (F : Fun K x qual st f fd) (m : mg x = some (.ref f)) (b : Binds K fd ps []) (ok : FnOk P w K mg base (CXE P w) k f fd ps sp) : DefE P w K mg base k x ps sp := ⟨f, fd, ok, m, F.kp, b⟩
theorem fly_call {pins : List (Addr × Obj)} {σ : St} {H : Hp} {s s' : Shared} {e : Value} {E : XK} (hex : X.ex = []) (I : Inv X pins σ H s) (hE : ∀ C H', E C none H' → Ex σ C H') (h : CXE X.prog X.w X.stack H s E e s') : FlyE X Ex e s' := by
  obtain ⟨x, C, H', rfl, os, bare, un, hok, nx, hx, ⟨oe, vs, a0, T, oT, ts, e1, c, d, v0, v1, nT, sT, hT, eT, dT, t3⟩, q⟩ := h
  have y := I.young hex nx
  have z := I.young hex sT
  exact ⟨x, C, some .none, σ, H', rfl, I.bareP.call' (ch := []) os un hok bare (fun b hb => nomatch hb), ⟨⟨y.1, hx, y.2.2⟩, oe, vs, a0, e1, c, d, v0, T, oT, ts, v1, nT, ⟨z.1, hT, z.2.2⟩, eT, dT, t3⟩, .inr (.inl rfl), hE _ _ q⟩
theorem run_fnE {k : Nat} {f : Addr} {fd : FuncData} {ps : List Str} {sp : Sp} {pins : List (Addr × Obj)} {σ : St} {H : Hp} {s : Shared} {Q : VK} {us : List Value} {vs : List V} (F : FnOk X.prog X.w X.K X.mg X.base (CXE X.prog X.w) k f fd ps sp) (hr : Room k X.A) (hb : Binds X.K fd ps [])
    (hex : X.ex = []) (I : Inv X pins σ H s) (r : Vals vs us) (h : sp vs H Q fun C _ H' => Ex σ C H') : wpAny (model X.prog X.w) X.A (call (.ref f) us) (EP (X.wish (FlyE X Ex)) pins σ Q) (FlyE X Ex) s := by
  have hl : (us ++ []).length = ps.length := by rw [List.append_nil, ← r.length]; exact F.len _ _ _ _ h
  have bt := hb s us I.kIn hl
  rw [List.append_nil] at bt
  refine wpAny_call (codeAny_mono (F.run X.A X.stack s H ⟨us, []⟩ us vs Q _ hr I.env0 bt r h) fun r s' hq => ?_)
  cases r with
  | error e => exact fly_call (E := fun C _ H' => Ex σ C H') hex I (fun _ _ z => z) hq
  | ok fl =>
    cases fl with
    | ret u =>
      obtain ⟨v, H', I', rv, q⟩ := I.after hq
      exact ⟨v, H', I'.wish _, rv, q⟩
    | next => exact False.elim hq
    | brk => exact False.elim hq
    | cont => exact False.elim hq
def tCallE (sp : Sp) (Ex : St → Value → Hp → Prop) (t : TA) : TE := fun σ H Q => t σ H fun vs H1 => sp vs H1 Q fun C _ H' => Ex σ C H'
theorem pe_defE {k k' : Nat} {x : Str} {ps : List Str} {sp : Sp} {e : Expr} {es : List Expr} {t : TA} {p pos : Pos} (D : DefE X.prog X.w X.K X.mg X.base k x ps sp) (hr : Room k' X.A) (hex : X.ex = []) (hg : Gl X x) (ha : PA (X.wish (FlyE X Ex)) (e :: es) t) (hk : k ≤ k' := by decide)
    (hdb : (x == ("__debug__" : Str)) = false := by decide) (he : starEach (e :: es) X.env = (false, eval e X.env) :: starEach es X.env := by rfl) (hpl : (backTo pos (starEach es X.env)).any (·.1) = false := by rfl) :
    PE (X.wish (FlyE X Ex)) (.Call (.Name x p) (e :: es) [] pos) (tCallE sp Ex t) := by
  obtain ⟨f, fd, F, m, kp, b⟩ := D
  intro pins s σ H Q I h
  refine wpAny_Call_Name_kw (ld_glob I hg m ?_ hdb)
  refine PySem.W.callWith_K (h₀ := X.base) I.ok.mod.kin kp (thn (ha pos pins s σ H _ I h) fun us s1 ⟨vs, H1, I1, r, q⟩ => ⟨I1.kIn, ?_⟩) he hpl
  exact run_fnE F (hr.mono hk) b hex I1.unwish r q
end
end L2
namespace L2
open PySem PySem.Spec PyProof.Rows
abbrev vErr : List Value := [.type "ValueError", .type "Exception", .type "BaseException", .type "object"]
def IsExc (K : PySem.W.Frag) (C : Addr) : Prop := PySem.W.excIn K C vErr "ValueError.__new__" = true
theorem IsExc.obj {K : PySem.W.Frag} {C : Addr} (q : IsExc K C) {h : Heap} (X : K.In h) : ∃ bm N nm qn bs hd sn sub ab col dd k0 k1 k2 k3 k5 mN,
    h.get? C = some (excClassObj nm qn C N bs bm hd sn sub ab col dd k0 k1 k2 k3 k5 "ValueError.__new__") ∧ h.Ns N mN ∧ mN "__init__" = none ∧ OwnTail h vErr bm ∧ PySem.W.mroIn K C = fun b => some ((Value.ref C :: bm).contains b) := by
  unfold IsExc PySem.W.excIn at q
  split at q
  · next dct cd sl look =>
    split at q
    · next C' tl s0 s1 s2 s3 nn s5 em es =>
      simp only [Bool.and_eq_true, beq_iff_eq, Bool.not_eq_true'] at q
      obtain ⟨⟨⟨⟨⟨e1, e2⟩, e3⟩, e4⟩, e5⟩, e6⟩ := q
      subst e1; subst e2
      have hc : PySem.W.clsIn K C' = some cd := by unfold PySem.W.clsIn; rw [look]
      have hm : PySem.W.mroIn K C' = fun b => some ((Value.ref C' :: tl).contains b) := by
        funext b
        unfold PySem.W.mroIn
        rw [hc, Option.bind_some, em]
        rfl
      obtain ⟨z1, z2, z3, z4, z5, z6, z7, z8, z9, z10, z11⟩ := cd
      dsimp only at em e3 e5 e6
      subst em; subst e3
      obtain ⟨ll⟩ := sl
      simp only at es
      subst es
      exact ⟨tl, _, _, _, _, _, _, _, _, _, _, _, _, _, _, _, _, X _ _ look, .of_isNs (PySem.W.isNs_of_in X e5), PySem.W.nsMap_none_of_in X e5 e6, PySem.W.tail_of_in X e4, hm⟩
    · cases q
  · cases q
def ExcO (x : Addr) (C : Value) : Heap → Prop := fun h => ∃ o vs, h.get? x = some o ∧ IsX o C ∧ o.data = .fields vs
section
variable {X : Cx} {Ex : St → Value → Hp → Prop}
def tRaise (C : Addr) (Ex : St → Value → Hp → Prop) (ta : TA) : TS := fun _ σ H => ta σ H fun vs H1 => vs.length ≤ sizeLine ∧ Ex σ (.ref C) H1
theorem ps_raise {x : Str} {C : Addr} {e : Expr} {es : List Expr} {ta : TA} {np cpos pos : Pos} (hc : X.calm = true) (hex : X.ex = []) (hg : Gl X x) (hm : X.mg x = some (.ref C)) (q : IsExc X.K C) (ha : PA (X.wish (FlyE X Ex)) (e :: es) ta)
    (hd : (x == ("__debug__" : Str)) = false := by decide) (he : starEach (e :: es) X.env = (false, eval e X.env) :: starEach es X.env := by rfl) (hpl : (backTo cpos (starEach es X.env)).any (·.1) = false := by rfl) :
    PS (X.wish (FlyE X Ex)) (.Raise (some (.Call (.Name x np) (e :: es) [] cpos)) none pos) (tRaise C Ex ta) := by
  intro pins s σ H D I h
  obtain ⟨bm, N, nm, qn, bs, hdd, sn, sub, ab, col, dd, k0, k1, k2, k3, k5, mN, hC, hN, hni, TL, _⟩ := q.obj I.ok.mod.kin
  refine wpAny_Raise_call_subU (C := C) (nm := nm) (q := qn) (N := N) (bs := bs) (bm := bm) (hdct := hdd) (sn := sn) (sub := sub) (ab := ab) (col := col) (dd := dd) (k0 := k0) (k1 := k1) (k2 := k2) (k3 := k3) (k5 := k5)
    PySem.F.excBase_ValueError (by decide +kernel) PySem.F.excBase_ValueError (mN := mN) (TL.hasType PySem.F.excBase_ValueError.hasBase) (I.ok.hd hc) ?_ hni (ld_glob I hg hm ⟨rfl, ?_⟩ hd)
  · show (backTo cpos (starEach (e :: es) X.env)).any (·.1) = false
    rw [he]
    show (false || (backTo cpos (starEach es X.env)).any (·.1)) = false
    rw [hpl]; rfl
  · have ha' := ha cpos pins s σ H _ I h
    rw [show (X.wish (FlyE X Ex)).env = X.env from rfl] at ha' ⊢
    rw [he] at ha' ⊢
    refine Calls.evalArgs_plain (thn ha' fun us s2 ⟨vs, H1, I2, r, z, qx⟩ => ⟨rfl, by rw [← r.length]; exact z, I2.bk _ _ hC, hN.keeps I2.bk, TL.keeps I2.bk, fun h' x' mk => ?_⟩)
    have I3 := I2.unwish.bareP
    obtain ⟨t, et, _, _⟩ := mk.there
    exact ⟨x', .ref C, none, σ, H1, rfl, I3.kept (t' := s2.toks) mk.keeps, ⟨I3.young hex mk.new, _, _, _, et, rfl, rfl, rfl, rfl⟩, .inl rfl, qx⟩
end
end L2
namespace L2
open PySem PySem.Spec PyProof.Rows
section
variable {X : Cx} {σ : St} {H : Hp} {s : Shared}
theorem Inv.track {pins : List (Addr × Obj)} {x : Addr} {φ : Heap → Prop} (I : Inv X pins σ H s) (y : Yg X H x) (hp : ∀ p ∈ pins, p.1 ≠ x) (ho : ∃ o vs, s.heap.get? x = some o ∧ o.data = .fields vs) (p : φ s.heap)
    (st : ∀ h1 h2 : Heap, φ h1 → (∀ o, h1.get? x = some o → h2.get? x = some o) → φ h2) : Inv X pins σ (upd H x (.ext φ)) s := by
  obtain ⟨o, vs, eo, ed⟩ := ho
  have nH : ∀ b u, H b = some u → b ≠ x := fun b u e z => by rw [z, y.2.1] at e; cases e
  have n0 : ∀ b u, X.s₀.heap.get? b = some u → b ≠ x := fun b u e z => by rw [z, y.1] at e; cases e
  refine ⟨I.ok, I.os, I.bare, ⟨I.base.keep, I.base.slot, fun b u e n hx => by rw [upd_ne (n0 b u e)]; exact I.base.free b u e n hx, I.base.there, fun b xs e => ?_, fun b u xs e => ?_, fun b ps e => ?_⟩, I.loc, I.cell, ?_, fun n c e => ?_, fun q hq => ?_, fun b u e => ?_, I.len⟩
  · have := I.base.tups b xs e; rw [upd_ne (nH b _ this)]; exact this
  · have := I.base.frzs b u xs e; rw [upd_ne (nH b _ this)]; exact this
  · obtain ⟨m, this⟩ := I.base.tbls b ps e; exact ⟨m, by rw [upd_ne (nH b _ this)]; exact this⟩
  · obtain ⟨m, ⟨ol, _, _, el, dl, _⟩, _⟩ := I.loc
    rw [upd_ne fun z => by rw [z, eo] at el; cases el; rw [ed] at dl; cases dl]; exact I.free
  · obtain ⟨v, oc, ec, dc⟩ := I.cell n c e
    rw [upd_ne fun z => by rw [z, eo] at ec; cases ec; rw [ed] at dc; cases dc]; exact I.freeC n c e
  · obtain ⟨q1, q2, q3⟩ := I.pin q hq
    have : q.1 ≠ x := (List.mem_append.mp hq).elim (y.2.2 q) (hp q)
    exact ⟨q1, by rw [upd_ne this]; exact q2, q3⟩
  · by_cases hb : b = x
    · subst hb
      rw [upd_same] at e; cases e
      exact ⟨p, ⟨o, eo⟩, st⟩
    · rw [upd_ne hb] at e
      exact (I.hok b u e).stay (fun _ _ _ q => q) (fun c q => by rw [upd_ne (nH c _ q)]; exact q) fun c xs q => by rw [upd_ne (nH c _ q)]; exact q
end
section
variable {M : Model} {A : Around} {E : Value → Shared → Prop} {nm q nm' q' : Str} {C N C' N' : Addr} {bs bm bs' bm' : List Value} {hd hd' : Bool} {sn sn' : List Str} {sub sub' : List Value} {ab ab' : Bool} {col col' : Option Bool} {dd dd' : Option Addr}
  {k0 k1 k2 k3 k5 l0 l1 l2 l3 l5 : Option Value} {newId newId' : String}
theorem matches_own {h : Heap} {g : Array GenState} {d : Drawn} {t : Nat} {os : OsState} {e : Addr} {oe : Obj} {Q : Bool → Shared → Prop} (hC : h.get? C = some (excClassObj nm q C N bs bm hd sn sub ab col dd k0 k1 k2 k3 k5 newId))
    (hF : h.get? C' = some (excClassObj nm' q' C' N' bs' bm' hd' sn' sub' ab' col' dd' l0 l1 l2 l3 l5 newId')) (he : h.get? e = some oe) (hcls : oe.cls = .ref C) (hb : bm'.contains (.type "BaseException") = true)
    (hs : (Value.ref C :: bm).contains (.ref C') = true) (hq : Q true ⟨h, g, d, t, os⟩) : wpAny M A (excMatches (.ref e) (.ref C')) Q E ⟨h, g, d, t, os⟩ := by
  have hB : (Value.ref C' :: bm').contains (.type "BaseException") = true := by rw [List.contains_cons, hb, Bool.or_true]
  have f := tc_notTuple
  unfold excMatches
  repeat (first | (with_reducible refine wpAny_loadPart_at he ?_; rw [hcls]) | with_reducible refine wpAny_loadPart_at hF ?_ | (with_reducible refine wpAny_isSubtype_exc hF ?_; rw [hB]) | (with_reducible refine wpAny_isSubtype_exc hC ?_; rw [hs]) | wp_step)
  exact hq
end
def tTry (K : PySem.W.Frag) (i : Nat) (CF : Addr) (tb : (St → Value → Hp → Prop) → TS) (ts : TS) : TS := fun D σ H => ∃ Ex : St → Value → Hp → Prop, tb Ex D σ H ∧ ∀ σ' C H', Ex σ' C H' →
  ∃ A, C = .ref A ∧ IsExc K A ∧ PySem.W.mroIn K A (.ref CF) = some true ∧ ∀ x, H' x = none → ts { D with nx := fun σ2 H2 => D.nx (σ2.set i none) H2, bk := fun σ2 H2 => D.bk (σ2.set i none) H2, ct := fun σ2 H2 => D.ct (σ2.set i none) H2 } (σ'.set i (some (.ref x))) (upd H' x (.ext (ExcO x C)))
section
variable {X : Cx}
theorem Inv.pn {pins : List (Addr × Obj)} {σ : St} {H : Hp} {s : Shared} (I : Inv X pins σ H s) : Inv { X with pn := X.pn ++ pins } [] σ H s :=
  ⟨⟨I.ok.mod, I.ok.kind, I.ok.glob, I.ok.blt, I.ok.above, I.ok.inj, I.ok.has, I.ok.cab, I.ok.hd, I.ok.frames, I.ok.stk, I.ok.exf, I.ok.bs, I.ok.bsz, I.ok.noex, I.ok.exfs, I.ok.funs, I.ok.frf⟩, I.os, I.bare, I.base, I.loc, I.cell, I.free, I.freeC, fun p hp => I.pin p (by simpa using hp), I.hok, I.len⟩
theorem Inv.unpn {pins : List (Addr × Obj)} {σ : St} {H : Hp} {s : Shared} (I : Inv { X with pn := X.pn ++ pins } [] σ H s) : Inv X pins σ H s :=
  ⟨⟨I.ok.mod, I.ok.kind, I.ok.glob, I.ok.blt, I.ok.above, I.ok.inj, I.ok.has, I.ok.cab, I.ok.hd, I.ok.frames, I.ok.stk, I.ok.exf, I.ok.bs, I.ok.bsz, I.ok.noex, I.ok.exfs, I.ok.funs, I.ok.frf⟩, I.os, I.bare, I.base, I.loc, I.cell, I.free, I.freeC, fun p hp => I.pin p (by simpa using hp), I.hok, I.len⟩
abbrev Cx.held (X : Cx) (x : Addr) : Cx := { X with A := X.A.mark (some (.ref x)), calm := false }
theorem Inv.held {pins : List (Addr × Obj)} {σ : St} {H : Hp} {s : Shared} (I : Inv X pins σ H s) (x : Addr) : Inv (X.held x) pins σ H s :=
  ⟨⟨I.ok.mod, I.ok.kind, I.ok.glob, I.ok.blt, I.ok.above, I.ok.inj, I.ok.has, I.ok.cab, fun z => (Bool.false_ne_true z).elim, I.ok.frames, I.ok.stk, I.ok.exf, I.ok.bs, I.ok.bsz, I.ok.noex, I.ok.exfs, I.ok.funs, I.ok.frf⟩, I.os, I.bare, I.base, I.loc, I.cell, I.free, I.freeC, I.pin, I.hok, I.len⟩
theorem Inv.unheld {pins : List (Addr × Obj)} {σ : St} {H : Hp} {s : Shared} {x : Addr} (hd : X.calm = true → X.A.handled = none) (hf : X.A.frames = some X.stack) (I : Inv (X.held x) pins σ H s) : Inv X pins σ H s :=
  ⟨⟨I.ok.mod, I.ok.kind, I.ok.glob, I.ok.blt, I.ok.above, I.ok.inj, I.ok.has, I.ok.cab, hd, hf, I.ok.stk, I.ok.exf, I.ok.bs, I.ok.bsz, I.ok.noex, I.ok.exfs, I.ok.funs, I.ok.frf⟩, I.os, I.bare, I.base, I.loc, I.cell, I.free, I.freeC, I.pin, I.hok, I.len⟩
theorem unbind_ok {M : Model} {A : Around} {E : Value → Shared → Prop} {pins : List (Addr × Obj)} {σ : St} {H : Hp} {s : Shared} {i : Nat} {n : Str} {pos : Pos} {Q : Unit → Shared → Prop} (I : Inv X pins σ H s) (hN : X.N.Nodup) (hi : X.N[i]? = some n) (hl : X.env.scope.names.lookup n = some .local)
    (k : ∀ s', Inv X pins (σ.set i none) H s' → Q () s') : wpAny M A (do bindName X.env n .none; unbindBehindTheSuite X.env n pos) Q E s := by
  obtain ⟨m, hn, hlk⟩ := id I.loc
  have hcls : (X.env.scope.kind == .class || (X.env.scope.kind == .module && X.env.locals != X.env.globals)) = false := by rw [I.ok.kind]; rfl
  have hiσ : i < σ.length := by rw [I.len]; exact (List.getElem?_eq_some_iff.mp hi).1
  refine wpAny_nameGoes_keeps hl hn hcls fun h' v hn' sb => k _ ?_
  have ne0 : ∀ b o, X.s₀.heap.get? b = some o → b ≠ X.env.locals := fun b o e => Nat.ne_of_lt (Nat.lt_of_lt_of_le (Heap.lt_size e) I.ok.above)
  refine ⟨I.ok, I.os, I.bare, ⟨fun b o e n hb hx => ?_, fun b o e n hb hx => ?_, I.base.free, fun b o e hx => ?_, I.base.tups, I.base.frzs, I.base.tbls⟩, ⟨_, hn', fun j y v' e1 e2 e3 => ?_⟩, fun y c e => ?_, I.free, I.freeC, fun p hp => ?_, fun b u e => ?_, by simpa using I.len⟩
  · exact (sb.2 b (ne0 b o e)).trans (I.base.keep b o e n hb hx)
  · obtain ⟨sl, e1⟩ := I.base.slot b o e n hb hx
    exact ⟨sl, (sb.2 b (ne0 b o e)).trans e1⟩
  · obtain ⟨o', e1⟩ := I.base.there b o e hx
    exact ⟨o', (sb.2 b (ne0 b o e)).trans e1⟩
  · by_cases hj : i = j
    · subst hj
      rw [List.getElem?_set_self hiσ] at e2
      cases e2
    · rw [List.getElem?_set_ne hj] at e2
      obtain ⟨u', r', q⟩ := hlk j y v' e1 e2 e3
      refine ⟨u', r', ?_⟩
      have hne : y ≠ n := fun e => hj (nodup_ix hN hi (e ▸ e1))
      rcases q with ⟨k1, e⟩ | ⟨k1, c, e, z⟩
      · exact .inl ⟨k1, by simp [hne, e]⟩
      · exact .inr ⟨k1, c, e, z.sameBut sb (I.cne y c e)⟩
  · obtain ⟨w', z⟩ := I.cell y c e
    exact ⟨w', z.sameBut sb (I.cne y c e)⟩
  · obtain ⟨e, n', ne, nf, d⟩ := I.pin p hp
    exact ⟨(sb.2 p.1 ne).trans e, n', ne, nf, d⟩
  · refine (I.hok b u e).stay (fun c v' hc q => (sb.2 c ?_).trans q) (fun _ q => q) fun _ _ q => q
    intro z
    have fr := I.free
    rcases hc with hc | hc
    · rw [← z, hc, e] at fr; cases fr
    · rw [← z, hc] at fr; cases fr
theorem ps_tryE {body : List Stmt} {xn n : Str} {b₀ : Stmt} {suite : List Stmt} {np hpos pos : Pos} {tb : (St → Value → Hp → Prop) → TS} {ts : TS} {i : Nat} {CF : Addr} (B : Body X) (hN : X.N.Nodup) (hi : X.N[i]? = some n) (hl : X.env.scope.names.lookup n = some .local)
    (hg : Gl X xn) (hm : X.mg xn = some (.ref CF)) (qF : IsExc X.K CF) (hb : ∀ pn Ex, PSs (({ X with pn := pn } : Cx).wish (FlyE { X with pn := pn } Ex)) body (tb Ex))
    (hs : ∀ x, PSs ((X.held x).nox) (b₀ :: suite) ts) (hd : (xn == ("__debug__" : Str)) = false := by decide) :
    PS X (.Try body [.ExceptHandler (some (.Name xn np)) (some n) (b₀ :: suite) hpos] [] [] pos) (tTry X.K i CF tb ts) := by
  intro pins s σ H D I h
  obtain ⟨Ex, h1, h2⟩ := h
  refine wpAny_Try_except (wpAny_mono (hb _ Ex [] s σ H D (I.pn.wish _) h1) (fun f s1 q => ?_) fun e s1 q => ?_)
  · cases f with
    | next => obtain ⟨σ', H', J, z⟩ := q; exact wpAny_execs_nil ⟨σ', H', J.unwish.unpn, z⟩
    | brk => obtain ⟨σ', H', J, z⟩ := q; exact ⟨σ', H', J.unwish.unpn, z⟩
    | cont => obtain ⟨σ', H', J, z⟩ := q; exact ⟨σ', H', J.unwish.unpn, z⟩
    | ret u => obtain ⟨v, σ', H', J, r, z⟩ := q; exact ⟨v, σ', H', J.unwish.unpn, r, z⟩
  · obtain ⟨x, C, fl, σ', H', rfl, J, F, hfl, q⟩ := q
    obtain ⟨A, rfl, qA, hsub, k⟩ := h2 σ' C H' q
    refine note_ok (X := { X with pn := X.pn ++ pins }) (L := X.env.locals) J B.ex J.ok.frames B.st B.fr F hfl fun s2 J2 F2 => flight_ok J2 F2 fun s3 J3 F3 => ?_
    obtain ⟨bm, N, nm, qn, bs, hdd, sn, sub, ab, col, dd, k0, k1, k2, k3, k5, mN, hC, hNs, hni, TL, hmro⟩ := qA.obj J3.kIn
    obtain ⟨bm', N', nm', qn', bs', hdd', sn', sub', ab', col', dd', l0, l1, l2, l3, l5, mN', hF, _, _, TF, _⟩ := qF.obj J3.kIn
    obtain ⟨y, oe, vs, a0, e1, c1, _⟩ := id F3
    have cont : (Value.ref A :: bm).contains (.ref CF) = true := by rw [hmro] at hsub; exact Option.some.inj hsub
    refine wpAny_handleBy_cons (codeAny_handlers_test (ld_glob (X := X.held x) (J3.unpn.held x) hg hm ?_ hd)) (by intro z; cases z)
    obtain ⟨hp3, g3, d3, t3, os3⟩ := s3
    refine matches_own hC hF e1 c1 (TF.hasType PySem.F.excBase_ValueError.hasBase) cont (codeAny_handlers_suite_as ?_)
    refine flight_ok J3 F3 fun s4 J4 F4 => ?_
    obtain ⟨y4, oe4, vs4, a4, e4, c4, d4, _⟩ := id F4
    refine store_ok2 (X := X.held x) (J4.unpn.held x) hN hi (.inl hl) (v := .ref x) rfl (fun s5 J5 hch => ?_) (.inr hl)
    have e5 : s5.heap.get? x = some oe4 := by
      obtain ⟨b, sb, hb'⟩ := hch
      refine (sb.2 x ?_).trans e4
      rintro rfl
      rcases hb' with z | z
      · obtain ⟨m, ⟨ol, _, _, el, dl, _⟩, _⟩ := J4.loc
        have el' : s4.heap.get? X.env.locals = some ol := el
        rw [← z, e4] at el'; cases el'; rw [d4] at dl; cases dl
      · obtain ⟨v, oc, ec, dc⟩ := J4.cell _ _ z
        rw [e4] at ec; cases ec; rw [d4] at dc; cases dc
    have J6 : Inv (X.held x) pins (σ'.set i (some (.ref x))) (upd H' x (.ext (ExcO x (.ref A)))) s5 :=
      J5.track ⟨y4.1, y4.2.1, fun p hp => y4.2.2 p (List.mem_append_left _ hp)⟩ (fun p hp => y4.2.2 p (List.mem_append_right _ hp)) ⟨oe4, vs4, e5, d4⟩ ⟨oe4, vs4, e5, c4, d4⟩ fun h1 h2 ⟨o, ws, z1, z2, z3⟩ kk => ⟨o, ws, kk _ z1, z2, z3⟩
    have un : ∀ {σ2 H2 s6}, Inv (X.held x) pins σ2 H2 s6 → Inv X pins σ2 H2 s6 := fun z => z.unheld I.ok.hd I.ok.frames
    refine wpAny_mono (hs x pins s5 _ _ _ (J6.wish _) (k x y4.2.1)) (fun f s6 z => ?_) fun _ _ z => z.elim
    cases f with
    | next => obtain ⟨σ2, H2, J7, z⟩ := z; exact unbind_ok (un J7.unwish) hN hi hl fun s7 J8 => ⟨_, H2, J8, z⟩
    | brk => obtain ⟨σ2, H2, J7, z⟩ := z; exact unbind_ok (un J7.unwish) hN hi hl fun s7 J8 => ⟨_, H2, J8, z⟩
    | cont => obtain ⟨σ2, H2, J7, z⟩ := z; exact unbind_ok (un J7.unwish) hN hi hl fun s7 J8 => ⟨_, H2, J8, z⟩
    | ret u => obtain ⟨v, σ2, H2, J7, r, z⟩ := z; exact unbind_ok (un J7.unwish) hN hi hl fun s7 J8 => ⟨v, _, H2, J8, r, z⟩
end
end L2
namespace L2
open PySem PySem.Spec PyProof.Rows PySem.W Builtin Builtin.ObjectAttr Builtin.Getset_descriptor
structure ExcC (K : Frag) (A : Addr) : Prop where
  ga : findIn K (.ref A) "__getattribute__" = some (some (.builtin "BaseException.__getattribute__"))
  gn : findIn K (.ref A) "__getattr__" = some none
  cl : findIn K (.ref A) "__class__" = some (some (.builtin "object.__class__"))
  cg : specialIn K (.builtin "object.__class__") "__get__" = some (some (.builtin "getset_descriptor.__get__"))
  ck : takesIn K (.builtin "object.__class__") = some true
  co : mroIn K A (.type "object") = some true
  cb : mroIn K A (.type "BaseException") = some true
  is : (clsIn K A).isSome = true
section
variable {prog : Program} {w : World} {B : Around} {E : Value → Shared → Prop} {K : Frag} {x A : Addr} {o : Obj}
theorem exc_ty {M : Model} {h : Heap} (hx : h.get? x = some o) (hc : o.cls = .ref A) : Looks M h (typeOf (.ref x)) (.ref A) := by rw [← hc]; exact (Looks.ld hx).andThen .now
theorem exc_isType {M : Model} {h : Heap} (X : K.In h) (q : (clsIn K A).isSome = true) : Looks M h (isType (.ref A)) true := by
  unfold clsIn at q
  split at q
  · next look =>
    intro A' Q' E' s' k z
    unfold isType loadHead
    exact wpAny_bind (wpAny_loadPart (k _ _ (X _ _ look)) (wpAny_pure z))
  · cases q
set_option maxHeartbeats 1000000 in
theorem exc_get {h : Heap} {g d t os} {R : Result → Shared → Prop} {tp : Value} (X : K.In h) (hx : h.get? x = some o) (hc : o.cls = .ref A) (hm : mroIn K A (.type "object") = some true) (z : R (.ok (.ret (.ref A))) ⟨h, g, d, t, os⟩) :
    codeAny (model prog w) B (.call (.builtin "getset_descriptor.__get__") ⟨[.builtin "object.__class__", .ref x, tp], []⟩) R ⟨h, g, d, t, os⟩ := by
  have e0 := exc_ty (M := model prog w) hx hc
  have e1 := looks_mroIn (M := model prog w) X hm
  have a1 := dga_obj (.builtin "object.__class__") tp x
  have a2 := KF.owner_class
  refine codeAny_call_builtin KF.slot_gs.plain KF.entry_gs ?_
  refine KF.slot_gs.check _ _ _ _ _ _ _ _ KF.type_class (KF.args_gs _ _ _) ?_
  have nm : ".".intercalate ("object.__class__".cutAt '.').dropLast = "object" := congrArg Prod.fst a2
  wp_walk using e0.at
  rw [nm]
  wp_walk using e1.at
  constructor
  · exact Code.quiet_builtin _ (by decide +kernel)
  · apply codeAny_builtin KF.entry_class
    wp_walk using e0.at
    exact z
theorem exc_entry {h : Heap} {g d t os} {tk : Tok} {Q : Fin → Shared → Prop} (X : K.In h) (C : ExcC K A) (hx : h.get? x = some o) (hc : o.cls = .ref A) (z : Q (.done (.ret (.ref A))) ⟨h, g, d, t, os⟩) :
    wpAny (model prog w) B (Builtin.«object.__getattribute__» ⟨[.ref x, .str "__class__" tk], []⟩) Q E ⟨h, g, d, t, os⟩ := by
  have e0 := exc_ty (M := model prog w) hx hc
  have e1 := looks_findIn (M := model prog w) X C.cl
  have e2 := looks_specialIn (M := model prog w) X C.cg
  have e3 := looks_takesIn (M := model prog w) X C.ck
  unfold Builtin.«object.__getattribute__»
  repeat lk
  refine wpAny_run (h := none) (exc_get X hx hc C.co ?_)
  exact wpAny_pure (wpAny_pure z)
theorem exc_by {h : Heap} {g d t os} {tk : Tok} {Q : Value → Shared → Prop} (X : K.In h) (C : ExcC K A) (hx : h.get? x = some o) (hc : o.cls = .ref A) (z : Q (.ref A) ⟨h, g, d, t, os⟩) :
    wpAny (model prog w) B (getAttrBy (.ref x) (.str "__class__" tk) false false) Q E ⟨h, g, d, t, os⟩ := by
  have e0 := exc_ty (M := model prog w) hx hc
  have e1 := looks_findIn (M := model prog w) X C.ga
  have e2 := looks_findIn (M := model prog w) X C.gn
  have e3 := looks_mroIn (M := model prog w) X C.cb
  have f3 := PySem.F.excAttr_ValueError.ga.bind (.ref x)
  unfold getAttrBy
  refine wpAny_holding (wpAny_bind (e0.at (wpAny_bind (e1.at ?_))))
  show wpAny _ _ (getAttrByItsOwn _ _ _ _ _ _) _ _ _
  unfold getAttrByItsOwn hookBefore
  refine wpAny_bind ?_
  rw [if_pos (show onTheHeap (Value.ref A) = true from rfl)]
  refine e2.at (wpAny_bind (wpAny_attempt (wpAny_holding ?_)))
  unfold callGetattribute boundAndCalled
  rw [if_neg (by decide), f3]
  refine wpAny_bind (wpAny_pure (wpAny_call (codeAny_call_builtin PySem.F.excAttr_ValueError.ga.plain F.entry_bexc_ga ?_)))
  have kk : builtinKind "BaseException.__getattribute__" = some .slot ∧ splitId "BaseException.__getattribute__" = some ("BaseException", "__getattribute__") := ⟨by decide +kernel, by decide +kernel⟩
  have e4 := PySem.F.args_bexc_ga (.ref x) (.str "__class__" tk)
  simp only [checkBuiltinCall, kk.1, kk.2]; unfold isInstance
  refine wpAny_bind (wpAny_bind (e0.at (e3.at ?_)))
  rw [if_neg (by decide)]
  refine wpAny_of_eq (show _ = pure () from e4) (exc_entry X C hx hc ?_)
  exact wpAny_pure z
theorem exc_class {s : Shared} {Q : Option Value → Shared → Prop} (X : K.In s.heap) (C : ExcC K A) (hx : s.heap.get? x = some o) (hc : o.cls = .ref A) (z : Q (some (.ref A)) { s with toks := s.toks + 1 }) : wpAny (model prog w) B (getAttr? (.ref x) "__class__") Q E s := by
  obtain ⟨h, g, d, t, os⟩ := s
  unfold getAttr? getAttrBy?
  refine wpAny_bind (wpAny_mkText (wpAny_bind (wpAny_attempt (exc_by X C hx hc ?_))))
  exact wpAny_pure z
theorem kitx_exc (C : ExcC K A) : KitX K (.ref x) (.ref A) (ExcO x (.ref A)) where
  ty := fun M h _ ⟨o, vs, hx, hc, _⟩ => exc_ty hx hc
  it := fun M h X _ => exc_isType X C.is
  ne := fun h tp dd its n sl X htp => by
    refine Bool.eq_false_iff.mpr fun q => ?_
    have e : A = tp := Value.ref.inj (beq_iff_eq.mp q)
    subst e
    have q := C.is
    unfold clsIn at q
    split at q
    · next look => have z := (X _ _ look).symm.trans htp; cases z
    · cases q
  ca := fun X ⟨o, vs, hx, hc, _⟩ k => exc_class X C hx hc k
end
section
variable {X : Cx}
def rIsE (K : Frag) : List V → Hp → VK → Prop := fun xs H Q => ∃ a A c cv b, xs = [.ref a, c] ∧ RelV c cv ∧ (∀ u, RelV c u → u = cv) ∧ H a = some (.ext (ExcO a (.ref A))) ∧ ExcC K A ∧ kitOne K (.ref A) cv = some b ∧ Q (.bl b) H
theorem call_isE : CallR X (.builtin "isinstance") (rIsE X.K) := by
  intro pins s σ H xs us Q I r h
  obtain ⟨a, A, c, cv, b, rfl, _, hu, ha, C, e, q⟩ := h
  obtain ⟨u, u', rfl, rx, rc⟩ := vals2 r
  obtain rfl := hu u' rc
  cases (show u = Value.ref a from rx)
  obtain ⟨p, _, _⟩ := I.hok a _ ha
  exact kia_one (kitx_exc C) I.kIn p e (fun z => nomatch z) fun tk => ⟨.bl b, H, I.tok _, rfl, q⟩
theorem cIsE {K : Frag} (h : X.K = K) : CallR X (.builtin "isinstance") (rIsE K) := by subst h; exact call_isE
end
end L2
namespace L2
open PySem PySem.Spec PyProof.Rows
section
variable {X : Cx}
theorem count_eqU {x : V} : ∀ {xs : List V} {us : List Value}, Vals xs us → xs.all flatV = true → us.countP (eqU x) = xs.countP fun y => eqV y x
  | _, _, .nil, _ => rfl
  | y :: xs, u :: us, .cons r t, h => by
    rw [List.all_cons, Bool.and_eq_true] at h
    rw [List.countP_cons, List.countP_cons, count_eqU t h.2, eqU_of r h.1]
def rCount (K : PySem.W.Frag) : V → List V → Hp → VK → Prop := fun x vs H Q => ∃ p xs y, x = .ref p ∧ vs = [y] ∧ SqL K H p xs ∧ flatV y = true ∧ xs.all flatV = true ∧ Q (.int (xs.countP fun z => eqV z y : Nat)) H
theorem mt_count : MtM X "list.count" (rCount X.K) := by
  intro pins s σ H x vs v us Q I rx rv h
  obtain ⟨p, xs, y, rfl, rfl, hq, fy, fs, q⟩ := h
  cases rx
  obtain ⟨u, rfl, ry⟩ := rv.one
  obtain ⟨its, r, ⟨ob, n, e, c, dn, d⟩, hz⟩ := I.list hq
  obtain ⟨oc, od, odt, osl⟩ := ob
  dsimp only at c dn d
  subst c dn d
  refine call_meets PySem.F.slot_list_count ⟨_, e, rfl⟩ PySem.F.entry_list_count (PySem.F.args_list_count_2 _ _) (SeqAt.list_countAt p its.toArray n _ _ u (eqU y)) ⟨e, fun w hw => mem_eqAt ry fy r fs w (by simpa using hw), ?_⟩
  exact ⟨.int _, H, I.tok _, ⟨_, rfl⟩, by rw [show its.toArray.toList = its from rfl, count_eqU r fs]; exact q⟩
theorem mCount {K : PySem.W.Frag} (h : X.K = K) : MtM X "list.count" (rCount K) := by subst h; exact mt_count
end
def Big (m : Int) (es : List (Int × Int)) : Prop := m < 1 ∨ 20 < m ∨ 40 < (es.length : Int)
instance (m : Int) (es : List (Int × Int)) : Decidable (Big m es) := by unfold Big; infer_instance
instance (es : List (Int × Int)) (m : Int) : Decidable (EndsIn es m) := by unfold EndsIn; infer_instance
def MkDefE (P : Program) (w : World) (K : PySem.W.Frag) (mg : Str → Option Value) (base : Heap) (k : Nat) (x : Str) (C : Addr) (ps : List Str) (sp : Sp) : Prop :=
  ∃ f fd, Mk K C f ∧ FnOk P w K mg base (CXE P w) k f fd ps sp ∧ Binds K fd ps [] ∧ mg x = some (.ref C)
end L2
namespace L2
open PySem PySem.Spec PyProof.Rows
section
variable {K : PySem.W.Frag} {H : Hp}
theorem Pairs.get : ∀ {xs : List V} {es : List (Int × Int)} {i : Nat}, Pairs K H xs es → i < es.length → ∃ r e, xs[i]? = some (.ref r) ∧ SqT K H r [.int e.1, .int e.2] ∧ es[i]? = some e ∧ e ∈ es
  | _, _, _, .nil, h => absurd h (Nat.not_lt_zero _)
  | _, _, 0, .cons ⟨r, e, q⟩ _, _ => ⟨r, _, by rw [e]; rfl, q, rfl, List.mem_cons_self⟩
  | _, _, i + 1, .cons _ t, h => by
    obtain ⟨r, e, h1, h2, h3, h4⟩ := Pairs.get (i := i) t (by simpa using h)
    exact ⟨r, e, by simpa using h1, h2, by simpa using h3, List.mem_cons_of_mem _ h4⟩
theorem Pairs.append : ∀ {xs ys : List V} {es fs : List (Int × Int)}, Pairs K H xs es → Pairs K H ys fs → Pairs K H (xs ++ ys) (es ++ fs)
  | _, _, _, _, .nil, s => s
  | _, _, _, _, .cons r t, s => .cons r (Pairs.append t s)
theorem Pairs.set {r : Addr} {e : Int × Int} (q : SqT K H r [.int e.1, .int e.2]) : ∀ {xs : List V} {es : List (Int × Int)} (i : Nat), Pairs K H xs es → Pairs K H (xs.set i (.ref r)) (es.set i e)
  | _, _, _, .nil => .nil
  | _, _, 0, .cons _ t => .cons ⟨r, rfl, q⟩ t
  | _, _, i + 1, .cons p t => .cons p (Pairs.set q i t)
theorem ixN_nat {n : Nat} {i : Int} (h0 : 0 ≤ i) (h : i < (n : Int)) : ixN n i = some i.toNat := by
  unfold ixN; rw [if_pos h0, if_pos h]
theorem atI_int {α : Type} {xs : List α} {i : Int} {v : α} (h0 : 0 ≤ i) (h : xs[i.toNat]? = some v) : atI xs i = some v := by
  have := atI_nat h
  rwa [Int.toNat_of_nonneg h0] at this
theorem at2 {a b : V} {j : Int} (h0 : 0 ≤ j) (h : j < 2) : ∃ v, atI [a, b] j = some v ∧ (v = a ∨ v = b) := by
  have : j = 0 ∨ j = 1 := by omega
  rcases this with rfl | rfl
  · exact ⟨a, rfl, .inl rfl⟩
  · exact ⟨b, rfl, .inr rfl⟩
theorem at3 {a b d : V} {j : Int} (h0 : 0 ≤ j) (h : j < 3) : ∃ v, atI [a, b, d] j = some v ∧ (v = a ∨ v = b ∨ v = d) := by
  have : j = 0 ∨ j = 1 ∨ j = 2 := by omega
  rcases this with rfl | rfl | rfl
  · exact ⟨a, rfl, .inl rfl⟩
  · exact ⟨b, rfl, .inr (.inl rfl)⟩
  · exact ⟨d, rfl, .inr (.inr rfl)⟩
end
end L2
namespace L2
open PySem PySem.Spec PyProof.Rows
section
variable {prog : Program} {w : World} {A : Around} {E : Value → Shared → Prop} {s : Shared}
set_option maxHeartbeats 2000000 in
theorem stepT {it l : Addr} {i : Nat} {items : Array Value} {x : Value} {c d : Option Addr} {sl sl2 : Array (Option Value)} {n : Nat} {P : Fin → Shared → Prop} (hit : s.heap.get? it = some { cls := .type "tuple_iterator", dict := c, data := .fields #[.ref l, .int i 0], slots := sl }) (hl : s.heap.get? l = some { cls := .type "tuple", dict := d, data := .seq items n, slots := sl2 }) (hx : items[i]? = some x)
    (hP : ∀ h', h'.get? it = some { cls := .type "tuple_iterator", dict := c, data := .fields #[.ref l, .int (i + 1 : Nat) 0], slots := sl } → Heap.SameBut it s.heap h' → P (.done (.ret x)) { s with heap := h' }) :
    wpAny (model prog w) A (Builtin.«tuple_iterator.__next__» ⟨[.ref it], []⟩) P E s := by
  obtain ⟨hp, g, dr, tk, os⟩ := s
  unfold Builtin.«tuple_iterator.__next__»
  wp_walk using AutoSeq1.wpAny_loadPart' hit, AutoSeq1.wpAny_loadPart' hl
  rw [Int.toNat_natCast, hx]
  wp_walk
  have up := Heap.get?_update_self (Obj.mapFields fun v => v.setIfInBounds 1 (rawInt ((i : Int) + 1))) hit rfl
  exact hP _ up (Heap.SameBut.update ..)
set_option maxHeartbeats 2000000 in
theorem stopT {it l : Addr} {i : Nat} {items : Array Value} {c d : Option Addr} {sl sl2 : Array (Option Value)} {n : Nat} {P : Fin → Shared → Prop} (hh : A.handled = none) (hit : s.heap.get? it = some { cls := .type "tuple_iterator", dict := c, data := .fields #[.ref l, .int i 0], slots := sl }) (hl : s.heap.get? l = some { cls := .type "tuple", dict := d, data := .seq items n, slots := sl2 }) (hx : items[i]? = none)
    (hE : ∀ h' e, Heap.ExtBut it s.heap h' → (∃ o, h'.get? e = some o ∧ o.cls = .type "StopIteration") → E (.ref e) { s with heap := h' }) :
    wpAny (model prog w) A (Builtin.«tuple_iterator.__next__» ⟨[.ref it], []⟩) P E s := by
  obtain ⟨hp, g, dr, tk, os⟩ := s
  unfold Builtin.«tuple_iterator.__next__»
  wp_walk using AutoSeq1.wpAny_loadPart' hit, AutoSeq1.wpAny_loadPart' hl
  rw [Int.toNat_natCast, hx]
  wp_walk
  refine wpAny_raiseNew_none hh (hE _ _ ?_ ⟨_, Heap.get?_push_size _ rfl, rfl⟩)
  have one := Heap.SameBut.update (h := hp) (a := it) (f := Obj.mapFields fun v => v.setIfInBounds 0 Value.none)
  exact (one.extBut.push _).push _
theorem nextT_item {it l : Addr} {i : Nat} {items : Array Value} {x : Value} {Q : Value → Shared → Prop} (hit : s.heap.IsTupleIter it l i) (hl : s.heap.IsTuple l items) (hx : items[i]? = some x) (hQ : ∀ h', h'.IsTupleIter it l (i + 1) → Heap.SameBut it s.heap h' → Q x { s with heap := h' }) : wpAny (model prog w) A (Builtin.SmallTypes.nextOf (.ref it)) Q E s := by
  have ty := hit.typeIs
  obtain ⟨⟨_, c, _, sl⟩, ho, rfl, rfl⟩ := hit
  obtain ⟨⟨_, d, _, sl2⟩, hol, rfl, n, rfl⟩ := hl
  have walked := wpAny_call_entry (prog := prog) (w := w) (A := A) (E := E) F.slot_tuple_iterator_next ty F.entry_tuple_iterator_next (stepT ho hol hx fun h' e sb => ⟨x, rfl, hQ h' ⟨_, e, rfl, rfl⟩ sb⟩) (F.args_tuple_iterator_next_1 _)
  unfold Builtin.SmallTypes.nextOf
  exact wpAny_bind (wpAny_callSpecial?_slot ty F.slot_tuple_iterator_next (wpAny_mono walked (fun v s' q => wpAny_pure q) fun _ _ z => z))
theorem nextT_end {it l : Addr} {i : Nat} {items : Array Value} {Q : Value → Shared → Prop} (hh : A.handled = none) (hit : s.heap.IsTupleIter it l i) (hl : s.heap.IsTuple l items) (hx : items[i]? = none) (hE : ∀ h' e, Heap.ExtBut it s.heap h' → (∃ o, h'.get? e = some o ∧ o.cls = .type "StopIteration") → E (.ref e) { s with heap := h' }) : wpAny (model prog w) A (Builtin.SmallTypes.nextOf (.ref it)) Q E s := by
  have ty := hit.typeIs
  obtain ⟨⟨_, c, _, sl⟩, ho, rfl, rfl⟩ := hit
  obtain ⟨⟨_, d, _, sl2⟩, hol, rfl, n, rfl⟩ := hl
  have walked := wpAny_call_entry (prog := prog) (w := w) (A := A) (E := E) (Q := fun v s' => Q v s') F.slot_tuple_iterator_next ty F.entry_tuple_iterator_next (stopT (show A.in1.handled = none from hh) ho hol hx hE) (F.args_tuple_iterator_next_1 _)
  unfold Builtin.SmallTypes.nextOf
  exact wpAny_bind (wpAny_callSpecial?_slot ty F.slot_tuple_iterator_next (wpAny_mono walked (fun v s' q => wpAny_pure q) fun _ _ z => z))
theorem tIter_at {h h' : Heap} {it t : Addr} {i : Nat} (x : h.IsTupleIter it t i) (k : ∀ o, h.get? it = some o → h'.get? it = some o) : h'.IsTupleIter it t i := let ⟨o, ho, r⟩ := x; ⟨o, k o ho, r⟩
end
def SIt (b : Bool) (h : Heap) (it l : Addr) (i : Nat) : Prop := match b with | false => h.IsListIter it l i | true => h.IsTupleIter it l i
def SSq (b : Bool) (h : Heap) (l : Addr) (xs : Array Value) : Prop := match b with | false => h.IsList l xs | true => h.IsTuple l xs
theorem SIt.keep {b : Bool} {h h' : Heap} {it l : Addr} {i : Nat} (x : SIt b h it l i) (k : ∀ o, h.get? it = some o → h'.get? it = some o) : SIt b h' it l i := by
  cases b
  · exact Heap.IsListIter.at x k
  · exact tIter_at x k
theorem SSq.keep {b : Bool} {h h' : Heap} {l : Addr} {xs : Array Value} (x : SSq b h l xs) (k : ∀ o, h.get? l = some o → h'.get? l = some o) : SSq b h' l xs := by
  cases b
  · exact Heap.IsList.at x k
  · exact Heap.IsTuple.at x k
theorem SIt.obj {b : Bool} {h : Heap} {it l : Addr} {i : Nat} (x : SIt b h it l i) : ∃ o, h.get? it = some o ∧ ∀ v, o.data ≠ .cell v := by
  cases b
  · obtain ⟨o, e, _, d⟩ := x; exact ⟨o, e, fun v z => by rw [d] at z; cases z⟩
  · obtain ⟨o, e, _, d⟩ := x; exact ⟨o, e, fun v z => by rw [d] at z; cases z⟩
theorem SSq.live {b : Bool} {h : Heap} {l : Addr} {xs : Array Value} (x : SSq b h l xs) : ∃ o, h.get? l = some o := by
  cases b
  · obtain ⟨o, e, _⟩ := x; exact ⟨o, e⟩
  · obtain ⟨o, e, _⟩ := x; exact ⟨o, e⟩
theorem draws_src {prog : Program} {w : World} {A : Around} (hh : A.handled = none) (b : Bool) (it l : Addr) (hne : l ≠ it) (items : Array Value) : Draws prog w A it [it, l] items.size (fun i v => items[i]? = some v) (fun i h => SIt b h it l i ∧ SSq b h l items) := by
  cases b
  · exact Draws.list hh it l hne items
  · exact { live := fun _ _ st => let ⟨o, ho, _⟩ := st.1; ⟨o, ho⟩
            frame := fun _ _ _ st hk => ⟨tIter_at st.1 fun o e => hk it (by simp) o e, Heap.IsTuple.at st.2 fun o e => hk l (by simp) o e⟩
            item := fun i s Q E hi st hQ => nextT_item st.1 st.2 (x := items[i]) (by simp [hi]) fun h' hit' hs' => hQ _ h' s.toks (by simp [hi]) ⟨hit', Heap.IsTuple.extBut st.2 hs'.extBut hne⟩ hs'
            done := fun s Q E st hE => nextT_end hh st.1 st.2 (by simp) hE }
structure ZA (z TO i1 i2 : Addr) (f1 f2 : List Addr) : Prop where
  m1 : i1 ∈ f1
  m2 : i2 ∈ f2
  z1 : z ∉ f1
  z2 : z ∉ f2
  o1 : TO ∉ f1
  o2 : TO ∉ f2
  x1 : i1 ∉ f2
  x2 : i2 ∉ f1
  oz : TO ≠ z
section
variable {prog : Program} {w : World} {A : Around} {E : Value → Shared → Prop} {s : Shared} {z TI TO i1 i2 : Addr} {f1 f2 : List Addr} {n1 n2 i : Nat} {P1 P2 : Nat → Value → Prop} {S1 S2 : Nat → Heap → Prop} {a b : Value}
end
end L2
namespace L2
open PySem PySem.Spec PyProof.Rows
def SqB (b : Bool) (K : PySem.W.Frag) (H : Hp) (a : Addr) (xs : List V) : Prop := match b with | false => SqL K H a xs | true => SqT K H a xs
theorem SqB.of {K : PySem.W.Frag} {H : Hp} {a : Addr} {xs : List V} (h : SqL K H a xs ∨ SqT K H a xs) : ∃ b, SqB b K H a xs := by
  rcases h with h | h
  · exact ⟨false, h⟩
  · exact ⟨true, h⟩
theorem SqB.or {b : Bool} {K : PySem.W.Frag} {H : Hp} {a : Addr} {xs : List V} (h : SqB b K H a xs) : SqL K H a xs ∨ SqT K H a xs := by
  cases b
  · exact .inl h
  · exact .inr h
section
variable {X : Cx} {pins : List (Addr × Obj)} {σ : St} {H : Hp} {s : Shared} {b : Bool} {a c : Addr} {xs : List V}
theorem Inv.src (I : Inv X pins σ H s) (h : SqB b X.K H a xs) : ∃ its : List Value, Vals xs its ∧ SSq b s.heap a its.toArray ∧ xs.length ≤ sizeLine := by
  cases b
  · obtain ⟨its, r, p, z⟩ := I.list h; exact ⟨its, r, p.isList, z⟩
  · obtain ⟨its, r, p, z⟩ := I.tuple h; exact ⟨its, r, p, z⟩
theorem Inv.srcNe (I : Inv X pins σ H s) (h : SqB b X.K H a xs) (f : FpOk X pins H c) : a ≠ c := by
  have known : ∀ o, X.K.lookup a = some o → a ≠ c := fun o hk e => by
    have hb := I.ok.mod.kin a o hk
    subst e
    rcases f.2.2.2.1 with z | z
    · exact I.ok.noex a o hb z
    · exact absurd (Nat.lt_of_lt_of_le (Heap.lt_size hb) (Nat.le_trans I.ok.bsz z)) (Nat.lt_irrefl _)
  have free : ∀ o, H a = some o → a ≠ c := fun o e z => by rw [z, f.1] at e; cases e
  cases b
  · rcases h with (h | ⟨o, h⟩) | ⟨o, _, _, hk, _⟩
    · exact free _ h
    · exact free _ h
    · exact known o hk
  · rcases h with (h | ⟨o, h⟩) | ⟨o, _, _, hk, _⟩
    · exact free _ h
    · exact free _ h
    · exact known o hk
theorem Inv.turnedLaid {h' : Heap} {t' : Nat} {fp : List Addr} {ys : List V} {us : List Value} (I : Inv X pins σ H s) (hf : ∀ b ∈ fp, FpOk X pins H b) (k : ∀ c o, c ∉ fp → s.heap.get? c = some o → h'.get? c = some o) (r : Vals ys us) (hz : ys.length ≤ sizeLine) (hT : IsTup h' s.heap.objs.size us.toArray) :
    Inv X pins σ (upd H s.heap.objs.size (.tup ys)) { s with heap := h', toks := t' } := by
  have hn : H s.heap.objs.size = none := I.hok.fresh (Nat.le_refl _)
  refine I.call' (ch := fp) rfl ⟨fun b o e n hb hx => k b o hx e, fun b o e n hb hx => ⟨o.slots, k b o hx e⟩, fun b o e n hx => ?_, fun b o e hx => ⟨o, k b o hx e⟩, fun b zs e => ?_, fun b o u e => ?_, fun b ps e => ⟨#[], ?_⟩⟩ (fun b u e => ?_) I.bare fun b hb => ?_
  · rw [upd_ne (Nat.ne_of_lt (Heap.lt_size e))]; exact n
  · rw [upd_ne (ne_of_none e hn)]; exact e
  · rw [upd_ne (ne_of_none e hn)]; exact e
  · rw [upd_ne (ne_of_none e hn), e]; simp
  · by_cases hb : b = s.heap.objs.size
    · subst hb; rw [upd_same] at e; cases e
      exact ⟨hz, us, r, hT⟩
    · rw [upd_ne hb] at e
      refine (I.hok b u e).stay (fun c v hc q => k c v (fun z => ?_) q) (fun c q => by rw [upd_ne (ne_of_none q hn)]; exact q) fun c zs q => by rw [upd_ne (ne_of_none q hn)]; exact q
      have z' := (hf c z).1
      rcases hc with hc | hc
      · rw [hc, e] at z'; cases z'
      · rw [hc] at z'; cases z'
  · obtain ⟨f0, f1, f2, f3, f4, f5⟩ := hf b hb
    exact ⟨f3, f1, f4, f5⟩
theorem Inv.turnedAll {h' : Heap} {t' : Nat} {fp : List Addr} (I : Inv X pins σ H s) (hf : ∀ b ∈ fp, FpOk X pins H b) (k : ∀ c o, c ∉ fp → s.heap.get? c = some o → h'.get? c = some o) : Inv X pins σ H { s with heap := h', toks := t' } := by
  refine I.call' (ch := fp) rfl ⟨fun b o e n hb hx => k b o hx e, fun b o e n hb hx => ⟨o.slots, k b o hx e⟩, fun b o e n hx => n, fun b o e hx => ⟨o, k b o hx e⟩, fun b zs e => e, fun b o u e => e, fun b ps e => ⟨#[], by rw [e]; simp⟩⟩ (fun b u e => ?_) I.bare fun b hb => ?_
  · refine (I.hok b u e).stay (fun c v hc q => k c v (fun z => ?_) q) (fun c q => q) fun c zs q => q
    have z' := (hf c z).1
    rcases hc with hc | hc
    · rw [hc, e] at z'; cases z'
    · rw [hc] at z'; cases z'
  · obtain ⟨f0, f1, f2, f3, f4, f5⟩ := hf b hb
    exact ⟨f3, f1, f4, f5⟩
end
section
variable {prog : Program} {w : World} {A : Around} {E : Value → Shared → Prop} {s : Shared}
end
section
variable {prog : Program} {w : World} {A : Around} {E : Value → Shared → Prop} {s : Shared}
end
theorem getD_val {xs : List V} {its : List Value} {i : Nat} {u : Value} (r : Vals xs its) (e : its.toArray[i]? = some u) : RelV (xs.getD i .non) u := by
  obtain ⟨x, h1, h2⟩ := r.tog (i := i) (u := u) (by simpa using e)
  rw [List.getD_eq_getElem?_getD, h1]; exact h2
structure ItP (J : It) (n : Nat) (val : Nat → List V) (C : Hp → Prop) : Prop where
  go : ∀ i H, C H → i < n → J.go i H
  yld : ∀ i H x H', C H → i < n → J.yld i H x H' → ∃ p, x = .ref p ∧ H p = none ∧ H' = upd H p (.tup (val i))
  stop : ∀ H, C H → J.stop n H
theorem SqB.same {b : Bool} {K : PySem.W.Frag} {H H' : Hp} {a : Addr} {xs : List V} (h : SqB b K H a xs) (S : Same H H') : SqB b K H' a xs := by
  cases b
  · exact S.seq h
  · exact S.tup h
section
variable {X : Cx} {K : PySem.W.Frag} {elts : List Expr} {kx : Nat} {tpos : Pos}
end
theorem for_byP {J : It} {n : Nat} {val : Nat → List V} {C : Hp → Prop} {g : TG} {tb : TS} {D : Ends} {σ : St} {H : Hp} (O : ItP J n val C) (Pv : Nat → St → Hp → Prop) (h0 : Pv 0 σ H) (hl : ∀ i σ H, i ≤ n → Pv i σ H → C H)
    (hs : ∀ i σ H p, i < n → Pv i σ H → H p = none → g (.ref p) σ (upd H p (.tup (val i))) fun σ2 H2 => tb { D with nx := Pv (i + 1), ct := Pv (i + 1), bk := D.nx } σ2 H2) (hd : ∀ σ H, Pv n σ H → D.nx σ H) :
    ∃ W : Nat → Nat → St → Hp → Prop, (∃ m, W 0 m σ H) ∧ ∀ i m σ H, W i m σ H → (J.stop i H ∧ D.nx σ H) ∨ (J.go i H ∧ ∃ N : St → Hp → Prop, (∀ σ' H', N σ' H' → ∃ m', m' < m ∧ W (i + 1) m' σ' H') ∧ ∀ x H', J.yld i H x H' → g x σ H' fun σ2 H2 => tb { D with nx := N, ct := N, bk := D.nx } σ2 H2) := by
  refine ⟨fun i m σ H => m = n - i ∧ i ≤ n ∧ Pv i σ H, ⟨n, by simp, Nat.zero_le _, h0⟩, ?_⟩
  rintro i m σ H ⟨rfl, hi, p⟩
  have c := hl i σ H hi p
  by_cases hlt : i < n
  · refine .inr ⟨O.go i H c hlt, Pv (i + 1), fun σ' H' p' => ⟨n - (i + 1), by omega, rfl, hlt, p'⟩, fun x H' y => ?_⟩
    obtain ⟨q, rfl, hq, rfl⟩ := O.yld i H x H' c hlt y
    exact hs i σ _ q hlt p hq
  · obtain rfl : i = n := by omega
    exact .inl ⟨O.stop H c, hd σ H p⟩
end L2
namespace L2
open PySem PySem.Spec PyProof.Rows
section
variable {X : Cx} {K : PySem.W.Frag}
end
theorem DefE.calm {P : Program} {w : World} {K : PySem.W.Frag} {mg : Str → Option Value} {base : Heap} {k : Nat} {x : Str} {ps : List Str} {sp : Sp} (D : DefE P w K mg base k x ps sp) : Def P w K mg base k x ps (fun vs H Q _ => sp vs H Q fun _ _ _ => False) := by
  obtain ⟨f, fd, F, m, kp, b⟩ := D
  refine ⟨f, fd, ⟨fun vs H Q E h => F.len _ _ _ _ h, fun A outer s H args us vs Q E hr he hb hv hs => codeAny_mono (F.run A outer s H args us vs Q _ hr he hb hv hs) fun r s' hq => ?_⟩, m, kp, b⟩
  cases r with
  | error e => obtain ⟨_, _, _, _, _, _, _, _, _, _, _, z⟩ := hq; exact z.elim
  | ok fl => cases fl <;> exact hq
theorem SqB.len {b : Bool} {K : PySem.W.Frag} {H : Hp} {a : Addr} {xs : List V} (h : SqB b K H a xs) : SqL K H a xs ∨ SqT K H a xs := h.or
theorem getD_ints {ns : List Int} {i : Nat} (h : i < ns.length) : (ns.map V.int).getD i .non = .int (ns.getD i 0) := by
  rw [List.getD_eq_getElem?_getD, List.getElem?_map, List.getD_eq_getElem?_getD, List.getElem?_eq_getElem h]; rfl
theorem set_ints {ns : List Int} {i : Nat} {v : Int} : (ns.map V.int).set i (.int v) = (ns.set i v).map V.int := by rw [List.map_set]
theorem getD_set {ns : List Int} {i p : Nat} {v : Int} (h : p < ns.length) : (ns.set i v).getD p 0 = if i = p then v else ns.getD p 0 := by
  by_cases e : i = p
  · subst e; rw [if_pos rfl, List.getD_eq_getElem?_getD, List.getElem?_set_self h]; rfl
  · rw [if_neg e, List.getD_eq_getElem?_getD, List.getElem?_set_ne e, List.getD_eq_getElem?_getD]
end L2
namespace L2
open PySem PySem.Spec PyProof.Rows
structure RoomC (k : Nat) (A : Around) : Prop where
  dp : A.depth + 3 * k + 5 < recursionLimit
  un : A.units + 16 * k + 200 < cLine
theorem Room.c {k : Nat} {A : Around} (r : Room k A) : RoomC k A := ⟨r.dp, r.un⟩
theorem Room.held {k : Nat} {A : Around} {v : Option Value} (r : Room k A) : RoomC k (A.mark v) := ⟨r.dp, r.un⟩
theorem RoomC.mono {j k : Nat} {A : Around} (r : RoomC k A) (h : j ≤ k) : RoomC j A := ⟨by have := r.dp; omega, by have := r.un; omega⟩
abbrev cxC (P : Program) (w : World) (K : PySem.W.Frag) (mg : Str → Option Value) (base : Heap) (N : List Str) (qual : Str) (scope : Scope) (f : Addr) (cd : Value) (A : Around) (outer : List Env) (s : Shared) (H : Hp) (E : XK) : Cx := { cxOf CX0 P w K mg base N qual scope f cd A outer s H E with calm := false }
theorem inv_startC {P : Program} {w : World} {K : PySem.W.Frag} {mg : Str → Option Value} {base : Heap} {N ps : List Str} {qual : Str} {scope : Scope} {f : Addr} {cd : Value} {A : Around} {outer : List Env} {s s1 : Shared} {H : Hp} {E : XK} {us : List Value} {vs : List V}
    (S : FnScope N ps scope) (e0 : Env0 P w K mg base A outer s H) (hl : vs.length = ps.length) (r : Vals vs us) (x : InCallC s s.heap.objs.size (bindL (envOfC qual scope s.heap.objs.size f cd).kindOf (ps.zip us) fun _ => none) (cellsFrom (s.heap.objs.size + 1) scope.names []) (bindC (envOfC qual scope s.heap.objs.size f cd).kindOf (ps.zip us) fun _ => none) s1) :
    Inv (cxC P w K mg base N qual scope f cd A outer s H E) [] (start N vs) H s1 := by
  have e1 : Env0 P w K mg base { A with handled := none } outer s H := ⟨e0.frames, e0.mod, e0.bs, e0.bsz, e0.funs, e0.frf, e0.hok, e0.bare⟩
  have I := inv_start (CX := CX0) (E := E) (A := { A with handled := none }) S rfl e1 hl r x
  exact ⟨⟨I.ok.mod, I.ok.kind, I.ok.glob, I.ok.blt, I.ok.above, I.ok.inj, I.ok.has, I.ok.cab, fun z => (Bool.false_ne_true z).elim, Around.frames_deeper e0.frames, I.ok.stk, I.ok.exf, I.ok.bs, I.ok.bsz, I.ok.noex, I.ok.exfs, I.ok.funs, I.ok.frf⟩, I.os, I.bare, I.base, I.loc, I.cell, I.free, I.freeC, I.pin, I.hok, I.len⟩
structure FnOkC (P : Program) (w : World) (K : PySem.W.Frag) (mg : Str → Option Value) (base : Heap) (k : Nat) (f : Addr) (fd : FuncData) (ps : List Str) (sp : Sp) : Prop where
  len : ∀ vs H Q E, sp vs H Q E → vs.length = ps.length
  run : ∀ (A : Around) (outer : List Env) (s : Shared) (H : Hp) (args : Args) (us : List Value) (vs : List V) (Q : VK) (E : XK), RoomC k A → Env0 P w K mg base A outer s H → BindsTo s fd args (ps.zip us) → Vals vs us → sp vs H Q E → codeAny (model P w) A (.call (.ref f) args) (CR CX0 outer P w H s Q E) s
theorem Fun.okC {P : Program} {w : World} {K : PySem.W.Frag} {mg : Str → Option Value} {base : Heap} {x qual : Str} {st : Stmt} {f : Addr} {fd : FuncData} {N ps : List Str} {k : Nat} {sp : Sp} (F : Fun K x qual st f fd) (S : FnScope N ps (defScope st)) (len : ∀ vs H Q E, sp vs H Q E → vs.length = ps.length)
    (hbody : ∀ (cdv : Value) (A : Around) (outer : List Env) (s : Shared) (H : Hp) (vs : List V) (Q : VK) (E : XK), RoomC k (A.deeper (envOfC qual (defScope st) s.heap.objs.size f cdv)) → sp vs H Q E →
      ∃ t, PSs (cxC P w K mg base N qual (defScope st) f cdv A outer s H E).nox (defBody st) t ∧ t { nx := fun _ H' => Q .non H', rt := Q } (start N vs) H) : FnOkC P w K mg base (k + 1) f fd ps sp := by
  obtain ⟨oc, od, kV, doc, pm, an, cdv, ct, osl, rfl, lk, hcd⟩ := F.ex
  refine ⟨len, fun A outer s H args us vs Q E hr e0 hb r hsp => ?_⟩
  have hl := len _ _ _ _ hsp
  have KX : K.In s.heap := e0.mod.kin.keeps fun b o e => (e0.bs b o e).1
  have lim : s.heap.NoLimit := e0.mod.nolimit.keeps fun b o e => (e0.bs b o e).1
  have hkind : ∀ y ∈ ps.zip us, (defScope st).names.lookup y.1 = some .local ∨ ((defScope st).names.lookup y.1 = some .cell ∧ ((cellsFrom (s.heap.objs.size + 1) (defScope st).names []).lookup y.1).isSome = true) := fun ⟨n, v⟩ hy => by
    rcases S.par n (List.of_mem_zip hy).1 with q | q
    · exact .inl q
    · exact .inr ⟨q, PySem.W.cellsFrom_some _ _ _ (.inl q)⟩
  refine codeAny_call_function (by have := hr.dp; omega) (KX _ _ lk) rfl S.co S.gen rfl (PySem.W.codeRec_of KX hcd) (hb _ _ _ _ ?_)
  refine wpAny_newFunctionEnv_cells S.kind hkind fun env he s1 x => ?_
  subst he
  refine ⟨lim.keeps x.toInCall.keep, codeAny_func ?_⟩
  obtain ⟨t, ht', hq⟩ := hbody cdv A outer s H vs Q E ⟨by have := hr.dp; show A.depth + 1 + 3 * k + 5 < _; omega, by have := hr.un; show A.units + 3 + 16 * k + 200 < _; omega⟩ hsp
  have ht := ht'.nox
  have I : Inv (cxC P w K mg base N qual (defScope st) f cdv A outer s H E) [] (start N vs) H s1 := inv_startC S e0 hl r x
  refine wpAny_mono (ht [] s1 (start N vs) H _ I hq) (fun fl s' hs => ?_) fun e s' hs => hs
  have fin : ∀ {σ' : St} {H' : Hp} {v : V} {u : Value}, Inv (cxC P w K mg base N qual (defScope st) f cdv A outer s H E) [] σ' H' s' → RelV v u → Q v H' → CE outer P w H s Q u s' := fun {σ' H' v u} J rv q => ⟨v, H', J.os, J.bare, J.base, J.hok, rv, q⟩
  cases fl with
  | ret u => obtain ⟨v, σ', H', J, rv, q⟩ := hs; exact fin J rv q
  | next => obtain ⟨σ', H', J, q⟩ := hs; exact fin (v := V.non) (u := Value.none) J rfl q
  | brk => obtain ⟨_, _, _, q⟩ := hs; exact False.elim q
  | cont => obtain ⟨_, _, _, q⟩ := hs; exact False.elim q
def DefC (P : Program) (w : World) (K : PySem.W.Frag) (mg : Str → Option Value) (base : Heap) (k : Nat) (x : Str) (ps : List Str) (sp : Sp) : Prop :=
  ∃ f fd, FnOkC P w K mg base k f fd ps sp ∧ mg x = some (.ref f) ∧ PySem.W.keepIn K (.ref f) = true ∧ Binds K fd ps []
theorem DefC.of {P : Program} {w : World} {K : PySem.W.Frag} {mg : Str → Option Value} {base : Heap} {k : Nat} {x qual : Str} {ps : List Str} {sp : Sp} {st : Stmt} {f : Addr} {fd : FuncData}
    (F : Fun K x qual st f fd) (m : mg x = some (.ref f)) (b : Binds K fd ps []) (ok : FnOkC P w K mg base k f fd ps sp) : DefC P w K mg base k x ps sp := ⟨f, fd, ok, m, F.kp, b⟩
theorem DefC.calm {P : Program} {w : World} {K : PySem.W.Frag} {mg : Str → Option Value} {base : Heap} {k : Nat} {x : Str} {ps : List Str} {sp : Sp} (D : DefC P w K mg base k x ps sp) : Def P w K mg base k x ps sp := by
  obtain ⟨f, fd, F, r⟩ := D
  exact ⟨f, fd, ⟨F.len, fun A outer s H args us vs Q E hr => F.run A outer s H args us vs Q E hr.c⟩, r⟩
theorem pe_defC {X : Cx} {k k' : Nat} {x : Str} {ps : List Str} {sp : Sp} {e : Expr} {es : List Expr} {t : TA} {p pos : Pos} (D : DefC X.prog X.w X.K X.mg X.base k x ps sp) (hr : RoomC k' X.A) (ha : PA X (e :: es) t) (hk : k ≤ k' := by decide) (hg : Gl X x := by rfl)
    (hdb : (x == ("__debug__" : Str)) = false := by decide) (he : starEach (e :: es) X.env = (false, eval e X.env) :: starEach es X.env := by rfl) (hpl : (backTo pos (starEach es X.env)).any (·.1) = false := by rfl) :
    PE X (.Call (.Name x p) (e :: es) [] pos) (fun σ H Q => t σ H fun vs H1 => sp vs H1 Q E0) := by
  obtain ⟨f, fd, F, m, kp, b⟩ := D
  intro pins s σ H Q I h
  refine wpAny_Call_Name_kw (ld_glob I hg m ?_ hdb)
  refine PySem.W.callWith_K (h₀ := X.base) I.ok.mod.kin kp (thn (ha pos pins s σ H _ I h) fun us s1 ⟨vs, H1, I1, r, q⟩ => ⟨I1.kIn, ?_⟩) he hpl
  have hl : (us ++ []).length = ps.length := by rw [List.append_nil, ← r.length]; exact F.len _ _ _ _ q
  have bt := b s1 us I1.kIn hl
  rw [List.append_nil] at bt
  refine wpAny_call (codeAny_mono (F.run X.A X.stack s1 H1 ⟨us, []⟩ us vs Q E0 (hr.mono hk) I1.env0 bt r q) fun r s' hq => ?_)
  cases r with
  | error e => exact False.elim hq
  | ok fl =>
    cases fl with
    | ret u => exact I1.after hq
    | next => exact False.elim hq
    | brk => exact False.elim hq
    | cont => exact False.elim hq
end L2
namespace L2
open PySem PySem.Spec PyProof.Rows
set_option maxRecDepth 100000
theorem lri_no_len : typeLookup (.type "list_reverseiterator") "__len__" = pure none := by rw [typeLookup_type, builtinLookup_eq_fast]; kernel_rfl
theorem lri_hint : typeLookup (.type "list_reverseiterator") "__length_hint__" = pure (some (.builtin "list_reverseiterator.__length_hint__")) := by rw [typeLookup_type, builtinLookup_eq_fast]; kernel_rfl
section
variable {prog : Program} {w : World} {A : Around} {E : Value → Shared → Prop} {s : Shared}
theorem hint_rev {I : Addr} {Q : Bool → Shared → Prop} (hT : s.TypeIs (.ref I) "list_reverseiterator") (h : Q false s) : wpAny (model prog w) A (Builtin.List.listLengthHint (.ref I)) Q E s := by
  obtain ⟨f, hf⟩ : ∃ f, f = "list_reverseiterator.__length_hint__" := ⟨_, rfl⟩
  have a1 := lri_no_len
  have a2 := lri_hint
  have a3 : splitId f = some ("list_reverseiterator", "__length_hint__") := by rw [hf]; decide +kernel
  have a4 : isSubtype (.type "list_reverseiterator") (.type "list_reverseiterator") = pure true := by rw [isSubtype_type]; kernel_rfl
  rw [← hf] at a2
  wp_walk
  rw [a3]
  wp_walk
  subst hf
  apply wpAny_ite_true
  · decide +kernel
  apply wpAny_ite_false
  · decide +kernel
  exact wpAny_pure h
set_option maxHeartbeats 2000000 in
theorem extend_rev {R : Result → Shared → Prop} {I l : Addr} {items : Array Value} (hh : A.handled = none) (hit : s.heap.IsRevIter I l ((items.size : Int) - 1)) (hl : s.heap.IsList l items) (hne : l ≠ I) (hsz : items.size ≤ sizeLine) (S : Addr) (res : Value) (c₀ : Nat) (hSI : S ≠ I) (hSl : S ≠ l)
    (hS : s.heap.get? S = some { cls := .type "list", data := .seq #[] c₀ })
    (hR : ∀ h' tk acc' c', (∀ b o, b ≠ S → b ≠ I → s.heap.get? b = some o → h'.get? b = some o) → h'.get? S = some { cls := .type "list", dict := none, data := .seq acc' c', slots := #[] } → ItemsOf (fun i v => items[items.size - 1 - i]? = some v) acc' items.size → R (.ok (.ret res)) { s with heap := h', toks := tk }) :
    wpAny (model prog w) A.in1 (Builtin.List.listExtendWith (.ref S) (.ref I) res) (fun fin s' => match fin with | .done f => R (.ok f) s' | .again c' => c'.quiet = true ∧ codeAny (model prog w) A c' R s') (fun e s' => R (.error e) s') s := by
  have W := (Walks.listRev (prog := prog) (w := w) (A := A.in1) hh I l hne items).toS
  have ty := hit.typeIs
  have n1 : Builtin.List.listSameRef (.ref S) (.ref I) = false := by simp [Builtin.List.listSameRef, hSI]
  have n2 : (Value.type "list_reverseiterator" == Value.type "list") = false := by decide
  have n3 : (Value.type "list_reverseiterator" == Value.type "tuple") = false := by decide
  obtain ⟨hp, gs, dn, tk, os⟩ := s
  wp_walk using wpAny_pyIter_revIter hit, hint_rev ty
  constructor
  · exact plainId_quiet F.plain_extend_loop _
  have start : hp.IsRevIter I l ((items.size : Int) - 1 - ((0 : Nat) : Int)) := by simpa using hit
  refine codeAny_extend_loopS W hsz S (by simp [hSI, hSl]) res items.size 0 _ #[] c₀ rfl (Nat.zero_le _) ⟨Nat.zero_le _, start, hl⟩ hS (ItemsOf.nil _) fun s' acc' c' moved at_ all => ?_
  rw [moved.eq_with]
  exact hR s'.heap s'.toks acc' c' (fun b o h1 h2 q => moved.heap b o (by simp [h1, h2]) q) at_ all
end
section
variable {prog : Program} {w : World} {A : Around} {E : Value → Shared → Prop} {s : Shared}
set_option maxHeartbeats 2000000 in
theorem call_list_rev {I l : Addr} {items : Array Value} {Q : Value → Shared → Prop} (hh : A.handled = none) (hit : s.heap.IsRevIter I l ((items.size : Int) - 1)) (hl : s.heap.IsList l items) (hne : l ≠ I) (hsz : items.size ≤ sizeLine)
    (hQ : ∀ h' tk acc' c', (∀ b o, b ≠ I → s.heap.get? b = some o → h'.get? b = some o) → h'.get? s.heap.objs.size = some { cls := .type "list", dict := none, data := .seq acc' c', slots := #[] } → ItemsOf (fun i v => items[items.size - 1 - i]? = some v) acc' items.size → Q (.ref s.heap.objs.size) { s with heap := h', toks := tk }) :
    wpAny (model prog w) A (call (.type "list") [.ref I]) Q E s := by
  obtain ⟨hp, gs, dn, tk, os⟩ := s
  have iI : I < hp.objs.size := let ⟨_, q, _⟩ := hit; Heap.lt_size q
  have il : l < hp.objs.size := let ⟨_, q, _⟩ := hl; Heap.lt_size q
  obtain ⟨new, hn⟩ : ∃ o : Obj, o = { cls := .type "list", data := .seq #[] } := ⟨_, rfl⟩
  apply callType_codes (Q₁ := fun obj s₁ => (obj, s₁) = (.ref hp.objs.size, ⟨hp.push new, gs, dn, tk, os⟩)) F.called_list (F.typeCall_list_1 _) F.entry_list_init (code_list_new _ (by rw [hn]))
  intro obj s₁ e
  cases e
  have at_ : (hp.push new).get? hp.objs.size = some new := Heap.get?_push_size _ (by rw [hn]; rfl)
  subst hn
  refine ⟨⟨_, at_, rfl⟩, F.args_list_init_2 _ _, ?_⟩
  have at2 := Heap.get?_update_self (Obj.mapSeq fun _ => (#[] : Array Value)) at_ rfl
  have old : ∀ b o, hp.get? b = some o → ((hp.push { cls := .type "list", data := .seq #[] }).update hp.objs.size (Obj.mapSeq fun _ => (#[] : Array Value))).get? b = some o := fun b o q => Heap.get?_update_of_ne _ (Nat.ne_of_gt (Heap.lt_size q)) (Heap.get?_push_of_some _ q)
  unfold Builtin.«list.__init__»
  have more := extend_rev (prog := prog) (w := w) (R := wants (fun r s₂ => r = .none ∧ Q (.ref hp.objs.size) s₂) E) (A := A.in1) (s := ⟨_, gs, dn, tk, os⟩) hh (hit.at fun o e => old I o e) (hl.at fun o e => old l o e) hne hsz _ .none _ (Nat.ne_of_gt iI) (Nat.ne_of_gt il) at2
    (fun h' tk acc' c' keep at3 all => ⟨rfl, hQ h' tk acc' c' (fun b o hb q => keep b o (Nat.ne_of_lt (Heap.lt_size q)) hb (old b o q)) at3 all⟩)
  repeat (first | exact more | with_reducible apply AutoSeq1.wpAny_loadPart' at_ | wp_step)
end
theorem rev_acc {its : List Value} {acc : Array Value} (h : ItemsOf (fun i v => its.toArray[its.toArray.size - 1 - i]? = some v) acc its.toArray.size) : acc = its.reverse.toArray := by
  obtain ⟨h1, h2⟩ := h
  apply Array.ext
  · rw [h1]; simp
  · intro i hi hi2
    have := h2 i acc[i] (Array.getElem?_eq_getElem hi)
    have hL : acc.size = its.length := by rw [h1]; simp
    simp only [List.size_toArray, List.getElem?_toArray] at this
    have e : its.reverse[i]? = some acc[i] := by
      rw [List.getElem?_reverse (by omega)]
      exact this
    have hi3 : i < its.reverse.length := by simpa using hi2
    rw [List.getElem?_eq_getElem hi3] at e
    have e' := Option.some.inj e
    simpa using e'.symm
theorem Vals.rev {xs : List V} {us : List Value} (r : Vals xs us) : Vals xs.reverse us.reverse := by
  induction r with
  | nil => exact .nil
  | cons h t ih => rw [List.reverse_cons, List.reverse_cons]; exact ih.append (.cons h .nil)
section
variable {X : Cx} {K : PySem.W.Frag}
def tRev (K : PySem.W.Frag) (ta : TA) : TE := fun σ H Q => ta σ H fun vs H1 => ∃ p xs, vs = [.ref p] ∧ SqL K H1 p xs ∧ ∀ l, H1 l = none → Q (.ref l) (upd H1 l (.lst xs.reverse))
theorem pe_listrev {e : Expr} {ta : TA} {p1 p2 pos1 pos2 : Pos} (hK : X.K = K) (hc : X.calm = true) (hg : Gl X "list") (hm : X.mg "list" = none) (hg2 : Gl X "reversed") (hm2 : X.mg "reversed" = none) (ha : PA X [e] ta)
    (hs : starEach [.Call (.Name "reversed" p2) [e] [] pos2] X.env = [(false, eval (.Call (.Name "reversed" p2) [e] [] pos2) X.env)] := by rfl) (hs2 : starEach [e] X.env = [(false, eval e X.env)] := by rfl) :
    PE X (.Call (.Name "list" p1) [.Call (.Name "reversed" p2) [e] [] pos2] [] pos1) (tRev K ta) := by
  subst hK
  intro pins s σ H Q I h
  refine Call_ (ld_blt I hg hm boot_list (PyProof.Rows.callWith_type1 ?_ hs rfl))
  rw [hs]
  refine Calls.spliced_cons ?_
  refine Call_ (ld_blt I hg2 hm2 boot_reversed (PyProof.Rows.callWith_type1 (thn (ha pos2 pins s σ H _ I h) fun us s1 ⟨vs, H1, I1, r1, q1⟩ => ?_) hs2 rfl))
  obtain ⟨p, xs, rfl, hq, q⟩ := q1
  obtain ⟨u, rfl, rx⟩ := vals1 r1
  cases rx
  obtain ⟨its, rv, pl, hz⟩ := I1.list hq
  have hlen := rv.length
  have hl := pl.isList
  have ltp : p < s1.heap.objs.size := by obtain ⟨o, e, _⟩ := hl; exact Heap.lt_size e
  refine call_reversed_list hl (Calls.spliced_nil ?_)
  have I2 : Inv X pins σ H1 { s1 with heap := s1.heap.push (revObj p ((its.toArray.size : Int) - 1)) } := I1.kept (t' := s1.toks) fun b o e => Heap.get?_push_of_some _ e
  refine call_list_rev (I.ok.hd hc) ⟨_, Heap.get?_push_size _ rfl, rfl, rfl⟩ (hl.push _) (Nat.ne_of_lt ltp) (by simp only [List.size_toArray]; omega) fun h' tk acc' c' hk hS hacc => ?_
  have hacc' := rev_acc hacc
  subst hacc'
  have sz : (s1.heap.push (revObj p ((its.toArray.size : Int) - 1))).objs.size = s1.heap.objs.size + 1 := Heap.size_push ..
  have kp : ∀ b o, s1.heap.get? b = some o → h'.get? b = some o := fun b o e => hk b o (Nat.ne_of_lt (Heap.lt_size e)) (Heap.get?_push_of_some _ e)
  have fr : s1.heap.objs.size ≤ (s1.heap.push (revObj p ((its.toArray.size : Int) - 1))).objs.size := by rw [sz]; exact Nat.le_succ _
  exact ⟨.ref _, _, I1.laid (t' := tk) kp fr (show ObjOk X.prog X.w _ h' _ (.lst xs.reverse) from ⟨by rw [List.length_reverse]; exact hz, its.reverse, c', Vals.rev rv, hS⟩), rfl, q _ (I1.hok.fresh fr)⟩
end
end L2
namespace L2
open PySem PySem.Spec PyProof.Rows
section
variable {X : Cx}
end
end L2
namespace L2
open PySem PySem.Spec PyProof.Rows
open AutoSeq1 (wpAny_loadPart')
set_option maxRecDepth 100000
set_option maxHeartbeats 1000000 in
theorem meets_enumT (l : Addr) (items : Array Value) (n : Nat) (dct : Option Addr) (sl : Array (Option Value)) : Meets (Builtin.«enumerate.__new__» ⟨[.type "enumerate", .ref l], []⟩) (fun _ R s => s.heap.get? l = some { cls := .type "tuple", dict := dct, data := .seq items n, slots := sl } ∧
      R (.ok (.ret (.ref (s.heap.push { cls := .type "tuple_iterator", data := .fields #[.ref l, .int 0 0] }).objs.size))) { s with heap := (s.heap.push { cls := .type "tuple_iterator", data := .fields #[.ref l, .int 0 0] }).push { cls := .type "enumerate", data := .fields #[.none, .bool false, .ref s.heap.objs.size, rawInt 0, .none, .none] } }) :=
  .of_wp fun prog w A R s h => by
    obtain ⟨at_, told⟩ := h
    obtain ⟨hp, gs, dn, tk, os⟩ := s
    have self := sub_enumerate
    have seq : Heap.IsTuple (Shared.heap ⟨hp, gs, dn, tk, os⟩) l items := ⟨_, at_, rfl, n, rfl⟩
    wp_walk using AutoSeq1.wpAny_loadPart' at_
    apply wpAny_stack_any
    intro rows
    apply wpAny_pure
    split
    rename_i cl _ _ _ _ _
    rcases Bool.eq_false_or_eq_true (cl == Value.type "enumerate") with q | q <;> rw [q]
    all_goals wp_walk using AutoSeq1.wpAny_loadPart' at_, wpAny_pyIter_tuple seq
    all_goals exact ⟨_, rfl, told⟩
section
variable {prog : Program} {w : World} {A : Around} {E : Value → Shared → Prop} {s : Shared}
theorem call_enumT {l : Addr} {items : Array Value} {Q : Value → Shared → Prop} (hL : s.heap.IsTuple l items)
    (h : ∀ h', IsEnum h' (s.heap.objs.size + 1) s.heap.objs.size 0 .none → h'.IsTupleIter s.heap.objs.size l 0 → (∀ b o, s.heap.get? b = some o → h'.get? b = some o) → Q (.ref (s.heap.objs.size + 1)) { s with heap := h' }) : wpAny (model prog w) A (call (.type "enumerate") [.ref l]) Q E s := by
  obtain ⟨⟨cc, dct, dt, sl⟩, hl, hc, n, hd⟩ := hL
  replace hc : cc = .type "tuple" := hc; replace hd : dt = .seq items n := hd; subst hc hd
  refine callType_new F.called_enumerate (by decide) (F.typeCall_enumerate_1 _) (F.newCall_enumerate_1 _) (fun obj => F.args_object_init_2 obj _) F.entry_enumerate_new (meets_enumT l items n dct sl) ⟨hl, ?_⟩
  have hz : (s.heap.push { cls := .type "tuple_iterator", data := .fields #[.ref l, .int 0 0] }).objs.size = s.heap.objs.size + 1 := Heap.size_push ..
  show _ ∧ _
  rw [hz]
  have he : IsEnum ((s.heap.push { cls := .type "tuple_iterator", data := .fields #[.ref l, .int 0 0] }).push { cls := .type "enumerate", data := .fields #[.none, .bool false, .ref s.heap.objs.size, rawInt 0, .none, .none] }) (s.heap.objs.size + 1) s.heap.objs.size 0 .none := by
    have := Heap.get?_push_size (s.heap.push { cls := .type "tuple_iterator", data := .fields #[.ref l, .int 0 0] }) (o := { cls := .type "enumerate", data := .fields #[.none, .bool false, .ref s.heap.objs.size, rawInt 0, .none, .none] }) rfl
    rw [hz] at this; exact this
  exact ⟨⟨_, he, rfl⟩, h _ he ⟨_, Heap.get?_push_of_some _ (Heap.get?_push_size _ rfl), rfl, rfl⟩ fun b o x => Heap.get?_push_of_some _ (Heap.get?_push_of_some _ x)⟩
theorem call_enumB {b : Bool} {l : Addr} {items : Array Value} {Q : Value → Shared → Prop} (hL : SSq b s.heap l items)
    (h : ∀ h', IsEnum h' (s.heap.objs.size + 1) s.heap.objs.size 0 .none → SIt b h' s.heap.objs.size l 0 → (∀ b o, s.heap.get? b = some o → h'.get? b = some o) → Q (.ref (s.heap.objs.size + 1)) { s with heap := h' }) : wpAny (model prog w) A (call (.type "enumerate") [.ref l]) Q E s := by
  cases b
  · exact call_enumerate_list hL fun h' h1 h2 _ h3 => h h' h1 h2 h3
  · exact call_enumT hL fun h' h1 h2 h3 => h h' h1 h2 h3
end
def Ite (K : PySem.W.Frag) (b : Bool) (a : Addr) (xs : List V) : It :=
  ⟨fun i H => SqB b K H a xs ∧ i < xs.length, fun i H x H' => ∃ p, x = .ref p ∧ H p = none ∧ H' = upd H p (.tup [.int (i : Nat), xs.getD i .non]), fun i H => SqB b K H a xs ∧ i = xs.length⟩
theorem turn_enum {P : Program} {w : World} {K : PySem.W.Frag} {elts : List Expr} {kx} {pos : Pos} (b : Bool) (a e it : Addr) (xs : List V) (ne : e ≠ it) :
    Turn P w K (.Tuple elts kx pos) (Ite K b a xs) [e, it] e (fun i h => (∃ old, IsEnum h e it (i : Nat) old) ∧ SIt b h it a i) where
  mem := by simp
  obj := fun i h st c hc => by
    obtain ⟨⟨old, he⟩, h1⟩ := st
    simp only [List.mem_cons, List.not_mem_nil, or_false] at hc
    rcases hc with rfl | rfl
    · exact ⟨_, he, fun v z => by cases z⟩
    · exact h1.obj
  keep := fun i h h' st k => by
    obtain ⟨⟨old, he⟩, h1⟩ := st
    exact ⟨⟨old, k e (by simp) _ he⟩, h1.keep fun o x => k it (by simp) o x⟩
  item := by
    intro X hP hw hK hc i pins s σ H E I hf st hg
    subst hP hw hK
    obtain ⟨⟨old, he⟩, h1⟩ := st
    obtain ⟨q1, hx⟩ := hg
    obtain ⟨its, r1, p1, z1⟩ := I.src q1
    have na := I.srcNe q1 (hf it (by simp)); have nb := I.srcNe q1 (hf e (by simp)); have len1 := r1.length
    have D := draws_src (prog := X.prog) (w := X.w) (A := X.A.in1) (I.ok.hd hc) b it a na its.toArray
    refine wpAny_pyNext_enum_itemD D he ⟨h1, p1⟩ (by simp; omega) ne (by simp [ne, nb.symm]) fun x h' tk hPx ho hs' hT hsz hk => ?_
    have r : Vals [V.int (i : Nat), xs.getD i .non] [Value.int (i : Nat) tk, x] := .cons ⟨tk, rfl⟩ (.cons (getD_val r1 hPx) .nil)
    have I1 : Inv X pins σ (upd H s.heap.objs.size (.tup [.int (i : Nat), xs.getD i .non])) { s with heap := h', toks := tk + 1 } :=
      I.turnedLaid (t' := tk + 1) hf (fun c o hc e' => hk c o (fun q => hc (by simp [q])) (fun q => hc (by simp [q])) e') r (by show 2 ≤ sizeLine; decide) ⟨_, hT, rfl, _, rfl⟩
    have nH : H s.heap.objs.size = none := I.hok.fresh (Nat.le_refl _)
    have fresh : ∀ c ∈ [e, it], (upd H s.heap.objs.size (.tup [.int (i : Nat), xs.getD i .non])) c = none := fun c hc => by
      rw [upd_ne ?_]
      · exact (hf c hc).1
      · simp only [List.mem_cons, List.not_mem_nil, or_false] at hc
        rcases hc with rfl | rfl
        · exact Nat.ne_of_lt (Heap.lt_size he)
        · obtain ⟨o, e', _⟩ := h1.obj; exact Nat.ne_of_lt (Heap.lt_size e')
    obtain ⟨f0, f1, f2, f3, f4, f5⟩ := hf e (by simp)
    refine ⟨_, rfl, wpAny_letOwnedTupleGo_enum ho fun h2 he2 sb => ⟨.ref s.heap.objs.size, _, I1.turned (t' := tk + 1) (fun b o hb e' => (sb.2 b hb).trans e') (fresh e (by simp)) f1 f3 f4 f5, rfl, ⟨_, rfl, nH, rfl⟩, ⟨⟨x, by simpa using he2⟩, ?_⟩, fresh⟩⟩
    exact hs'.1.keep fun o e' => (sb.2 it ne.symm).trans e'
  done := by
    intro X hP hw hK hc i pins s σ H E I hf st hg
    subst hP hw hK
    obtain ⟨⟨old, he⟩, h1⟩ := st
    obtain ⟨q1, hx⟩ := hg
    obtain ⟨its, r1, p1, z1⟩ := I.src q1
    have na := I.srcNe q1 (hf it (by simp)); have len1 := r1.length
    have D := draws_src (prog := X.prog) (w := X.w) (A := X.A.in1) (I.ok.hd hc) b it a na its.toArray
    have hs : SIt b s.heap it a its.toArray.size := by rw [List.size_toArray, ← len1, ← hx]; exact h1
    refine wpAny_pyNext_enum_endD D he ⟨hs, p1⟩ fun h' eb => ⟨rfl, I.turnedAll (t' := s.toks) hf fun c o hc e' => eb c o (fun q => hc (by simp [q])) e'⟩
  self := fun A i s Q E st h => by obtain ⟨⟨old, he⟩, _⟩ := st; exact wpAny_pyIter_enum he h
theorem itp_enum {K : PySem.W.Frag} {b : Bool} {a : Addr} {xs : List V} : ItP (Ite K b a xs) xs.length (fun i => [.int (i : Nat), xs.getD i .non]) (fun H => SqB b K H a xs) where
  go := fun i H c hi => ⟨c, hi⟩
  yld := fun i H x H' c hi y => y
  stop := fun H c => ⟨c, rfl⟩
def iEnum (K : PySem.W.Frag) (ta : TA) : TI := fun σ H R => ta σ H fun vs H1 => ∃ (b : Bool) (a : Addr) (xs : List V), vs = [.ref a] ∧ SqB b K H1 a xs ∧ ∀ J C, ItP J xs.length (fun i => [.int (i : Nat), xs.getD i .non]) C → (∀ H2, SqB b K H2 a xs → C H2) → R J H1
theorem pi_enum {X : Cx} {K : PySem.W.Frag} {elts : List Expr} {kx : Nat} {tpos : Pos} {a : Expr} {ta : TA} {p pos : Pos} (hK : X.K = K) (hg : Gl X "enumerate") (hm : X.mg "enumerate" = none) (ha : PA X [a] ta) (hs : starEach [a] X.env = [(false, eval a X.env)] := by rfl) :
    PI X (.Tuple elts kx tpos) (.Call (.Name "enumerate" p) [a] [] pos) (iEnum K ta) := by
  subst hK
  intro pins s σ H R I h
  refine Call_ (ld_blt I hg hm boot_enumerate (PyProof.Rows.callWith_type1 (thn (ha pos pins s σ H _ I h) fun us s1 ⟨vs, H1, I1, r1, q1⟩ => ?_) hs rfl))
  obtain ⟨b, a1, xs, e, q1, q⟩ := q1
  subst e
  obtain ⟨u, rfl, rx⟩ := vals1 r1
  cases rx
  obtain ⟨its, rv1, p1, z1⟩ := I1.src q1
  refine call_enumB p1 fun h' he h1 hk => wpAny_pyIter_enum he ?_
  have I2 : Inv X pins σ H1 { s1 with heap := h' } := I1.kept (t' := s1.toks) hk
  refine ⟨_, [s1.heap.objs.size + 1, s1.heap.objs.size], _, _, H1, rfl, I2, turn_enum b a1 _ _ xs (Nat.ne_of_gt (Nat.lt_succ_self _)), ⟨⟨_, he⟩, h1⟩, fun c hc => ?_, q _ _ itp_enum fun H2 k1 => k1⟩
  have : s1.heap.objs.size ≤ c := by
    simp only [List.mem_cons, List.not_mem_nil, or_false] at hc
    rcases hc with rfl | rfl <;> first | exact Nat.le_add_right _ _ | exact Nat.le_refl _
  exact I1.fpOk this (I1.hok.fresh this)
end L2
namespace L2
open PySem PySem.Spec PyProof.Rows
def Thin (H : Hp) (v : V) : Prop := ∃ r o xs, v = .ref r ∧ H r = some (.frz o (.tup xs)) ∧ o.dict = none
theorem Thin.same {H H' : Hp} {v : V} (S : Same H H') (h : Thin H v) : Thin H' v := by
  obtain ⟨r, o, xs, e, h1, h2⟩ := h
  exact ⟨r, o, xs, e, S _ _ h1, h2⟩
def WebD (K : PySem.W.Frag) (C : Addr) (H : Hp) (a : Addr) (m : Int) (es : List (Int × Int)) : Prop := ∃ dx t xs, H a = some (.ins C dx (wFs m t)) ∧ H t = some (.tup xs) ∧ Pairs K H xs es ∧ ∀ v ∈ xs, Thin H v
theorem WebD.at {K : PySem.W.Frag} {C : Addr} {H : Hp} {a : Addr} {m : Int} {es : List (Int × Int)} (h : WebD K C H a m es) : WebAt K C H a m es := by
  obtain ⟨dx, t, xs, h1, h2, h3, _⟩ := h
  exact ⟨dx, t, xs, h1, h2, h3⟩
theorem WebD.same {K : PySem.W.Frag} {C : Addr} {H H' : Hp} {a : Addr} {m : Int} {es : List (Int × Int)} (h : WebD K C H a m es) (S : Same H H') : WebD K C H' a m es := by
  obtain ⟨dx, t, xs, h1, h2, h3, h4⟩ := h
  exact ⟨dx, t, xs, S _ _ h1, S _ _ h2, h3.same S, fun v hv => (h4 v hv).same S⟩
section
variable {X : Cx} {K : PySem.W.Frag}
def tTupD (t : TA) : TE := fun σ H Q => t σ H fun xs H1 => xs.length ≤ sizeLine ∧ ∀ p o, H1 p = none → o.dict = none → Q (.ref p) (upd H1 p (.frz o (.tup xs)))
theorem pe_tupD {es : List Expr} {t : TA} {x1} {pos : Pos} (h : PA X es t) : PE X (.Tuple es x1 pos) (tTupD t) := by
  intro pins s σ H Q I hq
  refine wpAny_Tuple_spliced (thn (h pos pins s σ H _ I hq) fun us s1 ⟨xs, H1, I1, r, z, q⟩ => ⟨by rw [← r.length]; exact z, ?_⟩)
  have hf : H1 s1.heap.objs.size = none := I1.hok.fresh (Nat.le_refl _)
  refine ⟨.ref s1.heap.objs.size, upd H1 s1.heap.objs.size (.frz { cls := .type "tuple", data := .seq us.toArray } (.tup xs)), I1.laid (t' := s1.toks) (fun b u e => Heap.get?_push_of_some _ e) (Nat.le_refl _) ?_, rfl, q _ _ hf rfl⟩
  exact ⟨Heap.get?_push_size _ rfl, z, us, r, ⟨_, Heap.get?_push_size _ rfl, rfl, _, rfl⟩⟩
def tTiesD (K : PySem.W.Frag) (C : Addr) (ta : TE) : TE := fun σ H Q => ta σ H fun x H1 => ∃ a m es, x = .ref a ∧ WebD K C H1 a m es ∧ ∀ t xs, H1 t = some (.tup xs) → Pairs K H1 xs es → (∀ v ∈ xs, Thin H1 v) → Q (.ref t) H1
theorem pTiesD {C : Addr} {e : Expr} {ta : TE} {pos : Pos} (hK : X.K = K) (W : WebC K C) (he : PE X e ta) (hb : attributeBase e "ties" X.env (eval e X.env) = eval e X.env := by rfl) : PE X (.Attribute e "ties" pos) (tTiesD K C ta) := by
  subst hK
  exact pe_fld2 (r := fun x H1 Q => ∃ a m es, x = .ref a ∧ WebD X.K C H1 a m es ∧ ∀ t xs, H1 t = some (.tup xs) → Pairs X.K H1 xs es → (∀ v ∈ xs, Thin H1 v) → Q (.ref t) H1) he hb fun x H Q ⟨a, m, es, ex, ⟨dx, t, xs, h1, h2, h3, h4⟩, q⟩ => ⟨a, C, dx, _, _, ex, h1, W.cl, W.nT, wFs_ties m t, q t xs h2 h3 h4⟩
def tCntT (K : PySem.W.Frag) (to : TE) (t : TA) : TE := fun σ H Q => to σ H fun x H1 => Thin H1 x ∧ t σ H1 fun vs H2 => ∃ p xs y, x = .ref p ∧ vs = [y] ∧ SqT K H2 p xs ∧ flatV y = true ∧ xs.all flatV = true ∧ Q (.int (xs.countP fun z => eqV z y : Nat)) H2
theorem pe_cntT {o e : Expr} {to : TE} {t : TA} {apos cpos : Pos} (hK : X.K = K) (ho : PE X o to) (ha : PA X [e] t) (hbase : attributeBase o "count" X.env (eval o X.env) = eval o X.env := by rfl)
    (hfew : ((backTo cpos (starEach [e] X.env)).all (fun x => !x.1) && (backToKw cpos (keywordEach [] X.env)).all (fun x => x.1.isSome) && decide ([e].length + ([] : List Keyword).length + (if ([] : List Keyword).isEmpty then 0 else 1) < 30)) = true := by rfl)
    (hline : (apos.endLine == cpos.line) = true := by rfl) (hs : starEach [e] X.env = (false, eval e X.env) :: starEach [] X.env := by rfl) (hplain : (backTo cpos (starEach [] X.env)).any (·.1) = false := by rfl) :
    PE X (.Call (.Attribute o "count" apos) [e] [] cpos) (tCntT K to t) := by
  subst hK
  intro pins s σ H Q I h
  refine wpAny_Call_method_late hbase hfew hline rfl (thn (ho pins s σ H _ I h) fun v s1 ⟨x, H1, I1, r1, ty, q1⟩ => ?_)
  obtain ⟨r, ob, xs0, rfl, hr, hd⟩ := ty
  cases r1
  obtain ⟨g1, _, its0, _, ⟨ob', e1, c1, _⟩⟩ := I1.hok r _ hr
  refine ⟨"tuple", "tuple.count", PySem.F.plainAttrs_tuple, PySem.F.slot_tuple_count, PySem.F.type_tuple_count, ⟨ob', e1, c1⟩, fun a ea => ⟨ob, by cases ea; exact g1, hd⟩, ?_⟩
  have hA := ha cpos pins s1 σ H1 _ I1 q1
  rw [hs] at hA ⊢
  refine Calls.callWith_builtin (by show (false || (backTo cpos (starEach [] X.env)).any (·.1)) = false; rw [hplain] <;> rfl) (Calls.evalArgs_plain ?_)
  refine thn hA fun us s2 ⟨vs, H2, I2, r2, q2⟩ => ?_
  obtain ⟨p, xs, y, ep, rfl, hq, fy, fs, q⟩ := q2
  cases ep
  obtain ⟨u, rfl, ry⟩ := r2.one
  obtain ⟨its, rr, ⟨o2, e2, c2, n, d2⟩, hz⟩ := I2.tuple hq
  obtain ⟨oc, od, odt, osl⟩ := o2
  dsimp only at c2 d2
  subst c2 d2
  refine call_meets PySem.F.slot_tuple_count ⟨_, e2, rfl⟩ PySem.F.entry_tuple_count (PySem.F.args_tuple_count_2 _ _) (SeqAt.tuple_countAt r its.toArray n _ _ u (eqU y)) ⟨e2, fun w hw => mem_eqAt ry fy rr fs w (by simpa using hw), ?_⟩
  exact ⟨.int _, H2, I2.tok _, ⟨_, rfl⟩, by rw [show its.toArray.toList = its from rfl, count_eqU rr fs]; exact q⟩
end
end L2
namespace L2
open PySem PySem.Spec PyProof.Rows
section
variable {prog : Program} {w : World} {A : Around} {E : Value → Shared → Prop} {s : Shared}
theorem cat_tup0 {t b : Addr} {ws : List Value} {Q : Value → Shared → Prop} (ht : IsTup s.heap t ([] : List Value).toArray) (hb : IsTup s.heap b ws.toArray) (h1 : Q (.ref b) s) : wpAny (model prog w) A (binaryOp .Add (.ref t) (.ref b)) Q E s := by
  obtain ⟨⟨cls, dd, data, sl⟩, ho, hc, n, hd⟩ := id ht
  obtain ⟨⟨cls2, dd2, data2, sl2⟩, ho2, hc2, n2, hd2⟩ := id hb
  simp only at hc hd hc2 hd2
  subst hc hd hc2 hd2
  exact concat_meets ⟨_, ho, rfl⟩ ⟨_, ho2, rfl⟩ noFill_tuple_add seq_tuple_add PySem.F.slot_tuple_add PySem.F.entry_tuple_add (PySem.F.args_tuple_add_2 _ _) (tuple_addW0 t b ([] : List Value).toArray ws.toArray n n2 dd dd2 sl sl2 (by simp)) ⟨ho, ho2, h1⟩
end
section
variable {X : Cx} {K : PySem.W.Frag}
def rCat0 (K : PySem.W.Frag) : R2 := fun x y H Q => ∃ a b xs ys, x = .ref a ∧ y = .ref b ∧ SqT K H a xs ∧ SqT K H b ys ∧ xs.length + ys.length ≤ sizeLine ∧ ∀ p H', Same H H' → SqT K H' p (xs ++ ys) → Q (.ref p) H'
theorem opCat0 (hK : X.K = K) : OpR X (binaryOp .Add) (rCat0 K) := by
  subst hK
  intro pins s σ H x y v u Q I rx ry h
  obtain ⟨a, b, xs, ys, rfl, rfl, ha, hb, hz, q⟩ := h
  by_cases hx : xs = []
  · subst hx
    cases rx
    cases ry
    obtain ⟨its, r1, p1, _⟩ := I.tuple ha
    obtain ⟨its2, r2, p2, _⟩ := I.tuple hb
    cases r1
    exact cat_tup0 p1 p2 ⟨.ref b, H, I, rfl, q b H (Same.refl _) (by rw [List.nil_append]; exact hb)⟩
  · exact op_catT pins s σ H _ _ v u Q I rx ry ⟨a, b, xs, ys, rfl, rfl, ha, hb, hx, hz, fun e => q a H (Same.refl _) (by rw [e, List.append_nil]; exact ha), fun _ p np => q p _ (Same.new np) (SqT.of upd_same)⟩
theorem rng_acc {lo : Int} {n : Nat} {acc : Array Value} (h : ItemsOf (fun i v => ∃ t, v = .int (lo + i * 1) t) acc n) : Vals (((List.range n).map fun i => lo + ((i : Nat) : Int)).map V.int) acc.toList := by
  obtain ⟨h1, h2⟩ := h
  have key : ∀ (us : List Value) (k m : Nat), us.length = m → (∀ (j : Nat) v, us[j]? = some v → ∃ t, v = .int (lo + ((k + j : Nat) : Int)) t) → Vals (((List.range' k m).map fun i => lo + ((i : Nat) : Int)).map V.int) us := by
    intro us
    induction us with
    | nil => intro k m hm _; cases hm; exact .nil
    | cons u us ih =>
      intro k m hm hv
      cases m with
      | zero => cases hm
      | succ m =>
        rw [List.range'_succ, List.map_cons, List.map_cons]
        refine .cons ?_ (ih (k + 1) m (by simpa using hm) fun j v e => ?_)
        · obtain ⟨t, e⟩ := hv 0 u rfl
          exact ⟨t, by rw [e, Nat.add_zero]⟩
        · obtain ⟨t, e'⟩ := hv (j + 1) v (by simpa using e)
          exact ⟨t, by rw [e', show k + (j + 1) = k + 1 + j by omega]⟩
  rw [List.range_eq_range']
  refine key acc.toList 0 n (by simpa using h1) fun j v e => ?_
  obtain ⟨t, e'⟩ := h2 j v (by simpa using e)
  exact ⟨t, by rw [e', Int.mul_one, Nat.zero_add]⟩
theorem listrange_ok {pins : List (Addr × Obj)} {σ : St} {H : Hp} {s : Shared} {E : Value → Shared → Prop} {lo hi : Int} {t u v : Tok} {tk : Nat} {Q : VK} (hh : X.A.handled = none) (I : Inv X pins σ H s) (h1 : -(2 ^ 62) ≤ lo) (h2 : lo < 2 ^ 62) (h3 : -(2 ^ 62) ≤ hi) (h4 : hi < 2 ^ 62) (hn : (hi - lo).toNat ≤ 1000)
    (q : ∀ l, H l = none → Q (.ref l) (upd H l (.lst (((List.range (hi - lo).toNat).map fun i => lo + ((i : Nat) : Int)).map V.int)))) :
    wpAny (model X.prog X.w) X.A (call (.type "list") [.ref s.heap.objs.size]) (EP X pins σ Q) E { s with heap := s.heap.push { cls := .type "range", data := .fields #[.int lo t, .int hi u, .int 1 v] }, toks := tk } := by
  refine call_list_range (n := (hi - lo).toNat) hh (IsRange.new ..) (small_one h1 h2 h3 h4) (by rw [rangeSize_one]; split <;> omega) (Nat.le_trans hn (by decide)) fun h' tk' acc' c' hk hS hacc => ?_
  have fr : s.heap.objs.size ≤ (s.heap.push { cls := .type "range", data := .fields #[.int lo t, .int hi u, .int 1 v] }).objs.size := by rw [Heap.size_push]; exact Nat.le_succ _
  have ea : acc' = acc'.toList.toArray := rfl
  refine ⟨.ref _, _, I.laid (t' := tk') (fun b o e => hk b o (Heap.get?_push_of_some _ e)) fr (show ObjOk X.prog X.w _ h' _ (.lst _) from ⟨?_, acc'.toList, c', rng_acc hacc, hS⟩), rfl, q _ (I.hok.fresh fr)⟩
  rw [List.length_map, List.length_map, List.length_range]; exact Nat.le_of_lt (small1000 hn)
def tLr1 (ta : TA) : TE := fun σ H Q => ta σ H fun vs H1 => ∃ j : Int, vs = [.int j] ∧ -(2 ^ 62) ≤ j ∧ j ≤ 1000 ∧ ∀ l, H1 l = none → Q (.ref l) (upd H1 l (.lst (((List.range j.toNat).map fun i => 0 + ((i : Nat) : Int)).map V.int)))
theorem pe_listrange1 {e : Expr} {ta : TA} {p1 p2 pos1 pos2 : Pos} (hc : X.calm = true) (hg : Gl X "list") (hm : X.mg "list" = none) (hg2 : Gl X "range") (hm2 : X.mg "range" = none) (ha : PA X [e] ta)
    (hs : starEach [.Call (.Name "range" p2) [e] [] pos2] X.env = [(false, eval (.Call (.Name "range" p2) [e] [] pos2) X.env)] := by rfl) (hs2 : starEach [e] X.env = [(false, eval e X.env)] := by rfl) :
    PE X (.Call (.Name "list" p1) [.Call (.Name "range" p2) [e] [] pos2] [] pos1) (tLr1 ta) := by
  intro pins s σ H Q I h
  refine Call_ (ld_blt I hg hm boot_list (PyProof.Rows.callWith_type1 ?_ hs rfl))
  rw [hs]
  refine Calls.spliced_cons ?_
  refine Call_ (ld_blt I hg2 hm2 boot_range (PyProof.Rows.callWith_type1 (thn (ha pos2 pins s σ H _ I h) fun us s1 ⟨vs, H1, I1, r1, q1⟩ => ?_) hs2 rfl))
  obtain ⟨j, rfl, b1, b2, q⟩ := q1
  obtain ⟨u, rfl, t, rfl⟩ := vals1 r1
  refine call_range_1 (Calls.spliced_nil ?_)
  exact listrange_ok (I.ok.hd hc) I1 (by decide) (by decide) b1 (by omega) (by omega) fun l nl => by rw [Int.sub_zero]; exact q l nl
end
theorem Pairs.take {K : PySem.W.Frag} {H : Hp} : ∀ {xs : List V} {es : List (Int × Int)} (i : Nat), Pairs K H xs es → Pairs K H (xs.take i) (es.take i)
  | _, _, _, .nil => by rw [List.take_nil, List.take_nil]; exact .nil
  | _, _, 0, .cons _ _ => .nil
  | _, _, i + 1, .cons p t => .cons p (Pairs.take i t)
theorem Pairs.drop {K : PySem.W.Frag} {H : Hp} : ∀ {xs : List V} {es : List (Int × Int)} (i : Nat), Pairs K H xs es → Pairs K H (xs.drop i) (es.drop i)
  | _, _, _, .nil => by rw [List.drop_nil, List.drop_nil]; exact .nil
  | _, _, 0, .cons p t => .cons p t
  | _, _, i + 1, .cons _ t => Pairs.drop i t
theorem cutV_to {xs : List V} {p : Int} (h0 : 0 ≤ p) (h1 : p < (xs.length : Int)) : cutV xs none (some p) = xs.take p.toNat := by
  have e : HT.sIx xs.length xs.length (some p) = p.toNat := by
    show (if p < 0 then (p + (xs.length : Int)).toNat else min p.toNat xs.length) = _
    rw [if_neg (by omega)]; omega
  unfold cutV
  rw [e, HT.sIx_none, List.drop_zero, Nat.sub_zero]
theorem cutV_from {xs : List V} {p : Int} (h0 : 0 ≤ p) (h1 : p < (xs.length : Int)) : cutV xs (some (p + 1)) none = xs.drop (p.toNat + 1) := by
  have e : HT.sIx xs.length 0 (some (p + 1)) = p.toNat + 1 := by
    show (if p + 1 < 0 then (p + 1 + (xs.length : Int)).toNat else min (p + 1).toNat xs.length) = _
    rw [if_neg (by omega)]; omega
  unfold cutV
  rw [e, HT.sIx_none, List.take_of_length_le (by rw [List.length_drop]; exact Nat.le_refl _)]
end L2
namespace L2
open PySem PySem.Spec PyProof.Rows
def Itr3 (lo c : Int) (n : Nat) : It := ⟨fun i _ => i < n, fun i H x H' => H' = H ∧ x = .int (lo + (i : Nat) * c), fun i _ => n ≤ i⟩
theorem itok_range3 {lo c : Int} {n : Nat} : ItOk (Itr3 lo c n) n (fun i => .int (lo + (i : Nat) * c)) (fun _ => True) where
  go := fun i H _ hi => hi
  yld := fun i H x H' _ hi ⟨e, y⟩ => ⟨e, y⟩
  stop := fun i H _ hi => hi
theorem turn_range3 {P : Program} {w : World} {K : PySem.W.Frag} {tg : Expr} (it : Addr) (lo c : Int) (n : Nat) : Turn P w K tg (Itr3 lo c n) [it] it (fun i h => IsRangeIter h it (lo + (i : Nat) * c) ((n : Int) - (i : Nat)) c) where
  mem := List.mem_singleton.mpr rfl
  obj := fun i h st b hb => by
    have e : b = it := List.mem_singleton.mp hb
    subst e
    exact ⟨_, st, fun v z => by
      have z' : Data.fields _ = Data.cell v := z
      cases z'⟩
  keep := fun i h h' st k => k it (List.mem_singleton.mpr rfl) _ st
  item := by
    intro X hP hw hK hc i pins s σ H E I hf st hg
    subst hP hw hK
    obtain ⟨f0, f1, f2, f3, f4, f5⟩ := hf it (List.mem_singleton.mpr rfl)
    have W := Walks.range (prog := X.prog) (w := X.w) (I.ok.hd hc) it lo c n
    refine W.item i s _ _ hg st fun v h' tk hv st' kk => ?_
    obtain ⟨t, rfl⟩ := hv
    have I1 : Inv X pins σ H { s with heap := h', toks := tk } := I.turned (fun b o hb e => kk b o (by simpa using hb) e) f0 f1 f3 f4 f5
    exact ⟨_, rfl, go_of (s := { s with heap := h', toks := tk }) (n := "range_iterator") st' rfl rfl (by decide) ⟨.int (lo + (i : Nat) * c), H, I1, ⟨t, rfl⟩, ⟨rfl, rfl⟩, st', fun b hb => (hf b hb).1⟩⟩
  done := by
    intro X hP hw hK hc i pins s σ H E I hf st hg
    subst hP hw hK
    obtain ⟨f0, f1, f2, f3, f4, f5⟩ := hf it (List.mem_singleton.mpr rfl)
    exact wpAny_pyNext_range_end (I.ok.hd hc) st (by have : n ≤ i := hg; omega) fun h' eb => ⟨rfl, I.turned (t' := s.toks) (fun b o hb e => eb b o hb e) f0 f1 f3 f4 f5⟩
  self := fun _ _ _ _ _ st h => wpAny_pyIter_rangeiter st h
theorem rsz_bounds {i j c : Int} (i0 : 0 ≤ i) (j1 : j ≤ 1000) (c0 : 0 < c) : 0 ≤ Builtin.Range.rangeSize i j c ∧ Builtin.Range.rangeSize i j c ≤ 1000 ∧ ∀ k : Nat, (k : Int) < Builtin.Range.rangeSize i j c → i + (k : Int) * c < j := by
  unfold Builtin.Range.rangeSize
  rw [if_pos c0]
  by_cases h : i < j
  · rw [if_pos h]
    have d0 : 0 ≤ (j - i - 1) / c := Int.ediv_nonneg (by omega) (by omega)
    have d1 : (j - i - 1) / c ≤ j - i - 1 := Int.ediv_le_self _ (by omega)
    refine ⟨by omega, by omega, fun k hk => ?_⟩
    have hk' : (k : Int) ≤ (j - i - 1) / c := by omega
    have := (Int.le_ediv_iff_mul_le c0).mp hk'
    omega
  · rw [if_neg h]
    exact ⟨by omega, by omega, fun k hk => absurd hk (by omega)⟩
section
variable {X : Cx} {tg : Expr}
def iRng3 (ta : TA) : TI := fun σ H R => ta σ H fun vs H1 => ∃ i j c : Int, vs = [.int i, .int j, .int c] ∧ (0 ≤ i ∧ i ≤ 1000 ∧ -1000 ≤ j ∧ j ≤ 1000 ∧ 0 < c ∧ c ≤ 1000) ∧ ∀ n : Nat, (∀ k : Nat, k < n → i + (k : Int) * c < j) → n ≤ 1000 → R (Itr3 i c n) H1
theorem pi_range3 {a b d : Expr} {ta : TA} {p pos : Pos} (hg : Gl X "range") (hm : X.mg "range" = none) (ha : PA X [a, b, d] ta) (hs : starEach [a, b, d] X.env = [(false, eval a X.env), (false, eval b X.env), (false, eval d X.env)] := by rfl) (hs2 : starEach [b, d] X.env = [(false, eval b X.env), (false, eval d X.env)] := by rfl) :
    PI X tg (.Call (.Name "range" p) [a, b, d] [] pos) (iRng3 ta) := by
  intro pins s σ H R I h
  refine Call_ (ld_blt I hg hm boot_range (PyProof.Rows.callWith_type1 (thn (ha pos pins s σ H _ I h) fun us s1 ⟨vs, H1, I1, r1, q1⟩ => ?_) (by rw [hs, hs2]) (by rw [hs2]; rfl)))
  obtain ⟨i, j, c, e, ⟨i0, i1, j0, j1, c0, c1⟩, q⟩ := q1
  subst e
  cases r1 with
  | cons r rr =>
    cases rr with
    | cons r' rr =>
      cases rr with
      | cons r'' rr =>
      cases rr
      obtain ⟨t, rfl⟩ := r
      obtain ⟨t', rfl⟩ := r'
      obtain ⟨t'', rfl⟩ := r''
      obtain ⟨z0, z1, zk⟩ := rsz_bounds i0 j1 c0
      refine call_range_3 (by omega) ?_ (Or.inl (PyProof.noPylong_small (by omega)))
      refine wpAny_pyIter_range (IsRange.new ..) ?_ ?_
      · unfold Builtin.Range.small
        simp only [Builtin.Range.rangeFitsLong, Bool.and_eq_true, Bool.or_eq_true, decide_eq_true_eq, beq_iff_eq, if_pos c0]
        omega
      have I2 : Inv X pins σ H1 { s1 with heap := s1.heap.push { cls := .type "range", data := .fields #[.int i t, .int j t', .int c t''] }, toks := s1.toks } := I1.kept fun b o e => Heap.get?_push_of_some _ e
      refine ⟨(s1.heap.push { cls := .type "range", data := .fields #[.int i t, .int j t', .int c t''] }).objs.size, [(s1.heap.push { cls := .type "range", data := .fields #[.int i t, .int j t', .int c t''] }).objs.size], _, _, H1, rfl,
        I2.kept (t' := s1.toks) fun b o e => Heap.get?_push_of_some _ e, turn_range3 _ i c (Builtin.Range.rangeSize i j c).toNat, ?_, fun b hb => ?_, q _ (fun k hk => zk k (by omega)) (by omega)⟩
      · have e1 : i + ((0 : Nat) : Int) * c = i := by rw [show ((0 : Nat) : Int) = 0 from rfl, Int.zero_mul, Int.add_zero]
        have e2 : (((Builtin.Range.rangeSize i j c).toNat : Nat) : Int) - ((0 : Nat) : Int) = Builtin.Range.rangeSize i j c := by omega
        show IsRangeIter _ _ (i + ((0 : Nat) : Int) * c) ((((Builtin.Range.rangeSize i j c).toNat : Nat) : Int) - ((0 : Nat) : Int)) c
        rw [e1, e2]
        exact Heap.get?_push_size _ rfl
      · have e : b = (s1.heap.push { cls := .type "range", data := .fields #[.int i t, .int j t', .int c t''] }).objs.size := by simpa using hb
        subst e
        exact I2.fpOk (Nat.le_refl _) (I2.hok.fresh (Nat.le_refl _))
end
end L2
namespace L2
open PySem PySem.Spec PyProof.Rows
section
variable {κ : Type} [DecidableEq κ]
def valV (kvs : List (κ × V)) (k : κ) : Option V := (kvs.find? fun kv => decide (kv.1 = k)).map (·.2)
def putK (kvs : List (κ × V)) (k : κ) (v : V) : List (κ × V) :=
  if (kvs.any fun kv => decide (kv.1 = k)) = true then kvs.map (fun kv => if kv.1 = k then (kv.1, v) else kv) else kvs ++ [(k, v)]
def dropK (kvs : List (κ × V)) (k : κ) : List (κ × V) := kvs.filter fun kv => decide (kv.1 ≠ k)
theorem valV_pos {p : κ × V} {r : List (κ × V)} {k : κ} (e : p.1 = k) : valV (p :: r) k = some p.2 := by simp [valV, List.find?_cons, e]
theorem valV_neg {p : κ × V} {r : List (κ × V)} {k : κ} (e : ¬ p.1 = k) : valV (p :: r) k = valV r k := by simp [valV, List.find?_cons, e]
theorem valV_any (k : κ) : ∀ kvs : List (κ × V), (kvs.any fun kv => decide (kv.1 = k)) = (valV kvs k).isSome
  | [] => rfl
  | p :: r => by
    rw [List.any_cons]
    by_cases e : p.1 = k
    · simp only [valV_pos e, decide_eq_true e, Bool.true_or, Option.isSome_some]
    · rw [valV_neg e, decide_eq_false e, Bool.false_or]; exact valV_any k r
theorem length_putK (kvs : List (κ × V)) (k : κ) (v : V) : (putK kvs k v).length ≤ kvs.length + 1 := by
  unfold putK
  split
  · rw [List.length_map]; omega
  · rw [List.length_append, List.length_cons, List.length_nil]; omega
theorem putK_new {kvs : List (κ × V)} {k : κ} (v : V) (h : valV kvs k = none) : putK kvs k v = kvs ++ [(k, v)] := by
  unfold putK
  rw [valV_any, h]
  exact if_neg (by decide)
theorem RelO.isSome_eq {o : Option V} {u : Option Value} (r : RelO o u) : o.isSome = u.isSome := by
  cases o with
  | none => cases u with
    | none => rfl
    | some _ => exact (show False from r).elim
  | some _ => cases u with
    | none => exact (show False from r).elim
    | some _ => rfl
theorem RelO.getD {o : Option V} {u : Option Value} {d : V} {d' : Value} (r : RelO o u) (rd : RelV d d') : RelV (o.getD d) (u.getD d') := by
  cases o with
  | none => cases u with
    | none => exact rd
    | some _ => exact (show False from r).elim
  | some _ => cases u with
    | none => exact (show False from r).elim
    | some _ => exact r
theorem KV.val {kvs : List (κ × V)} {vs : List (κ × Value)} (r : KV kvs vs) (k : κ) : RelO (valV kvs k) (valueAt vs k) := by
  unfold KV at r
  induction r with
  | nil => exact True.intro
  | @cons p q ps qs h t ih =>
    obtain ⟨h1, h2⟩ := h
    by_cases e : p.1 = k
    · have e' : q.1 = k := h1.symm.trans e
      have b : valueAt (q :: qs) k = some q.2 := by simp [valueAt, List.find?_cons, e']
      rw [valV_pos e, b]; exact h2
    · have e' : ¬ q.1 = k := fun z => e (h1.trans z)
      have b : valueAt (q :: qs) k = valueAt qs k := by simp [valueAt, List.find?_cons, e']
      rw [valV_neg e, b]; exact ih
theorem KV.any {kvs : List (κ × V)} {vs : List (κ × Value)} (r : KV kvs vs) (k : κ) : (kvs.any fun kv => decide (kv.1 = k)) = vs.any fun kv => decide (kv.1 = k) := by
  unfold KV at r
  induction r with
  | nil => rfl
  | cons h t ih => rw [List.any_cons, List.any_cons, ih, h.1]
theorem KV.repl {kvs : List (κ × V)} {vs : List (κ × Value)} (r : KV kvs vs) (k : κ) {y : V} {u : Value} (ry : RelV y u) :
    KV (kvs.map fun kv => if kv.1 = k then (kv.1, y) else kv) (vs.map fun kv => if kv.1 = k then (kv.1, u) else kv) := by
  unfold KV at r ⊢
  induction r with
  | nil => exact .nil
  | @cons p q ps qs h t ih =>
    rw [List.map_cons, List.map_cons]
    refine .cons ?_ ih
    obtain ⟨h1, h2⟩ := h
    by_cases e : p.1 = k
    · rw [if_pos e, if_pos (h1.symm.trans e)]; exact ⟨h1, ry⟩
    · rw [if_neg e, if_neg (fun z => e (h1.trans z))]; exact ⟨h1, h2⟩
theorem KV.put {kvs : List (κ × V)} {vs : List (κ × Value)} (r : KV kvs vs) (k : κ) {y : V} {u : Value} (ry : RelV y u) : KV (putK kvs k y) (stored vs k u) := by
  unfold putK stored
  rw [r.any k]
  by_cases e : (vs.any fun kv => decide (kv.1 = k)) = true
  · rw [if_pos e, if_pos e]; exact r.repl k ry
  · rw [if_neg e, if_neg e]; exact Paired.snoc r ⟨rfl, ry⟩
theorem KV.drop {kvs : List (κ × V)} {vs : List (κ × Value)} (r : KV kvs vs) (k : κ) : KV (dropK kvs k) (without vs k) := by
  unfold KV at r ⊢
  unfold dropK without
  induction r with
  | nil => exact .nil
  | @cons p q ps qs h t ih =>
    obtain ⟨h1, h2⟩ := h
    rw [List.filter_cons, List.filter_cons]
    by_cases e : p.1 = k
    · have a : ¬ decide (p.1 ≠ k) = true := by simp [e]
      have b : ¬ decide (q.1 ≠ k) = true := by simp [h1.symm.trans e]
      rw [if_neg a, if_neg b]; exact ih
    · have e' : ¬ q.1 = k := fun z => e (h1.trans z)
      have a : decide (p.1 ≠ k) = true := by simp [e]
      have b : decide (q.1 ≠ k) = true := by simp [e']
      rw [if_pos a, if_pos b]; exact .cons ⟨h1, h2⟩ ih
theorem KV.keys {kvs : List (κ × V)} {vs : List (κ × Value)} (r : KV kvs vs) : kvs.map (·.1) = vs.map (·.1) := by
  unfold KV at r
  induction r with
  | nil => rfl
  | cons h t ih => rw [List.map_cons, List.map_cons, ih, h.1]
theorem KV.length {kvs : List (κ × V)} {vs : List (κ × Value)} (r : KV kvs vs) : kvs.length = vs.length := Paired.length r
end
theorem kV_is {P : Program} {w : World} {k : Key} {u : Value} (r : RelV (kV k) u) : (mixKind P w).is k u = true := by
  cases k with
  | inl i => obtain ⟨t, e⟩ := (show ∃ t, u = Value.int i t from r); subst e; exact mixKind_int P w i t
  | inr x => obtain ⟨t, e⟩ := (show ∃ t, u = Value.str x t from r); subst e; exact mixKind_str P w x t
theorem items_are {P : Program} {w : World} : ∀ {ks : List Key} {us : List Value}, Vals (ks.map kV) us → ItemsAre (mixKind P w) ks us
  | [], _, r => by rw [List.map_nil] at r; cases r; exact .nil
  | k :: ks, _, r => by
    rw [List.map_cons] at r
    cases r with
    | cons h t => exact .cons (kV_is h) (items_are t)
abbrev KT (H : Hp) : List (List Key × V) → List (List Key × Addr × Value) → Prop := Paired fun p q => p.1 = q.1 ∧ H q.2.1 = some (.tup (p.1.map kV)) ∧ RelV p.2 q.2.2
theorem KT.val {H : Hp} {kvs : List (List Key × V)} {xs : List (List Key × Addr × Value)} (r : KT H kvs xs) (k : List Key) : RelO (valV kvs k) ((atKey xs k).map (·.2)) := by
  induction r with
  | nil => exact True.intro
  | @cons p q ps qs h t ih =>
    obtain ⟨h1, _, h2⟩ := h
    by_cases e : p.1 = k
    · have e' : q.1 = k := h1.symm.trans e
      have b : atKey (q :: qs) k = some q.2 := by simp [atKey, List.find?_cons, e']
      rw [valV_pos e, b]; exact h2
    · have e' : ¬ q.1 = k := fun z => e (h1.trans z)
      have b : atKey (q :: qs) k = atKey qs k := by simp [atKey, List.find?_cons, e']
      rw [valV_neg e, b]; exact ih
theorem KT.repl {H : Hp} {kvs : List (List Key × V)} {xs : List (List Key × Addr × Value)} (r : KT H kvs xs) (k : List Key) {y : V} {u : Value} (ry : RelV y u) :
    KT H (kvs.map fun kv => if kv.1 = k then (kv.1, y) else kv) (xs.map (putAt k u)) := by
  induction r with
  | nil => exact .nil
  | @cons p q ps qs h t ih =>
    rw [List.map_cons, List.map_cons]
    refine .cons ?_ ih
    obtain ⟨h1, h2, h3⟩ := h
    unfold putAt
    by_cases e : p.1 = k
    · rw [if_pos e, if_pos (h1.symm.trans e)]; exact ⟨h1, h2, ry⟩
    · rw [if_neg e, if_neg (fun z => e (h1.trans z))]; exact ⟨h1, h2, h3⟩
theorem KT.put {H : Hp} {kvs : List (List Key × V)} {xs : List (List Key × Addr × Value)} (r : KT H kvs xs) (k : List Key) {b : Addr} {y : V} {u : Value} (hb : H b = some (.tup (k.map kV))) (ry : RelV y u) :
    KT H (putK kvs k y) (storedH xs k b u) := by
  have e : (kvs.any fun kv => decide (kv.1 = k)) = (atKey xs k).isSome := by
    rw [valV_any, (r.val k).isSome_eq, Option.isSome_map]
  unfold putK storedH
  rw [e]
  by_cases q : (atKey xs k).isSome = true
  · rw [if_pos q, if_pos q]; exact r.repl k ry
  · rw [if_neg q, if_neg q]; exact Paired.snoc r ⟨rfl, hb, ry⟩
theorem KT.keeps {H H' : Hp} {kvs : List (List Key × V)} {xs : List (List Key × Addr × Value)} (r : KT H kvs xs) (ht : ∀ b ys, H b = some (.tup ys) → H' b = some (.tup ys)) : KT H' kvs xs :=
  Paired.mapP r fun _ _ z => ⟨z.1, ht _ _ z.2.1, z.2.2⟩
section
variable {P : Program} {w : World} {H : Hp} {h : Heap} {a : Addr}
theorem rd_of {u : HO} (ok : HOk P w H h) (e : Rd H a u) : ObjOk P w H h a u := e.ok ok
theorem dk_rd {kvs : List (Key × V)} (ok : HOk P w H h) (e : Rd H a (.dK kvs)) : kvs.length ≤ sizeLine ∧ (a == sysModules) = false ∧ ∃ vs, KV kvs vs ∧ h.DictOf (mixKind P w) a vs :=
  show ObjOk P w H h a (.dK kvs) from rd_of ok e
theorem dk_of {kvs : List (Key × V)} (ok : HOk P w H h) (e : H a = some (.dK kvs)) : kvs.length ≤ sizeLine ∧ (a == sysModules) = false ∧ ∃ vs, KV kvs vs ∧ h.DictOf (mixKind P w) a vs := dk_rd ok (.inl e)
theorem key_of {ks : List Key} (ok : HOk P w H h) (e : H a = some (.tup (ks.map kV))) : (tupleKind (mixKind P w)).is h ks a := by
  obtain ⟨_, its, r, o, h1, h2, n, h3⟩ := (show ObjOk P w H h a (.tup (ks.map kV)) from ok a _ e)
  exact ⟨o, its.toArray, n, h1, h2, h3, by simpa using items_are r⟩
theorem dt_rd {kvs : List (List Key × V)} (ok : HOk P w H h) (e : Rd H a (.dT kvs)) : kvs.length ≤ sizeLine ∧ (a == sysModules) = false ∧
    ∃ xs, KT H kvs xs ∧ h.DictOfH (tupleKind (mixKind P w)) a xs := by
  obtain ⟨z, y, xs, r, o, es, ep, h1, h2, h3, h4, h5⟩ := (show ObjOk P w H h a (.dT kvs) from rd_of ok e)
  refine ⟨z, y, xs, r, o, es, ep, h1, h2, h3, h4, fun x hx => ?_, h5⟩
  have all : ∀ {l : List (List Key × V)} {m : List (List Key × Addr × Value)}, KT H l m → ∀ x ∈ m, (tupleKind (mixKind P w)).is h x.1 x.2.1 := by
    intro l m q
    induction q with
    | nil => intro x hx; exact nomatch hx
    | @cons p q ps qs hq t ih =>
      intro x hx
      rcases List.mem_cons.mp hx with e | hx
      · subst e
        exact key_of ok (by rw [← hq.1]; exact hq.2.1)
      · exact ih x hx
  exact all r x hx
end
def DGet (H : Hp) (a : Addr) (y : V) (r : Option V) : Prop :=
  (∃ kvs k, Rd H a (.dK kvs) ∧ y = kV k ∧ r = valV kvs k) ∨ ∃ kvs k b, Rd H a (.dT kvs) ∧ y = .ref b ∧ H b = some (.tup (k.map kV)) ∧ r = valV kvs k
def DPut (H : Hp) (a : Addr) (y v : V) (H' : Hp) : Prop :=
  (∃ kvs k, H a = some (.dK kvs) ∧ y = kV k ∧ kvs.length < sizeLine ∧ H' = upd H a (.dK (putK kvs k v))) ∨
  ∃ kvs k b, H a = some (.dT kvs) ∧ y = .ref b ∧ H b = some (.tup (k.map kV)) ∧ kvs.length < sizeLine ∧ H' = upd H a (.dT (putK kvs k v))
theorem DGet.k {H : Hp} {a : Addr} {kvs : List (Key × V)} {k : Key} (e : H a = some (.dK kvs)) : DGet H a (kV k) (valV kvs k) := .inl ⟨kvs, k, .inl e, rfl, rfl⟩
theorem DGet.t {H : Hp} {a b : Addr} {kvs : List (List Key × V)} {k : List Key} (e : H a = some (.dT kvs)) (eb : H b = some (.tup (k.map kV))) : DGet H a (.ref b) (valV kvs k) := .inr ⟨kvs, k, b, .inl e, rfl, eb, rfl⟩
theorem DPut.k {H : Hp} {a : Addr} {kvs : List (Key × V)} {k : Key} {v : V} (e : H a = some (.dK kvs)) (hl : kvs.length < sizeLine) : DPut H a (kV k) v (upd H a (.dK (putK kvs k v))) := .inl ⟨kvs, k, e, rfl, hl, rfl⟩
theorem DPut.t {H : Hp} {a b : Addr} {kvs : List (List Key × V)} {k : List Key} {v : V} (e : H a = some (.dT kvs)) (eb : H b = some (.tup (k.map kV))) (hl : kvs.length < sizeLine) :
    DPut H a (.ref b) v (upd H a (.dT (putK kvs k v))) := .inr ⟨kvs, k, b, e, rfl, eb, hl, rfl⟩
section
variable {X : Cx} {pins : List (Addr × Obj)} {σ : St} {H : Hp} {s : Shared} {a : Addr} {y v : V} {u r : Value} {o : Option V} {A : Around} {E : Value → Shared → Prop}
theorem Inv.big (I : Inv X pins σ H s) : sysModules < s.heap.objs.size := by
  have h : mainGlobals < s.heap.objs.size := (I.mod.glob.keeps I.bk).lt
  exact Nat.lt_trans (by decide) h
theorem d_write {h' : Heap} {t' : Nat} {ob : HO} (I : Inv X pins σ H s) (mu : Mut (H a)) (hs : Heap.SameBut a s.heap h') (he : ∃ q, h'.get? a = some q) (new : ObjOk X.prog X.w (upd H a ob) h' a ob) :
    Inv X pins σ (upd H a ob) { s with heap := h', toks := t' } :=
  I.write (x := a) (e := a) mu (.inl rfl) (fun b q hb z => (hs.2 b hb).trans z) he new
theorem dk_new {P : Program} {w : World} {H' : Hp} {h' : Heap} {kvs : List (Key × V)} {vs : List (Key × Value)} (z : kvs.length ≤ sizeLine) (hd : (a == sysModules) = false) (rel : KV kvs vs) (dd : h'.DictOf (mixKind P w) a vs) :
    ObjOk P w H' h' a (.dK kvs) := ⟨z, hd, vs, rel, dd⟩
end
section
variable {X : Cx} {pins : List (Addr × Obj)} {σ : St} {H : Hp} {s : Shared} {a : Addr} {kvs : List (Key × V)} {k : Key} {u : Value} {A : Around} {E : Value → Shared → Prop}
end
section
variable {X : Cx} {o i e value : Expr} {pos pos' tpos : Pos} {td ty tv : TE}
end
theorem dk_empty {P : Program} {w : World} {H : Hp} (h : Heap) (hb : sysModules < h.objs.size) : ObjOk P w H (h.push { cls := .type "dict", data := .dict #[] }) h.objs.size (.dK []) :=
  ⟨Nat.zero_le _, beq_eq_false_iff_ne.mpr (Ne.symm (Nat.ne_of_lt hb)), [], .nil, Heap.DictOf.new h⟩
def tDNewK : TE := fun _ H Q => ∀ p, H p = none → Q (.ref p) (upd H p (.dK []))
section
variable {X : Cx} {pos : Pos}
theorem pe_dnewK : PE X (.Dict [] [] pos) tDNewK := fun pins s σ H Q I h =>
  wpAny_Dict_empty ⟨.ref s.heap.objs.size, _, I.laid (a := s.heap.objs.size) (o := .dK []) (t' := s.toks) (fun _ _ q => Heap.get?_push_of_some _ q) (Nat.le_refl _) (dk_empty s.heap I.big), rfl, h _ (I.hok.fresh (Nat.le_refl _))⟩
end
def mergeK (kvs more : List (Key × V)) : List (Key × V) := more.foldl (fun acc kv => putK acc kv.1 kv.2) kvs
theorem KV.merge : ∀ {more : List (Key × V)} {rs : List (Key × Value)} {kvs : List (Key × V)} {vs : List (Key × Value)}, KV more rs → KV kvs vs → KV (mergeK kvs more) (merged vs rs) := by
  intro more rs kvs vs r
  unfold KV at r
  induction r generalizing kvs vs with
  | nil => intro q; exact q
  | @cons p q ps qs h t ih =>
    intro r0
    have e : KV (putK kvs p.1 p.2) (stored vs q.1 q.2) := by
      have := r0.put p.1 h.2
      rw [← h.1]; exact this
    exact ih e
structure M1 (X : Cx) (o : Expr) (m : Str) (apos : Pos) (e : Expr) (cpos : Pos) : Prop where
  base : attributeBase o m X.env (eval o X.env) = eval o X.env
  few : ((backTo cpos (starEach [e] X.env)).all (fun x => !x.1) && (backToKw cpos (keywordEach [] X.env)).all (fun x => x.1.isSome)
    && decide (([e] : List Expr).length + ([] : List Keyword).length + (if ([] : List Keyword).isEmpty then 0 else 1) < 30)) = true
  line : (apos.endLine == cpos.line) = true
  trees : backTo cpos (starEach [e] X.env) = [(false, eval e X.env)]
structure M2 (X : Cx) (o : Expr) (m : Str) (apos : Pos) (e f : Expr) (cpos : Pos) : Prop where
  base : attributeBase o m X.env (eval o X.env) = eval o X.env
  few : ((backTo cpos (starEach [e, f] X.env)).all (fun x => !x.1) && (backToKw cpos (keywordEach [] X.env)).all (fun x => x.1.isSome)
    && decide (([e, f] : List Expr).length + ([] : List Keyword).length + (if ([] : List Keyword).isEmpty then 0 else 1) < 30)) = true
  line : (apos.endLine == cpos.line) = true
  trees : backTo cpos (starEach [e, f] X.env) = [(false, eval e X.env), (false, eval f X.env)]
def IsD (H : Hp) (a : Addr) : Prop := (∃ kvs, Rd H a (.dK kvs)) ∨ ∃ kvs, Rd H a (.dT kvs)
theorem isD_at {X : Cx} {pins : List (Addr × Obj)} {σ : St} {H : Hp} {s : Shared} {a : Addr} (I : Inv X pins σ H s) (d : IsD H a) :
    s.TypeIs (.ref a) "dict" ∧ (∀ b, Value.ref a = .ref b → ∃ ob, s.heap.get? b = some ob ∧ ob.dict = none) ∧ (a == sysModules) = false := by
  rcases d with ⟨kvs, e⟩ | ⟨kvs, e⟩
  · obtain ⟨_, hd, vs, _, dd⟩ := dk_rd I.hok e
    refine ⟨dd.typeIs, fun b q => ?_, hd⟩
    cases q
    obtain ⟨ob, _, _, h1, h2, _⟩ := dd
    exact ⟨ob, h1, h2.2.1⟩
  · obtain ⟨_, hd, xs, _, dd⟩ := dt_rd I.hok e
    refine ⟨dd.typeIs, fun b q => ?_, hd⟩
    cases q
    obtain ⟨ob, _, _, h1, h2, _⟩ := dd
    exact ⟨ob, h1, h2.2.1⟩
section
variable {X : Cx} {pins : List (Addr × Obj)} {σ : St} {H : Hp} {s : Shared} {a : Addr} {y d : V} {u r : Value} {o : Option V} {A : Around} {E : Value → Shared → Prop}
end
section
variable {X : Cx} {o e f : Expr} {apos cpos : Pos} {td ty tx : TE}
end
section
variable {X : Cx} {pins : List (Addr × Obj)} {σ : St} {H : Hp} {s : Shared} {a : Addr} {kvs : List (Key × V)} {A : Around} {E : Value → Shared → Prop}
end
section
variable {X : Cx} {pins : List (Addr × Obj)} {σ : St} {H : Hp} {s : Shared} {a : Addr} {y : V} {u : Value} {A : Around} {E : Value → Shared → Prop}
end
end L2
namespace L2
open PySem PySem.Spec PyProof.Rows
section
variable {κ : Type} [DecidableEq κ]
end
end L2
namespace L2
open PySem PySem.Spec PyProof.Rows
section
variable {X : Cx} {pins : List (Addr × Obj)} {σ : St} {H : Hp} {s : Shared} {a : Addr} {kvs : List (Key × V)} {k : Key} {u r : Value} {z : V} {A : Around} {E : Value → Shared → Prop}
theorem d_setdef {Q : Value → Shared → Prop} (I : Inv X pins σ H s) (e : H a = some (.dK kvs)) (ry : RelV (kV k) u) (rz : RelV z r) (l : kvs.length < sizeLine)
    (h1 : ∀ v, valV kvs k = some v → ∀ w' s', Inv X pins σ H s' → RelV v w' → Q w' s') (h2 : valV kvs k = none → ∀ s', Inv X pins σ (upd H a (.dK (putK kvs k z))) s' → Q r s') :
    wpAny (model X.prog X.w) A (call (.builtin "dict.setdefault") [.ref a, u, r]) Q E s := by
  obtain ⟨zz, hd, vs, rel, dd⟩ := dk_of I.hok e
  have hl : (putK kvs k z).length ≤ sizeLine := by have := length_putK kvs k z; omega
  have rv := rel.val k
  refine call_meetsIn PySem.F.slot_dict_setdefault dd.typeIs PySem.F.entry_dict_setdefault (PySem.F.args_dict_setdefault_3 _ _ _) (kt_meets_setdefault (mixKind X.prog X.w) a (kV_is ry) hd r) ⟨vs, dd, by rw [← rel.length]; exact zz, fun v hv => ?_, fun hn h' dd' hs => ?_⟩
  · rw [hv] at rv
    cases lv : valV kvs k with
    | some v0 => rw [lv] at rv; exact h1 v0 lv v _ (I.tok _) rv
    | none => rw [lv] at rv; exact (show False from rv).elim
  · rw [hn] at rv
    cases lv : valV kvs k with
    | some v0 => rw [lv] at rv; exact (show False from rv).elim
    | none => exact h2 lv _ (d_write I (by rw [e]; exact True.intro) hs (let ⟨q, _, _, hq, _⟩ := dd'; ⟨q, hq⟩) (dk_new hl hd (rel.put k rz) dd'))
end
def tDSet (td ty tx : TE) : TE := fun σ H Q => td σ H fun x H1 => ∃ a, x = .ref a ∧ IsD H1 a ∧ ty σ H1 fun y H2 => tx σ H2 fun z H3 => ∃ kvs k, H3 a = some (.dK kvs) ∧ y = kV k ∧ kvs.length < sizeLine ∧
  (∀ v, valV kvs k = some v → Q v H3) ∧ (valV kvs k = none → Q z (upd H3 a (.dK (putK kvs k z))))
def tDVals (td : TE) : TE := fun σ H Q => td σ H fun x H1 => ∃ a kvs, x = .ref a ∧ H1 a = some (.dK kvs) ∧ ∀ l, H1 l = none → Q (.ref l) (upd H1 l (.lst (kvs.map (·.2))))
theorem vals_kv {kvs : List (Key × V)} {vs : List (Key × Value)} (r : KV kvs vs) : Vals (kvs.map (·.2)) (vs.map (·.2)) := by
  induction r with
  | nil => exact .nil
  | cons h t ih => exact .cons h.2 ih
section
variable {X : Cx} {o e f : Expr} {apos cpos p1 pos1 : Pos} {td ty tx : TE}
theorem pe_dsetd (ho : PE X o td) (he : PE X e ty) (hf : PE X f tx) (m : M2 X o "setdefault" apos e f cpos) : PE X (.Call (.Attribute o "setdefault" apos) [e, f] [] cpos) (tDSet td ty tx) := by
  intro pins s σ H Q I h
  refine wpAny_Call_method m.base m.few m.line PySem.F.plainAttrs_dict PySem.F.slot_dict_setdefault PySem.F.type_dict_setdefault (thn (ho pins s σ H _ I h) fun u s1 ⟨x, H1, I1, rx, a, ex, d, q1⟩ => ?_)
  subst ex
  obtain rfl : u = Value.ref a := rx
  obtain ⟨t1, t2, _⟩ := isD_at I1 d
  refine ⟨t1, t2, ?_⟩
  rw [m.trees]
  refine Calls.callWith_builtin rfl (Calls.evalArgs_plain (Calls.spliced_cons (thn (he pins s1 σ H1 _ I1 q1) fun iv s2 ⟨y, H2, I2, ry, q2⟩ =>
    Calls.spliced_cons (thn (hf pins s2 σ H2 _ I2 q2) fun fv s3 ⟨z, H3, I3, rz, kvs, k, ea, ey, l, q3, q4⟩ => Calls.spliced_nil ?_))))
  subst ey
  exact d_setdef I3 ea ry rz l (fun v lv w' s4 I4 rw' => ⟨v, H3, I4, rw', q3 v lv⟩) fun lv s4 I4 => ⟨z, _, I4, rz, q4 lv⟩
theorem pe_listvals (hc : X.calm = true) (hg : Gl X "list") (hm : X.mg "list" = none) (ho : PE X o td) (hbase : attributeBase o "values" X.env (eval o X.env) = eval o X.env := by rfl) (hline : (apos.endLine == cpos.line) = true := by rfl)
    (hs : starEach [.Call (.Attribute o "values" apos) [] [] cpos] X.env = [(false, eval (.Call (.Attribute o "values" apos) [] [] cpos) X.env)] := by rfl) :
    PE X (.Call (.Name "list" p1) [.Call (.Attribute o "values" apos) [] [] cpos] [] pos1) (tDVals td) := by
  intro pins s σ H Q I h
  refine Call_ (ld_blt I hg hm boot_list (PyProof.Rows.callWith_type1 ?_ hs rfl))
  rw [hs]
  refine Calls.spliced_cons ?_
  refine wpAny_Call_method0_late hbase hline (thn (ho pins s σ H _ I h) fun v s1 ⟨x, H1, I1, r1, a, kvs, ex, ea, q⟩ => ?_)
  subst ex
  obtain rfl : v = Value.ref a := r1
  obtain ⟨t1, t2, _⟩ := isD_at I1 (.inl ⟨kvs, .inl ea⟩)
  obtain ⟨zz, hd, vs, rel, dd⟩ := dk_of I1.hok ea
  refine ⟨"dict", "dict.values", PySem.F.plainAttrs_dict, PySem.F.slot_dict_values, PySem.F.type_dict_values, t1, t2, Calls.callWith_builtin rfl (PySem.evalArgs_none ?_)⟩
  refine call_meetsIn PySem.F.slot_dict_values dd.typeIs PySem.F.entry_dict_values (PySem.F.args_dict_values_1 _) (meets_dict_values (mixKind X.prog X.w) a hd) ⟨⟨vs, dd⟩, Calls.spliced_nil ?_⟩
  obtain ⟨ob, es, ep, hq⟩ := id dd
  have dA : (s1.heap.push { cls := .type "dict_values", data := .fields #[.ref a] }).DictAt (mixKind X.prog X.w) a vs ep := Heap.DictAt.push ⟨ob, es, hq⟩ _
  refine PySem.W.kdl_call (PySem.W.kdl_values (knd := mixKind X.prog X.w) (kvs := vs) (ep := ep) (r := s1.heap.objs.size) (d := a)) (I.ok.hd hc) ⟨⟨_, Heap.get?_push_size _ rfl, rfl, rfl⟩, dA⟩ (by rw [← rel.length]; exact zz) fun h' tk acc' c' hk hS hacc => ?_
  have fr : s1.heap.objs.size ≤ (s1.heap.push { cls := .type "dict_values", data := .fields #[.ref a] }).objs.size := by rw [Heap.size_push]; exact Nat.le_succ _
  have ac : acc' = (vs.map (·.2)).toArray := by
    obtain ⟨h1, h2⟩ := hacc
    apply Array.ext
    · rw [h1]; simp
    · intro i hi hi2
      obtain ⟨k, e⟩ := h2 i acc'[i] (Array.getElem?_eq_getElem hi)
      have e3 : (vs.map (·.2))[i]? = some acc'[i] := by rw [List.getElem?_map, e]; rfl
      have hi3 : i < (vs.map (·.2)).length := by simpa using hi2
      rw [List.getElem?_eq_getElem hi3] at e3
      simpa using (Option.some.inj e3).symm
  subst ac
  exact ⟨.ref _, _, I1.laid (t' := tk) (fun b o e => hk b o (Heap.get?_push_of_some _ e)) fr (show ObjOk X.prog X.w _ h' _ (.lst (kvs.map (·.2))) from ⟨by rw [List.length_map]; exact zz, vs.map (·.2), c', vals_kv rel, hS⟩), rfl, q _ (I1.hok.fresh fr)⟩
end
end L2
namespace L2
inductive Cn (es : List (Int × Int)) : Int → Int → Prop
  | refl (a : Int) : Cn es a a
  | fwd {a : Int} {e : Int × Int} : Cn es a e.1 → e ∈ es → Cn es a e.2
  | bwd {a : Int} {e : Int × Int} : Cn es a e.2 → e ∈ es → Cn es a e.1
theorem Cn.trans {es : List (Int × Int)} {a b c : Int} (h : Cn es a b) (h2 : Cn es b c) : Cn es a c := by
  induction h2 with
  | refl => exact h
  | fwd _ he ih => exact .fwd ih he
  | bwd _ he ih => exact .bwd ih he
theorem Cn.tie {es : List (Int × Int)} {e : Int × Int} (h : e ∈ es) : Cn es e.1 e.2 := .fwd (.refl _) h
theorem Cn.eit {es : List (Int × Int)} {e : Int × Int} (h : e ∈ es) : Cn es e.2 e.1 := .bwd (.refl _) h
theorem Cn.symm {es : List (Int × Int)} {a b : Int} (h : Cn es a b) : Cn es b a := by
  induction h with
  | refl => exact .refl _
  | fwd _ he ih => exact (Cn.eit he).trans ih
  | bwd _ he ih => exact (Cn.tie he).trans ih
theorem Cn.map {es es' : List (Int × Int)} {g : Int → Int} (hg : ∀ e ∈ es, Cn es' (g e.1) (g e.2)) {a b : Int} (h : Cn es a b) : Cn es' (g a) (g b) := by
  induction h with
  | refl => exact .refl _
  | fwd _ he ih => exact ih.trans (hg _ he)
  | bwd _ he ih => exact ih.trans (hg _ he).symm
theorem Cn.mono {es es' : List (Int × Int)} (hs : ∀ e ∈ es, e ∈ es') {a b : Int} (h : Cn es a b) : Cn es' a b := Cn.map (g := id) (fun e he => Cn.tie (hs e he)) h
structure Lab (n : Int) (es : List (Int × Int)) (f : Int → Int) : Prop where
  conn : ∀ p, 0 ≤ p → p < n → Cn es p (f p)
  same : ∀ e ∈ es, f e.1 = f e.2
  low : ∀ p, 0 ≤ p → p < n → 0 ≤ f p ∧ f p ≤ p
theorem lab_cn {es : List (Int × Int)} {f : Int → Int} (h : ∀ e ∈ es, f e.1 = f e.2) {a b : Int} (c : Cn es a b) : f a = f b := by
  induction c with
  | refl => rfl
  | fwd _ he ih => rw [ih, h _ he]
  | bwd _ he ih => rw [ih, ← h _ he]
theorem Lab.le {n : Int} {es : List (Int × Int)} {f g : Int → Int} (F : Lab n es f) (G : Lab n es g) {p : Int} (p0 : 0 ≤ p) (p1 : p < n) : g p ≤ f p := by
  have l := F.low p p0 p1
  have e := lab_cn G.same (F.conn p p0 p1)
  have := G.low (f p) l.1 (by omega)
  omega
theorem Lab.uniq {n : Int} {es : List (Int × Int)} {f g : Int → Int} (F : Lab n es f) (G : Lab n es g) {p : Int} (p0 : 0 ≤ p) (p1 : p < n) : f p = g p := Int.le_antisymm (G.le F p0 p1) (F.le G p0 p1)
theorem Lab.idem {n : Int} {es : List (Int × Int)} {f : Int → Int} (F : Lab n es f) {p : Int} (p0 : 0 ≤ p) (p1 : p < n) : f (f p) = f p := (lab_cn F.same (F.conn p p0 p1)).symm
theorem Lab.iff {n : Int} {es : List (Int × Int)} {f : Int → Int} (F : Lab n es f) {p q : Int} (p0 : 0 ≤ p) (p1 : p < n) (q0 : 0 ≤ q) (q1 : q < n) : f p = f q ↔ Cn es p q :=
  ⟨fun e => (F.conn p p0 p1).trans (by rw [e]; exact (F.conn q q0 q1).symm), fun c => lab_cn F.same c⟩
theorem Lab.nil (n : Int) : Lab n [] (fun p => p) := ⟨fun p _ _ => .refl p, fun e he => (nomatch he), fun p h _ => ⟨h, Int.le_refl _⟩⟩
theorem Lab.congr {n : Int} {es : List (Int × Int)} {f g : Int → Int} (F : Lab n es f) (hE : ∀ e ∈ es, 0 ≤ e.1 ∧ e.1 < n ∧ 0 ≤ e.2 ∧ e.2 < n) (h : ∀ p, 0 ≤ p → p < n → f p = g p) : Lab n es g :=
  ⟨fun p p0 p1 => by rw [← h p p0 p1]; exact F.conn p p0 p1, fun e he => by
    have := hE e he
    rw [← h _ this.1 this.2.1, ← h _ this.2.2.1 this.2.2.2]; exact F.same e he, fun p p0 p1 => by rw [← h p p0 p1]; exact F.low p p0 p1⟩
def mrg (f : Int → Int) (e : Int × Int) (p : Int) : Int := if f p = max (f e.1) (f e.2) then min (f e.1) (f e.2) else f p
theorem Lab.merge {n : Int} {es : List (Int × Int)} {f : Int → Int} {e : Int × Int} (F : Lab n es f) (b : 0 ≤ e.1 ∧ e.1 < n ∧ 0 ≤ e.2 ∧ e.2 < n) : Lab n (es ++ [e]) (mrg f e) := by
  have l1 := F.low e.1 b.1 b.2.1
  have l2 := F.low e.2 b.2.2.1 b.2.2.2
  have up : ∀ {x y : Int}, Cn es x y → Cn (es ++ [e]) x y := fun c => c.mono fun a ha => List.mem_append_left _ ha
  have me : e ∈ es ++ [e] := List.mem_append_right _ (List.mem_singleton.mpr rfl)
  have c1 : Cn (es ++ [e]) (f e.1) (f e.2) := (up (F.conn e.1 b.1 b.2.1)).symm.trans ((Cn.tie me).trans (up (F.conn e.2 b.2.2.1 b.2.2.2)))
  refine ⟨fun p p0 p1 => ?_, fun a ha => ?_, fun p p0 p1 => ?_⟩
  · have cp := up (F.conn p p0 p1)
    unfold mrg
    by_cases h : f p = max (f e.1) (f e.2)
    · rw [if_pos h]
      rw [h] at cp
      by_cases g : f e.1 ≤ f e.2
      · rw [Int.max_eq_right g] at cp; rw [Int.min_eq_left g]; exact cp.trans c1.symm
      · rw [Int.max_eq_left (by omega)] at cp; rw [Int.min_eq_right (by omega)]; exact cp.trans c1
    · rw [if_neg h]; exact cp
  · rcases List.mem_append.mp ha with y | y
    · unfold mrg; rw [F.same a y]
    · have ea : a = e := List.mem_singleton.mp y
      subst ea
      unfold mrg
      have h1 : f a.1 ≤ f a.2 ∨ f a.2 < f a.1 := by omega
      rcases h1 with g | g
      · rw [Int.max_eq_right g, Int.min_eq_left g, if_pos rfl]; split <;> omega
      · rw [Int.max_eq_left (by omega), Int.min_eq_right (by omega), if_pos rfl]; split <;> omega
  · have := F.low p p0 p1
    unfold mrg
    by_cases h : f p = max (f e.1) (f e.2)
    · rw [if_pos h]; omega
    · rw [if_neg h]; exact this
def rts (n : Nat) (f : Int → Int) : List Int := ((List.range n).filter fun (m : Nat) => decide (f (m : Int) = (m : Int))).map fun (m : Nat) => (m : Int)
def grp (n : Nat) (f : Int → Int) (r : Int) : List Int := ((List.range n).filter fun (p : Nat) => decide (f (p : Int) = r)).map fun (p : Nat) => (p : Int)
def pcs (n : Nat) (f : Int → Int) : List (List Int) := (rts n f).map (grp n f)
theorem rts_succ (n : Nat) (f : Int → Int) : rts (n + 1) f = rts n f ++ (if f n = n then [(n : Int)] else []) := by
  unfold rts
  rw [List.range_succ, List.filter_append, List.map_append]
  by_cases h : f n = n
  · rw [if_pos h, List.filter_cons_of_pos (by rw [decide_eq_true h])]; rfl
  · rw [if_neg h, List.filter_cons_of_neg (by rw [decide_eq_false h]; decide)]; rfl
theorem grp_succ (n : Nat) (f : Int → Int) (r : Int) : grp (n + 1) f r = grp n f r ++ (if f n = r then [(n : Int)] else []) := by
  unfold grp
  rw [List.range_succ, List.filter_append, List.map_append]
  by_cases h : f n = r
  · rw [if_pos h, List.filter_cons_of_pos (by rw [decide_eq_true h])]; rfl
  · rw [if_neg h, List.filter_cons_of_neg (by rw [decide_eq_false h]; decide)]; rfl
theorem mem_rts {n : Nat} {f : Int → Int} {r : Int} : r ∈ rts n f ↔ 0 ≤ r ∧ r < n ∧ f r = r := by
  unfold rts
  rw [List.mem_map]
  constructor
  · rintro ⟨m, hm, rfl⟩
    rw [List.mem_filter, List.mem_range, decide_eq_true_eq] at hm
    exact ⟨by omega, by omega, hm.2⟩
  · rintro ⟨h0, h1, h2⟩
    refine ⟨r.toNat, ?_, by omega⟩
    rw [List.mem_filter, List.mem_range, decide_eq_true_eq]
    have e : ((r.toNat : Nat) : Int) = r := by omega
    rw [e]; exact ⟨by omega, h2⟩
theorem mem_grp {n : Nat} {f : Int → Int} {r p : Int} : p ∈ grp n f r ↔ 0 ≤ p ∧ p < n ∧ f p = r := by
  unfold grp
  rw [List.mem_map]
  constructor
  · rintro ⟨m, hm, rfl⟩
    rw [List.mem_filter, List.mem_range, decide_eq_true_eq] at hm
    exact ⟨by omega, by omega, hm.2⟩
  · rintro ⟨h0, h1, h2⟩
    refine ⟨p.toNat, ?_, by omega⟩
    rw [List.mem_filter, List.mem_range, decide_eq_true_eq]
    have e : ((p.toNat : Nat) : Int) = p := by omega
    rw [e]; exact ⟨by omega, h2⟩
theorem rts_len (n : Nat) (f : Int → Int) : (rts n f).length ≤ n := by
  unfold rts
  rw [List.length_map]
  exact Nat.le_trans (List.length_filter_le _ _) (by rw [List.length_range]; exact Nat.le_refl _)
theorem grp_len (n : Nat) (f : Int → Int) (r : Int) : (grp n f r).length ≤ n := by
  unfold grp
  rw [List.length_map]
  exact Nat.le_trans (List.length_filter_le _ _) (by rw [List.length_range]; exact Nat.le_refl _)
theorem rts_congr {n : Nat} {f g : Int → Int} (h : ∀ p : Int, 0 ≤ p → p < n → f p = g p) : rts n f = rts n g := by
  unfold rts
  congr 1
  refine List.filter_congr fun m hm => ?_
  rw [List.mem_range] at hm
  rw [h m (by omega) (by omega)]
theorem grp_congr {n : Nat} {f g : Int → Int} (r : Int) (h : ∀ p : Int, 0 ≤ p → p < n → f p = g p) : grp n f r = grp n g r := by
  unfold grp
  congr 1
  refine List.filter_congr fun m hm => ?_
  rw [List.mem_range] at hm
  rw [h m (by omega) (by omega)]
theorem pcs_congr {n : Nat} {f g : Int → Int} (h : ∀ p : Int, 0 ≤ p → p < n → f p = g p) : pcs n f = pcs n g := by
  unfold pcs
  rw [rts_congr h]
  exact List.map_congr_left fun r _ => grp_congr r h
end L2
namespace L2
open PySem
theorem nodup_sub {α : Type} [DecidableEq α] : ∀ {l l' : List α}, l.Nodup → (∀ a ∈ l, a ∈ l') → l.length ≤ l'.length
  | [], _, _, _ => Nat.zero_le _
  | a :: l, l', h, s => by
    rw [List.nodup_cons] at h
    have ha := s a List.mem_cons_self
    have := nodup_sub (l := l) (l' := l'.erase a) h.2 fun b hb => (List.mem_erase_of_ne (fun (z : b = a) => h.1 (z ▸ hb))).mpr (s b (List.mem_cons_of_mem _ hb))
    rw [List.length_erase_of_mem ha] at this
    have : 0 < l'.length := List.length_pos_of_mem ha
    rw [List.length_cons]; omega
theorem nodup_len {rs : List Int} {m : Int} (h : rs.Nodup) (b : ∀ p ∈ rs, 0 ≤ p ∧ p < m) : rs.length ≤ m.toNat := by
  have := nodup_sub (l' := (List.range m.toNat).map fun (i : Nat) => (i : Int)) h fun p hp => by
    have := b p hp
    exact List.mem_map.mpr ⟨p.toNat, List.mem_range.mpr (by omega), by omega⟩
  rwa [List.length_map, List.length_range] at this
theorem nodup_snoc {α : Type} {l : List α} {a : α} (h : l.Nodup) (n : ¬ a ∈ l) : (l ++ [a]).Nodup := by
  rw [List.nodup_append]
  refine ⟨h, by simp, fun x hx y hy e => ?_⟩
  rw [List.mem_singleton.mp hy] at e
  exact n (e ▸ hx)
def atP (p : Int) (e : Int × Int) : Bool := e.1 == p || e.2 == p
theorem atP_iff {p : Int} {e : Int × Int} : atP p e = true ↔ e.1 = p ∨ e.2 = p := by
  unfold atP
  rw [Bool.or_eq_true, beq_iff_eq, beq_iff_eq]
def far (e : Int × Int) (p : Int) : Int := if e.1 = p then e.2 else e.1
def tieOf (es : List (Int × Int)) (t : Int) : Int × Int := es.getD t.toNat (0, 0)
def sub (es : List (Int × Int)) (ss : List Int) : List (Int × Int) := ss.map (tieOf es)
theorem far_cn {es : List (Int × Int)} {e : Int × Int} (h : e ∈ es) {p : Int} (hp : e.1 = p ∨ e.2 = p) : Cn es p (far e p) := by
  unfold far
  by_cases c : e.1 = p
  · rw [if_pos c, ← c]; exact Cn.tie h
  · rw [if_neg c]
    rcases hp with y | y
    · exact absurd y c
    · rw [← y]; exact Cn.eit h
theorem far_end (e : Int × Int) {p : Int} (hp : e.1 = p ∨ e.2 = p) : e.1 = far e p ∨ e.2 = far e p := by
  unfold far
  by_cases c : e.1 = p
  · rw [if_pos c]; exact .inr rfl
  · rw [if_neg c]; exact .inl rfl
inductive Way (es : List (Int × Int)) (ss : List Int) (a : Int) : List Int → List Int → Int → Prop
  | nil : Way es ss a [] [] a
  | snoc {ts ps : List Int} {p t : Int} : Way es ss a ts ps p → t ∈ ss → 0 ≤ t → t < (es.length : Int) → ((tieOf es t).1 = p ∨ (tieOf es t).2 = p) → ¬ far (tieOf es t) p ∈ ps ++ [p] → Way es ss a (ts ++ [t]) (ps ++ [p]) (far (tieOf es t) p)
theorem Way.nd {es : List (Int × Int)} {ss ts ps : List Int} {a p : Int} (h : Way es ss a ts ps p) : (ps ++ [p]).Nodup := by
  induction h with
  | nil => simp
  | snoc _ _ _ _ _ hn ih => exact nodup_snoc ih hn
theorem Way.len {es : List (Int × Int)} {ss ts ps : List Int} {a p : Int} (h : Way es ss a ts ps p) : ts.length = ps.length := by
  induction h with
  | nil => rfl
  | snoc _ _ _ _ _ _ ih => rw [List.length_append, List.length_append, ih]; rfl
theorem Way.ends {es : List (Int × Int)} {ss ts ps : List Int} {a p : Int} (h : Way es ss a ts ps p) : ∀ t ∈ ts, (tieOf es t).1 ∈ ps ++ [p] ∧ (tieOf es t).2 ∈ ps ++ [p] := by
  induction h with
  | nil => exact fun t ht => nomatch ht
  | @snoc ts ps p t _ _ _ _ hp _ ih =>
    intro t' ht'
    rcases List.mem_append.mp ht' with y | y
    · exact ⟨List.mem_append_left _ (ih t' y).1, List.mem_append_left _ (ih t' y).2⟩
    · rw [List.mem_singleton.mp y]
      have mp : p ∈ (ps ++ [p]) ++ [far (tieOf es t) p] := List.mem_append_left _ (List.mem_append_right _ (List.mem_singleton.mpr rfl))
      have mf : far (tieOf es t) p ∈ (ps ++ [p]) ++ [far (tieOf es t) p] := List.mem_append_right _ (List.mem_singleton.mpr rfl)
      by_cases c : (tieOf es t).1 = p
      · have e2 : far (tieOf es t) p = (tieOf es t).2 := if_pos c
        rw [c]; exact ⟨mp, by rw [← e2]; exact mf⟩
      · have e1 : far (tieOf es t) p = (tieOf es t).1 := if_neg c
        have e2 : (tieOf es t).2 = p := hp.resolve_left c
        rw [e2]; exact ⟨by rw [← e1]; exact mf, mp⟩
theorem Way.fresh {es : List (Int × Int)} {ss ts ps : List Int} {a p t : Int} (h : Way es ss a ts ps p) (hp : (tieOf es t).1 = p ∨ (tieOf es t).2 = p) (hn : ¬ far (tieOf es t) p ∈ ps ++ [p]) : ¬ t ∈ ts := fun ht => by
  have := h.ends t ht
  rcases far_end (tieOf es t) hp with y | y
  · exact hn (y ▸ this.1)
  · exact hn (y ▸ this.2)
theorem Way.tnd {es : List (Int × Int)} {ss ts ps : List Int} {a p : Int} (h : Way es ss a ts ps p) : ts.Nodup := by
  induction h with
  | nil => simp
  | snoc h _ _ _ hp hn ih => exact nodup_snoc ih (h.fresh hp hn)
theorem Way.sub {es : List (Int × Int)} {ss ts ps : List Int} {a p : Int} (h : Way es ss a ts ps p) : ∀ t ∈ ts, t ∈ ss ∧ 0 ≤ t ∧ t < (es.length : Int) := by
  induction h with
  | nil => exact fun t ht => nomatch ht
  | snoc _ h1 h2 h3 _ _ ih =>
    intro t' ht'
    rcases List.mem_append.mp ht' with y | y
    · exact ih t' y
    · rw [List.mem_singleton.mp y]; exact ⟨h1, h2, h3⟩
theorem valV_key (ad : Int → Addr) (k : Int) : ∀ R : List Int, valV (R.map fun r => ((Sum.inl r : Key), V.ref (ad r))) (Sum.inl k) = if k ∈ R then some (V.ref (ad k)) else none
  | [] => rfl
  | r :: R => by
    rw [List.map_cons]
    by_cases e : r = k
    · subst e
      rw [valV_pos rfl, if_pos List.mem_cons_self]
    · rw [valV_neg (fun z => e (Sum.inl.inj z)), valV_key ad k R]
      by_cases h : k ∈ R
      · rw [if_pos h, if_pos (List.mem_cons_of_mem _ h)]
      · rw [if_neg h, if_neg (fun z => (List.mem_cons.mp z).elim (fun y => e y.symm) h)]
theorem cn_closed {es : List (Int × Int)} {R : List Int} {a b : Int} (ha : a ∈ R) (hc : ∀ e ∈ es, ∀ p ∈ R, (e.1 = p ∨ e.2 = p) → far e p ∈ R) (h : Cn es a b) : b ∈ R := by
  induction h with
  | refl => exact ha
  | fwd _ he ih => have := hc _ he _ ih (.inl rfl); rwa [show far _ _ = _ from if_pos rfl] at this
  | @bwd e _ he ih =>
    have := hc _ he _ ih (.inr rfl)
    unfold far at this
    by_cases c : e.1 = e.2
    · rw [if_pos c] at this; rw [c]; exact this
    · rwa [if_neg c] at this
end L2
namespace L2
structure Nam (n : Int) (es : List (Int × Int)) (f : Int → Int) : Prop where
  conn : ∀ p, 0 ≤ p → p < n → Cn es p (f p)
  same : ∀ e ∈ es, f e.1 = f e.2
  rng : ∀ p, 0 ≤ p → p < n → 0 ≤ f p ∧ f p < n
theorem Nam.iff {n : Int} {es : List (Int × Int)} {f : Int → Int} (F : Nam n es f) {p q : Int} (p0 : 0 ≤ p) (p1 : p < n) (q0 : 0 ≤ q) (q1 : q < n) : f p = f q ↔ Cn es p q :=
  ⟨fun e => (F.conn p p0 p1).trans (by rw [e]; exact (F.conn q q0 q1).symm), fun c => lab_cn F.same c⟩
theorem Nam.nil (n : Int) : Nam n [] (fun p => p) := ⟨fun p _ _ => .refl p, fun e he => (nomatch he), fun p h h' => ⟨h, h'⟩⟩
theorem Nam.congr {n : Int} {es : List (Int × Int)} {f g : Int → Int} (F : Nam n es f) (hE : ∀ e ∈ es, 0 ≤ e.1 ∧ e.1 < n ∧ 0 ≤ e.2 ∧ e.2 < n) (h : ∀ p, 0 ≤ p → p < n → f p = g p) : Nam n es g :=
  ⟨fun p p0 p1 => by rw [← h p p0 p1]; exact F.conn p p0 p1, fun e he => by
    have := hE e he
    rw [← h _ this.1 this.2.1, ← h _ this.2.2.1 this.2.2.2]; exact F.same e he, fun p p0 p1 => by rw [← h p p0 p1]; exact F.rng p p0 p1⟩
theorem Nam.put {n : Int} {es : List (Int × Int)} {f : Int → Int} {e : Int × Int} (F : Nam n es f) (b : 0 ≤ e.1 ∧ e.1 < n ∧ 0 ≤ e.2 ∧ e.2 < n) : Nam n (es ++ [e]) (fun p => if f p = f e.2 then f e.1 else f p) := by
  have up : ∀ {x y : Int}, Cn es x y → Cn (es ++ [e]) x y := fun c => c.mono fun a ha => List.mem_append_left _ ha
  have me : e ∈ es ++ [e] := List.mem_append_right _ (List.mem_singleton.mpr rfl)
  refine ⟨fun p p0 p1 => ?_, fun a ha => ?_, fun p p0 p1 => ?_⟩
  · have cp := up (F.conn p p0 p1)
    by_cases h : f p = f e.2
    · try dsimp only
      rw [if_pos h]
      rw [h] at cp
      exact cp.trans ((up (F.conn e.2 b.2.2.1 b.2.2.2)).symm.trans ((Cn.eit me).trans (up (F.conn e.1 b.1 b.2.1))))
    · try dsimp only
      rw [if_neg h]; exact cp
  · rcases List.mem_append.mp ha with y | y
    · try dsimp only
      rw [F.same a y]
    · have ea : a = e := List.mem_singleton.mp y
      subst ea
      try dsimp only
      rw [if_pos rfl]; split
      · rfl
      · rfl
  · try dsimp only
    split
    · exact F.rng _ b.1 b.2.1
    · exact F.rng p p0 p1
theorem Nam.skip {n : Int} {es : List (Int × Int)} {f : Int → Int} {e : Int × Int} (F : Nam n es f) (h : f e.1 = f e.2) : Nam n (es ++ [e]) f :=
  ⟨fun p p0 p1 => (F.conn p p0 p1).mono fun a ha => List.mem_append_left _ ha, fun a ha => by
    rcases List.mem_append.mp ha with y | y
    · exact F.same a y
    · rw [List.mem_singleton.mp y]; exact h, F.rng⟩
theorem Lab.skip {n : Int} {es : List (Int × Int)} {f : Int → Int} {e : Int × Int} (F : Lab n es f) (h : f e.1 = f e.2) : Lab n (es ++ [e]) f :=
  ⟨fun p p0 p1 => (F.conn p p0 p1).mono fun a ha => List.mem_append_left _ ha, fun a ha => by
    rcases List.mem_append.mp ha with y | y
    · exact F.same a y
    · rw [List.mem_singleton.mp y]; exact h, F.low⟩
noncomputable def inF (es : List (Int × Int)) (i : Nat) : Bool := @decide (¬ Cn (es.take i) (es.getD i (0, 0)).1 (es.getD i (0, 0)).2) (Classical.propDecidable _)
theorem inF_iff {es : List (Int × Int)} {i : Nat} : inF es i = true ↔ ¬ Cn (es.take i) (es.getD i (0, 0)).1 (es.getD i (0, 0)).2 := by
  unfold inF; exact @decide_eq_true_iff _ (Classical.propDecidable _)
noncomputable def frN (es : List (Int × Int)) (n : Nat) : List Int := ((List.range n).filter fun i => inF es i).map fun (i : Nat) => (i : Int)
noncomputable def frst (es : List (Int × Int)) : List Int := frN es es.length
theorem frN_succ (es : List (Int × Int)) (n : Nat) : frN es (n + 1) = frN es n ++ (if inF es n = true then [(n : Int)] else []) := by
  unfold frN
  rw [List.range_succ, List.filter_append, List.map_append]
  by_cases h : inF es n = true
  · rw [if_pos h, List.filter_cons_of_pos h]; rfl
  · rw [if_neg h, List.filter_cons_of_neg h]; rfl
theorem mem_frN {es : List (Int × Int)} {n : Nat} {t : Int} : t ∈ frN es n ↔ 0 ≤ t ∧ t < n ∧ inF es t.toNat = true := by
  unfold frN
  rw [List.mem_map]
  constructor
  · rintro ⟨m, hm, rfl⟩
    rw [List.mem_filter, List.mem_range] at hm
    exact ⟨by omega, by omega, hm.2⟩
  · rintro ⟨h0, h1, h2⟩
    exact ⟨t.toNat, List.mem_filter.mpr ⟨List.mem_range.mpr (by omega), h2⟩, by omega⟩
def upto (n : Nat) : List Int := (List.range n).map fun (i : Nat) => (i : Int)
def oth (n : Nat) (t : Int) : List Int := (upto n).filter fun z => decide (z ≠ t)
theorem mem_upto {n : Nat} {t : Int} : t ∈ upto n ↔ 0 ≤ t ∧ t < n := by
  unfold upto
  rw [List.mem_map]
  constructor
  · rintro ⟨m, hm, rfl⟩
    rw [List.mem_range] at hm
    omega
  · rintro ⟨h0, h1⟩
    exact ⟨t.toNat, List.mem_range.mpr (by omega), by omega⟩
noncomputable def fre (es : List (Int × Int)) : List Int := (upto es.length).filter fun z => !((frst es).any (· == z))
end L2
namespace L2
open PySem PySem.Spec PyProof.Rows
theorem IntsAre.vals : ∀ {ns : List Int} {us : List Value}, IntsAre us ns → Vals (ns.map V.int) us
  | _, _, .nil => .nil
  | _, _, .cons _ _ t => .cons ⟨_, rfl⟩ (IntsAre.vals t)
section
variable {X : Cx} {K : PySem.W.Frag}
end
theorem sorted_uniq : ∀ {a b : List Int}, a.Perm b → a.Pairwise (· ≤ ·) → b.Pairwise (· ≤ ·) → a = b := fun h ha hb => h.eq_of_pairwise (le := (· ≤ ·)) (fun _ _ _ _ x y => Int.le_antisymm x y) ha hb
end L2
namespace L2
open PySem PySem.Spec PyProof.Rows
def lf (ls : List Int) (p : Int) : Int := ls.getD p.toNat 0
theorem lf_range (n : Nat) (p : Int) (p0 : 0 ≤ p) (p1 : p < n) : lf ((List.range n).map fun i => 0 + ((i : Nat) : Int)) p = p := by
  unfold lf
  rw [List.getD_eq_getElem?_getD, List.getElem?_map, List.getElem?_range (by omega)]
  show 0 + ((p.toNat : Nat) : Int) = p
  omega
theorem lf_map (ls : List Int) (g : Int → Int) (p : Int) (p0 : 0 ≤ p) (p1 : p < ls.length) : lf (ls.map g) p = g (lf ls p) := by
  unfold lf
  rw [List.getD_eq_getElem?_getD, List.getElem?_map, List.getD_eq_getElem?_getD, List.getElem?_eq_getElem (show p.toNat < ls.length by omega)]; rfl
theorem none_back {H0 H' : Hp} {l : Addr} (s : Same H0 H') (n : H' l = none) : H0 l = none := by
  cases e : H0 l with
  | none => rfl
  | some o => have := s _ _ e; rw [n] at this; cases this
theorem Nam.start (n : Nat) (m : Int) (h : m.toNat = n) : Nam m [] (lf ((List.range n).map fun i => 0 + ((i : Nat) : Int))) := (Nam.nil m).congr (fun e he => (nomatch he)) fun p p0 p1 => (lf_range n p p0 (by omega)).symm
def dT (es : List (Int × Int)) : PyData := .tuple (es.map dP)
theorem shaped_dT (es : List (Int × Int)) : SeqAt.shaped (dT es) = true := by
  obtain ⟨h1, h2⟩ := dE_lay es
  unfold SeqAt.shaped dT
  simp only [PyData.canLay0, PyData.depth, h1, Bool.true_and]
  exact decide_eq_true (by omega)
theorem eqv_dT (ns ms : List (Int × Int)) : PyData.eqv (dT ns) (dT ms) = decide (ns = ms) := eqvAll_dE ns ms
end L2
namespace L2
open PySem
def dp (p : Int) (es : List (Int × Int)) (fs : List Int) : Nat → Int
  | 0 => 0
  | i + 1 => dp p es fs i + (if (es.getD i (0, 0)).2 = p then fs.getD i 0 else 0) - (if (es.getD i (0, 0)).1 = p then fs.getD i 0 else 0)
def memI (ps : List Int) (z : Int) : Bool := ps.any (· == z)
def ac (ps : List Int) (es : List (Int × Int)) (fs : List Int) : Nat → Int
  | 0 => 0
  | i + 1 => ac ps es fs i + (if (memI ps (es.getD i (0, 0)).1 && !memI ps (es.getD i (0, 0)).2) = true then fs.getD i 0 else 0) - (if (memI ps (es.getD i (0, 0)).2 && !memI ps (es.getD i (0, 0)).1) = true then fs.getD i 0 else 0)
theorem getD_map0 (z : Int) (fs : List Int) (n : Nat) : (fs.map (z * ·)).getD n 0 = z * fs.getD n 0 := by
  rw [List.getD_eq_getElem?_getD, List.getElem?_map, List.getD_eq_getElem?_getD]
  cases fs[n]? with
  | none => exact (Int.mul_zero z).symm
  | some v => rfl
theorem dp_map (p z : Int) (es : List (Int × Int)) (fs : List Int) : ∀ n, dp p es (fs.map (z * ·)) n = z * dp p es fs n
  | 0 => (Int.mul_zero z).symm
  | n + 1 => by
    show dp p es (fs.map (z * ·)) n + _ - _ = z * (dp p es fs n + _ - _)
    rw [dp_map p z es fs n, getD_map0, Int.mul_sub, Int.mul_add]
    by_cases c1 : (es.getD n (0, 0)).2 = p <;> by_cases c2 : (es.getD n (0, 0)).1 = p <;> simp only [c1, c2, if_true, if_false, Int.mul_zero]
theorem getD_zip (fs gs : List Int) (h : fs.length = gs.length) (n : Nat) : (List.zipWith (· + ·) fs gs).getD n 0 = fs.getD n 0 + gs.getD n 0 := by
  rw [List.getD_eq_getElem?_getD, List.getElem?_zipWith, List.getD_eq_getElem?_getD, List.getD_eq_getElem?_getD]
  by_cases hn : n < fs.length
  · rw [List.getElem?_eq_getElem hn, List.getElem?_eq_getElem (show n < gs.length by omega)]; rfl
  · rw [List.getElem?_eq_none (by omega), List.getElem?_eq_none (show gs.length ≤ n by omega)]; rfl
theorem dp_zip (p : Int) (es : List (Int × Int)) (fs gs : List Int) (h : fs.length = gs.length) : ∀ n, dp p es (List.zipWith (· + ·) fs gs) n = dp p es fs n + dp p es gs n
  | 0 => rfl
  | n + 1 => by
    show dp p es (List.zipWith (· + ·) fs gs) n + _ - _ = (dp p es fs n + _ - _) + (dp p es gs n + _ - _)
    rw [dp_zip p es fs gs h n, getD_zip fs gs h]
    by_cases c1 : (es.getD n (0, 0)).2 = p <;> by_cases c2 : (es.getD n (0, 0)).1 = p <;> simp only [c1, c2, if_true, if_false] <;> omega
theorem sum_pick (a z : Int) : ∀ ps : List Int, ps.Nodup → (ps.map fun p => if z = p then a else 0).sum = if memI ps z = true then a else 0
  | [], _ => rfl
  | p :: ps, h => by
    rw [List.nodup_cons] at h
    rw [List.map_cons, List.sum_cons, sum_pick a z ps h.2]
    show _ = if ((p == z) || memI ps z) = true then a else 0
    by_cases c : z = p
    · subst c
      have hn : memI ps z = false := by
        unfold memI
        rw [List.any_eq_false]
        intro y hy e
        rw [beq_iff_eq] at e
        exact h.1 (e ▸ hy)
      rw [hn, if_pos rfl, beq_self_eq_true]; simp
    · have hb : (p == z) = false := by rw [beq_eq_false_iff_ne]; exact fun e => c e.symm
      rw [if_neg c, hb, Bool.false_or, Int.zero_add]
theorem sum_three (A B C : Int → Int) : ∀ ps : List Int, (ps.map fun p => A p + B p - C p).sum = (ps.map A).sum + (ps.map B).sum - (ps.map C).sum
  | [] => rfl
  | p :: ps => by
    rw [List.map_cons, List.sum_cons, sum_three A B C ps, List.map_cons, List.map_cons, List.map_cons, List.sum_cons, List.sum_cons, List.sum_cons]; omega
theorem ac_dp (ps : List Int) (hN : ps.Nodup) (es : List (Int × Int)) (fs : List Int) : ∀ n, ac ps es fs n = -(ps.map fun p => dp p es fs n).sum
  | 0 => by
    have : ∀ ps : List Int, (ps.map fun _ => (0 : Int)).sum = 0 := fun ps => by
      induction ps with
      | nil => rfl
      | cons p ps ih => rw [List.map_cons, List.sum_cons, ih]; rfl
    show (0 : Int) = -(ps.map fun _ => (0 : Int)).sum
    rw [this]; rfl
  | n + 1 => by
    have e := sum_three (fun p => dp p es fs n) (fun p => if (es.getD n (0, 0)).2 = p then fs.getD n 0 else 0) (fun p => if (es.getD n (0, 0)).1 = p then fs.getD n 0 else 0) ps
    rw [sum_pick _ _ _ hN, sum_pick _ _ _ hN] at e
    show ac ps es fs n + _ - _ = -(ps.map fun p => dp p es fs n + (if (es.getD n (0, 0)).2 = p then fs.getD n 0 else 0) - (if (es.getD n (0, 0)).1 = p then fs.getD n 0 else 0)).sum
    rw [e, ac_dp ps hN es fs n]
    cases memI ps (es.getD n (0, 0)).1 <;> cases memI ps (es.getD n (0, 0)).2 <;> simp <;> omega
theorem ac_zero {ps : List Int} (hN : ps.Nodup) {es : List (Int × Int)} {fs : List Int} {n : Nat} (h : ∀ p : Int, dp p es fs n = 0) : ac ps es fs n = 0 := by
  rw [ac_dp ps hN es fs n]
  have : ∀ ps : List Int, (ps.map fun p => dp p es fs n).sum = 0 := fun ps => by
    induction ps with
    | nil => rfl
    | cons p ps ih => rw [List.map_cons, List.sum_cons, ih, h]; rfl
  rw [this]; rfl
theorem getDi_set (fs : List Int) (i n : Nat) (v : Int) (h : i < fs.length) : (fs.set i v).getD n 0 = if i = n then v else fs.getD n 0 := by
  rw [List.getD_eq_getElem?_getD, List.getElem?_set, List.getD_eq_getElem?_getD]
  by_cases c : i = n
  · rw [if_pos c, if_pos c, if_pos h]; rfl
  · rw [if_neg c, if_neg c]
theorem dp_set (p : Int) (es : List (Int × Int)) (fs : List Int) (k : Nat) (v : Int) (hk : k < fs.length) : ∀ n, dp p es (fs.set k v) n = dp p es fs n + (if k < n then (if (es.getD k (0, 0)).2 = p then v - fs.getD k 0 else 0) - (if (es.getD k (0, 0)).1 = p then v - fs.getD k 0 else 0) else 0)
  | 0 => by show (0 : Int) = 0 + _; rw [if_neg (Nat.not_lt_zero _)]; rfl
  | n + 1 => by
    show dp p es (fs.set k v) n + _ - _ = dp p es fs n + _ - _ + _
    rw [dp_set p es fs k v hk n, getDi_set fs k n v hk]
    by_cases c : k = n
    · subst c
      rw [if_neg (Nat.lt_irrefl _), if_pos rfl, if_pos (Nat.lt_succ_self _)]
      by_cases c1 : (es.getD k (0, 0)).2 = p <;> by_cases c2 : (es.getD k (0, 0)).1 = p <;> simp only [c1, c2, if_true, if_false] <;> omega
    · rw [if_neg c]
      by_cases c3 : k < n
      · rw [if_pos c3, if_pos (show k < n + 1 by omega)]; omega
      · rw [if_neg c3, if_neg (show ¬ k < n + 1 by omega)]; omega
theorem dp_nil (p : Int) (es : List (Int × Int)) (k : Nat) : ∀ n, dp p es (List.replicate k 0) n = 0
  | 0 => rfl
  | n + 1 => by
    show dp p es (List.replicate k 0) n + _ - _ = 0
    have e : (List.replicate k (0 : Int)).getD n 0 = 0 := by
      rw [List.getD_eq_getElem?_getD, List.getElem?_replicate]; split <;> rfl
    rw [dp_nil p es k n, e]; simp
theorem lab_ex {m : Int} : ∀ {es : List (Int × Int)}, (∀ e ∈ es, 0 ≤ e.1 ∧ e.1 < m ∧ 0 ≤ e.2 ∧ e.2 < m) → ∀ n, ∃ f, Lab m (es.take n) f
  | es, hE, 0 => ⟨_, Lab.nil m⟩
  | es, hE, n + 1 => by
    obtain ⟨f, F⟩ := lab_ex hE n
    rw [List.take_add_one]
    cases h : es[n]? with
    | none => exact ⟨f, by simpa using F⟩
    | some e => exact ⟨_, F.merge (hE e (List.mem_of_getElem? h))⟩
theorem memI_iff {ps : List Int} {z : Int} : memI ps z = true ↔ z ∈ ps := by
  unfold memI
  rw [List.any_eq_true]
  constructor
  · rintro ⟨x, hx, e⟩; rw [← beq_iff_eq.mp e]; exact hx
  · exact fun h => ⟨z, h, beq_iff_eq.mpr rfl⟩
theorem grp_nd (n : Nat) (f : Int → Int) (r : Int) : (grp n f r).Nodup := by
  unfold grp
  rw [List.nodup_iff_pairwise_ne, List.pairwise_map]
  exact (List.Pairwise.filter _ List.pairwise_lt_range).imp fun h z => by omega
theorem flow_zero {m : Int} {es : List (Int × Int)} {fs : List Int} (hE : ∀ e ∈ es, 0 ≤ e.1 ∧ e.1 < m ∧ 0 ≤ e.2 ∧ e.2 < m) (hd : ∀ p : Int, dp p es fs es.length = 0) (h0 : ∀ t, t < es.length → ¬ inF es t = true → fs.getD t 0 = 0) : ∀ t, t < es.length → fs.getD t 0 = 0 := by
  have key : ∀ k t, t < es.length → es.length ≤ t + k → fs.getD t 0 = 0 := by
    intro k
    induction k with
    | zero => intro t ht h; omega
    | succ k ih =>
      intro t ht h
      by_cases hF : inF es t = true
      · obtain ⟨f, F⟩ := lab_ex hE t
        have hg : es[t]? = some (es.getD t (0, 0)) := by rw [List.getD_eq_getElem?_getD, List.getElem?_eq_getElem ht]; rfl
        obtain ⟨b1, b2, b3, b4⟩ := hE _ (List.mem_of_getElem? hg)
        have hne : ¬ f (es.getD t (0, 0)).1 = f (es.getD t (0, 0)).2 := fun z => inF_iff.mp hF ((F.iff b1 b2 b3 b4).mp z)
        have hz := ac_zero (grp_nd m.toNat f (f (es.getD t (0, 0)).1)) hd
        have hmem : ∀ z : Int, 0 ≤ z → z < m → memI (grp m.toNat f (f (es.getD t (0, 0)).1)) z = decide (f z = f (es.getD t (0, 0)).1) := fun z z0 z1 => by
          rw [Bool.eq_iff_iff, memI_iff, mem_grp, decide_eq_true_iff]
          exact ⟨fun h => h.2.2, fun h => ⟨z0, by omega, h⟩⟩
        have st : ∀ n, n ≤ es.length → ac (grp m.toNat f (f (es.getD t (0, 0)).1)) es fs n = if t < n then fs.getD t 0 else 0 := by
          intro n
          induction n with
          | zero => intro _; rw [if_neg (Nat.not_lt_zero _)]; rfl
          | succ n ihn =>
            intro hn
            show ac _ es fs n + _ - _ = _
            rw [ihn (by omega)]
            have hgn : es[n]? = some (es.getD n (0, 0)) := by rw [List.getD_eq_getElem?_getD, List.getElem?_eq_getElem (show n < es.length by omega)]; rfl
            obtain ⟨d1, d2, d3, d4⟩ := hE _ (List.mem_of_getElem? hgn)
            rw [hmem _ d1 d2, hmem _ d3 d4]
            by_cases c : n < t
            · have es1 : f (es.getD n (0, 0)).1 = f (es.getD n (0, 0)).2 := F.same _ (List.mem_take_iff_getElem.mpr ⟨n, by omega, by rw [List.getD_eq_getElem?_getD, List.getElem?_eq_getElem (show n < es.length by omega)]; rfl⟩)
              rw [es1, if_neg (show ¬ t < n by omega), if_neg (show ¬ t < n + 1 by omega)]
              cases decide (f (es.getD n (0, 0)).2 = f (es.getD t (0, 0)).1) <;> simp
            · by_cases c2 : n = t
              · subst c2
                rw [decide_eq_true rfl, decide_eq_false (fun z => hne z.symm), if_neg (Nat.lt_irrefl _), if_pos (Nat.lt_succ_self _)]; simp
              · have hzn : fs.getD n 0 = 0 := ih n (by omega) (by omega)
                rw [if_pos (show t < n by omega), if_pos (show t < n + 1 by omega), hzn]; simp
        rw [st es.length (Nat.le_refl _), if_pos ht] at hz
        exact hz
      · exact h0 t ht hF
  exact fun t ht => key es.length t ht (by omega)
theorem flow_uniq {m : Int} {es : List (Int × Int)} {fs gs : List Int} (hE : ∀ e ∈ es, 0 ≤ e.1 ∧ e.1 < m ∧ 0 ≤ e.2 ∧ e.2 < m) (h1 : fs.length = es.length) (h2 : gs.length = es.length) (hf : ∀ p : Int, dp p es fs es.length = 0) (hg : ∀ p : Int, dp p es gs es.length = 0) (h0 : ∀ t, t < es.length → ¬ inF es t = true → fs.getD t 0 = gs.getD t 0) : fs = gs := by
  have hz := flow_zero (fs := List.zipWith (· + ·) fs (gs.map ((-1) * ·))) hE (fun p => by rw [dp_zip p es _ _ (by rw [List.length_map]; omega), dp_map, hf p, hg p]; rfl) fun t ht hn => by
    rw [getD_zip _ _ (by rw [List.length_map]; omega), getD_map0, h0 t ht hn]; omega
  apply List.ext_getElem (by omega)
  intro t ht1 ht2
  have := hz t (by omega)
  rw [getD_zip _ _ (by rw [List.length_map]; omega), getD_map0, List.getD_eq_getElem?_getD, List.getElem?_eq_getElem ht1, List.getD_eq_getElem?_getD, List.getElem?_eq_getElem ht2] at this
  have e : fs[t] + -1 * gs[t] = 0 := this
  omega
theorem frst_cn (es : List (Int × Int)) : ∀ n, n ≤ es.length → ∀ {a b : Int}, Cn (es.take n) a b → Cn (sub es (frN es n)) a b
  | 0, _, _, _, h => h.mono fun e he => (by simp at he)
  | n + 1, hn, a, b, h => by
    have ih : ∀ {a b : Int}, Cn (es.take n) a b → Cn (sub es (frN es (n + 1))) a b := fun h => (frst_cn es n (by omega) h).mono fun e he => by
      rw [frN_succ]; unfold sub at *; rw [List.map_append]; exact List.mem_append_left _ he
    have hg : es[n]? = some (es.getD n (0, 0)) := by rw [List.getD_eq_getElem?_getD, List.getElem?_eq_getElem (show n < es.length by omega)]; rfl
    refine Cn.map (g := id) (fun e he => ?_) h
    rw [List.take_add_one, hg] at he
    rcases List.mem_append.mp he with y | y
    · exact ih (Cn.tie y)
    · have ee : e = es.getD n (0, 0) := by simpa using y
      subst ee
      by_cases c : inF es n = true
      · refine Cn.tie ?_
        rw [frN_succ, if_pos c]
        unfold sub
        rw [List.map_append]
        exact List.mem_append_right _ (List.mem_singleton.mpr rfl)
      · exact ih (Classical.byContradiction fun z => c (inF_iff.mpr z))
def cur (es : List (Int × Int)) (a : Int) (ts : List Int) : Int := ts.foldl (fun p t => far (tieOf es t) p) a
theorem cur_snoc (es : List (Int × Int)) (a : Int) (ts : List Int) (t : Int) : cur es a (ts ++ [t]) = far (tieOf es t) (cur es a ts) := by unfold cur; rw [List.foldl_append]; rfl
theorem Way.cur {es : List (Int × Int)} {ss ts ps : List Int} {a p : Int} (h : Way es ss a ts ps p) : L2.cur es a ts = p := by
  induction h with
  | nil => rfl
  | snoc _ _ _ _ _ _ ih => rw [cur_snoc, ih]
theorem Way.step {es : List (Int × Int)} {ss ts ps : List Int} {a p : Int} (h : Way es ss a ts ps p) : ∀ i t, ts[i]? = some t → (tieOf es t).1 = L2.cur es a (ts.take i) ∨ (tieOf es t).2 = L2.cur es a (ts.take i) := by
  induction h with
  | nil => intro i t e; simp at e
  | @snoc ts ps p t h _ _ _ hp _ ih =>
    intro i t' e
    by_cases c : i < ts.length
    · rw [List.getElem?_append_left c] at e
      rw [List.take_append_of_le_length (by omega)]
      exact ih i t' e
    · have hi : i = ts.length := by
        have := (List.getElem?_eq_some_iff.mp e).1
        rw [List.length_append] at this
        have e1 : [t].length = 1 := rfl
        omega
      subst hi
      rw [List.getElem?_append_right (Nat.le_refl _), Nat.sub_self] at e
      have et : t = t' := by simpa using e
      rw [List.take_left, h.cur, ← et]
      exact hp
end L2
namespace L2
open PySem PySem.Spec PyProof.Rows
section
variable {X : Cx}
end
end L2
namespace L2
open PySem PySem.Spec PyProof.Rows
section
variable {X : Cx}
end
theorem flow_dvd {m k : Int} {es : List (Int × Int)} {fs : List Int} (hE : ∀ e ∈ es, 0 ≤ e.1 ∧ e.1 < m ∧ 0 ≤ e.2 ∧ e.2 < m) (hd : ∀ p : Int, dp p es fs es.length = 0) (h0 : ∀ t, t < es.length → ¬ inF es t = true → k ∣ fs.getD t 0) : ∀ t, t < es.length → k ∣ fs.getD t 0 := by
  have key : ∀ n t, t < es.length → es.length ≤ t + n → k ∣ fs.getD t 0 := by
    intro n
    induction n with
    | zero => intro t ht h; omega
    | succ n ih =>
      intro t ht h
      by_cases hF : inF es t = true
      · obtain ⟨f, F⟩ := lab_ex hE t
        have hg : es[t]? = some (es.getD t (0, 0)) := by rw [List.getD_eq_getElem?_getD, List.getElem?_eq_getElem ht]; rfl
        obtain ⟨b1, b2, b3, b4⟩ := hE _ (List.mem_of_getElem? hg)
        have hne : ¬ f (es.getD t (0, 0)).1 = f (es.getD t (0, 0)).2 := fun z => inF_iff.mp hF ((F.iff b1 b2 b3 b4).mp z)
        have hz := ac_zero (grp_nd m.toNat f (f (es.getD t (0, 0)).1)) hd
        have hmem : ∀ z : Int, 0 ≤ z → z < m → memI (grp m.toNat f (f (es.getD t (0, 0)).1)) z = decide (f z = f (es.getD t (0, 0)).1) := fun z z0 z1 => by
          rw [Bool.eq_iff_iff, memI_iff, mem_grp, decide_eq_true_iff]
          exact ⟨fun h => h.2.2, fun h => ⟨z0, by omega, h⟩⟩
        have st : ∀ j, j ≤ es.length → k ∣ (ac (grp m.toNat f (f (es.getD t (0, 0)).1)) es fs j - if t < j then fs.getD t 0 else 0) := by
          intro j
          induction j with
          | zero => intro _; rw [if_neg (Nat.not_lt_zero _)]; exact ⟨0, by rw [Int.mul_zero]; rfl⟩
          | succ j ihj =>
            intro hj
            have ih1 := ihj (by omega)
            show k ∣ (ac _ es fs j + _ - _ - _)
            have hgn : es[j]? = some (es.getD j (0, 0)) := by rw [List.getD_eq_getElem?_getD, List.getElem?_eq_getElem (show j < es.length by omega)]; rfl
            obtain ⟨d1, d2, d3, d4⟩ := hE _ (List.mem_of_getElem? hgn)
            rw [hmem _ d1 d2, hmem _ d3 d4]
            by_cases c : j < t
            · have es1 : f (es.getD j (0, 0)).1 = f (es.getD j (0, 0)).2 := F.same _ (List.mem_take_iff_getElem.mpr ⟨j, by omega, by rw [List.getD_eq_getElem?_getD, List.getElem?_eq_getElem (show j < es.length by omega)]; rfl⟩)
              rw [es1, if_neg (show ¬ t < j + 1 by omega)]
              rw [if_neg (show ¬ t < j by omega)] at ih1
              cases decide (f (es.getD j (0, 0)).2 = f (es.getD t (0, 0)).1) <;> simpa using ih1
            · by_cases c2 : j = t
              · subst c2
                rw [decide_eq_true rfl, decide_eq_false (fun z => hne z.symm), if_pos (Nat.lt_succ_self _)]
                rw [if_neg (Nat.lt_irrefl _)] at ih1
                have e : ∀ A B : Int, A + (if (true && !false) = true then B else 0) - (if (false && !true) = true then B else 0) - B = A - 0 := fun A B => by simp
                rw [e]; exact ih1
              · obtain ⟨u, hu⟩ : k ∣ fs.getD j 0 := ih j (by omega) (by omega)
                rw [if_pos (show t < j + 1 by omega)]
                rw [if_pos (show t < j by omega)] at ih1
                obtain ⟨v, hv⟩ := ih1
                have e : ∀ (x y : Bool) (A B C : Int), A + (if (x && !y) = true then C else 0) - (if (y && !x) = true then C else 0) - B = (A - B) + C * ((if x = true then 1 else 0) - (if y = true then 1 else 0)) := fun x y A B C => by
                  cases x <;> cases y <;> simp <;> omega
                rw [hu, e, hv, Int.mul_assoc, ← Int.mul_add]
                exact ⟨_, rfl⟩
        have := st es.length (Nat.le_refl _)
        rw [if_pos ht, hz] at this
        obtain ⟨v, hv⟩ := this
        exact ⟨-v, by rw [Int.mul_neg]; omega⟩
      · exact h0 t ht hF
  exact fun t ht => key es.length t ht (by omega)
theorem fre_iff {es : List (Int × Int)} {k : Nat} (hk : k < es.length) : (k : Int) ∈ fre es ↔ ¬ inF es k = true := by
  unfold fre
  rw [List.mem_filter, mem_upto]
  have : (frst es).any (· == (k : Int)) = true ↔ inF es k = true := by
    rw [show (frst es).any (· == (k : Int)) = memI (frst es) (k : Int) from rfl, memI_iff]
    unfold frst
    rw [mem_frN]
    exact ⟨fun h => h.2.2, fun h => ⟨by omega, by omega, h⟩⟩
  constructor
  · rintro ⟨_, h⟩ z
    rw [this.mpr z] at h; cases h
  · intro h
    refine ⟨⟨by omega, by omega⟩, ?_⟩
    rw [Bool.eq_false_iff.mpr fun z => h (this.mp z)]; rfl
def FW (es : List (Int × Int)) (vs fs : List Int) : Prop := fs.length = es.length ∧ (∀ p : Int, dp p es fs es.length = 0) ∧ ∀ j, j < (fre es).length → fs.getD ((fre es).getD j 0).toNat 0 = vs.getD j 0
theorem fre_at {es : List (Int × Int)} {t : Nat} (ht : t < es.length) (hn : ¬ inF es t = true) : ∃ j, j < (fre es).length ∧ (fre es).getD j 0 = (t : Int) := by
  obtain ⟨j, hj, e⟩ := List.mem_iff_getElem.mp ((fre_iff ht).mpr hn)
  exact ⟨j, hj, by rw [List.getD_eq_getElem?_getD, List.getElem?_eq_getElem hj]; exact e⟩
theorem FW.uniq {m : Int} {es : List (Int × Int)} {vs fs gs : List Int} (hE : ∀ e ∈ es, 0 ≤ e.1 ∧ e.1 < m ∧ 0 ≤ e.2 ∧ e.2 < m) (hf : FW es vs fs) (hg : FW es vs gs) : fs = gs := flow_uniq hE hf.1 hg.1 hf.2.1 hg.2.1 fun t ht hn => by
  obtain ⟨j, hj, e⟩ := fre_at ht hn
  have h1 := hf.2.2 j hj
  have h2 := hg.2.2 j hj
  rw [e, show ((t : Nat) : Int).toNat = t by omega] at h1 h2
  rw [h1, h2]
theorem FW.rest {m k : Int} {es : List (Int × Int)} {vs ws fs gs : List Int} (hE : ∀ e ∈ es, 0 ≤ e.1 ∧ e.1 < m ∧ 0 ≤ e.2 ∧ e.2 < m) (hf : FW es vs fs) (hg : FW es ws gs) (h : ∀ j, j < (fre es).length → k ∣ ws.getD j 0 - vs.getD j 0) : (gs.map (· % k)) = (fs.map (· % k)) := by
  have hl : gs.length = (fs.map ((-1) * ·)).length := by rw [List.length_map, hf.1, hg.1]
  have hz := flow_dvd (k := k) (fs := List.zipWith (· + ·) gs (fs.map ((-1) * ·))) hE (fun p => by rw [dp_zip p es _ _ hl, dp_map, hf.2.1 p, hg.2.1 p]; rfl) fun t ht hn => by
    obtain ⟨j, hj, e⟩ := fre_at ht hn
    have h1 := hf.2.2 j hj
    have h2 := hg.2.2 j hj
    rw [e, show ((t : Nat) : Int).toNat = t by omega] at h1 h2
    rw [getD_zip _ _ hl, getD_map0, h1, h2, show ws.getD j 0 + -1 * vs.getD j 0 = ws.getD j 0 - vs.getD j 0 by omega]
    exact h j hj
  apply List.ext_getElem (by rw [List.length_map, List.length_map, hf.1, hg.1])
  intro t h1 h2
  rw [List.length_map] at h1 h2
  rw [List.getElem_map, List.getElem_map]
  have hg1 := hg.1
  obtain ⟨u, hu⟩ := hz t (by omega)
  rw [getD_zip _ _ hl, getD_map0, List.getD_eq_getElem?_getD, List.getElem?_eq_getElem h1, List.getD_eq_getElem?_getD, List.getElem?_eq_getElem h2] at hu
  have hu' : gs[t] + -1 * fs[t] = k * u := hu
  rw [show gs[t] = fs[t] + k * u by omega, Int.add_mul_emod_self_left]
end L2
namespace L2
end L2
namespace L2
open PySem PySem.Spec PyProof.Rows
section
variable {X : Cx}
end
def Tch (es : List (Int × Int)) (L : List Int) (p : Int) : Prop := ∃ t ∈ L, (tieOf es t).1 = p ∨ (tieOf es t).2 = p
theorem cn_alone {es : List (Int × Int)} {L : List Int} {p q : Int} (h : ¬ Tch es L p) (c : Cn (sub es L) p q) : q = p := by
  have := cn_closed (R := [p]) (List.mem_singleton.mpr rfl) (fun e he r hr hx => by
    obtain ⟨t, ht, rfl⟩ := List.mem_map.mp he
    rw [List.mem_singleton.mp hr] at hx
    exact absurd ⟨t, ht, hx⟩ h) c
  exact List.mem_singleton.mp this
theorem dp_loops {es : List (Int × Int)} {fs : List Int} {p : Int} : ∀ n, (∀ k, k < n → ((es.getD k (0, 0)).1 = p ↔ (es.getD k (0, 0)).2 = p)) → dp p es fs n = 0
  | 0, _ => rfl
  | n + 1, h => by
    show dp p es fs n + _ - _ = 0
    rw [dp_loops n fun k hk => h k (by omega)]
    have := h n (by omega)
    by_cases c : (es.getD n (0, 0)).2 = p
    · rw [if_pos c, if_pos (this.mpr c)]; omega
    · rw [if_neg c, if_neg (fun z => c (this.mp z))]; rfl
structure FlI (m : Int) (es : List (Int × Int)) (as : List Int) (L fs : List Int) : Prop where
  len : fs.length = es.length
  nd : L.Nodup
  fr : ∀ t ∈ L, 0 ≤ t ∧ t < (es.length : Int) ∧ inF es t.toNat = true
  free : ∀ k, k < es.length → ¬ inF es k = true → fs.getD k 0 = as.getD k 0
  nought : ∀ t ∈ L, fs.getD t.toNat 0 = 0
  done : ∀ p, 0 ≤ p → p < m → ¬ Tch es L p → dp p es fs es.length = 0
  held : ∀ p q, Tch es L p → Tch es L q → Cn es p q → Cn (sub es L) p q
theorem frst_nd (es : List (Int × Int)) : (frst es).Nodup := by
  unfold frst frN
  rw [List.nodup_iff_pairwise_ne, List.pairwise_map]
  exact (List.Pairwise.filter _ List.pairwise_lt_range).imp fun h z => by omega
theorem FlI.start {m : Int} {es : List (Int × Int)} {as : List Int} (hl : as.length = es.length) (h0 : ∀ k, k < es.length → inF es k = true → as.getD k 0 = 0) : FlI m es as (frst es) as := by
  have hin : ∀ t ∈ frst es, 0 ≤ t ∧ t < (es.length : Int) ∧ inF es t.toNat = true := fun t ht => mem_frN.mp ht
  have hcn : ∀ {p q : Int}, Cn es p q → Cn (sub es (frst es)) p q := fun {p q} c => frst_cn es es.length (Nat.le_refl _) (by rw [List.take_length]; exact c)
  refine ⟨hl, frst_nd es, hin, fun k _ _ => rfl, fun t ht => h0 _ (by have := hin t ht; omega) (hin t ht).2.2, fun p p0 p1 hp => ?_, fun p q _ _ c => hcn c⟩
  refine dp_loops es.length fun k hk => ?_
  have hm : es.getD k (0, 0) ∈ es := by rw [List.getD_eq_getElem?_getD, List.getElem?_eq_getElem hk]; exact List.getElem_mem hk
  constructor
  · intro e
    have := cn_alone hp (hcn (show Cn es p (es.getD k (0, 0)).2 by rw [← e]; exact Cn.tie hm))
    exact this
  · intro e
    have := cn_alone hp (hcn (show Cn es p (es.getD k (0, 0)).1 by rw [← e]; exact Cn.eit hm))
    exact this
theorem FlI.step {m : Int} {es : List (Int × Int)} {as L fs : List Int} {u t w : Int} (hE : ∀ e ∈ es, 0 ≤ e.1 ∧ e.1 < m ∧ 0 ≤ e.2 ∧ e.2 < m) (I : FlI m es as L fs) (ht : t ∈ L) (hf : L.filter (fun s => atP u (tieOf es s)) = [t])
    (hw : w = if (tieOf es t).1 = u then dp u es fs es.length else -(dp u es fs es.length)) : FlI m es as (L.erase t) (fs.set t.toNat w) := by
  have htF := I.fr t ht
  have htl : t.toNat < fs.length := by rw [I.len]; omega
  have hmt : tieOf es t ∈ es := by unfold tieOf; rw [List.getD_eq_getElem?_getD, List.getElem?_eq_getElem (show t.toNat < es.length by omega)]; exact List.getElem_mem _
  obtain ⟨b1, b2, b3, b4⟩ := hE _ hmt
  have hut : (tieOf es t).1 = u ∨ (tieOf es t).2 = u := by
    have : t ∈ L.filter (fun s => atP u (tieOf es s)) := by rw [hf]; exact List.mem_singleton.mpr rfl
    exact atP_iff.mp (List.mem_filter.mp this).2
  have honly : ∀ s ∈ L, ((tieOf es s).1 = u ∨ (tieOf es s).2 = u) → s = t := fun s hs hx => by
    have : s ∈ L.filter (fun s => atP u (tieOf es s)) := List.mem_filter.mpr ⟨hs, atP_iff.mpr hx⟩
    rw [hf] at this
    exact List.mem_singleton.mp this
  have hne : (tieOf es t).1 ≠ (tieOf es t).2 := fun z => inF_iff.mp htF.2.2 (by
    show Cn _ (tieOf es t).1 (tieOf es t).2
    rw [← z]; exact Cn.refl _)
  obtain ⟨v, hv⟩ : ∃ v, v = far (tieOf es t) u := ⟨_, rfl⟩
  have huv : u ≠ v := by
    rw [hv]; unfold far
    by_cases c : (tieOf es t).1 = u
    · rw [if_pos c, ← c]; exact hne
    · rw [if_neg c]; exact fun z => c z.symm
  have hends : ∀ x, ((tieOf es t).1 = x ∨ (tieOf es t).2 = x) → x = u ∨ x = v := fun x hx => by
    rw [hv]; unfold far
    by_cases c : (tieOf es t).1 = u
    · rw [if_pos c]
      rcases hx with y | y
      · exact .inl (y.symm.trans c)
      · exact .inr y.symm
    · rw [if_neg c]
      have c2 := hut.resolve_left c
      rcases hx with y | y
      · exact .inr y.symm
      · exact .inl (y.symm.trans c2)
  have hcuv : Cn es u v := by rw [hv]; exact far_cn hmt hut
  have hsub : ∀ s ∈ L.erase t, s ∈ L ∧ s ≠ t := fun s hs => ⟨List.mem_of_mem_erase hs, fun z => by
    rw [z] at hs
    exact (List.Nodup.not_mem_erase I.nd) hs⟩
  have hback : ∀ s ∈ L, s ≠ t → s ∈ L.erase t := fun s hs z => (List.mem_erase_of_ne z).mpr hs
  have hnu : ¬ Tch es (L.erase t) u := fun ⟨s, hs, hx⟩ => (hsub s hs).2 (honly s (hsub s hs).1 hx)
  have hdp : ∀ p : Int, dp p es (fs.set t.toNat w) es.length = dp p es fs es.length + ((if (tieOf es t).2 = p then w else 0) - (if (tieOf es t).1 = p then w else 0)) := fun p => by
    rw [dp_set p es fs t.toNat w htl, I.nought t ht, if_pos (show t.toNat < es.length by omega)]
    show _ + ((if (tieOf es t).2 = p then w - 0 else 0) - (if (tieOf es t).1 = p then w - 0 else 0)) = _
    rw [Int.sub_zero]
  have hdu : dp u es (fs.set t.toNat w) es.length = 0 := by
    rw [hdp u, hw]
    by_cases c : (tieOf es t).1 = u
    · rw [if_pos c, if_pos c, if_neg (fun z => hne (c.trans z.symm))]; omega
    · rw [if_neg c, if_neg c, if_pos (hut.resolve_left c)]; omega
  have hother : ∀ p, p ≠ u → p ≠ v → dp p es (fs.set t.toNat w) es.length = dp p es fs es.length := fun p h1 h2 => by
    rw [hdp p, if_neg (fun z => (hends p (.inr z)).elim h1 h2), if_neg (fun z => (hends p (.inl z)).elim h1 h2)]; omega
  have hmap : ∀ {p q : Int}, p ≠ u → q ≠ u → Cn (sub es L) p q → Cn (sub es (L.erase t)) p q := fun {p q} h1 h2 c => by
    have := Cn.map (es' := sub es (L.erase t)) (g := fun x => if x = u then v else x) (fun e he => by
      obtain ⟨s, hs, rfl⟩ := List.mem_map.mp he
      by_cases cs : s = t
      · subst cs
        have e1 : (if (tieOf es s).1 = u then v else (tieOf es s).1) = v := by
          by_cases c : (tieOf es s).1 = u
          · rw [if_pos c]
          · rw [if_neg c]; exact ((hends _ (.inl rfl)).resolve_left c)
        have e2 : (if (tieOf es s).2 = u then v else (tieOf es s).2) = v := by
          by_cases c : (tieOf es s).2 = u
          · rw [if_pos c]
          · rw [if_neg c]; exact ((hends _ (.inr rfl)).resolve_left c)
        show Cn _ (if (tieOf es s).1 = u then v else (tieOf es s).1) (if (tieOf es s).2 = u then v else (tieOf es s).2)
        rw [e1, e2]; exact Cn.refl _
      · have n1 : ¬ (tieOf es s).1 = u := fun z => cs (honly s hs (.inl z))
        have n2 : ¬ (tieOf es s).2 = u := fun z => cs (honly s hs (.inr z))
        show Cn _ (if (tieOf es s).1 = u then v else (tieOf es s).1) (if (tieOf es s).2 = u then v else (tieOf es s).2)
        rw [if_neg n1, if_neg n2]
        exact Cn.tie (List.mem_map.mpr ⟨s, hback s hs cs, rfl⟩)) c
    have e : Cn (sub es (L.erase t)) (if p = u then v else p) (if q = u then v else q) := this
    rwa [if_neg h1, if_neg h2] at e
  refine ⟨by rw [List.length_set]; exact I.len, I.nd.erase t, fun s hs => I.fr s (hsub s hs).1, fun k hk hn => ?_, fun s hs => ?_, fun p p0 p1 hp => ?_, fun p q hp hq c => ?_⟩
  · rw [getDi_set fs t.toNat k w htl, if_neg (show ¬ t.toNat = k from fun z => hn (z ▸ htF.2.2))]
    exact I.free k hk hn
  · have h1 := hsub s hs
    have h2 := I.fr s h1.1
    rw [getDi_set fs t.toNat s.toNat w htl, if_neg (fun z => h1.2 (by omega))]
    exact I.nought s h1.1
  · by_cases c1 : p = u
    · rw [c1]; exact hdu
    · by_cases c2 : p = v
      · subst c2
        obtain ⟨f, F⟩ := lab_ex hE es.length
        rw [List.take_length] at F
        have hz : ac (grp m.toNat f (f p)) es (fs.set t.toNat w) es.length = 0 := by
          have : ∀ n, n ≤ es.length → ac (grp m.toNat f (f p)) es (fs.set t.toNat w) n = 0 := by
            intro n
            induction n with
            | zero => intro _; rfl
            | succ n ih =>
              intro hn
              show ac _ es (fs.set t.toNat w) n + _ - _ = 0
              have hmn : es.getD n (0, 0) ∈ es := by rw [List.getD_eq_getElem?_getD, List.getElem?_eq_getElem (show n < es.length by omega)]; exact List.getElem_mem _
              obtain ⟨d1, d2, d3, d4⟩ := hE _ hmn
              have es1 := F.same _ hmn
              have hmm : memI (grp m.toNat f (f p)) (es.getD n (0, 0)).1 = memI (grp m.toNat f (f p)) (es.getD n (0, 0)).2 := by
                rw [Bool.eq_iff_iff, memI_iff, memI_iff, mem_grp, mem_grp, es1]
                exact ⟨fun h => ⟨d3, by omega, h.2.2⟩, fun h => ⟨d1, by omega, h.2.2⟩⟩
              rw [ih (by omega), hmm]
              cases memI (grp m.toNat f (f p)) (es.getD n (0, 0)).2 <;> simp
          exact this es.length (Nat.le_refl _)
        rw [ac_dp _ (grp_nd _ _ _)] at hz
        have hq0 : ∀ q ∈ grp m.toNat f (f p), q ≠ p → dp q es (fs.set t.toNat w) es.length = 0 := fun q hq hqp => by
          have hq' := mem_grp.mp hq
          by_cases c3 : q = u
          · rw [c3]; exact hdu
          · rw [hother q c3 hqp]
            refine I.done q hq'.1 (by omega) fun hT => ?_
            have hTp : Tch es L p := ⟨t, ht, by
              rcases hut with y | y
              · exact .inr (by rw [hv]; unfold far; rw [if_pos y])
              · by_cases c : (tieOf es t).1 = u
                · exact .inr (by rw [hv]; unfold far; rw [if_pos c])
                · exact .inl (by rw [hv]; unfold far; rw [if_neg c])⟩
            have hc := I.held p q hTp hT ((F.iff p0 p1 hq'.1 (by omega)).mp hq'.2.2.symm)
            have := cn_alone hp (hmap c1 c3 hc)
            exact hqp this
        have hsum : ∀ R : List Int, R.Nodup → (∀ q ∈ R, q ≠ p → dp q es (fs.set t.toNat w) es.length = 0) → (R.map fun q => dp q es (fs.set t.toNat w) es.length).sum = if p ∈ R then dp p es (fs.set t.toNat w) es.length else 0 := by
          intro R
          induction R with
          | nil => intro _ _; rfl
          | cons q R ih =>
            intro hn hq
            rw [List.nodup_cons] at hn
            rw [List.map_cons, List.sum_cons, ih hn.2 fun r hr => hq r (List.mem_cons_of_mem _ hr)]
            by_cases e : q = p
            · subst e
              rw [if_neg hn.1, if_pos List.mem_cons_self]; omega
            · rw [hq q List.mem_cons_self e]
              by_cases e2 : p ∈ R
              · rw [if_pos e2, if_pos (List.mem_cons_of_mem _ e2)]; omega
              · rw [if_neg e2, if_neg (fun z => (List.mem_cons.mp z).elim (fun y => e y.symm) e2)]; rfl
        rw [hsum _ (grp_nd _ _ _) hq0, if_pos (mem_grp.mpr ⟨p0, by omega, rfl⟩)] at hz
        omega
      · rw [hother p c1 c2]
        refine I.done p p0 p1 fun ⟨s, hs, hx⟩ => ?_
        by_cases cs : s = t
        · subst cs
          exact (hends p hx).elim c1 c2
        · exact hp ⟨s, hback s hs cs, hx⟩
  · have h1 : p ≠ u := fun z => hnu (z ▸ hp)
    have h2 : q ≠ u := fun z => hnu (z ▸ hq)
    obtain ⟨s, hs, hx⟩ := hp
    obtain ⟨s', hs', hx'⟩ := hq
    exact hmap h1 h2 (I.held p q ⟨s, (hsub s hs).1, hx⟩ ⟨s', (hsub s' hs').1, hx'⟩ c)
end L2
namespace L2
open PySem PySem.Spec PyProof.Rows
end L2
namespace L2
open PySem PySem.Spec PyProof.Rows
def en (p : Int) (e : Int × Int) : Int := (if e.1 = p then 1 else 0) + (if e.2 = p then 1 else 0)
def ens (es : List (Int × Int)) (p : Int) (ts : List Int) : Int := (ts.map fun t => en p (tieOf es t)).sum
theorem sum_snocI (l : List Int) (a : Int) : (l ++ [a]).sum = l.sum + a := by
  induction l with
  | nil => show a + 0 = 0 + a; omega
  | cons x l ih => show x + (l ++ [a]).sum = x + l.sum + a; rw [ih]; omega
theorem ens_snoc (es : List (Int × Int)) (p : Int) (ts : List Int) (t : Int) : ens es p (ts ++ [t]) = ens es p ts + en p (tieOf es t) := by
  unfold ens; rw [List.map_append]; exact sum_snocI _ _
theorem en_far {e : Int × Int} {p : Int} (q : Int) (hp : e.1 = p ∨ e.2 = p) : en q e = (if p = q then 1 else 0) + (if far e p = q then 1 else 0) := by
  unfold en far
  by_cases c : e.1 = p
  · rw [if_pos c, c]
  · have c2 := hp.resolve_left c
    rw [if_neg c, c2]; omega
theorem Way.cnt {es : List (Int × Int)} {ss ts ps : List Int} {a b : Int} (h : Way es ss a ts ps b) (q : Int) : ens es q ts = 2 * (if q ∈ ps ++ [b] then 1 else 0) - (if a = q then 1 else 0) - (if b = q then 1 else 0) := by
  induction h with
  | nil =>
    rw [List.nil_append]
    show (0 : Int) = _
    by_cases c : a = q
    · rw [if_pos (List.mem_singleton.mpr c.symm), if_pos c]; rfl
    · rw [if_neg (fun z => c (List.mem_singleton.mp z).symm), if_neg c]; rfl
  | @snoc ts ps p t h _ _ _ hp hn ih =>
    rw [ens_snoc, ih, en_far q hp]
    obtain ⟨f, ef⟩ : ∃ f, f = far (tieOf es t) p := ⟨_, rfl⟩
    rw [← ef] at hn ⊢
    by_cases c : f = q
    · subst c
      rw [if_neg hn, if_pos (List.mem_append_right _ (List.mem_singleton.mpr rfl)), if_pos rfl]
      omega
    · have e : (q ∈ ps ++ [p] ++ [f]) ↔ q ∈ ps ++ [p] := by
        rw [List.mem_append (t := [f]), List.mem_singleton]
        exact ⟨fun z => z.resolve_right (fun y => c y.symm), .inl⟩
      rw [if_neg c]
      by_cases c2 : q ∈ ps ++ [p]
      · rw [if_pos c2, if_pos (e.mpr c2)]; omega
      · rw [if_neg c2, if_neg (fun z => c2 (e.mp z))]; omega
end L2
namespace L2
open PySem PySem.Spec PyProof.Rows
section
variable {X : Cx}
end
theorem gD_at {xs : List Int} {i : Nat} (h : i < xs.length) : xs.getD i 0 = xs[i] := by rw [List.getD_eq_getElem?_getD, List.getElem?_eq_getElem h]; rfl
end L2
namespace L2
open PySem PySem.Spec PyProof.Rows PySem.W Builtin Builtin.ObjectAttr
structure ExI (K : Frag) (A F f : Addr) : Prop where
  lk : ∃ nm qn N bs sn sub ab col dd k0 k1 k2 k3 k5, K.lookup A = some (excClassObj nm qn A N bs (.ref F :: vErr) true sn sub ab col dd k0 k1 k2 k3 k5 "ValueError.__new__")
  up : IsExc K F
  ini : findIn K (.ref A) "__init__" = some (some (.ref f))
  fn : isFn K (.ref f) = true
  sa : findIn K (.ref A) "__setattr__" = some (some (.builtin "object.__setattr__"))
  nt : findIn K (.ref A) "tie" = some none
theorem ExI.dict {K : Frag} {A F f : Addr} (c : ExI K A F f) : hasDictIn K A = true := by
  obtain ⟨nm, qn, N, bs, sn, sub, ab, col, dd, k0, k1, k2, k3, k5, look⟩ := c.lk
  unfold hasDictIn clsIn
  rw [look]; rfl
section
variable {prog : Program} {w : World} {B : Around} {E : Value → Shared → Prop} {K : Frag} {A F f : Addr} {h : Heap} {g : Array GenState} {d : Drawn} {t : Nat} {os : OsState}
end
section
variable {prog : Program} {w : World} {M : Model} {B : Around} {E : Value → Shared → Prop} {env : Env}
variable {nm q : Str} {C N : Addr} {bs bm : List Value} {hdct : Bool} {sn : List Str} {sub : List Value} {ab : Bool} {col : Option Bool} {dd : Option Addr} {k0 k1 k2 k3 k5 : Option Value} {newId : String}
end
end L2
namespace L2
open PySem PySem.Spec PyProof.Rows PySem.W Builtin Builtin.ObjectAttr
section
variable {prog : Program} {w : World} {B : Around} {E : Value → Shared → Prop} {K : Frag} {A F f x : Addr} {s : Shared}
end
section
variable {X : Cx} {σ : St} {H : Hp} {s : Shared} {A F f x : Addr}
end
section
variable {X : Cx} {Ex : St → Value → Hp → Prop}
end
section
variable {X : Cx}
end
section
variable {prog : Program} {w : World} {B : Around} {E : Value → Shared → Prop} {K : Frag} {A x : Addr} {s : Shared}
end
section
variable {X : Cx}
end
end L2
namespace L2
open PySem PySem.Spec PyProof.Rows PySem.W
def ClsX (C : Value) (A : Addr) : Prop := C = .ref A ∨ ∃ d, C = .int d A
theorem ClsX.cls {o : Obj} {C : Value} {A : Addr} (h : ClsX C A) (i : IsX o C) : o.cls = .ref A := by
  rcases h with rfl | ⟨d, rfl⟩
  · exact i
  · exact i.1
section
variable {X : Cx}
end
end L2
namespace L2
open PySem PySem.Spec PyProof.Rows PySem.W
section
variable {X : Cx}
end
end L2
namespace L2
open PySem
end L2
namespace L2
open PySem PySem.Spec PyProof.Rows
structure ZA3 (z TO i1 i2 i3 : Addr) (f1 f2 f3 : List Addr) : Prop where
  m1 : i1 ∈ f1
  m2 : i2 ∈ f2
  m3 : i3 ∈ f3
  z1 : z ∉ f1
  z2 : z ∉ f2
  z3 : z ∉ f3
  o1 : TO ∉ f1
  o2 : TO ∉ f2
  o3 : TO ∉ f3
  x12 : i1 ∉ f2
  x13 : i1 ∉ f3
  x21 : i2 ∉ f1
  x23 : i2 ∉ f3
  x31 : i3 ∉ f1
  x32 : i3 ∉ f2
  oz : TO ≠ z
section
variable {prog : Program} {w : World} {A : Around} {E : Value → Shared → Prop} {s : Shared} {z TI TO i1 i2 i3 : Addr} {f1 f2 f3 : List Addr} {n1 n2 n3 i : Nat} {P1 P2 P3 : Nat → Value → Prop} {S1 S2 S3 : Nat → Heap → Prop} {a b c : Value}
end
end L2
namespace L2
open PySem PySem.Spec PyProof.Rows
section
variable {prog : Program} {w : World} {A : Around} {E : Value → Shared → Prop} {s : Shared}
end
section
variable {X : Cx} {K : PySem.W.Frag} {elts : List Expr} {kx : Nat} {tpos : Pos}
end
end L2
namespace L2
open PySem
def stE (es : List (Int × Int)) (s : Int × Int) : Int := if s.2 = 1 then (tieOf es s.1).2 else (tieOf es s.1).1
def stB (es : List (Int × Int)) (s : Int × Int) : Int := if s.2 = 1 then (tieOf es s.1).1 else (tieOf es s.1).2
def StV (es : List (Int × Int)) (s : Int × Int) : Prop := 0 ≤ s.1 ∧ s.1 < (es.length : Int) ∧ (s.2 = 1 ∨ s.2 = -1)
def rmN (as lo hi : List Int) : List (Int × Int) := (List.range as.length).map fun i => (hi.getD i 0 - as.getD i 0, as.getD i 0 - lo.getD i 0)
def rmA (rm : List (Int × Int)) (s : Int × Int) : Int := if s.2 = 1 then (rm.getD s.1.toNat (0, 0)).1 else (rm.getD s.1.toNat (0, 0)).2
theorem rmN_at {as lo hi : List Int} {i : Nat} (h : i < as.length) : (rmN as lo hi).getD i (0, 0) = (hi.getD i 0 - as.getD i 0, as.getD i 0 - lo.getD i 0) := by
  unfold rmN
  rw [List.getD_eq_getElem?_getD, List.getElem?_map, List.getElem?_range h]; rfl
def stN (es rm : List (Int × Int)) (p : Int) : Nat → List (Int × Int)
  | 0 => []
  | i + 1 => (stN es rm p i ++ if (es.getD i (0, 0)).1 = p ∧ 0 < (rm.getD i (0, 0)).1 then [((i : Int), (1 : Int))] else []) ++ if (es.getD i (0, 0)).2 = p ∧ 0 < (rm.getD i (0, 0)).2 then [((i : Int), (-1 : Int))] else []
def stpS (es : List (Int × Int)) (p : Int) (S : List Int × (Int → List (Int × Int))) (s : Int × Int) : List Int × (Int → List (Int × Int)) :=
  if stE es s ∈ S.1 then S else (S.1 ++ [stE es s], fun z => if z = stE es s then S.2 p ++ [s] else S.2 z)
def rndS (es rm : List (Int × Int)) (S : List Int × (Int → List (Int × Int))) (k : Nat) : List Int × (Int → List (Int × Int)) := (stN es rm (S.1.getD k 0) es.length).foldl (stpS es (S.1.getD k 0)) S
def runS (es rm : List (Int × Int)) : Nat → List Int × (Int → List (Int × Int)) → Nat → List Int × (Int → List (Int × Int))
  | 0, S, _ => S
  | n + 1, S, k => if k < S.1.length then runS es rm n (rndS es rm S k) (k + 1) else S
def wwr (es rm : List (Int × Int)) (a : Int) (m : Nat) : List Int × (Int → List (Int × Int)) := runS es rm m ([a], fun _ => []) 0
inductive WayS (es rm : List (Int × Int)) (a : Int) : List (Int × Int) → List Int → Int → Prop
  | nil : WayS es rm a [] [] a
  | snoc {ss : List (Int × Int)} {ps : List Int} {p : Int} {s : Int × Int} : WayS es rm a ss ps p → StV es s → stB es s = p → 0 < rmA rm s → ¬ stE es s ∈ ps ++ [p] → WayS es rm a (ss ++ [s]) (ps ++ [p]) (stE es s)
section
variable {es rm : List (Int × Int)} {a p : Int} {ss : List (Int × Int)} {ps : List Int}
theorem WayS.nd (h : WayS es rm a ss ps p) : (ps ++ [p]).Nodup := by
  induction h with
  | nil => simp
  | snoc _ _ _ _ hn ih => exact nodup_snoc ih hn
theorem WayS.len (h : WayS es rm a ss ps p) : ss.length = ps.length := by
  induction h with
  | nil => rfl
  | snoc _ _ _ _ _ ih => rw [List.length_append, List.length_append, ih]; rfl
theorem WayS.first (h : WayS es rm a ss ps p) : a ∈ ps ++ [p] := by
  induction h with
  | nil => exact List.mem_singleton.mpr rfl
  | snoc _ _ _ _ _ ih => exact List.mem_append_left _ ih
theorem WayS.step (h : WayS es rm a ss ps p) : ∀ s ∈ ss, StV es s ∧ 0 < rmA rm s ∧ stE es s ≠ a ∧ stE es s ∈ ps ++ [p] ∧ stB es s ∈ ps ++ [p] := by
  induction h with
  | nil => exact fun s hs => nomatch hs
  | @snoc ss ps p s h hv hb hr hn ih =>
    intro t ht
    rcases List.mem_append.mp ht with y | y
    · obtain ⟨h1, h2, h3, h4, h5⟩ := ih t y
      exact ⟨h1, h2, h3, List.mem_append_left _ h4, List.mem_append_left _ h5⟩
    · rw [List.mem_singleton.mp y]
      exact ⟨hv, hr, fun e => hn (e ▸ h.first), List.mem_append_right _ (List.mem_singleton.mpr rfl), by rw [hb]; exact List.mem_append_left _ (List.mem_append_right _ (List.mem_singleton.mpr rfl))⟩
theorem st_ends {s t : Int × Int} (e : s.1 = t.1) : stE es s = stE es t ∨ stE es s = stB es t := by
  unfold stE stB
  rw [e]
  by_cases c1 : s.2 = 1 <;> by_cases c2 : t.2 = 1 <;> simp [c1, c2]
theorem WayS.tnd (h : WayS es rm a ss ps p) : (ss.map (·.1)).Nodup := by
  induction h with
  | nil => simp
  | @snoc ss ps p s h hv hb hr hn ih =>
    rw [List.map_append]
    refine nodup_snoc ih fun ht => ?_
    obtain ⟨t, h1, h2⟩ := List.mem_map.mp ht
    obtain ⟨_, _, _, q1, q2⟩ := h.step t h1
    rcases st_ends (es := es) (show s.1 = t.1 from h2.symm) with e | e
    · exact hn (e ▸ q1)
    · exact hn (e ▸ q2)
end
def psh (as : List Int) (ss : List (Int × Int)) (z : Int) : List Int := ss.foldl (fun as s => as.set s.1.toNat (as.getD s.1.toNat 0 + s.2 * z)) as
theorem psh_snoc (as : List Int) (ss : List (Int × Int)) (s : Int × Int) (z : Int) : psh as (ss ++ [s]) z = (psh as ss z).set s.1.toNat ((psh as ss z).getD s.1.toNat 0 + s.2 * z) := by unfold psh; rw [List.foldl_append]; rfl
theorem psh_len (as : List Int) (z : Int) (ss : List (Int × Int)) : (psh as ss z).length = as.length := by
  induction ss generalizing as with
  | nil => rfl
  | cons s ss ih => exact (ih _).trans (List.length_set ..)
theorem dp_step1 {es : List (Int × Int)} {as : List Int} {s : Int × Int} {z : Int} (hl : as.length = es.length) (hv : StV es s) (p : Int) : dp p es (as.set s.1.toNat (as.getD s.1.toNat 0 + s.2 * z)) es.length = dp p es as es.length + (if stE es s = p then z else 0) - (if stB es s = p then z else 0) := by
  obtain ⟨h0, h1, h2⟩ := hv
  rw [dp_set p es as _ _ (by omega), if_pos (by omega)]
  unfold stE stB tieOf
  have e : as.getD s.1.toNat 0 + s.2 * z - as.getD s.1.toNat 0 = s.2 * z := by omega
  rw [e]
  rcases h2 with c | c
  · rw [c, if_pos rfl, if_pos rfl, Int.one_mul]; omega
  · rw [c, if_neg (show ¬ (-1 : Int) = 1 by decide), if_neg (show ¬ (-1 : Int) = 1 by decide), Int.neg_mul, Int.one_mul]
    split <;> split <;> omega
theorem WayS.dp {es rm : List (Int × Int)} {a q : Int} {ss : List (Int × Int)} {ps : List Int} (h : WayS es rm a ss ps q) {as : List Int} {z : Int} (hl : as.length = es.length) (p : Int) : dp p es (psh as ss z) es.length = L2.dp p es as es.length + (if q = p then z else 0) - (if a = p then z else 0) := by
  induction h with
  | nil => show L2.dp p es as _ = _; omega
  | @snoc ss ps q s h hv hb hr hn ih =>
    rw [psh_snoc, dp_step1 ((psh_len ..).trans hl) hv p, ih, hb]; omega
theorem WayS.ring {es rm : List (Int × Int)} {ss : List (Int × Int)} {ps : List Int} {s : Int × Int} (h : WayS es rm (stE es s) ss ps (stB es s)) (hv : StV es s) {as : List Int} {z : Int} (hl : as.length = es.length) (p : Int) : L2.dp p es (psh as (ss ++ [s]) z) es.length = L2.dp p es as es.length := by
  rw [psh_snoc, dp_step1 ((psh_len ..).trans hl) hv p, h.dp hl p]; omega
theorem psh_out {z : Int} {t : Nat} {ss : List (Int × Int)} : ∀ {as : List Int}, (∀ s ∈ ss, s.1.toNat ≠ t) → (psh as ss z).getD t 0 = as.getD t 0 := by
  induction ss with
  | nil => intro as _; rfl
  | cons s ss ih =>
    intro as h
    have e := ih (as := as.set s.1.toNat (as.getD s.1.toNat 0 + s.2 * z)) fun u hu => h u (List.mem_cons_of_mem _ hu)
    refine Eq.trans e ?_
    rw [List.getD_eq_getElem?_getD, List.getElem?_set_ne (h s List.mem_cons_self), List.getD_eq_getElem?_getD]
theorem psh_in {es : List (Int × Int)} {z : Int} {s : Int × Int} {ss : List (Int × Int)} : ∀ {as : List Int}, as.length = es.length → (∀ u ∈ ss, StV es u) → (ss.map (·.1)).Nodup → s ∈ ss → (psh as ss z).getD s.1.toNat 0 = as.getD s.1.toNat 0 + s.2 * z := by
  induction ss with
  | nil => intro as _ _ _ h; cases h
  | cons u ss ih =>
    intro as hl hv hn hs
    rw [List.map_cons, List.nodup_cons] at hn
    have hu := hv u List.mem_cons_self
    have hl2 : (as.set u.1.toNat (as.getD u.1.toNat 0 + u.2 * z)).length = es.length := (List.length_set ..).trans hl
    rcases List.mem_cons.mp hs with y | y
    · subst y
      have e := psh_out (z := z) (t := s.1.toNat) (ss := ss) (as := as.set s.1.toNat (as.getD s.1.toNat 0 + s.2 * z)) fun v hv' e => by
        have := hv v (List.mem_cons_of_mem _ hv')
        have e' : v.1 = s.1 := by have := this.1; have := hu.1; omega
        exact hn.1 (e' ▸ List.mem_map.mpr ⟨v, hv', rfl⟩)
      refine Eq.trans e ?_
      rw [getDi_set _ _ _ _ (by have := hu.1; have := hu.2.1; omega), if_pos rfl]
    · have e := ih hl2 (fun v h => hv v (List.mem_cons_of_mem _ h)) hn.2 y
      refine Eq.trans e ?_
      have hne : u.1.toNat ≠ s.1.toNat := fun e => by
        have e' : s.1 = u.1 := by have := (hv s (List.mem_cons_of_mem _ y)).1; have := hu.1; omega
        exact hn.1 (e' ▸ List.mem_map.mpr ⟨s, y, rfl⟩)
      rw [List.getD_eq_getElem?_getD, List.getElem?_set_ne hne, List.getD_eq_getElem?_getD]
def dueI (a l h : Int) : Int := if a < l then l - a else if a > h then h - a else 0
def dueN (as lo hi : List Int) (i : Nat) : Int := dueI (as.getD i 0) (lo.getD i 0) (hi.getD i 0)
def stpD (i : Nat) (d : Int) : Int × Int := ((i : Int), if d > 0 then 1 else -1)
theorem stpD_v {es : List (Int × Int)} {i : Nat} (h : i < es.length) (d : Int) : StV es (stpD i d) := by
  refine ⟨by show 0 ≤ (i : Int); omega, by show (i : Int) < _; omega, ?_⟩
  show (if d > 0 then (1 : Int) else -1) = 1 ∨ (if d > 0 then (1 : Int) else -1) = -1
  split
  · exact .inl rfl
  · exact .inr rfl
theorem dueI_next {a l h d z : Int} (hlh : l ≤ h) (e : dueI a l h = d) (hd : d ≠ 0) (z0 : 0 < z) (z1 : z ≤ (if d < 0 then -d else d)) : (dueI (a + (if d > 0 then 1 else -1) * z) l h).natAbs < d.natAbs := by
  unfold dueI at e
  by_cases c : a < l
  · rw [if_pos c] at e
    rw [if_neg (show ¬ d < 0 by omega)] at z1
    rw [if_pos (show d > 0 by omega), Int.one_mul]
    unfold dueI
    split
    · omega
    · split <;> omega
  · rw [if_neg c] at e
    by_cases c2 : a > h
    · rw [if_pos c2] at e
      rw [if_pos (show d < 0 by omega)] at z1
      rw [if_neg (show ¬ d > 0 by omega), Int.neg_mul, Int.one_mul]
      unfold dueI
      split
      · omega
      · split <;> omega
    · rw [if_neg c2] at e; exact absurd e.symm hd
structure BtI (es : List (Int × Int)) (lo hi : List Int) (i : Nat) (as : List Int) : Prop where
  len : as.length = es.length
  flow : ∀ p : Int, dp p es as es.length = 0
  past : ∀ t, t < i → lo.getD t 0 ≤ as.getD t 0 ∧ as.getD t 0 ≤ hi.getD t 0
theorem sz_pos {rm : List (Int × Int)} {d z : Int} {ss : List (Int × Int)} (hd : d ≠ 0) (hr : ∀ s ∈ ss, 0 < rmA rm s) (h : z ∈ (if d < 0 then -d else d) :: ss.map (rmA rm)) : 0 < z := by
  rcases List.mem_cons.mp h with y | y
  · rw [y]; split <;> omega
  · obtain ⟨s, h1, h2⟩ := List.mem_map.mp y
    rw [← h2]; exact hr s h1
theorem way_not {es : List (Int × Int)} {as lo hi : List Int} {i : Nat} {ss : List (Int × Int)} {ps : List Int} {q : Int} (hi' : i < es.length) (hl : as.length = es.length) (hd : dueN as lo hi i ≠ 0) (hlh : lo.getD i 0 ≤ hi.getD i 0)
    (h : WayS es (rmN as lo hi) (stE es (stpD i (dueN as lo hi i))) ss ps q) : ∀ s ∈ ss, s.1 ≠ (i : Int) := fun s hs e => by
  obtain ⟨hv, hr, hne, _⟩ := h.step s hs
  unfold rmA at hr
  rw [e, Int.toNat_natCast, rmN_at (by omega)] at hr
  unfold dueN dueI at hd hne
  unfold stE stpD at hne
  rw [e] at hne
  rcases hv.2.2 with c | c
  · rw [c, if_pos rfl] at hne
    rw [c, if_pos rfl] at hr
    split at hd
    · rename_i c1
      rw [if_pos c1] at hne
      rw [if_pos (show lo.getD i 0 - as.getD i 0 > 0 by omega)] at hne
      exact hne (by simp)
    · split at hd
      · dsimp only at hr; omega
      · exact hd rfl
  · rw [c, if_neg (by decide)] at hne hr
    split at hd
    · dsimp only at hr; omega
    · split at hd
      · rename_i c1 c2
        rw [if_neg c1, if_pos c2] at hne
        rw [if_neg (show ¬ hi.getD i 0 - as.getD i 0 > 0 by omega)] at hne
        exact hne (by simp)
      · exact hd rfl
theorem BtI.next {es : List (Int × Int)} {lo hi as : List Int} {i : Nat} {z : Int} {ss : List (Int × Int)} {ps : List Int} (I : BtI es lo hi i as) (hi' : i < es.length) (hlh : ∀ t, t < es.length → lo.getD t 0 ≤ hi.getD t 0) (hd : dueN as lo hi i ≠ 0)
    (h : WayS es (rmN as lo hi) (stE es (stpD i (dueN as lo hi i))) ss ps (stB es (stpD i (dueN as lo hi i)))) (hz : z ∈ (if dueN as lo hi i < 0 then -dueN as lo hi i else dueN as lo hi i) :: ss.map (rmA (rmN as lo hi))) (hm : ∀ y ∈ (if dueN as lo hi i < 0 then -dueN as lo hi i else dueN as lo hi i) :: ss.map (rmA (rmN as lo hi)), z ≤ y) :
    BtI es lo hi i (psh as (ss ++ [stpD i (dueN as lo hi i)]) z) ∧ (dueN (psh as (ss ++ [stpD i (dueN as lo hi i)]) z) lo hi i).natAbs < (dueN as lo hi i).natAbs := by
  have z0 : 0 < z := sz_pos hd (fun s hs => (h.step s hs).2.1) hz
  have hv := stpD_v hi' (dueN as lo hi i)
  have hno := way_not hi' I.len hd (hlh i hi') h
  have hvs : ∀ u ∈ ss, StV es u := fun u hu => (h.step u hu).1
  have ei : (psh as ss z).getD i 0 = as.getD i 0 := psh_out fun s hs e => hno s hs (by have := (hvs s hs).1; omega)
  have gi : (psh as (ss ++ [stpD i (dueN as lo hi i)]) z).getD i 0 = as.getD i 0 + (if dueN as lo hi i > 0 then 1 else -1) * z := by
    rw [psh_snoc]
    show ((psh as ss z).set ((i : Int)).toNat _).getD i 0 = _
    rw [Int.toNat_natCast, getDi_set _ _ _ _ (by rw [psh_len, I.len]; exact hi'), if_pos rfl]
    show (psh as ss z).getD ((i : Int)).toNat 0 + _ = _
    rw [Int.toNat_natCast, ei]; rfl
  refine ⟨⟨(psh_len ..).trans I.len, fun p => (h.ring hv I.len p).trans (I.flow p), fun t ht => ?_⟩, ?_⟩
  · have gt : (psh as (ss ++ [stpD i (dueN as lo hi i)]) z).getD t 0 = (psh as ss z).getD t 0 := by
      rw [psh_snoc]
      show ((psh as ss z).set ((i : Int)).toNat _).getD t 0 = _
      rw [Int.toNat_natCast, getDi_set _ _ _ _ (by rw [psh_len, I.len]; exact hi'), if_neg (by omega)]
    rw [gt]
    obtain ⟨b1, b2⟩ := I.past t ht
    by_cases hs : ∃ s ∈ ss, s.1.toNat = t
    · obtain ⟨s, hs, es'⟩ := hs
      have e := psh_in (z := z) I.len hvs h.tnd hs
      rw [es'] at e
      rw [e]
      have hr := hm (rmA (rmN as lo hi) s) (List.mem_cons_of_mem _ (List.mem_map.mpr ⟨s, hs, rfl⟩))
      unfold rmA at hr
      rw [es', rmN_at (by rw [I.len]; omega)] at hr
      rcases (hvs s hs).2.2 with c | c
      · rw [c, if_pos rfl] at hr
        rw [c, Int.one_mul]
        have hr' : z ≤ hi.getD t 0 - as.getD t 0 := hr
        omega
      · rw [c, if_neg (by decide)] at hr
        rw [c, Int.neg_mul, Int.one_mul]
        have hr' : z ≤ as.getD t 0 - lo.getD t 0 := hr
        omega
    · rw [psh_out fun s h1 h2 => hs ⟨s, h1, h2⟩]
      exact ⟨b1, b2⟩
  · show (dueI ((psh as (ss ++ [stpD i (dueN as lo hi i)]) z).getD i 0) (lo.getD i 0) (hi.getD i 0)).natAbs < _
    rw [gi]
    exact dueI_next (hlh i hi') rfl hd z0 (hm _ List.mem_cons_self)
def rst (m : Nat) (R : List Int) : List Int := ((List.range m).map fun (j : Nat) => (j : Int)).filter fun p => !decide (p ∈ R)
inductive WhR (es : List (Int × Int)) (lo hi : List Int) (m i : Nat) : List Int → Bool × List Int → Prop
  | done {as : List Int} : dueN as lo hi i = 0 → WhR es lo hi m i as (true, as)
  | shut {as : List Int} : dueN as lo hi i ≠ 0 → ¬ stB es (stpD i (dueN as lo hi i)) ∈ (wwr es (rmN as lo hi) (stE es (stpD i (dueN as lo hi i))) m).1 → WhR es lo hi m i as (false, rst m (wwr es (rmN as lo hi) (stE es (stpD i (dueN as lo hi i))) m).1)
  | next {as ws : List Int} {z : Int} {ss : List (Int × Int)} {r : Bool × List Int} : dueN as lo hi i ≠ 0 → stB es (stpD i (dueN as lo hi i)) ∈ (wwr es (rmN as lo hi) (stE es (stpD i (dueN as lo hi i))) m).1 →
      ss = (wwr es (rmN as lo hi) (stE es (stpD i (dueN as lo hi i))) m).2 (stB es (stpD i (dueN as lo hi i))) → z ∈ (if dueN as lo hi i < 0 then -dueN as lo hi i else dueN as lo hi i) :: ss.map (rmA (rmN as lo hi)) → (∀ y ∈ (if dueN as lo hi i < 0 then -dueN as lo hi i else dueN as lo hi i) :: ss.map (rmA (rmN as lo hi)), z ≤ y) →
      ws = psh as (ss ++ [stpD i (dueN as lo hi i)]) z → WhR es lo hi m i ws r → WhR es lo hi m i as r
inductive BtR (es : List (Int × Int)) (lo hi : List Int) (m : Nat) : Nat → Bool × List Int → Prop
  | nil : BtR es lo hi m 0 (true, List.replicate es.length 0)
  | next {i : Nat} {as : List Int} {r : Bool × List Int} : BtR es lo hi m i (true, as) → WhR es lo hi m i as r → BtR es lo hi m (i + 1) r
  | stop {i : Nat} {x : List Int} : BtR es lo hi m i (false, x) → BtR es lo hi m (i + 1) (false, x)
theorem BtR.shut {es : List (Int × Int)} {lo hi : List Int} {m i n : Nat} {x : List Int} (h : BtR es lo hi m i (false, x)) (hn : i ≤ n) : BtR es lo hi m n (false, x) := by
  induction n with
  | zero => obtain rfl : i = 0 := by omega
            exact h
  | succ n ih =>
    by_cases c : i = n + 1
    · exact c ▸ h
    · exact .stop (ih (by omega))
end L2
namespace L2
open PySem
def tS (fs : List Int) : Nat → Nat → Int
  | _, 0 => 0
  | t, k + 1 => ((fs.getD t 0).natAbs : Int) + tS fs (t + 1) k
theorem tS_snoc (fs : List Int) : ∀ k t, tS fs t (k + 1) = tS fs t k + ((fs.getD (t + k) 0).natAbs : Int)
  | 0, t => by show _ + 0 = 0 + _; rw [Nat.add_zero]; omega
  | k + 1, t => by
    show ((fs.getD t 0).natAbs : Int) + tS fs (t + 1) (k + 1) = (((fs.getD t 0).natAbs : Int) + tS fs (t + 1) k) + _
    rw [tS_snoc fs k (t + 1), show t + 1 + k = t + (k + 1) by omega]; omega
theorem tS_cut {m : Int} {es : List (Int × Int)} {fs : List Int} (hE : ∀ e ∈ es, 0 ≤ e.1 ∧ e.1 < m ∧ 0 ≤ e.2 ∧ e.2 < m) (hd : ∀ p : Int, dp p es fs es.length = 0) {t k : Nat} (ht : t + 1 + k = es.length) (hF : inF es t = true) : ((fs.getD t 0).natAbs : Int) ≤ tS fs (t + 1) k := by
  obtain ⟨f, F⟩ := lab_ex hE t
  have gE : ∀ j, j < es.length → es[j]? = some (es.getD j (0, 0)) := fun j hj => by rw [List.getD_eq_getElem?_getD, List.getElem?_eq_getElem hj]; rfl
  obtain ⟨b1, b2, b3, b4⟩ := hE _ (List.mem_of_getElem? (gE t (by omega)))
  have hne : ¬ f (es.getD t (0, 0)).1 = f (es.getD t (0, 0)).2 := fun z => inF_iff.mp hF ((F.iff b1 b2 b3 b4).mp z)
  have hz := ac_zero (grp_nd m.toNat f (f (es.getD t (0, 0)).1)) hd
  have hmem : ∀ z : Int, 0 ≤ z → z < m → memI (grp m.toNat f (f (es.getD t (0, 0)).1)) z = decide (f z = f (es.getD t (0, 0)).1) := fun z z0 z1 => by
    rw [Bool.eq_iff_iff, memI_iff, mem_grp, decide_eq_true_iff]
    exact ⟨fun h => h.2.2, fun h => ⟨z0, by omega, h⟩⟩
  have bef : ∀ n, n ≤ t → ac (grp m.toNat f (f (es.getD t (0, 0)).1)) es fs n = 0 := by
    intro n
    induction n with
    | zero => intro _; rfl
    | succ n ih =>
      intro hn
      show ac _ es fs n + _ - _ = _
      obtain ⟨d1, d2, d3, d4⟩ := hE _ (List.mem_of_getElem? (gE n (by omega)))
      have es1 : f (es.getD n (0, 0)).1 = f (es.getD n (0, 0)).2 := F.same _ (List.mem_take_iff_getElem.mpr ⟨n, by omega, by rw [List.getD_eq_getElem?_getD, List.getElem?_eq_getElem (show n < es.length by omega)]; rfl⟩)
      rw [ih (by omega), hmem _ d1 d2, hmem _ d3 d4, es1]
      cases decide (f (es.getD n (0, 0)).2 = f (es.getD t (0, 0)).1) <;> simp
  have aft : ∀ j, j ≤ k → fs.getD t 0 - tS fs (t + 1) j ≤ ac (grp m.toNat f (f (es.getD t (0, 0)).1)) es fs (t + 1 + j) ∧ ac (grp m.toNat f (f (es.getD t (0, 0)).1)) es fs (t + 1 + j) ≤ fs.getD t 0 + tS fs (t + 1) j := by
    intro j
    induction j with
    | zero =>
      intro _
      have e : ac (grp m.toNat f (f (es.getD t (0, 0)).1)) es fs (t + 1) = fs.getD t 0 := by
        show ac _ es fs t + _ - _ = _
        rw [bef t (Nat.le_refl _), hmem _ b1 b2, hmem _ b3 b4, decide_eq_true rfl, decide_eq_false (fun z => hne z.symm)]
        simp only [Bool.not_false, Bool.not_true, Bool.and_true, Bool.and_false, Bool.false_eq_true, if_true, if_false, reduceIte]
        omega
      rw [Nat.add_zero, e]
      show _ - 0 ≤ _ ∧ _ ≤ _ + 0
      omega
    | succ j ih =>
      intro hj
      obtain ⟨i1, i2⟩ := ih (by omega)
      rw [tS_snoc]
      have e0 : ∀ G : List Int, ac G es fs (t + 1 + (j + 1)) = ac G es fs (t + 1 + j) + (if (memI G (es.getD (t + 1 + j) (0, 0)).1 && !memI G (es.getD (t + 1 + j) (0, 0)).2) = true then fs.getD (t + 1 + j) 0 else 0) - (if (memI G (es.getD (t + 1 + j) (0, 0)).2 && !memI G (es.getD (t + 1 + j) (0, 0)).1) = true then fs.getD (t + 1 + j) 0 else 0) := fun _ => rfl
      rw [e0]
      have hb : -((fs.getD (t + 1 + j) 0).natAbs : Int) ≤ fs.getD (t + 1 + j) 0 ∧ fs.getD (t + 1 + j) 0 ≤ ((fs.getD (t + 1 + j) 0).natAbs : Int) := by omega
      generalize memI (grp m.toNat f (f (es.getD t (0, 0)).1)) (es.getD (t + 1 + j) (0, 0)).1 = x
      generalize memI (grp m.toNat f (f (es.getD t (0, 0)).1)) (es.getD (t + 1 + j) (0, 0)).2 = y
      cases x <;> cases y <;> simp only [Bool.not_false, Bool.not_true, Bool.and_true, Bool.and_false, Bool.true_and, Bool.false_and, Bool.false_eq_true, if_true, if_false, reduceIte] <;> omega
  have := aft k (Nat.le_refl _)
  rw [ht, hz] at this
  omega
theorem tS_bound {m B : Int} {es : List (Int × Int)} {fs : List Int} (hE : ∀ e ∈ es, 0 ≤ e.1 ∧ e.1 < m ∧ 0 ≤ e.2 ∧ e.2 < m) (hd : ∀ p : Int, dp p es fs es.length = 0) (hB : 0 ≤ B) (h0 : ∀ t, t < es.length → ¬ inF es t = true → ((fs.getD t 0).natAbs : Int) ≤ B) : ∀ k t, t + k = es.length → tS fs t k ≤ 2 ^ k * B - B
  | 0, t, _ => by show 0 ≤ 1 * B - B; omega
  | k + 1, t, ht => by
    have ih := tS_bound hE hd hB h0 k (t + 1) (by omega)
    show ((fs.getD t 0).natAbs : Int) + tS fs (t + 1) k ≤ 2 ^ (k + 1) * B - B
    rw [Int.pow_succ, Int.mul_comm (2 ^ k) 2, Int.mul_assoc]
    have hp : B ≤ 2 ^ k * B := by
      have h1 : (1 : Int) ≤ 2 ^ k := Int.pow_pos (by decide)
      have := Int.mul_le_mul_of_nonneg_right h1 hB
      omega
    generalize (2 : Int) ^ k * B = X at ih hp
    by_cases hF : inF es t = true
    · have := tS_cut hE hd (t := t) (k := k) (by omega) hF
      omega
    · have := h0 t (by omega) hF
      omega
theorem tS_one (fs : List Int) : ∀ k t j, t ≤ j → j < t + k → ((fs.getD j 0).natAbs : Int) ≤ tS fs t k
  | 0, t, j, h1, h2 => by omega
  | k + 1, t, j, h1, h2 => by
    have hn : ∀ k t, 0 ≤ tS fs t k := fun k => by
      induction k with
      | zero => intro t; exact Int.le_refl 0
      | succ k ih => intro t; show 0 ≤ _ + tS fs (t + 1) k; have := ih (t + 1); omega
    show _ ≤ ((fs.getD t 0).natAbs : Int) + tS fs (t + 1) k
    by_cases c : t = j
    · subst c; have := hn k (t + 1); omega
    · have := tS_one fs k (t + 1) j (by omega) (by omega); omega
theorem flow_bound {m B : Int} {es : List (Int × Int)} {fs : List Int} (hE : ∀ e ∈ es, 0 ≤ e.1 ∧ e.1 < m ∧ 0 ≤ e.2 ∧ e.2 < m) (hd : ∀ p : Int, dp p es fs es.length = 0) (hB : 0 ≤ B) (hz : es.length ≤ 40) (h0 : ∀ t, t < es.length → ¬ inF es t = true → ((fs.getD t 0).natAbs : Int) ≤ B) : ∀ t, t < es.length → ((fs.getD t 0).natAbs : Int) ≤ 2 ^ 40 * B := fun t ht => by
  have h1 := tS_one fs es.length 0 t (Nat.zero_le _) (by omega)
  have h2 := tS_bound hE hd hB h0 es.length 0 (Nat.zero_add _)
  have h3 : (2 : Int) ^ es.length ≤ 2 ^ 40 := by exact_mod_cast Nat.pow_le_pow_right (n := 2) (by decide) hz
  have h4 := Int.mul_le_mul_of_nonneg_right h3 hB
  omega
structure RdF (es : List (Int × Int)) (rs : List Int) (k : Int) (gs : List Int) : Prop where
  len : gs.length = es.length
  flow : ∀ p : Int, dp p es gs es.length = 0
  zero : ∀ t, t < es.length → rs.getD t 0 = 0 → gs.getD t 0 = 0
  pos : ∀ t, t < es.length → rs.getD t 0 ≠ 0 → gs.getD t 0 = rs.getD t 0 ∨ gs.getD t 0 = rs.getD t 0 - k
theorem FW.bound {m B : Int} {es : List (Int × Int)} {vs fs : List Int} (hE : ∀ e ∈ es, 0 ≤ e.1 ∧ e.1 < m ∧ 0 ≤ e.2 ∧ e.2 < m) (h : FW es vs fs) (hl : vs.length = (fre es).length) (hB : 0 ≤ B) (hz : es.length ≤ 40) (hv : ∀ v ∈ vs, (v.natAbs : Int) ≤ B) : ∀ t, t < es.length → ((fs.getD t 0).natAbs : Int) ≤ 2 ^ 40 * B :=
  flow_bound hE h.2.1 hB hz fun t ht hn => by
    obtain ⟨j, hj, e⟩ := fre_at ht hn
    have e1 := h.2.2 j hj
    rw [e, Int.toNat_natCast] at e1
    rw [e1, gD_at (by omega)]
    exact hv _ (List.getElem_mem _)
end L2
namespace L2
open PySem PySem.Spec PyProof.Rows
section
variable {X : Cx}
end
end L2
namespace L2
open PySem PySem.Spec PyProof.Rows
section
variable {prog : Program} {w : World} {A : Around} {E : Value → Shared → Prop} {s : Shared}
end
section
variable {X : Cx}
end
end L2
namespace L2
open PySem
def mkS (n : Nat) (ss : List Int) : List Int := (List.range n).map fun (i : Nat) => if (i : Int) ∈ ss then 1 else 0
theorem mkS_len (n : Nat) (ss : List Int) : (mkS n ss).length = n := by unfold mkS; rw [List.length_map, List.length_range]
theorem mkS_get {n i : Nat} {ss : List Int} (h : i < n) : (mkS n ss)[i]? = some (if (i : Int) ∈ ss then 1 else 0) := by
  unfold mkS; rw [List.getElem?_map, List.getElem?_range h]; rfl
theorem mkS_at {n i : Nat} {ss : List Int} (h : i < n) : (mkS n ss).getD i 0 = if (i : Int) ∈ ss then 1 else 0 := by
  rw [List.getD_eq_getElem?_getD, mkS_get h]; rfl
structure SetOk (n : Nat) (ss : List Int) : Prop where
  rng : ∀ t ∈ ss, 0 ≤ t ∧ t < (n : Int)
  up : ss.Pairwise (· < ·)
theorem SetOk.nd {n : Nat} {ss : List Int} (h : SetOk n ss) : ss.Nodup := by
  rw [List.nodup_iff_pairwise_ne]
  exact h.up.imp fun h e => by omega
theorem SetOk.len {n : Nat} {ss : List Int} (h : SetOk n ss) : ss.length ≤ n := by
  have := nodup_len (m := (n : Int)) h.nd h.rng
  omega
def EvS (es : List (Int × Int)) (ss : List Int) : Prop := ∀ p : Int, 2 ∣ dp p es (mkS es.length ss) es.length
theorem EvS.nil (es : List (Int × Int)) : EvS es [] := fun p => by
  have e : mkS es.length [] = List.replicate es.length 0 := by
    refine List.ext_getElem (by rw [mkS_len, List.length_replicate]) fun i h1 h2 => ?_
    rw [List.getElem_replicate, ← gD_at h1, mkS_at (by rw [mkS_len] at h1; exact h1), if_neg (fun z => nomatch z)]
  rw [e, dp_nil]
  exact ⟨0, rfl⟩
theorem up_le {a : List Int} (h : a.Pairwise (· ≤ ·)) (n : a.Nodup) : a.Pairwise (· < ·) := by
  rw [List.nodup_iff_pairwise_ne] at n
  exact (h.and n).imp fun h => by omega
end L2
namespace L2
open PySem PySem.Spec PyProof.Rows
section
variable {prog : Program} {w : World} {A : Around} {E : Value → Shared → Prop} {s : Shared}
end
section
variable {X : Cx} {pos p2 : Pos} {o : Expr} {lo hi : Option Expr} {to : TE} {tl th : TO}
end
end L2
namespace L2
open PySem PySem.Spec PyProof.Rows
section
variable {X : Cx} {K : PySem.W.Frag} {a : Expr} {ta : TE} {pos : Pos}
end
theorem asc_nd {l : List Int} (h : l.Pairwise (· < ·)) : l.Nodup := by
  rw [List.nodup_iff_pairwise_ne]
  exact h.imp fun h e => by omega
theorem rts_asc (n : Nat) (f : Int → Int) : (rts n f).Pairwise (· < ·) := by
  unfold rts
  rw [List.pairwise_map]
  exact (List.Pairwise.filter _ List.pairwise_lt_range).imp fun h => by omega
theorem rts_mrg {m : Int} {es : List (Int × Int)} {f : Int → Int} {e : Int × Int} (F : Lab m es f) (b : 0 ≤ e.1 ∧ e.1 < m ∧ 0 ≤ e.2 ∧ e.2 < m) (h : f e.1 ≠ f e.2) : (rts m.toNat (mrg f e)).length + 1 = (rts m.toNat f).length := by
  have l1 := F.low e.1 b.1 b.2.1
  have l2 := F.low e.2 b.2.2.1 b.2.2.2
  have i1 := F.idem b.1 b.2.1
  have i2 := F.idem b.2.2.1 b.2.2.2
  obtain ⟨M, eM⟩ : ∃ M, M = max (f e.1) (f e.2) := ⟨_, rfl⟩
  have fM : f M = M := by
    rw [eM]
    by_cases g : f e.1 ≤ f e.2
    · rw [Int.max_eq_right g]; exact i2
    · rw [Int.max_eq_left (by omega)]; exact i1
  have hM : M ∈ rts m.toNat f := mem_rts.mpr ⟨by omega, by omega, fM⟩
  have e1 : rts m.toNat (mrg f e) = (rts m.toNat f).filter (· != M) := by
    unfold rts
    rw [List.filter_map, List.filter_filter]
    congr 1
    refine List.filter_congr fun p hp => ?_
    rw [List.mem_range] at hp
    have lp := F.low p (by omega) (by omega)
    rw [Bool.eq_iff_iff]
    simp only [Function.comp, Bool.and_eq_true, decide_eq_true_eq, bne_iff_ne, ne_eq]
    unfold mrg
    rw [← eM]
    by_cases c : f (p : Int) = M
    · rw [if_pos c]
      constructor
      · intro z; omega
      · rintro ⟨z1, z2⟩
        exact absurd (z2.symm.trans c) z1
    · rw [if_neg c]
      exact ⟨fun z => ⟨fun y => c (by rw [y]; exact fM), z⟩, fun z => z.2⟩
  have nd := asc_nd (rts_asc m.toNat f)
  rw [e1, ← nd.erase_eq_filter, List.length_erase_of_mem hM]
  have := List.length_pos_of_mem hM
  omega
theorem sub_len (es : List (Int × Int)) (ss : List Int) : (sub es ss).length = ss.length := List.length_map ..
structure Spn (es : List (Int × Int)) (ss : List Int) : Prop where
  ok : SetOk es.length ss
  acy : (frst (sub es ss)).length = ss.length
  all : ss.length = (frst es).length
theorem all_inF {es : List (Int × Int)} (h : (frst es).length = es.length) : ∀ i, i < es.length → inF es i = true := fun i hi => by
  unfold frst frN at h
  rw [List.length_map] at h
  have := List.filter_eq_self.mp (List.Sublist.eq_of_length (List.filter_sublist (l := List.range es.length) (p := fun i => inF es i)) (by rw [h, List.length_range]))
  exact this i (List.mem_range.mpr hi)
theorem take_filter : ∀ {ss : List Int} {i : Nat}, ss.Pairwise (· < ·) → i < ss.length → ∀ s ∈ ss, s < ss.getD i 0 → s ∈ ss.take i
  | [], i, _, h, _, _, _ => absurd h (Nat.not_lt_zero _)
  | a :: l, 0, hp, _, s, hs, hlt => by
    have e : (a :: l).getD 0 0 = a := rfl
    rw [e] at hlt
    rcases List.mem_cons.mp hs with y | y
    · omega
    · have := (List.pairwise_cons.mp hp).1 s y; omega
  | a :: l, i + 1, hp, hi, s, hs, hlt => by
    rw [List.take_succ_cons]
    rcases List.mem_cons.mp hs with y | y
    · exact List.mem_cons.mpr (.inl y)
    · exact List.mem_cons_of_mem _ (take_filter (List.pairwise_cons.mp hp).2 (by simpa using hi) s y hlt)
def Acy (es : List (Int × Int)) (L : List Int) : Prop := ∀ t ∈ L, ∀ {M : List Int}, (∀ s ∈ M, s ∈ L ∧ s < t) → ¬ Cn (sub es M) (tieOf es t).1 (tieOf es t).2
theorem Acy.sub {es : List (Int × Int)} {L L' : List Int} (A : Acy es L) (h : ∀ t ∈ L', t ∈ L) : Acy es L' := fun t ht _ hM => A t (h t ht) fun s hs => ⟨h s (hM s hs).1, (hM s hs).2⟩
theorem Spn.free {es : List (Int × Int)} {ss : List Int} (S : Spn es ss) : Acy es ss := fun t ht M hM c => by
  obtain ⟨i, hi, rfl⟩ := List.mem_iff_getElem.mp ht
  have h := inF_iff.mp (all_inF (es := L2.sub es ss) (by rw [S.acy, sub_len]) i (by rw [sub_len]; exact hi))
  have e : (L2.sub es ss).getD i (0, 0) = tieOf es ss[i] := by
    unfold L2.sub
    rw [List.getD_eq_getElem?_getD, List.getElem?_map, List.getElem?_eq_getElem hi]; rfl
  rw [e] at h
  refine h (c.mono fun x hx => ?_)
  obtain ⟨s, hs, rfl⟩ := List.mem_map.mp hx
  have h1 := hM s hs
  unfold L2.sub
  rw [← List.map_take]
  exact List.mem_map.mpr ⟨s, take_filter S.ok.up hi s h1.1 (by rw [gD_at hi]; exact h1.2), rfl⟩
theorem Acy.loop {es : List (Int × Int)} {L : List Int} (A : Acy es L) {t : Int} (ht : t ∈ L) : (tieOf es t).1 ≠ (tieOf es t).2 := fun z => A t ht (M := []) (fun s hs => nomatch hs) (by rw [z]; exact .refl _)
noncomputable def gF (es : List (Int × Int)) (os : List Int) (n : Nat) : List Int := (frN (sub es os) n).map fun i => os.getD i.toNat 0
theorem gF_len (es : List (Int × Int)) (os : List Int) : (gF es os os.length).length = (frst (sub es os)).length := by
  unfold gF frst; rw [List.length_map, sub_len]
theorem getD_all (os : List Int) : ((List.range os.length).map fun i => os.getD i 0) = os := by
  refine List.ext_getElem (by rw [List.length_map, List.length_range]) fun i h1 h2 => ?_
  rw [List.getElem_map, List.getElem_range, gD_at h2]
theorem gF_sub (es : List (Int × Int)) (os : List Int) : (gF es os os.length).Sublist os := by
  have e : gF es os os.length = ((List.range os.length).filter fun i => inF (sub es os) i).map fun i => os.getD i 0 := by
    unfold gF frN
    rw [List.map_map]
    exact List.map_congr_left fun i _ => rfl
  rw [e]
  have := (List.filter_sublist (l := List.range os.length) (p := fun i => inF (sub es os) i)).map fun i => os.getD i 0
  rwa [getD_all] at this
theorem acy_nd {es : List (Int × Int)} {zs : List Int} (h : (frst (sub es zs)).length = zs.length) : zs.Nodup := by
  rw [List.nodup_iff_pairwise_ne, List.pairwise_iff_getElem]
  intro i j hi hj hij e
  have h1 := inF_iff.mp (all_inF (es := sub es zs) (by rw [h, sub_len]) j (by rw [sub_len]; exact hj))
  have ej : (sub es zs).getD j (0, 0) = tieOf es zs[i] := by
    unfold sub
    rw [List.getD_eq_getElem?_getD, List.getElem?_map, List.getElem?_eq_getElem hj, e]; rfl
  rw [ej] at h1
  refine h1 (Cn.tie ?_)
  unfold sub
  rw [← List.map_take]
  exact List.mem_map.mpr ⟨zs[i], List.mem_take_iff_getElem.mpr ⟨i, by omega, rfl⟩, rfl⟩
theorem Spn.test {es : List (Int × Int)} {zs cs : List Int} {n : Nat} (hn : n = (frst es).length) (hr : ∀ t ∈ zs, 0 ≤ t ∧ t < (es.length : Int)) (hs : zs.Pairwise (· ≤ ·)) (hl : zs.length = n) (hp : cs.Perm (gF es zs zs.length)) (hc : cs.Pairwise (· ≤ ·)) : cs = zs ↔ Spn es zs := by
  constructor
  · intro z
    rw [z] at hp
    have h1 : (frst (sub es zs)).length = zs.length := by rw [← gF_len]; exact hp.length_eq.symm
    exact ⟨⟨hr, up_le hs (acy_nd h1)⟩, h1, by omega⟩
  · intro S
    have h1 : gF es zs zs.length = zs := (gF_sub es zs).eq_of_length (by rw [gF_len]; exact S.acy)
    rw [h1] at hp
    exact sorted_uniq hp hc hs
def tg (p : Int) (es : List (Int × Int)) (t : Int) : Int := (if (tieOf es t).2 = p then 1 else 0) - (if (tieOf es t).1 = p then 1 else 0)
theorem Way.two {es : List (Int × Int)} {ss ts ps : List Int} {a b : Int} (p : Int) (W : Way es ss a ts ps b) : (2 : Int) ∣ (ts.map (tg p es)).sum + (if a = p then 1 else 0) + (if b = p then 1 else 0) := by
  induction W with
  | nil =>
    by_cases c : a = p
    · rw [if_pos c]; exact ⟨1, rfl⟩
    · rw [if_neg c]; exact ⟨0, rfl⟩
  | @snoc ts ps q t _ _ _ _ hq _ ih =>
    obtain ⟨u, hu⟩ := ih
    rw [List.map_append, List.sum_append]
    simp only [List.map_cons, List.map_nil, List.sum_cons, List.sum_nil]
    have key : ∃ v, tg p es t + (if q = p then 1 else 0) + (if far (tieOf es t) q = p then (1 : Int) else 0) = 2 * v := by
      unfold tg far
      by_cases c : (tieOf es t).1 = q
      · rw [if_pos c, c]
        by_cases c1 : q = p
        · rw [if_pos c1]; exact ⟨if (tieOf es t).2 = p then 1 else 0, by omega⟩
        · rw [if_neg c1]; exact ⟨if (tieOf es t).2 = p then 1 else 0, by omega⟩
      · rw [if_neg c, hq.resolve_left c]
        by_cases c1 : q = p
        · rw [if_pos c1]; exact ⟨1, by omega⟩
        · rw [if_neg c1]; exact ⟨0, by omega⟩
    obtain ⟨v, hv⟩ := key
    exact ⟨u + v - (if q = p then 1 else 0), by omega⟩
theorem Way.ring {es : List (Int × Int)} {ss ts ps : List Int} {t : Int} (p : Int) (W : Way es ss (tieOf es t).2 ts ps (tieOf es t).1) : (2 : Int) ∣ ((t :: ts).map (tg p es)).sum := by
  obtain ⟨u, hu⟩ := W.two p
  rw [List.map_cons, List.sum_cons]
  unfold tg at *
  exact ⟨u - (if (tieOf es t).1 = p then 1 else 0), by omega⟩
end L2
namespace L2
open PySem
theorem inj_len {A B : List Int} (φ : Int → Int) (hA : A.Nodup) (hin : ∀ a ∈ A, φ a ∈ B) (hinj : ∀ a ∈ A, ∀ b ∈ A, φ a = φ b → a = b) : A.length ≤ B.length := by
  have hn : (A.map φ).Nodup := by
    rw [List.nodup_iff_pairwise_ne, List.pairwise_map]
    rw [List.nodup_iff_pairwise_ne] at hA
    exact hA.imp_of_mem fun ha hb h z => h (hinj _ ha _ hb z)
  have := nodup_sub (l := A.map φ) (l' := B) hn fun x hx => by
    obtain ⟨a, ha, rfl⟩ := List.mem_map.mp hx
    exact hin a ha
  rwa [List.length_map] at this
theorem rts_maps {m n : Int} {es fs : List (Int × Int)} {f k : Int → Int} (F : Lab m es f) (G : Lab n fs k) (g h : Int → Int) (hg : ∀ p, 0 ≤ p → p < m → 0 ≤ g p ∧ g p < n) (hh : ∀ p, 0 ≤ p → p < n → 0 ≤ h p ∧ h p < m) (cg : ∀ {a b : Int}, Cn es a b → Cn fs (g a) (g b)) (ch : ∀ {a b : Int}, Cn fs a b → Cn es (h a) (h b)) (hgh : ∀ p, 0 ≤ p → p < m → Cn es (h (g p)) p) (ghh : ∀ p, 0 ≤ p → p < n → Cn fs (g (h p)) p) : (rts m.toNat f).length = (rts n.toNat k).length := by
  refine Nat.le_antisymm (inj_len (fun r => k (g r)) (asc_nd (rts_asc _ _)) (fun r hr => ?_) fun r hr s hs e => ?_) (inj_len (fun r => f (h r)) (asc_nd (rts_asc _ _)) (fun r hr => ?_) fun r hr s hs e => ?_)
  · obtain ⟨r0, r1, _⟩ := mem_rts.mp hr
    have b := hg r r0 (by omega)
    have l := G.low (g r) b.1 b.2
    exact mem_rts.mpr ⟨l.1, by omega, G.idem b.1 b.2⟩
  · obtain ⟨r0, r1, r2⟩ := mem_rts.mp hr
    obtain ⟨s0, s1, s2⟩ := mem_rts.mp hs
    have b := hg r r0 (by omega)
    have d := hg s s0 (by omega)
    have c := ch ((G.iff b.1 b.2 d.1 d.2).mp e)
    have := lab_cn F.same ((hgh r r0 (by omega)).symm.trans (c.trans (hgh s s0 (by omega))))
    omega
  · obtain ⟨r0, r1, _⟩ := mem_rts.mp hr
    have b := hh r r0 (by omega)
    have l := F.low (h r) b.1 b.2
    exact mem_rts.mpr ⟨l.1, by omega, F.idem b.1 b.2⟩
  · obtain ⟨r0, r1, r2⟩ := mem_rts.mp hr
    obtain ⟨s0, s1, s2⟩ := mem_rts.mp hs
    have b := hh r r0 (by omega)
    have d := hh s s0 (by omega)
    have c := cg ((F.iff b.1 b.2 d.1 d.2).mp e)
    have := lab_cn G.same ((ghh r r0 (by omega)).symm.trans (c.trans (ghh s s0 (by omega))))
    omega
theorem joined_roots {m lo hi : Int} {es rs fs : List (Int × Int)} {f k : Int → Int} {rn : Int → Int} (hrn : ∀ p, rn p = if p > hi then p - 1 else if p = hi then lo else p) (l0 : 0 ≤ lo) (l1 : lo < hi) (l2 : hi < m) (hes : ∀ e ∈ es, (rn e.1 = lo ∧ rn e.2 = lo) ∨ e ∈ rs) (hrs : ∀ e ∈ rs, e ∈ es) (hc : Cn es lo hi) (hfs : fs = rs.map fun e => (rn e.1, rn e.2)) (F : Lab m es f) (G : Lab (m - 1) fs k) : (rts m.toNat f).length = (rts (m - 1).toNat k).length := by
  have back : ∀ x : Int, Cn es (if rn x ≥ hi then rn x + 1 else rn x) x := fun x => by
    rw [hrn]
    by_cases c1 : x > hi
    · rw [if_pos c1, if_pos (show x - 1 ≥ hi by omega), show x - 1 + 1 = x by omega]; exact .refl _
    · rw [if_neg c1]
      by_cases c2 : x = hi
      · rw [if_pos c2, if_neg (show ¬ lo ≥ hi by omega), c2]; exact hc
      · rw [if_neg c2, if_neg (show ¬ x ≥ hi by omega)]; exact .refl _
  refine rts_maps F G rn (fun p => if p ≥ hi then p + 1 else p) (fun p p0 p1 => ?_) (fun p p0 p1 => ?_) (fun c => Cn.map (fun e he => ?_) c) (fun c => Cn.map (g := fun p => if p ≥ hi then p + 1 else p) (fun e he => ?_) c) (fun p _ _ => back p) fun p p0 p1 => ?_
  · rw [hrn]; split
    · omega
    · split <;> omega
  · show 0 ≤ (if p ≥ hi then p + 1 else p) ∧ (if p ≥ hi then p + 1 else p) < m
    split <;> omega
  · rcases hes e he with y | y
    · rw [y.1, y.2]; exact .refl _
    · rw [hfs]; exact Cn.tie (e := (rn e.1, rn e.2)) (List.mem_map.mpr ⟨e, y, rfl⟩)
  · rw [hfs] at he
    obtain ⟨e0, h0, rfl⟩ := List.mem_map.mp he
    exact (back e0.1).trans ((Cn.tie (hrs e0 h0)).trans (back e0.2).symm)
  · have e : rn (if p ≥ hi then p + 1 else p) = p := by
      rw [hrn]
      by_cases c : p ≥ hi
      · rw [if_pos c, if_pos (show p + 1 > hi by omega)]; omega
      · rw [if_neg c, if_neg (show ¬ p > hi by omega), if_neg (show ¬ p = hi by omega)]
    show Cn fs (rn (if p ≥ hi then p + 1 else p)) p
    rw [e]; exact .refl _
theorem less_roots {m : Int} {es rs : List (Int × Int)} {e0 : Int × Int} {f k : Int → Int} (h1 : ∀ e ∈ es, e = e0 ∨ e ∈ rs) (h2 : ∀ e ∈ rs, e ∈ es) (h0 : e0 ∈ es) (b : 0 ≤ e0.1 ∧ e0.1 < m ∧ 0 ≤ e0.2 ∧ e0.2 < m) (F : Lab m es f) (G : Lab m rs k) : (rts m.toNat k).length = (rts m.toNat f).length ∨ (rts m.toNat k).length = (rts m.toNat f).length + 1 := by
  have up : ∀ {x y : Int}, Cn (rs ++ [e0]) x y → Cn es x y := fun c => c.mono fun e he => (List.mem_append.mp he).elim (h2 e) fun y => List.mem_singleton.mp y ▸ h0
  have dn : ∀ {x y : Int}, Cn es x y → Cn (rs ++ [e0]) x y := fun c => c.mono fun e he => (h1 e he).elim (fun y => y ▸ List.mem_append_right _ (List.mem_singleton.mpr rfl)) fun y => List.mem_append_left _ y
  have F' : Lab m (rs ++ [e0]) f := ⟨fun p p0 p1 => dn (F.conn p p0 p1), fun e he => lab_cn F.same (up (Cn.tie he)), F.low⟩
  by_cases c : k e0.1 = k e0.2
  · left
    rw [rts_congr (g := f) fun p p0 p1 => (G.skip c).uniq F' p0 (by omega)]
  · right
    rw [← rts_mrg G b c, rts_congr (g := f) fun p p0 p1 => (G.merge b).uniq F' p0 (by omega)]
def shf (m : Int) (e : Int × Int) : Int × Int := (m + e.1, m + e.2)
theorem Lab.both {m n : Int} {es fs : List (Int × Int)} {f k : Int → Int} (m0 : 0 ≤ m) (hE : ∀ e ∈ es, 0 ≤ e.1 ∧ e.1 < m ∧ 0 ≤ e.2 ∧ e.2 < m) (hF : ∀ e ∈ fs, 0 ≤ e.1 ∧ e.1 < n ∧ 0 ≤ e.2 ∧ e.2 < n) (F : Lab m es f) (G : Lab n fs k) : Lab (m + n) (es ++ fs.map (shf m)) (fun p => if p < m then f p else m + k (p - m)) := by
  refine ⟨fun p p0 p1 => ?_, fun e he => ?_, fun p p0 p1 => ?_⟩
  · show Cn _ p (if p < m then f p else m + k (p - m))
    by_cases c : p < m
    · rw [if_pos c]; exact (F.conn p p0 c).mono fun e he => List.mem_append_left _ he
    · rw [if_neg c]
      have h := Cn.map (es' := es ++ fs.map (shf m)) (g := fun x => m + x) (fun e he => Cn.tie (e := shf m e) (List.mem_append_right _ (List.mem_map.mpr ⟨e, he, rfl⟩))) (G.conn (p - m) (by omega) (by omega))
      have e1 : m + (p - m) = p := by omega
      rw [e1] at h; exact h
  · show (if e.1 < m then f e.1 else m + k (e.1 - m)) = (if e.2 < m then f e.2 else m + k (e.2 - m))
    rcases List.mem_append.mp he with y | y
    · have := hE e y
      rw [if_pos this.2.1, if_pos this.2.2.2]; exact F.same e y
    · obtain ⟨e0, h0, rfl⟩ := List.mem_map.mp y
      have := hF e0 h0
      show (if m + e0.1 < m then f (m + e0.1) else m + k (m + e0.1 - m)) = (if m + e0.2 < m then f (m + e0.2) else m + k (m + e0.2 - m))
      rw [if_neg (by omega), if_neg (by omega), show m + e0.1 - m = e0.1 by omega, show m + e0.2 - m = e0.2 by omega, G.same e0 h0]
  · show 0 ≤ (if p < m then f p else m + k (p - m)) ∧ (if p < m then f p else m + k (p - m)) ≤ p
    by_cases c : p < m
    · rw [if_pos c]; exact F.low p p0 c
    · rw [if_neg c]
      have := G.low (p - m) (by omega) (by omega)
      omega
theorem rts_both {a : Nat} {f k : Int → Int} : ∀ b : Nat, rts (a + b) (fun p => if p < (a : Int) then f p else a + k (p - a)) = rts a f ++ (rts b k).map fun r => (a : Int) + r
  | 0 => by
    rw [Nat.add_zero, rts_congr (g := f) fun p p0 p1 => if_pos p1]
    show _ = _ ++ []
    rw [List.append_nil]
  | b + 1 => by
    rw [← Nat.add_assoc, rts_succ, rts_both b, rts_succ, List.map_append, ← List.append_assoc]
    congr 1
    show (if (if (((a + b : Nat)) : Int) < (a : Int) then f (((a + b : Nat)) : Int) else a + k ((((a + b : Nat)) : Int) - a)) = (((a + b : Nat)) : Int) then [(((a + b : Nat)) : Int)] else []) = _
    rw [if_neg (show ¬ (((a + b : Nat)) : Int) < (a : Int) by omega), show (((a + b : Nat)) : Int) - a = (b : Int) by omega]
    by_cases c : k b = b
    · rw [if_pos (show (a : Int) + k b = ((a + b : Nat) : Int) by omega), if_pos c]
      show [((a + b : Nat) : Int)] = [(a : Int) + b]
      congr 1
    · rw [if_neg (show ¬ (a : Int) + k b = ((a + b : Nat) : Int) by omega), if_neg c]; rfl
theorem grp_low {a : Nat} {f k : Int → Int} {r : Int} (hr : r < (a : Int)) : ∀ b : Nat, (∀ p : Int, 0 ≤ p → p < (b : Int) → 0 ≤ k p) → grp (a + b) (fun p => if p < (a : Int) then f p else a + k (p - a)) r = grp a f r
  | 0, _ => by rw [Nat.add_zero]; exact grp_congr r fun p p0 p1 => if_pos p1
  | b + 1, h => by
    rw [← Nat.add_assoc, grp_succ, grp_low hr b fun p p0 p1 => h p p0 (by omega)]
    show _ ++ (if (if (((a + b : Nat)) : Int) < (a : Int) then f (((a + b : Nat)) : Int) else a + k ((((a + b : Nat)) : Int) - a)) = r then [(((a + b : Nat)) : Int)] else []) = _
    have := h b (by omega) (by omega)
    rw [if_neg (show ¬ (((a + b : Nat)) : Int) < (a : Int) by omega), show (((a + b : Nat)) : Int) - a = (b : Int) by omega, if_neg (by omega), List.append_nil]
theorem grp_high {a : Nat} {f k : Int → Int} {r : Int} (hr : 0 ≤ r) (hf : ∀ p : Int, 0 ≤ p → p < (a : Int) → f p < (a : Int)) : ∀ b : Nat, grp (a + b) (fun p => if p < (a : Int) then f p else a + k (p - a)) (a + r) = (grp b k r).map fun p => (a : Int) + p
  | 0 => by
    rw [Nat.add_zero]
    show grp a _ _ = []
    rw [List.eq_nil_iff_forall_not_mem]
    intro p hp
    obtain ⟨p0, p1, p2⟩ := mem_grp.mp hp
    have := hf p p0 p1
    rw [if_pos p1] at p2
    omega
  | b + 1 => by
    rw [← Nat.add_assoc, grp_succ, grp_high hr hf b, grp_succ, List.map_append]
    congr 1
    show (if (if (((a + b : Nat)) : Int) < (a : Int) then f (((a + b : Nat)) : Int) else a + k ((((a + b : Nat)) : Int) - a)) = (a : Int) + r then [(((a + b : Nat)) : Int)] else []) = _
    rw [if_neg (show ¬ (((a + b : Nat)) : Int) < (a : Int) by omega), show (((a + b : Nat)) : Int) - a = (b : Int) by omega]
    by_cases c : k b = r
    · rw [if_pos (show (a : Int) + k b = (a : Int) + r by omega), if_pos c]
      show [((a + b : Nat) : Int)] = [(a : Int) + b]
      congr 1
    · rw [if_neg (show ¬ (a : Int) + k b = (a : Int) + r by omega), if_neg c]; rfl
theorem pcs_both {a b : Nat} {es fs : List (Int × Int)} {f k : Int → Int} (F : Lab (a : Int) es f) (G : Lab (b : Int) fs k) : pcs (a + b) (fun p => if p < (a : Int) then f p else a + k (p - a)) = pcs a f ++ (pcs b k).map fun g => g.map fun p => (a : Int) + p := by
  unfold pcs
  rw [rts_both, List.map_append, List.map_map, List.map_map]
  congr 1
  · refine List.map_congr_left fun r hr => ?_
    exact grp_low (mem_rts.mp hr).2.1 b fun p p0 p1 => (G.low p p0 p1).1
  · refine List.map_congr_left fun r hr => ?_
    exact grp_high (mem_rts.mp hr).1 (fun p p0 p1 => by have := F.low p p0 p1; omega) b
end L2
namespace L2
open PySem PySem.Spec PyProof.Rows
def spInitT (K : PySem.W.Frag) (C cT cB : Addr) : Sp := fun vs H Q E => ∃ (x dx p : Addr) (m : Int) (xs : List V) (es : List (Int × Int)), vs = [.ref x, .int m, .ref p] ∧ H x = some (.ins C dx []) ∧ (SqL K H p xs ∨ SqT K H p xs) ∧ Pairs K H xs es ∧ es.length ≤ 1000 ∧
  (Big m es → E (.ref cT) none H) ∧ (¬ Big m es → ¬ EndsIn es m → E (.ref cB) none H) ∧
  (¬ Big m es → EndsIn es m → ∀ H' t ys, SameX x H H' → H' x = some (.ins C dx (wFs m t)) → H' t = some (.tup ys) → Pairs K H' ys es → (∀ v ∈ ys, Thin H' v) → Q .non H')
def tWebT (K : PySem.W.Frag) (C cT cB : Addr) (Ex : St → Value → Hp → Prop) (t : TA) : TE := fun σ H Q => t σ H fun vs H1 => ∃ (p : Addr) (m : Int) (xs : List V) (es : List (Int × Int)), vs = [.int m, .ref p] ∧ (SqL K H1 p xs ∨ SqT K H1 p xs) ∧ Pairs K H1 xs es ∧ es.length ≤ 1000 ∧
  (Big m es → ∀ H', Same H1 H' → Ex σ (.ref cT) H') ∧ (¬ Big m es → ¬ EndsIn es m → ∀ H', Same H1 H' → Ex σ (.ref cB) H') ∧
  (¬ Big m es → EndsIn es m → ∀ x H', H1 x = none → Same H1 H' → WebD K C H' x m es → Q (.ref x) H')
theorem pe_webT {X : Cx} {K : PySem.W.Frag} {Ex : St → Value → Hp → Prop} {k k' : Nat} {C cT cB : Addr} {x : Str} {ps : List Str} {e : Expr} {es : List Expr} {t : TA} {p pos : Pos} (hK : X.K = K) (D : MkDefE X.prog X.w X.K X.mg X.base k x C ps (spInitT K C cT cB)) (hr : Room k' X.A) (hex : X.ex = []) (ha : PA (X.wish (FlyE X Ex)) (e :: es) t)
    (hk : k + 1 ≤ k' := by decide) (hg : Gl X x := by rfl)
    (hdb : (x == ("__debug__" : Str)) = false := by decide) (he : starEach (e :: es) X.env = (false, eval e X.env) :: starEach es X.env := by rfl) (hpl : (backTo pos (starEach es X.env)).any (·.1) = false := by rfl) :
    PE (X.wish (FlyE X Ex)) (.Call (.Name x p) (e :: es) [] pos) (tWebT K C cT cB Ex t) := by
  subst hK
  obtain ⟨f, fd, M, F, b, m⟩ := D
  intro pins s σ H Q I h
  refine wpAny_Call_Name_kw (ld_glob I hg m ?_ hdb)
  refine PySem.W.callWith_K (h₀ := X.base) I.ok.mod.kin M.kp (thn (ha pos pins s σ H _ I h) fun us s1 ⟨vs, H1, I1', r, q⟩ => ⟨I1'.kIn, ?_⟩) he hpl
  have I1 := I1'.unwish
  obtain ⟨p', mm, xs, es', rfl, hq, hp, hz, q1, q2, q3⟩ := q
  have nz : H1 (s1.heap.objs.size + 1) = none := I1.hok.fresh (Nat.le_succ _)
  have ndz : H1 s1.heap.objs.size = none := I1.hok.fresh (Nat.le_refl _)
  have ne : s1.heap.objs.size ≠ s1.heap.objs.size + 1 := Nat.ne_of_lt (Nat.lt_succ_self _)
  have S1 : Same H1 (upd (upd H1 s1.heap.objs.size (.own (s1.heap.objs.size + 1))) (s1.heap.objs.size + 1) (.ins C s1.heap.objs.size [])) := (Same.new ndz).trans (Same.new (by rw [upd_ne ne.symm]; exact nz))
  have hq' : spInitT X.K C cT cB (.ref (s1.heap.objs.size + 1) :: [.int mm, .ref p']) (upd (upd H1 s1.heap.objs.size (.own (s1.heap.objs.size + 1))) (s1.heap.objs.size + 1) (.ins C s1.heap.objs.size [])) (fun v H2 => v = .non ∧ Q (.ref (s1.heap.objs.size + 1)) H2) (fun C' _ H' => Ex σ C' H') :=
    ⟨_, _, p', mm, xs, es', rfl, upd_same, hq.imp (fun y => S1.seq y) (fun y => S1.tup y), hp.same S1, hz, fun c => q1 c _ S1, fun c c' => q2 c c' _ S1, fun c c' H' tt ys sx h1 h2 h3 h4 => ⟨rfl, q3 c c' _ H' nz (fun bb o eb => sx _ _ (ne_of_none eb nz) (S1 _ _ eb)) ⟨_, tt, ys, h1, h2, h3, h4⟩⟩⟩
  have I2 := Inv.made (C := C) I1
  have r2 : Vals (V.ref (s1.heap.objs.size + 1) :: [.int mm, .ref p']) (Value.ref (s1.heap.objs.size + 1) :: us) := .cons rfl r
  have hl : (Value.ref (s1.heap.objs.size + 1) :: us ++ []).length = ps.length := by
    rw [List.append_nil, ← r2.length]; exact F.len _ _ _ _ hq'
  have hr' : Room (k + 1) X.A := hr.mono hk
  have bt := b _ (Value.ref (s1.heap.objs.size + 1) :: us) I2.kIn hl
  rw [List.append_nil] at bt
  refine wpAny_call (make_map (f := f) I1.kIn M.makes M.init (beq_iff_eq.mp M.fn) (codeAny_mono (F.run _ X.stack _ _ ⟨Value.ref (s1.heap.objs.size + 1) :: us, []⟩ (Value.ref (s1.heap.objs.size + 1) :: us) _ _ _ (hr'.make C us [])
    (I2.env0.make C us []) bt r2 hq') fun r s' hq2 => ?_))
  cases r with
  | error e => exact fly_call (E := fun C' _ H' => Ex σ C' H') hex I2 (fun _ _ z => z) hq2
  | ok fl =>
    cases fl with
    | ret u =>
      obtain ⟨v, H', I3, rv, ev, q4⟩ := I2.after hq2
      subst ev
      exact ⟨rv, ⟨V.ref (s1.heap.objs.size + 1), H', I3.wish _, rfl, q4⟩⟩
    | next => exact False.elim hq2
    | brk => exact False.elim hq2
    | cont => exact False.elim hq2
theorem MkDefE.calmN {P : Program} {w : World} {K : PySem.W.Frag} {mg : Str → Option Value} {base : Heap} {k : Nat} {x : Str} {C cT cB : Addr} {ps : List Str} (D : MkDefE P w K mg base k x C ps (spInitT K C cT cB)) : MkDef P w K mg base k x C ps (spInit K C) := by
  obtain ⟨f, fd, M, F, b, m⟩ := D
  have F0 : FnOk P w K mg base CX0 k f fd ps (fun vs H Q _ => spInitT K C cT cB vs H Q fun _ _ _ => False) := ⟨fun vs H Q E h => F.len _ _ _ _ h, fun A outer s H args us vs Q E hr he hb hv hs => codeAny_mono (F.run A outer s H args us vs Q _ hr he hb hv hs) fun r s' hq => by
    cases r with
    | error e => obtain ⟨_, _, _, _, _, _, _, _, _, _, _, z⟩ := hq; exact z.elim
    | ok fl => cases fl <;> exact hq⟩
  refine ⟨f, fd, M, F0.imp fun vs H Q E h => ?_, b, m⟩
  obtain ⟨x', dx, p, mm, xs, es, e, hx, hS, hp, m1, m2, hz, hE, q⟩ := h
  exact ⟨x', dx, p, mm, xs, es, e, hx, hS, hp, by omega, fun z => by unfold Big at z; omega, fun _ z => z hE, fun _ _ H' t ys h1 h2 h3 h4 _ => q H' t ys h1 h2 h3 h4⟩
end L2
namespace Pk
open PySem L2 PyProof.Rows
def top (i : Nat) : Stmt := PySem.Challenge.pw_busyweb_k06_whole_webs_put_together.main.body.getD i (.Pass ⟨0, 0, 0, 0⟩)
abbrev sN : Stmt := inClass (top 16) 0
abbrev sPl : Stmt := top 17
abbrev sTi : Stmt := top 18
abbrev sDg : Stmt := top 19
abbrev sMe : Stmt := top 20
abbrev sPc : Stmt := top 21
abbrev sLe : Stmt := top 22
abbrev sJo : Stmt := top 23
abbrev sTu : Stmt := top 24
abbrev sPu : Stmt := top 25
abbrev sC : Stmt := top 27
abbrev sE : Stmt := top 28
abbrev sD : Stmt := top 29
abbrev sH : Stmt := top 30
abbrev sI : Stmt := top 31
abbrev sX : Stmt := top 32
abbrev sCu : Stmt := top 33
abbrev sBo : Stmt := top 34
abbrev sDe : Stmt := top 35
abbrev sL : Stmt := top 36
structure Cs where
  FlowError : Addr
  BadWeb : Addr
  TooMany : Addr
  BadPlace : Addr
  BadTie : Addr
  BadFlow : Addr
  BadRest : Addr
  NoFlow : Addr
  BadSet : Addr
  BadPaper : Addr
  BadText : Addr
  BadDeed : Addr
  Web : Addr
structure Alone (K : PySem.W.Frag) (c : Cs) (A : Addr) : Prop where
  ex : ExcC K A
  ks : ∃ b1 b2 b3 b4 b5 b6 b7 b8 b9 b10 b11 : Bool, PySem.W.kitOne K (.ref A) (.ref c.BadWeb) = some b1 ∧ PySem.W.kitOne K (.ref A) (.ref c.TooMany) = some b2 ∧ PySem.W.kitOne K (.ref A) (.ref c.BadPlace) = some b3 ∧ PySem.W.kitOne K (.ref A) (.ref c.BadTie) = some b4 ∧
    PySem.W.kitOne K (.ref A) (.ref c.BadFlow) = some b5 ∧ PySem.W.kitOne K (.ref A) (.ref c.BadRest) = some b6 ∧ PySem.W.kitOne K (.ref A) (.ref c.NoFlow) = some b7 ∧ PySem.W.kitOne K (.ref A) (.ref c.BadSet) = some b8 ∧
    PySem.W.kitOne K (.ref A) (.ref c.BadPaper) = some b9 ∧ PySem.W.kitOne K (.ref A) (.ref c.BadText) = some b10 ∧ PySem.W.kitOne K (.ref A) (.ref c.BadDeed) = some b11 ∧
    ([V.bl b1, .bl b2, .bl b3, .bl b4, .bl b5, .bl b6, .bl b7, .bl b8, .bl b9, .bl b10, .bl b11].countP fun z => eqV z (.bl true)) = 1
  fe : PySem.W.kitOne K (.ref A) (.ref c.FlowError) = some true
  ve : PySem.W.kitOne K (.ref A) (.type "ValueError") = some true
structure Txt (K : PySem.W.Frag) (mg : Str → Option Value) (c : Cs) : Prop where
  ValueError : mg "ValueError" = none
  bool : mg "bool" = none
  enumerate : mg "enumerate" = none
  int : mg "int" = none
  isinstance : mg "isinstance" = none
  len : mg "len" = none
  list : mg "list" = none
  max : mg "max" = none
  min : mg "min" = none
  range : mg "range" = none
  reversed : mg "reversed" = none
  sum : mg "sum" = none
  tuple : mg "tuple" = none
  mFlowError : mg "FlowError" = some (.ref c.FlowError)
  mBadWeb : mg "BadWeb" = some (.ref c.BadWeb)
  mTooMany : mg "TooMany" = some (.ref c.TooMany)
  mBadPlace : mg "BadPlace" = some (.ref c.BadPlace)
  mBadTie : mg "BadTie" = some (.ref c.BadTie)
  mBadFlow : mg "BadFlow" = some (.ref c.BadFlow)
  mBadRest : mg "BadRest" = some (.ref c.BadRest)
  mNoFlow : mg "NoFlow" = some (.ref c.NoFlow)
  mBadSet : mg "BadSet" = some (.ref c.BadSet)
  mBadPaper : mg "BadPaper" = some (.ref c.BadPaper)
  mBadText : mg "BadText" = some (.ref c.BadText)
  mBadDeed : mg "BadDeed" = some (.ref c.BadDeed)
  mWeb : mg "Web" = some (.ref c.Web)
  web : WebC K c.Web
  most_places : ∃ t, mg "MOST_PLACES" = some (.int 20 t)
  most_ties : ∃ t, mg "MOST_TIES" = some (.int 40 t)
  xFlowError : IsExc K c.FlowError
  xTooMany : IsExc K c.TooMany
  rTooMany : PySem.W.mroIn K c.TooMany (.ref c.TooMany) = some true
  alTooMany : Alone K c c.TooMany
  xBadWeb : IsExc K c.BadWeb
  xBadPlace : IsExc K c.BadPlace
  xBadTie : IsExc K c.BadTie
def spLaw (K : PySem.W.Frag) : Sp := fun vs H Q _ => ∃ (a : Addr) (ns : List Int), vs = [.ref a] ∧ SqL K H a (ns.map V.int) ∧ ns.length ≤ 63 ∧ ∀ H', Q (.bl true) H'
section
variable {P : Program} {w : World} {K : PySem.W.Frag} {mg : Str → Option Value} {base : Heap} {c : Cs}
theorem scN : FnScope ["self", "many", "ties", "start", "end"] ["self", "many", "ties"] (defScope sN) := ⟨rfl, rfl, rfl, by decide +kernel, rfl, by decide +kernel, by decide +kernel⟩
theorem putF2 (m : Int) (t : Addr) : putF "ties" (.ref t) (putF "many" (.int m) []) = wFs m t := rfl
theorem take_ends {es : List (Int × Int)} {m : Int} {i : Nat} {e : Int × Int} (h : EndsIn (es.take i) m) (he : es[i]? = some e) (b : 0 ≤ e.1 ∧ e.1 < m ∧ 0 ≤ e.2 ∧ e.2 < m) : EndsIn (es.take (i + 1)) m := by
  rw [take_snoc he]; exact h.snoc b
set_option maxHeartbeats 4000000 in
theorem ok_NE {f : Addr} {fd : FuncData} (F : Fun K "__init__" "Web.__init__" sN f fd) (T : Txt K mg c) : FnOk P w K mg base (CXE P w) 1 f fd ["self", "many", "ties"] (spInitT K c.Web c.TooMany c.BadWeb) := by
  refine F.okE scN (fun vs H Q E h => ?_) (fun cdv A outer s H vs Q E hr h => ?_)
  · obtain ⟨x, dx, p, m, xs, es, rfl, _⟩ := h
    rfl
  · obtain ⟨x, dx, p, m, xs, es, rfl, hx, hS, hp, hz, k1, k2, k3⟩ := h
    have hlen := hp.len
    refine ⟨_, pss_cons (ps_if (PW.pt (pw_or (pt_cmpR op_lt (pv 1) (pe_int) (nomark _)) (pw_or (pt_cmpR op_gt (pv 1) (pe_glob (v := .int 20) (by rfl) T.most_places.choose_spec ⟨_, rfl⟩) (nomark _)) (pw_or1 (pt_cmpR op_gt (pe_callB (cLen (K := K) rfl) (by rfl) T.len PySem.boot_len (pa_cons (pv 2) pa_nil)) (pe_glob (v := .int 40) (by rfl) T.most_ties.choose_spec ⟨_, rfl⟩) (nomark _))))))
        (pss_one (ps_raise rfl rfl (by rfl) T.mTooMany T.xTooMany (pa_cons pe_str pa_nil))) (pss_nil))
      (pss_cons (ps_forE bodyE rfl (piSeq (K := K) rfl (pv 2)) (pgTup (K := K) (n := 2) rfl rfl (pgs_cons (pg_name (i := 3) scN.nd rfl (Or.inl rfl)) (pgs_cons (pg_name (i := 4) scN.nd rfl (Or.inl rfl)) (pgs_nil))) rfl)
        (pss_one (ps_if (pt_not (PW.pt (pw_and (pt_chain op_le op_lt (pe_int) (pv 3) (pv 1)) (pw_and1 (pt_chain op_le op_lt (pe_int) (pv 4) (pv 1))))))
        (pss_one (ps_raise rfl rfl (by rfl) T.mBadWeb T.xBadWeb (pa_cons pe_str pa_nil))) (pss_nil))))
      (pss_cons (ps_fld (pv 0) (pv 1) rfl)
      (pss_one (ps_fld (pv 0) (pe_callTy (cTuple (K := K) rfl) (by rfl) T.tuple PyProof.Rows.boot_tuple (pa_cons (pe_lc (N' := ["start", "end"]) (nl := 2) (js := []) rfl (.of (osc := defScope sN) (N := ["self", "many", "ties", "start", "end"]) (by decide +kernel) rfl rfl) (piSeq (K := K) rfl (pv 2))
        (fun _ _ _ _ => pgPair (K := K) (i := 0) (j := 1) rfl rfl (show (["start", "end"] : List Str).Nodup by decide +kernel) rfl rfl rfl rfl) (fun _ _ _ _ => pif_nil)
        (fun _ _ _ _ => pe_tupD (pa_cons (pv 0) (pa_cons (pv 1) pa_nil)))) pa_nil)) rfl)))), ?_⟩
    refine ⟨_, rfl, _, _, rfl, rfl, _, rfl, ite2 (fun c1 => ?_) (fun c1 => ?_)⟩
    · exact ⟨(by show 1 ≤ sizeLine; decide), k1 (.inl (of_decide_eq_true c1))⟩
    refine ⟨_, rfl, _, _, rfl, rfl, _, rfl, ite2 (fun c2 => ?_) (fun c2 => ?_)⟩
    · exact ⟨(by show 1 ≤ sizeLine; decide), k1 (.inr (.inl (of_decide_eq_true c2)))⟩
    refine ⟨_, rfl, p, xs, rfl, hS, _, _, rfl, rfl, _, rfl, ite2 (fun c3 => ?_) (fun c3 => ?_)⟩
    · refine ⟨(by show 1 ≤ sizeLine; decide), k1 (.inr (.inr ?_))⟩
      have := of_decide_eq_true c3
      omega
    have nb : ¬ Big m es := by
      rintro (z | z | z)
      · exact c1 (decide_eq_true z)
      · exact c2 (decide_eq_true z)
      · exact c3 (decide_eq_true (by omega))
    refine ⟨_, rfl, p, xs, rfl, hS, fun J C O hC => for_by O (fun i σ H2 => H2 = H ∧ EndsIn (es.take i) m ∧ ∃ v3 v4, σ = [some (.ref x), some (.int m), some (.ref p), v3, v4]) ⟨rfl, EndsIn.nil, _, _, rfl⟩ (fun i σ H2 _ h => by rw [h.1]; exact hC _ (Same.refl _)) ?_ ?_⟩
    · rintro i σ H2 hi ⟨rfl, hE, v3, v4, rfl⟩
      obtain ⟨r, e, er, hr2, ei, he⟩ := hp.at hi
      dsimp only
      rw [er]
      refine ⟨r, _, rfl, hr2, rfl, _, _, rfl, _, _, rfl, rfl, ?_⟩
      have bad : ¬ (0 ≤ e.1 ∧ e.1 < m ∧ 0 ≤ e.2 ∧ e.2 < m) → E (.ref c.BadWeb) none H2 := fun z => k2 nb fun q => z (q e he)
      refine ⟨_, rfl, _, _, rfl, rfl, _, rfl, ite2 (fun d1 => ?_) (fun d1 => ?_)⟩
      · refine ⟨_, rfl, _, _, rfl, rfl, _, rfl, ite2 (fun d2 => ?_) (fun d2 => ?_)⟩
        · refine ⟨_, rfl, _, _, rfl, rfl, _, rfl, ite2 (fun d3 => ?_) (fun d3 => ?_)⟩
          · refine ⟨_, rfl, _, _, rfl, rfl, _, rfl, ?_⟩
            by_cases d4 : e.2 < m
            · rw [decide_eq_true d4]
              exact iteF ⟨rfl, take_ends hE ei ⟨of_decide_eq_true d1, of_decide_eq_true d2, of_decide_eq_true d3, d4⟩, _, _, rfl⟩
            · rw [decide_eq_false d4]
              exact iteT ⟨(by show 1 ≤ sizeLine; decide), bad fun z => d4 z.2.2.2⟩
          · exact ⟨_, rfl, iteT ⟨(by show 1 ≤ sizeLine; decide), bad fun z => d3 (decide_eq_true z.2.2.1)⟩⟩
        · exact iteT ⟨(by show 1 ≤ sizeLine; decide), bad fun z => d2 (decide_eq_true z.2.1)⟩
      · exact ⟨_, rfl, iteF (iteT ⟨(by show 1 ≤ sizeLine; decide), bad fun z => d1 (decide_eq_true z.1)⟩)⟩
    · rintro σ H2 ⟨rfl, hE, v3, v4, rfl⟩
      rw [show es.take xs.length = es from List.take_of_length_le (by omega)] at hE
      have k := k3 nb hE
      refine ⟨_, rfl, _, rfl, x, c.Web, dx, _, rfl, hx, T.web.cl, T.web.nM, (by show 0 < 1000; decide), ?_⟩
      have sx : SameX x H2 (upd H2 x (.ins c.Web dx (putF "many" (.int m) []))) := sameX_upd
      have hS' := hS.imp (fun y => sx.seqI hx y) (fun y => sx.tupI hx y)
      have hp' := hp.sameI sx hx
      have hx' : (upd H2 x (.ins c.Web dx (putF "many" (.int m) []))) x = some (.ins c.Web dx (putF "many" (.int m) [])) := upd_same
      generalize upd H2 x (.ins c.Web dx (putF "many" (.int m) [])) = H3 at sx hS' hp' hx'
      refine ⟨_, rfl, p, xs, rfl, hS', fun J C O hC => lc_by O (fun i ys H4 => Same H3 H4 ∧ Pairs K H4 ys (es.take i) ∧ ∀ v ∈ ys, Thin H4 v) (Nat.le_of_lt (small1000 (by omega))) ⟨Same.refl _, .nil, fun v hv => (nomatch hv)⟩ ?_ ?_ ?_⟩
      · rintro i ys H4 hi ⟨s4, h4, k4⟩
        have := h4.len
        rw [List.length_take] at this
        exact ⟨hC _ s4, by omega⟩
      · rintro i ys H4 hi ⟨s4, h4, k4⟩
        obtain ⟨r, e, er, hr2, he, _⟩ := (hp'.same s4).at hi
        have hl4 := h4.len
        rw [List.length_take] at hl4
        try dsimp only
        rw [er]
        refine ⟨r, _, rfl, hr2, rfl, _, _, rfl, _, _, rfl, rfl, wk_set2 rfl rfl, iteT ?_⟩
        refine ⟨_, rfl, _, rfl, (by show 2 ≤ sizeLine; decide), fun t o ht hd => ⟨small1000 (by omega), _, by omega, rfl, hi, s4.next ht, ?_, ?_⟩⟩
        · rw [take_snoc he]
          exact (h4.same (Same.new ht)).snoc (.inl (.inr ⟨o, upd_same⟩))
        · intro v hv
          rcases List.mem_append.mp hv with y | y
          · exact (k4 v y).same (Same.new ht)
          · exact ⟨t, o, _, List.mem_singleton.mp y, upd_same, hd⟩
      · rintro ys H4 ⟨s4, h4, k4⟩ l hl
        rw [show es.take xs.length = es from List.take_of_length_le (by omega)] at h4
        refine ⟨l, ys, rfl, .inl ⟨SqL.of upd_same, fun t ht => ?_⟩⟩
        have s5 : Same H3 (upd (upd H4 l (.lst ys)) t (.tup ys)) := (s4.next hl).next ht
        refine ⟨_, rfl, x, c.Web, dx, _, rfl, s5 _ _ hx', T.web.cl, T.web.nT, (by show 1 < 1000; decide), ?_⟩
        rw [putF2]
        have hxt : t ≠ x := (ne_of_none (((s4.next hl)) _ _ hx') ht).symm
        refine k _ t ys ((sx.trans (.of s5)).trans sameX_upd) upd_same (by rw [upd_ne hxt]; exact upd_same) ?_ ?_
        · exact Pairs.sameI sameX_upd (s5 _ _ hx') ((h4.same (Same.new hl)).same (Same.new ht))
        · intro v hv
          obtain ⟨r, o, zs, e', h1, h2⟩ := ((k4 v hv).same (Same.new hl)).same (Same.new ht)
          exact ⟨r, o, zs, e', sameX_upd _ _ (ne_of h1 (s5 _ _ hx') (by intro z; cases z)) h1, h2⟩
def spPl (K : PySem.W.Frag) (C cP : Addr) : Sp := fun vs H Q E => ∃ (x : Addr) (p m : Int) (es : List (Int × Int)), vs = [.ref x, .int p] ∧ WebAt K C H x m es ∧ (0 ≤ p → p < m → Q .non H) ∧ (¬ (0 ≤ p ∧ p < m) → E (.ref cP) none H)
theorem scPl : FnScope ["web", "place"] ["web", "place"] (defScope sPl) := ⟨rfl, rfl, rfl, by decide +kernel, rfl, by decide +kernel, by decide +kernel⟩
theorem ok_Pl {f : Addr} {fd : FuncData} (F : Fun K "check_place" "check_place" sPl f fd) (T : Txt K mg c) : FnOk P w K mg base (CXE P w) 1 f fd ["web", "place"] (spPl K c.Web c.BadPlace) := by
  refine F.okE scPl (fun vs H Q E h => ?_) (fun cdv A outer s H vs Q E hr h => ?_)
  · obtain ⟨x, p, m, es, rfl, _⟩ := h
    rfl
  · obtain ⟨x, p, m, es, rfl, hw, k1, k2⟩ := h
    refine ⟨_, pss_one (ps_if (pt_not (pt_chain op_le op_lt (pe_int) (pv 1) (pMany (K := K) rfl T.web (pv 0))))
        (pss_one (ps_raise rfl rfl (by rfl) T.mBadPlace T.xBadPlace (pa_cons pe_str pa_nil))) (pss_nil)), ?_⟩
    refine ⟨_, rfl, _, _, rfl, rfl, _, rfl, ite2 (fun c1 => ?_) (fun c1 => ?_)⟩
    · refine ⟨_, rfl, x, m, es, rfl, hw, _, _, rfl, rfl, _, rfl, ?_⟩
      by_cases c2 : p < m
      · rw [decide_eq_true c2]
        exact iteF (k1 (of_decide_eq_true c1) c2)
      · rw [decide_eq_false c2]
        exact iteT ⟨(by show 1 ≤ sizeLine; decide), k2 fun z => c2 z.2⟩
    · exact ⟨_, rfl, iteT ⟨(by show 1 ≤ sizeLine; decide), k2 fun z => c1 (decide_eq_true z.1)⟩⟩
def spTi (K : PySem.W.Frag) (C cT : Addr) : Sp := fun vs H Q E => ∃ (x : Addr) (p m : Int) (es : List (Int × Int)), vs = [.ref x, .int p] ∧ WebAt K C H x m es ∧ (0 ≤ p → p < (es.length : Int) → Q .non H) ∧ (¬ (0 ≤ p ∧ p < (es.length : Int)) → E (.ref cT) none H)
theorem scTi : FnScope ["web", "tie"] ["web", "tie"] (defScope sTi) := ⟨rfl, rfl, rfl, by decide +kernel, rfl, by decide +kernel, by decide +kernel⟩
theorem ok_Ti {f : Addr} {fd : FuncData} (F : Fun K "check_tie" "check_tie" sTi f fd) (T : Txt K mg c) : FnOk P w K mg base (CXE P w) 1 f fd ["web", "tie"] (spTi K c.Web c.BadTie) := by
  refine F.okE scTi (fun vs H Q E h => ?_) (fun cdv A outer s H vs Q E hr h => ?_)
  · obtain ⟨x, p, m, es, rfl, _⟩ := h
    rfl
  · obtain ⟨x, p, m, es, rfl, hw, k1, k2⟩ := h
    refine ⟨_, pss_one (ps_if (pt_not (pt_chain op_le op_lt (pe_int) (pv 1) (pe_callB (cLen (K := K) rfl) (by rfl) T.len PySem.boot_len (pa_cons (pTies (K := K) rfl T.web (pv 0)) pa_nil))))
        (pss_one (ps_raise rfl rfl (by rfl) T.mBadTie T.xBadTie (pa_cons pe_str pa_nil))) (pss_nil)), ?_⟩
    refine ⟨_, rfl, _, _, rfl, rfl, _, rfl, ite2 (fun c1 => ?_) (fun c1 => ?_)⟩
    · refine ⟨_, rfl, x, m, es, rfl, hw, fun t ys ht hp => ⟨t, ys, rfl, .inr (SqT.of ht), _, _, rfl, rfl, _, rfl, ?_⟩⟩
      have hl := hp.len
      by_cases c2 : p < (ys.length : Int)
      · rw [decide_eq_true c2]
        exact iteF (k1 (of_decide_eq_true c1) (by omega))
      · rw [decide_eq_false c2]
        exact iteT ⟨(by show 1 ≤ sizeLine; decide), k2 fun z => c2 (by omega)⟩
    · exact ⟨_, rfl, iteT ⟨(by show 1 ≤ sizeLine; decide), k2 fun z => c1 (decide_eq_true z.1)⟩⟩
def cntP (p : Int) (e : Int × Int) : Int := (if e.1 = p then 1 else 0) + (if e.2 = p then 1 else 0)
theorem cntP_eq (p a b : Int) : (([V.int a, V.int b].countP fun z => eqV z (V.int p) : Nat) : Int) = cntP p (a, b) := by
  have e1 : ∀ u : Int, eqV (V.int u) (V.int p) = (u == p) := fun u => rfl
  rw [List.countP_cons, List.countP_cons, List.countP_nil, e1, e1]
  unfold cntP
  by_cases h1 : a = p <;> by_cases h2 : b = p <;> simp [h1, h2]
def spDg (K : PySem.W.Frag) (c : Cs) : Sp := fun vs H Q E => ∃ (x : Addr) (p m : Int) (es : List (Int × Int)), vs = [.ref x, .int p] ∧ WebD K c.Web H x m es ∧ es.length ≤ 40 ∧ (¬ (0 ≤ p ∧ p < m) → E (.ref c.BadPlace) none H) ∧
  (0 ≤ p → p < m → ∀ H', Same H H' → Q (.int ((es.map (cntP p)).sum)) H')
theorem scDg : FnScope ["web", "place"] ["web", "place"] (defScope sDg) := ⟨rfl, rfl, rfl, by decide +kernel, rfl, by decide +kernel, by decide +kernel⟩
set_option maxHeartbeats 4000000 in
theorem ok_Dg {f : Addr} {fd : FuncData} (F : Fun K "degree" "degree" sDg f fd) (T : Txt K mg c) (D_Pl : DefE P w K mg base 1 "check_place" ["web", "place"] (spPl K c.Web c.BadPlace)) : FnOk P w K mg base (CXE P w) 2 f fd ["web", "place"] (spDg K c) := by
  refine F.okE scDg (fun vs H Q E h => ?_) (fun cdv A outer s H vs Q E hr h => ?_)
  · obtain ⟨x, p, m, es, rfl, _⟩ := h
    rfl
  · obtain ⟨x, p, m, es, rfl, hw, hz, k1, k2⟩ := h
    refine ⟨_, pss_cons (ps_expr (pe_defE D_Pl hr rfl rfl (pa_cons (pv 0) (pa_cons (pv 1) pa_nil))))
      (pss_one (ps_ret (pe_callB (cSum (K := K) rfl rfl) (by rfl) T.sum PyProof.Rows.boot_sum (pa_cons (pe_lc (N' := ["ends", "place"]) (nl := 1) (js := [1]) rfl (.of (osc := defScope sDg) (N := ["web", "place"]) (by decide +kernel) rfl rfl) (piSeq (K := K) rfl (pTiesD (K := K) rfl T.web (pv 0)))
        (fun _ _ _ _ => pg_name (i := 0) (show (["ends", "place"] : List Str).Nodup by decide +kernel) rfl (Or.inl rfl)) (fun _ _ _ _ => pif_nil)
        (fun _ _ _ _ => pe_cntT (K := K) rfl (pv 0) (pa_cons (pv 1) pa_nil))) pa_nil)))), ?_⟩
    refine ⟨_, rfl, _, rfl, x, p, m, es, rfl, hw.at, fun h0 h1 => ?_, fun z => k1 z⟩
    refine ⟨_, rfl, x, m, es, rfl, hw, fun t ys ht hp hth => ⟨t, ys, rfl, .inr (SqT.of ht), fun J C O hC => ?_⟩⟩
    have hpl := hp.len
    refine lc_by O (fun i zs H2 => H2 = H ∧ zs = ((es.map (cntP p)).take i).map V.int) (Nat.le_of_lt (small1000 (by omega))) ⟨rfl, rfl⟩ ?_ ?_ ?_
    · rintro i zs H2 hi ⟨rfl, rfl⟩
      exact ⟨hC _ (Same.refl _), by rw [List.length_map, List.length_take]; omega⟩
    · rintro i zs H hi ⟨rfl, rfl⟩
      obtain ⟨r, e, er, hr2, ei, he⟩ := hp.at hi
      have hT : Thin H (.ref r) := by
        have : ys.getD i .non ∈ ys := by rw [List.getD_eq_getElem?_getD, List.getElem?_eq_getElem hi]; exact List.getElem_mem hi
        rw [er] at this
        exact hth _ this
      have hv : (es.map (cntP p))[i]? = some (cntP p e) := by rw [List.getElem?_map, ei]; rfl
      dsimp only
      rw [er]
      refine ⟨wk_set rfl, iteT ⟨_, rfl, hT, _, rfl, r, _, _, rfl, rfl, hr2, rfl, rfl, small1000 (by rw [List.length_map, List.length_take]; omega), _, by omega, rfl, hi, rfl, ?_⟩⟩
      rw [take_snoc hv, List.map_append, cntP_eq p e.1 e.2]; rfl
    · rintro zs H ⟨rfl, rfl⟩ l nl
      rw [hpl, List.take_of_length_le (by rw [List.length_map]; exact Nat.le_refl _)]
      exact ⟨l, _, rfl, .inl (SqL.of upd_same), k2 h0 h1 _ (Same.new nl)⟩
def spMe (K : PySem.W.Frag) : Sp := fun vs H Q _ => ∃ (l : Addr) (a b : Int) (ls : List Int), vs = [.ref l, .int a, .int b] ∧ SqL K H l (ls.map V.int) ∧ ls.length ≤ 900 ∧ 0 ≤ a ∧ a < ls.length ∧ 0 ≤ b ∧ b < ls.length ∧
  ∀ l2 H', H l2 = none → Same H H' → H' l2 = some (.lst ((ls.map fun x => if x = max (lf ls a) (lf ls b) then min (lf ls a) (lf ls b) else x).map V.int)) → Q (.ref l2) H'
theorem imin (i j : Int) : (if j < i then j else i) = min i j := by split <;> omega
theorem imax (i j : Int) : (if j > i then j else i) = max i j := by split <;> omega
theorem scMe : FnScope ["labels", "one", "two", "low", "high"] ["labels", "one", "two"] (defScope sMe) := ⟨rfl, rfl, rfl, by decide +kernel, rfl, by decide +kernel, by decide +kernel⟩
set_option maxHeartbeats 4000000 in
theorem ok_Me {f : Addr} {fd : FuncData} (F : Fun K "merged" "merged" sMe f fd) (T : Txt K mg c) : FnOk P w K mg base CX0 1 f fd ["labels", "one", "two"] (spMe K) := by
  refine F.ok scMe (fun vs H Q E h => ?_) (fun cdv A outer s H vs Q E hr h => ?_)
  · obtain ⟨l, a, b, ls, rfl, _⟩ := h
    rfl
  · obtain ⟨l, a, b, ls, rfl, hl, hz, a0, a1, b0, b1, k⟩ := h
    refine ⟨_, pss_cons (ps_set (i := 3) scMe.nd rfl (Or.inr rfl) (pe_callB (call_min2 rfl) (by rfl) T.min PyProof.Rows.boot_min (pa_cons (pe_ix (ixL (K := K) rfl) (pv 0) (pv 1) (fun _ _ => rfl)) (pa_cons (pe_ix (ixL (K := K) rfl) (pv 0) (pv 2) (fun _ _ => rfl)) pa_nil))))
      (pss_cons (ps_set (i := 4) scMe.nd rfl (Or.inr rfl) (pe_callB (call_max2 rfl) (by rfl) T.max PyProof.Rows.boot_max (pa_cons (pe_ix (ixL (K := K) rfl) (pv 0) (pv 1) (fun _ _ => rfl)) (pa_cons (pe_ix (ixL (K := K) rfl) (pv 0) (pv 2) (fun _ _ => rfl)) pa_nil))))
      (pss_one (ps_ret (pe_lc (N' := ["label", "low", "high"]) (nl := 1) (js := [3, 4]) rfl (.of (osc := defScope sMe) (N := ["labels", "one", "two", "low", "high"]) (by decide +kernel) rfl rfl) (piSeq (K := K) rfl (pv 0))
        (fun _ _ _ _ => pg_name (i := 0) (show (["label", "low", "high"] : List Str).Nodup by decide +kernel) rfl (Or.inl rfl)) (fun _ _ _ _ => pif_nil)
        (fun _ _ _ _ => pe_ifExp (pt_cmpR op_eq (pv 0) (pv 2) (nomark _)) (pv 1) (pv 0)))))), ?_⟩
    refine ⟨_, rfl, _, rfl, l, _, _, _, rfl, rfl, hl, at_int a0 a1, _, rfl, _, rfl, l, _, _, _, rfl, rfl, hl, at_int b0 b1, _, _, rfl, ?_⟩
    refine ⟨_, rfl, _, rfl, l, _, _, _, rfl, rfl, hl, at_int a0 a1, _, rfl, _, rfl, l, _, _, _, rfl, rfl, hl, at_int b0 b1, _, _, rfl, ?_⟩
    have hf : ∀ x : Int, (if x = max (lf ls a) (lf ls b) then min (lf ls a) (lf ls b) else x) = (if x = (if ls.getD b.toNat 0 > ls.getD a.toNat 0 then ls.getD b.toNat 0 else ls.getD a.toNat 0) then (if ls.getD b.toNat 0 < ls.getD a.toNat 0 then ls.getD b.toNat 0 else ls.getD a.toNat 0) else x) := fun x => by
      rw [imin, imax]; rfl
    refine ⟨_, rfl, l, _, rfl, .inl hl, fun J C O hC => lc_by O (fun i ys H2 => H2 = H ∧ ys = ((ls.map fun x => if x = max (lf ls a) (lf ls b) then min (lf ls a) (lf ls b) else x).take i).map V.int) (by rw [List.length_map]; exact Nat.le_of_lt (small1000 (by omega))) ⟨rfl, rfl⟩ ?_ ?_ ?_⟩
    · rintro i ys H2 hi ⟨rfl, rfl⟩
      exact ⟨hC _ (Same.refl _), by rw [List.length_map, List.length_take]; omega⟩
    · rintro i ys H hi ⟨rfl, rfl⟩
      obtain ⟨v, ev, gv⟩ := getD_map_int hi
      rw [List.length_map] at hi
      dsimp only
      rw [ev]
      have fin : ∀ u, u = (if v = max (lf ls a) (lf ls b) then min (lf ls a) (lf ls b) else v) → ((ls.map fun x => if x = max (lf ls a) (lf ls b) then min (lf ls a) (lf ls b) else x).take i).map V.int ++ [V.int u] = ((ls.map fun x => if x = max (lf ls a) (lf ls b) then min (lf ls a) (lf ls b) else x).take (i + 1)).map V.int := fun u e => by
        have hv : (ls.map fun x => if x = max (lf ls a) (lf ls b) then min (lf ls a) (lf ls b) else x)[i]? = some u := by rw [List.getElem?_map, gv, e]; rfl
        rw [take_snoc hv, List.map_append]; rfl
      have hl2 : (((ls.map fun x => if x = max (lf ls a) (lf ls b) then min (lf ls a) (lf ls b) else x).take i).map V.int).length < sizeLine := small1000 (by rw [List.length_map, List.length_take]; omega)
      refine ⟨wk_set rfl, iteT ?_⟩
      refine ⟨_, rfl, _, rfl, rfl, _, rfl, ite2 (fun c1 => ?_) (fun c1 => ?_)⟩
      · refine ⟨_, rfl, hl2, _, by rw [List.length_map]; omega, rfl, by rw [List.length_map]; omega, rfl, fin _ ?_⟩
        have c1' := of_decide_eq_true c1
        injection c1' with c1'
        rw [hf, if_pos c1']
      · refine ⟨_, rfl, hl2, _, by rw [List.length_map]; omega, rfl, by rw [List.length_map]; omega, rfl, fin _ ?_⟩
        rw [hf, if_neg (fun z => c1 (decide_eq_true (by rw [z])))]
    · rintro ys H ⟨rfl, rfl⟩ l2 nl
      rw [List.length_map, List.take_of_length_le (by rw [List.length_map]; omega)]
      exact k l2 _ nl (Same.new nl) upd_same
def PcR (K : PySem.W.Frag) (H : Hp) (n : Nat) (f : Int → Int) (l : Addr) (H' : Hp) : Prop := Same H H' ∧ H l = none ∧ ∃ ad : Int → Addr, H' l = some (.lst ((rts n f).map fun r => V.ref (ad r))) ∧
  (∀ r ∈ rts n f, H (ad r) = none ∧ ad r ≠ l ∧ H' (ad r) = some (.lst ((grp n f r).map V.int))) ∧ ∀ r ∈ rts n f, ∀ r' ∈ rts n f, ad r = ad r' → r = r'
def spPc (K : PySem.W.Frag) (c : Cs) : Sp := fun vs H Q _ => ∃ (x : Addr) (m : Int) (es : List (Int × Int)), vs = [.ref x] ∧ WebAt K c.Web H x m es ∧ 1 ≤ m ∧ m ≤ 20 ∧ es.length ≤ 40 ∧ EndsIn es m ∧
  ∀ (l : Addr) (f : Int → Int) (H' : Hp), Lab m es f → PcR K H m.toNat f l H' → Q (.ref l) H'
theorem scPc : FnScope ["web", "labels", "start", "end", "groups", "place", "label"] ["web"] (defScope sPc) := ⟨rfl, rfl, rfl, by decide +kernel, rfl, by decide +kernel, by decide +kernel⟩
set_option maxHeartbeats 4000000 in
theorem ok_Pc {f : Addr} {fd : FuncData} (F : Fun K "pieces" "pieces" sPc f fd) (T : Txt K mg c) (D_Me : Def P w K mg base 1 "merged" ["labels", "one", "two"] (spMe K)) : FnOk P w K mg base CX0 2 f fd ["web"] (spPc K c) := by
  refine F.ok scPc (fun vs H Q E h => ?_) (fun cdv A outer s H vs Q E hr h => ?_)
  · obtain ⟨x, m, es, rfl, _⟩ := h
    rfl
  · obtain ⟨x, m, es, rfl, hw, m1, m2, hz, hE, k⟩ := h
    refine ⟨_, pss_cons (ps_set (i := 1) scPc.nd rfl (Or.inl rfl) (pe_listrange1 rfl rfl T.list rfl T.range (pa_cons (pMany (K := K) rfl T.web (pv 0)) pa_nil)))
      (pss_cons (ps_for PassesOwn.never rfl (piSeq (K := K) rfl (pTies (K := K) rfl T.web (pv 0))) (pgTup (K := K) (n := 2) rfl rfl (pgs_cons (pg_name (i := 2) scPc.nd rfl (Or.inl rfl)) (pgs_cons (pg_name (i := 3) scPc.nd rfl (Or.inl rfl)) (pgs_nil))) rfl)
        (pss_one (ps_set (i := 1) scPc.nd rfl (Or.inl rfl) (pe_defR D_Me hr (pa_cons (pv 1) (pa_cons (pv 2) (pa_cons (pv 3) pa_nil)))))))
      (pss_cons (ps_set (i := 4) scPc.nd rfl (Or.inl rfl) (pe_dnewK))
      (pss_cons (ps_for PassesOwn.never rfl (pi_enum (K := K) rfl rfl T.enumerate (pa_cons (pv 1) pa_nil)) (pgTup (K := K) (n := 2) rfl rfl (pgs_cons (pg_name (i := 5) scPc.nd rfl (Or.inl rfl)) (pgs_cons (pg_name (i := 6) scPc.nd rfl (Or.inl rfl)) (pgs_nil))) rfl)
        (pss_one (ps_expr (pe_bm PySem.F.plainAttrs_list PySem.F.slot_list_append PySem.F.type_list_append mt_append (pe_dsetd (pv 4) (pv 6) (pe_lst pa_nil) ⟨rfl, rfl, rfl, rfl⟩) (pa_cons (pv 5) pa_nil)))))
      (pss_one (ps_ret (pe_listvals rfl rfl T.list (pv 4))))))), ?_⟩
    refine ⟨_, rfl, x, m, es, rfl, hw, m, rfl, by omega, by omega, fun l0 nl0 => ?_⟩
    have s0 : Same H (upd H l0 (.lst (((List.range m.toNat).map fun i => 0 + ((i : Nat) : Int)).map V.int))) := Same.new nl0
    have e0 : (upd H l0 (.lst (((List.range m.toNat).map fun i => 0 + ((i : Nat) : Int)).map V.int))) l0 = some (.lst (((List.range m.toNat).map fun i => 0 + ((i : Nat) : Int)).map V.int)) := upd_same
    generalize upd H l0 (.lst (((List.range m.toNat).map fun i => 0 + ((i : Nat) : Int)).map V.int)) = H0 at s0 e0
    refine ⟨_, rfl, x, m, es, rfl, hw.same s0, fun t ys ht hp => ⟨t, ys, rfl, .inr (SqT.of ht), fun J C O hC => ?_⟩⟩
    have hpl := hp.len
    refine for_by O (fun i σ H2 => ∃ (lb : Addr) (ls : List Int) (v2 v3 : Option V), σ = [some (.ref x), some (.ref lb), v2, v3, none, none, none] ∧ Same H0 H2 ∧ H2 lb = some (.lst (ls.map V.int)) ∧ ls.length = m.toNat ∧ Lab m (es.take i) (lf ls)) ⟨l0, _, none, none, rfl, Same.refl _, e0, by rw [List.length_map, List.length_range], (Lab.nil m).congr (fun e he => (nomatch he)) fun p p0 p1 => (lf_range m.toNat p p0 (by omega)).symm⟩ (fun i σ H2 _ h => ?_) ?_ ?_
    · obtain ⟨lb, ls, v2, v3, _, s2, _⟩ := h
      exact hC _ s2
    · rintro i σ H2 hi ⟨lb, ls, v2, v3, rfl, s2, hl2, hll, hL⟩
      obtain ⟨r, e, er, hr2, ei, he⟩ := hp.at hi
      obtain ⟨b1, b2, b3, b4⟩ := hE e he
      dsimp only
      rw [er]
      refine ⟨r, _, rfl, s2.tup hr2, rfl, _, _, rfl, _, _, rfl, rfl, ?_⟩
      refine ⟨_, rfl, _, rfl, _, rfl, lb, e.1, e.2, ls, rfl, SqL.of hl2, by omega, b1, by omega, b3, by omega, fun l3 H3 nl3 s3 e3 => ?_⟩
      refine ⟨l3, _, _, _, rfl, s2.trans s3, e3, by rw [List.length_map]; exact hll, ?_⟩
      rw [take_snoc ei]
      refine (hL.merge ⟨b1, b2, b3, b4⟩).congr (fun a ha => ?_) fun p p0 p1 => (lf_map ls (fun x => if x = max (lf ls e.1) (lf ls e.2) then min (lf ls e.1) (lf ls e.2) else x) p p0 (by omega)).symm
      rcases List.mem_append.mp ha with y | y
      · exact hE a (List.mem_of_mem_take y)
      · rw [List.mem_singleton.mp y]; exact ⟨b1, b2, b3, b4⟩
    · rintro σ H2 ⟨lb, ls, v2, v3, rfl, s2, hl2, hll, hL⟩
      rw [hpl, List.take_length] at hL
      have s02 := s0.trans s2
      clear s2 s0 e0 hC O ht hp hpl
      intro d nd
      have sd : Same H (upd H2 d (.dK [])) := s02.next nd
      have hd : (upd H2 d (.dK [])) d = some (.dK []) := upd_same
      have ld : (upd H2 d (.dK [])) lb = some (.lst (ls.map V.int)) := Same.new nd _ _ hl2
      have ndH : H d = none := by
        cases e : H d with
        | none => rfl
        | some o => have := s02 _ _ e; rw [nd] at this; cases this
      generalize upd H2 d (.dK []) = H3 at sd hd ld
      have Lf : ∀ p : Int, 0 ≤ p → p < m → 0 ≤ lf ls p ∧ lf ls p ≤ p := hL.low
      have Li : ∀ p : Int, 0 ≤ p → p < m → lf ls (lf ls p) = lf ls p := fun p p0 p1 => hL.idem p0 p1
      have hlm : (ls.map V.int).length = ls.length := List.length_map ..
      refine ⟨_, rfl, false, lb, _, rfl, SqL.of ld, fun J C O hC => ?_⟩
      refine for_byP O (fun i σ H4 => ∃ (ad : Int → Addr) (v5 v6 : Option V), σ = [some (.ref x), some (.ref lb), v2, v3, some (.ref d), v5, v6] ∧ Same H H4 ∧ SameX d H3 H4 ∧ H4 d = some (.dK ((rts i (lf ls)).map fun r => ((Sum.inl r : Key), V.ref (ad r)))) ∧
        (∀ r ∈ rts i (lf ls), H3 (ad r) = none ∧ H4 (ad r) = some (.lst ((grp i (lf ls) r).map V.int))) ∧ ∀ r ∈ rts i (lf ls), ∀ r' ∈ rts i (lf ls), ad r = ad r' → r = r') ⟨fun _ => 0, none, none, rfl, sd, fun _ _ _ z => z, hd, (fun r hr => nomatch hr), (fun r hr => nomatch hr)⟩ (fun i σ H4 _ h => ?_) ?_ ?_
      · obtain ⟨ad, v5, v6, _, _, sx, _⟩ := h
        exact hC _ (SqL.of (sx _ _ (ne_of ld hd (by intro z; cases z)) ld))
      · rintro i σ H4 p hi ⟨ad, v5, v6, rfl, s4, sx4, d4, g4, inj⟩ hp4
        have hi' : i < ls.length := by omega
        dsimp only
        rw [getD_ints hi']
        have ei : ls.getD i 0 = lf ls (i : Int) := rfl
        rw [ei]
        have lo := Lf i (by omega) (by omega)
        have id1 := Li i (by omega) (by omega)
        have s5 := Same.new (o := .tup [.int (i : Nat), .int (lf ls (i : Int))]) hp4
        have t5 : (upd H4 p (.tup [.int (i : Nat), .int (lf ls (i : Int))])) p = some (.tup [.int (i : Nat), .int (lf ls (i : Int))]) := upd_same
        refine ⟨p, _, rfl, SqT.of t5, rfl, _, _, rfl, _, _, rfl, rfl, ?_⟩
        generalize upd H4 p (.tup [.int (i : Nat), .int (lf ls (i : Int))]) = H5 at s5 t5
        have d5 := s5 _ _ d4
        refine ⟨_, rfl, d, rfl, .inl ⟨_, .inl d5⟩, _, rfl, by decide, fun q nq => ?_⟩
        have s6 := Same.new (o := .lst []) nq
        have q6 : (upd H5 q (.lst [])) q = some (.lst []) := upd_same
        generalize upd H5 q (.lst []) = H6 at s6 q6
        have d6 := s6 _ _ d5
        have s46 := s5.trans s6
        have hzr := rts_len i (lf ls)
        refine ⟨_, Sum.inl (lf ls (i : Int)), d6, rfl, small1000 (by rw [List.length_map]; omega), fun v hv => ?_, fun hv => ?_⟩
        · rw [valV_key] at hv
          by_cases hm : lf ls (i : Int) ∈ rts i (lf ls)
          · rw [if_pos hm] at hv
            cases hv
            obtain ⟨n1, c1⟩ := g4 _ hm
            have c6 := s46 _ _ c1
            have hgl := grp_len i (lf ls) (lf ls (i : Int))
            have hne : ¬ lf ls (i : Int) = (i : Int) := fun z => by
              have := (mem_rts.mp hm).2.1
              omega
            have rs : rts (i + 1) (lf ls) = rts i (lf ls) := by rw [rts_succ, if_neg hne, List.append_nil]
            refine ⟨.inl ⟨rfl, _, SqL.of c6⟩, _, rfl, _, _, _, rfl, rfl, c6, small1000 (by rw [List.length_map]; omega), ?_⟩
            rw [show ((grp i (lf ls) (lf ls (i : Int))).map V.int ++ [V.int (i : Int)]) = (grp (i + 1) (lf ls) (lf ls (i : Int))).map V.int by rw [grp_succ, if_pos rfl, List.map_append]; rfl]
            have nd2 : d ≠ ad (lf ls (i : Int)) := ne_of_none hd n1
            refine ⟨ad, _, _, rfl, (s4.trans s46).upd (none_back sd n1), ?_, ?_, ?_, ?_⟩
            · intro b o hb e
              rw [upd_ne (fun z => by rw [z, n1] at e; cases e)]
              exact s46 _ _ (sx4 b o hb e)
            · rw [upd_ne nd2, rs]; exact d6
            · intro r hr
              rw [rs] at hr
              obtain ⟨n2, c2⟩ := g4 r hr
              refine ⟨n2, ?_⟩
              by_cases e : r = lf ls (i : Int)
              · rw [e]; exact upd_same
              · rw [upd_ne (fun z => e (inj _ hr _ hm z)), grp_succ, if_neg (fun z => e z.symm), List.append_nil]
                exact s46 _ _ c2
            · rw [rs]; exact inj
          · rw [if_neg hm] at hv; cases hv
        · rw [valV_key] at hv
          have hm : ¬ lf ls (i : Int) ∈ rts i (lf ls) := fun z => by rw [if_pos z] at hv; cases hv
          have hei : lf ls (i : Int) = (i : Int) := by
            by_cases z : lf ls (i : Int) < (i : Int)
            · exact absurd (mem_rts.mpr ⟨lo.1, z, id1⟩) hm
            · omega
          have rs : rts (i + 1) (lf ls) = rts i (lf ls) ++ [(i : Int)] := by rw [rts_succ, if_pos hei]
          have g0 : grp i (lf ls) (i : Int) = [] := by
            rw [List.eq_nil_iff_forall_not_mem]
            intro p' hp'
            have := mem_grp.mp hp'
            have := Lf p' this.1 (by omega)
            omega
          have pk : putK ((rts i (lf ls)).map fun r => ((Sum.inl r : Key), V.ref (ad r))) (Sum.inl (lf ls (i : Int))) (V.ref q) = (rts (i + 1) (lf ls)).map fun r => ((Sum.inl r : Key), V.ref (if r = (i : Int) then q else ad r)) := by
            rw [putK_new _ (by rw [valV_key, if_neg hm]), rs, List.map_append, hei]
            congr 1
            · refine List.map_congr_left fun r hr => ?_
              rw [if_neg (show ¬ r = (i : Int) from fun z => by have := (mem_rts.mp hr).2.1; omega)]
            · rw [List.map_cons, List.map_nil, if_pos rfl]
          rw [pk]
          have nqd : q ≠ d := (ne_of_none d5 nq).symm
          have q7 : (upd H6 d (.dK ((rts (i + 1) (lf ls)).map fun r => ((Sum.inl r : Key), V.ref (if r = (i : Int) then q else ad r))))) q = some (.lst []) := by rw [upd_ne nqd]; exact q6
          have nq3 : H3 q = none := by
            cases e : H3 q with
            | none => rfl
            | some o => have := s5 _ _ (sx4 _ _ nqd e); rw [nq] at this; cases this
          refine ⟨.inl ⟨rfl, _, SqL.of q7⟩, _, rfl, q, _, _, rfl, rfl, q7, small1000 (by decide), ?_⟩
          refine ⟨fun r => if r = (i : Int) then q else ad r, _, _, rfl, ((s4.trans s46).upd ndH).upd (none_back sd nq3), ?_, ?_, ?_, ?_⟩
          · intro b o hb e
            rw [upd_ne (fun z => by rw [z, nq3] at e; cases e), upd_ne hb]
            exact s46 _ _ (sx4 b o hb e)
          · rw [upd_ne nqd.symm]; exact upd_same
          · intro r hr
            rw [rs] at hr
            rcases List.mem_append.mp hr with y | y
            · obtain ⟨n2, c2⟩ := g4 r y
              have hne : ¬ r = (i : Int) := fun z => by have := (mem_rts.mp y).2.1; omega
              dsimp only
              rw [if_neg hne]
              refine ⟨n2, ?_⟩
              rw [upd_ne (ne_of_none (s5 _ _ c2) nq), upd_ne (fun z => by rw [z, hd] at n2; cases n2), grp_succ, if_neg (by rw [hei]; exact fun z => hne z.symm), List.append_nil]
              exact s46 _ _ c2
            · have e : r = (i : Int) := List.mem_singleton.mp y
              dsimp only
              rw [if_pos e]
              refine ⟨nq3, ?_⟩
              rw [e, grp_succ, if_pos hei, g0]
              exact upd_same
          · intro r hr r' hr' e
            rw [rs] at hr hr'
            have key : ∀ r ∈ rts i (lf ls), ad r ≠ q := fun r y z => by
              have := s5 _ _ (g4 r y).2
              rw [z, nq] at this; cases this
            dsimp only at e
            rcases List.mem_append.mp hr with y | y <;> rcases List.mem_append.mp hr' with y' | y'
            · rw [if_neg (fun z => by have := (mem_rts.mp y).2.1; omega), if_neg (fun z => by have := (mem_rts.mp y').2.1; omega)] at e
              exact inj r y r' y' e
            · rw [if_neg (fun z => by have := (mem_rts.mp y).2.1; omega), if_pos (List.mem_singleton.mp y')] at e
              exact absurd e (key r y)
            · rw [if_pos (List.mem_singleton.mp y), if_neg (fun z => by have := (mem_rts.mp y').2.1; omega)] at e
              exact absurd e.symm (key r' y')
            · rw [List.mem_singleton.mp y, List.mem_singleton.mp y']
      · rintro σ H4 ⟨ad, v5, v6, rfl, s4, sx4, d4, g4, inj⟩
        rw [hlm, hll] at d4 g4 inj
        refine ⟨_, rfl, d, _, rfl, d4, fun l nl => ?_⟩
        rw [List.map_map]
        refine k l (lf ls) _ hL ⟨s4.next nl, none_back s4 nl, ad, upd_same, fun r hr => ?_, inj⟩
        obtain ⟨n2, c2⟩ := g4 r hr
        have hne : ad r ≠ l := ne_of_none c2 nl
        exact ⟨none_back sd n2, hne, by rw [upd_ne hne]; exact c2⟩
def spLe (K : PySem.W.Frag) (c : Cs) : Sp := fun vs H Q E => ∃ (x : Addr) (p m : Int) (es : List (Int × Int)), vs = [.ref x, .int p] ∧ WebAt K c.Web H x m es ∧ 1 ≤ m ∧ m ≤ 20 ∧ es.length ≤ 40 ∧ EndsIn es m ∧ (¬ (0 ≤ p ∧ p < (es.length : Int)) → E (.ref c.BadTie) none H) ∧
  (0 ≤ p → p < (es.length : Int) → ∀ y H', Same H H' → WebAt K c.Web H' y m (es.take p.toNat ++ es.drop (p.toNat + 1)) → Q (.ref y) H')
theorem scLe : FnScope ["web", "tie"] ["web", "tie"] (defScope sLe) := ⟨rfl, rfl, rfl, by decide +kernel, rfl, by decide +kernel, by decide +kernel⟩
set_option maxHeartbeats 4000000 in
theorem ok_Le {f : Addr} {fd : FuncData} (F : Fun K "less" "less" sLe f fd) (T : Txt K mg c) (D_N : MkDef P w K mg base 1 "Web" c.Web ["self", "many", "ties"] (spInit K c.Web)) (D_Ti : DefE P w K mg base 1 "check_tie" ["web", "tie"] (spTi K c.Web c.BadTie)) : FnOk P w K mg base (CXE P w) 3 f fd ["web", "tie"] (spLe K c) := by
  refine F.okE scLe (fun vs H Q E h => ?_) (fun cdv A outer s H vs Q E hr h => ?_)
  · obtain ⟨x, p, m, es, rfl, _⟩ := h
    rfl
  · obtain ⟨x, p, m, es, rfl, hw, m1, m2, hz, hE, k1, k2⟩ := h
    refine ⟨_, pss_cons (ps_expr (pe_defE D_Ti hr rfl rfl (pa_cons (pv 0) (pa_cons (pv 1) pa_nil))))
      (pss_one (ps_ret (pe_web D_N hr (pa_cons (pMany (K := K) rfl T.web (pv 0)) (pa_cons (pe_op (opCat0 (K := K) rfl) (pe_slice (slT (K := K) rfl) (pTies (K := K) rfl T.web (pv 0)) (po_none) (po_some (pv 1))) (pe_slice (slT (K := K) rfl) (pTies (K := K) rfl T.web (pv 0)) (po_some (pe_op op_add (pv 1) (pe_int))) (po_none))) pa_nil))))), ?_⟩
    refine ⟨_, rfl, _, rfl, x, p, m, es, rfl, hw, fun h0 h1 => ?_, fun z => k1 z⟩
    refine ⟨_, rfl, x, m, es, rfl, hw, _, rfl, x, m, es, rfl, hw, fun t ys ht hp => ⟨_, rfl, _, rfl, t, ys, rfl, SqT.of ht, ?_, fun c1 n1 => ?_⟩⟩
    · have hl := hp.len
      rintro ⟨_, z⟩
      have e : (if p < 0 then (p + (ys.length : Int)).toNat else min p.toNat ys.length) = ys.length := z
      rw [if_neg (by omega)] at e
      omega
    have hl := hp.len
    rw [cutV_to h0 (by omega)]
    have s1 : Same H (upd H c1 (.tup (ys.take p.toNat))) := Same.new n1
    have e1 : (upd H c1 (.tup (ys.take p.toNat))) c1 = some (.tup (ys.take p.toNat)) := upd_same
    generalize upd H c1 (.tup (ys.take p.toNat)) = H1 at s1 e1
    refine ⟨_, rfl, x, m, es, rfl, hw.same s1, fun t2 ys2 ht2 hp2 => ⟨_, rfl, _, _, rfl, rfl, _, rfl, t2, ys2, rfl, SqT.of ht2, ?_, fun c2 n2 => ?_⟩⟩
    · rintro ⟨z, _⟩
      have e : (if p + 1 < 0 then (p + 1 + (ys2.length : Int)).toNat else min (p + 1).toNat ys2.length) = 0 := z
      have hl2 := hp2.len
      rw [if_neg (by omega)] at e
      omega
    have hl2 := hp2.len
    rw [cutV_from h0 (by omega)]
    have s2 := s1.next (o := .tup (ys2.drop (p.toNat + 1))) n2
    have e12 := Same.new (o := .tup (ys2.drop (p.toNat + 1))) n2 _ _ e1
    have hp2' := hp2.same (Same.new (o := .tup (ys2.drop (p.toNat + 1))) n2)
    refine ⟨c1, c2, _, _, rfl, rfl, SqT.of e12, SqT.of upd_same, Nat.le_of_lt (small1000 (by rw [List.length_take, List.length_drop]; omega)), fun q H3 s3 hq => ?_⟩
    have s03 := s2.trans s3
    refine ⟨q, m, _, es.take p.toNat ++ es.drop (p.toNat + 1), rfl, .inr hq, Pairs.append ((hp.take p.toNat).same s03) ((hp2'.drop (p.toNat + 1)).same s3), m1, m2, by rw [List.length_append, List.length_take, List.length_drop]; omega, fun e he => ?_, fun y H4 ny s4 hwy => k2 h0 h1 y H4 (s03.trans s4) hwy⟩
    rcases List.mem_append.mp he with y | y
    · exact hE e (List.mem_of_mem_take y)
    · exact hE e (List.mem_of_mem_drop y)
def rn (lo hi p : Int) : Int := if p > hi then p - 1 else if p = hi then lo else p
def rnE (lo hi : Int) (e : Int × Int) : Int × Int := (rn lo hi e.1, rn lo hi e.2)
def jm (e : Int × Int) (m : Int) : Int := if e.1 = e.2 then m else m - 1
def jes (e : Int × Int) (rs : List (Int × Int)) : List (Int × Int) := if e.1 = e.2 then rs else rs.map (rnE (min e.1 e.2) (max e.1 e.2))
theorem rn_in {lo hi p m : Int} (h0 : 0 ≤ lo) (h1 : lo < hi) (h2 : hi < m) (h3 : 0 ≤ p) (h4 : p < m) : 0 ≤ rn lo hi p ∧ rn lo hi p < m - 1 := by
  unfold rn
  by_cases c1 : p > hi
  · rw [if_pos c1]; omega
  · rw [if_neg c1]
    by_cases c2 : p = hi
    · rw [if_pos c2]; omega
    · rw [if_neg c2]; omega
theorem rn_ends {lo hi m : Int} {rs : List (Int × Int)} (h0 : 0 ≤ lo) (h1 : lo < hi) (h2 : hi < m) (hE : EndsIn rs m) : EndsIn (rs.map (rnE lo hi)) (m - 1) := fun e he => by
  obtain ⟨a, ha, rfl⟩ := List.mem_map.mp he
  obtain ⟨a1, a2, a3, a4⟩ := hE a ha
  have r1 := rn_in h0 h1 h2 a1 a2
  have r2 := rn_in h0 h1 h2 a3 a4
  exact ⟨r1.1, r1.2, r2.1, r2.2⟩
def nmL (hi : Int) : Nat → List Int
  | 0 => []
  | i + 1 => nmL hi i ++ [if (0 + (i : Nat) : Int) > hi then (0 + (i : Nat) : Int) - 1 else (0 + (i : Nat) : Int)]
theorem nmL_len (hi : Int) : ∀ n, (nmL hi n).length = n
  | 0 => rfl
  | n + 1 => by show (nmL hi n ++ _).length = _; rw [List.length_append, nmL_len hi n]; rfl
theorem nmL_get (hi : Int) : ∀ n p : Nat, p < n → (nmL hi n).getD p 0 = if (p : Int) > hi then (p : Int) - 1 else (p : Int)
  | 0, p, h => absurd h (Nat.not_lt_zero _)
  | n + 1, p, h => by
    show (nmL hi n ++ _).getD p 0 = _
    by_cases e : p < n
    · rw [List.getD_eq_getElem?_getD, List.getElem?_append_left (by rw [nmL_len]; exact e), ← List.getD_eq_getElem?_getD]
      exact nmL_get hi n p e
    · have e' : p = n := by omega
      subst e'
      rw [List.getD_eq_getElem?_getD, List.getElem?_append_right (by rw [nmL_len]; exact Nat.le_refl _), nmL_len, Nat.sub_self, Int.zero_add]; rfl
theorem nums_get {lo hi : Int} {n : Nat} {p : Int} (h0 : 0 ≤ hi) (hp : 0 ≤ p) (hn : p < (n : Int)) : ((nmL hi n).set hi.toNat lo).getD p.toNat 0 = rn lo hi p := by
  rw [getD_set (by rw [nmL_len]; omega), nmL_get hi n p.toNat (by omega), Int.toNat_of_nonneg hp]
  unfold rn
  by_cases c : hi.toNat = p.toNat
  · rw [if_pos c, if_neg (by omega), if_pos (by omega)]
  · rw [if_neg c]
    by_cases c1 : p > hi
    · rw [if_pos c1, if_pos c1]
    · rw [if_neg c1, if_neg c1, if_neg (by omega)]
theorem min_of {e : Int × Int} {M : Int} (h : M ∈ [e.1, e.2]) (hl : ∀ a ∈ [e.1, e.2], M ≤ a) : M = min e.1 e.2 := by
  have a1 := hl e.1 (by simp)
  have a2 := hl e.2 (by simp)
  simp at h
  omega
theorem max_of {e : Int × Int} {M : Int} (h : M ∈ [e.1, e.2]) (hl : ∀ a ∈ [e.1, e.2], a ≤ M) : M = max e.1 e.2 := by
  have a1 := hl e.1 (by simp)
  have a2 := hl e.2 (by simp)
  simp at h
  omega
def spJo (K : PySem.W.Frag) (c : Cs) : Sp := fun vs H Q E => ∃ (x : Addr) (p m : Int) (es : List (Int × Int)), vs = [.ref x, .int p] ∧ WebAt K c.Web H x m es ∧ 1 ≤ m ∧ m ≤ 20 ∧ es.length ≤ 40 ∧ EndsIn es m ∧ (¬ (0 ≤ p ∧ p < (es.length : Int)) → E (.ref c.BadTie) none H) ∧
  (0 ≤ p → p < (es.length : Int) → ∀ y H', Same H H' → WebAt K c.Web H' y (jm (es.getD p.toNat (0, 0)) m) (jes (es.getD p.toNat (0, 0)) (es.take p.toNat ++ es.drop (p.toNat + 1))) → Q (.ref y) H')
theorem scJo : FnScope ["web", "tie", "rest", "low", "high", "numbers"] ["web", "tie"] (defScope sJo) := ⟨rfl, rfl, rfl, by decide +kernel, rfl, by decide +kernel, by decide +kernel⟩
set_option maxHeartbeats 8000000 in
theorem ok_Jo {f : Addr} {fd : FuncData} (F : Fun K "joined" "joined" sJo f fd) (T : Txt K mg c) (D_N : MkDef P w K mg base 1 "Web" c.Web ["self", "many", "ties"] (spInit K c.Web)) (D_Le : DefE P w K mg base 3 "less" ["web", "tie"] (spLe K c)) : FnOk P w K mg base (CXE P w) 4 f fd ["web", "tie"] (spJo K c) := by
  refine F.okE scJo (fun vs H Q E h => ?_) (fun cdv A outer s H vs Q E hr h => ?_)
  · obtain ⟨x, p, m, es, rfl, _⟩ := h
    rfl
  · obtain ⟨x, p, m, es, rfl, hw, m1, m2, hz, hE, k1, k2⟩ := h
    refine ⟨_, pss_cons (ps_set (i := 2) scJo.nd rfl (Or.inl rfl) (pe_defE D_Le hr rfl rfl (pa_cons (pv 0) (pa_cons (pv 1) pa_nil))))
      (pss_cons (ps_set (i := 3) scJo.nd rfl (Or.inl rfl) (pe_callB (cMin (K := K) rfl rfl) (by rfl) T.min PyProof.Rows.boot_min (pa_cons (pe_ix (ixT (K := K) rfl) (pTies (K := K) rfl T.web (pv 0)) (pv 1) (fun _ _ => rfl)) pa_nil)))
      (pss_cons (ps_set (i := 4) scJo.nd rfl (Or.inr rfl) (pe_callB (cMax (K := K) rfl rfl) (by rfl) T.max PyProof.Rows.boot_max (pa_cons (pe_ix (ixT (K := K) rfl) (pTies (K := K) rfl T.web (pv 0)) (pv 1) (fun _ _ => rfl)) pa_nil)))
      (pss_cons (ps_if (pt_cmpR op_eq (pv 3) (pv 4) (nomark _))
        (pss_one (ps_ret (pv 2))) (pss_nil))
      (pss_cons (ps_set (i := 5) scJo.nd rfl (Or.inr rfl) (pe_lc (N' := ["place", "high"]) (nl := 1) (js := [4]) rfl (.of (osc := defScope sJo) (N := ["web", "tie", "rest", "low", "high", "numbers"]) (by decide +kernel) rfl rfl) (pi_range1 rfl T.range (pa_cons (pMany (K := K) rfl T.web (pv 0)) pa_nil))
        (fun _ _ _ _ => pg_name (i := 0) (show (["place", "high"] : List Str).Nodup by decide +kernel) rfl (Or.inl rfl)) (fun _ _ _ _ => pif_nil)
        (fun _ _ _ _ => pe_ifExp (pt_cmpR op_gt (pv 0) (pv 1) (nomark _)) (pe_op op_sub (pv 0) (pe_int)) (pv 0))))
      (pss_cons (ps_asg (pv 3) (pg_sub (pv 5) (pv 4) set_list))
      (pss_one (ps_ret (pe_web D_N hr (pa_cons (pe_op op_sub (pMany (K := K) rfl T.web (pv 0)) (pe_int)) (pa_cons (pe_lc (N' := ["start", "end", "numbers"]) (nl := 2) (js := [5]) rfl (.of (osc := defScope sJo) (N := ["web", "tie", "rest", "low", "high", "numbers"]) (by decide +kernel) rfl rfl) (piSeq (K := K) rfl (pTies (K := K) rfl T.web (pv 2)))
        (fun _ _ _ _ => pgPair (K := K) (i := 0) (j := 1) rfl rfl (show (["start", "end", "numbers"] : List Str).Nodup by decide +kernel) rfl rfl rfl rfl) (fun _ _ _ _ => pif_nil)
        (fun _ _ _ _ => pe_tup (pa_cons (pe_ix (ixL (K := K) rfl) (pv 2) (pv 0) (fun _ _ => rfl)) (pa_cons (pe_ix (ixL (K := K) rfl) (pv 2) (pv 1) (fun _ _ => rfl)) pa_nil)))) pa_nil)))))))))), ?_⟩
    refine ⟨_, rfl, _, rfl, x, p, m, es, rfl, hw, m1, m2, hz, hE, fun z => k1 z, fun h0 h1 y H1 s1 hwy => ?_⟩
    have k := k2 h0 h1
    have hi : p.toNat < es.length := by omega
    have hg : es[p.toNat]? = some (es.getD p.toNat (0, 0)) := by rw [List.getD_eq_getElem?_getD, List.getElem?_eq_getElem hi]; rfl
    have he := hE _ (List.mem_of_getElem? hg)
    have hrs : EndsIn (es.take p.toNat ++ es.drop (p.toNat + 1)) m := fun e he => by
      rcases List.mem_append.mp he with y | y
      · exact hE e (List.mem_of_mem_take y)
      · exact hE e (List.mem_of_mem_drop y)
    have hrl : (es.take p.toNat ++ es.drop (p.toNat + 1)).length ≤ 40 := by rw [List.length_append, List.length_take, List.length_drop]; omega
    generalize es.take p.toNat ++ es.drop (p.toNat + 1) = rs at *
    refine ⟨_, rfl, x, m, es, rfl, hw.same s1, fun t2 ys2 ht2 hp2 => ?_⟩
    obtain ⟨r2, e2, er2, hr2, ei2, _⟩ := hp2.get hi
    rw [hg] at ei2
    cases ei2
    refine ⟨_, rfl, t2, ys2, p, .ref r2, rfl, rfl, SqT.of ht2, atI_int h0 er2, r2, [(es.getD p.toNat (0, 0)).1, (es.getD p.toNat (0, 0)).2], rfl, .inr hr2, (by show 0 < 2; decide), fun lo hlo hlo2 => ?_⟩
    refine ⟨_, rfl, x, m, es, rfl, hw.same s1, fun t3 ys3 ht3 hp3 => ?_⟩
    obtain ⟨r3, e3, er3, hr3, ei3, _⟩ := hp3.get hi
    rw [hg] at ei3
    cases ei3
    refine ⟨_, rfl, t3, ys3, p, .ref r3, rfl, rfl, SqT.of ht3, atI_int h0 er3, r3, [(es.getD p.toNat (0, 0)).1, (es.getD p.toNat (0, 0)).2], rfl, .inr hr3, (by show 0 < 2; decide), fun hh hhi hhi2 => ?_⟩
    have elo := min_of hlo hlo2
    have ehi := max_of hhi hhi2
    generalize es.getD p.toNat (0, 0) = e at *
    refine ⟨_, rfl, _, rfl, rfl, _, rfl, ite2 (fun c1 => ?_) (fun c1 => ?_)⟩
    · have c1' : lo = hh := by have := of_decide_eq_true c1; injection this
      have ee : e.1 = e.2 := by omega
      refine ⟨_, rfl, k y H1 s1 ?_⟩
      unfold jm jes
      rw [if_pos ee, if_pos ee]; exact hwy
    · have c1' : ¬ lo = hh := fun z => c1 (decide_eq_true (by rw [z]))
      have ee : ¬ e.1 = e.2 := by omega
      have b0 : 0 ≤ lo := by omega
      have b1 : lo < hh := by omega
      have b2 : hh < m := by omega
      refine ⟨_, rfl, x, m, es, rfl, hw.same s1, m, rfl, by omega, by omega, ?_⟩
      refine lc_by itok_range (fun i zs H2 => H2 = H1 ∧ zs = (nmL hh i).map V.int) (Nat.le_of_lt (small1000 (by omega))) ⟨rfl, rfl⟩ ?_ ?_ ?_
      · rintro i zs H2 hi ⟨rfl, rfl⟩
        exact ⟨trivial, by rw [List.length_map, nmL_len]; exact Nat.le_refl _⟩
      · rintro i zs H1 hi ⟨rfl, rfl⟩
        have put : ∀ v, v = (if (0 + (i : Nat) : Int) > hh then (0 + (i : Nat) : Int) - 1 else (0 + (i : Nat) : Int)) → (nmL hh i).map V.int ++ [V.int v] = (nmL hh (i + 1)).map V.int := fun v ev => by
          show _ = (nmL hh i ++ _).map V.int
          rw [ev, List.map_append]; rfl
        refine ⟨wk_set rfl, iteT ⟨_, rfl, _, rfl, _, _, rfl, rfl, _, rfl, ite2 (fun d1 => ?_) (fun d1 => ?_)⟩⟩
        · have d1' := of_decide_eq_true d1
          exact ⟨_, rfl, _, _, rfl, rfl, small1000 (by rw [List.length_map, nmL_len]; omega), _, by omega, rfl, hi, rfl, put _ (by rw [if_pos d1'])⟩
        · exact ⟨_, rfl, small1000 (by rw [List.length_map, nmL_len]; omega), _, by omega, rfl, hi, rfl, put _ (by rw [if_neg (fun z => d1 (decide_eq_true z))])⟩
      · rintro zs H1 ⟨rfl, rfl⟩ l nl
        have s2 := s1.next (o := .lst ((nmL hh m.toNat).map V.int)) nl
        have n2 := Same.new (o := .lst ((nmL hh m.toNat).map V.int)) nl
        have e2 : (upd H1 l (.lst ((nmL hh m.toNat).map V.int))) l = some (.lst ((nmL hh m.toNat).map V.int)) := upd_same
        have nlH : H l = none := by
          cases e' : H l with
          | none => rfl
          | some o => have := s1 _ _ e'; rw [nl] at this; cases this
        generalize upd H1 l (.lst ((nmL hh m.toNat).map V.int)) = H2 at s2 n2 e2
        refine ⟨_, rfl, _, rfl, _, rfl, l, _, hh, _, rfl, rfl, e2, ixN_nat (by omega) (by rw [List.length_map, nmL_len]; omega), ?_⟩
        rw [set_ints]
        have s3 := s2.upd (o := .lst (((nmL hh m.toNat).set hh.toNat lo).map V.int)) nlH
        have n3 := n2.upd (o := .lst (((nmL hh m.toNat).set hh.toNat lo).map V.int)) nl
        have e3 : (upd H2 l (.lst (((nmL hh m.toNat).set hh.toNat lo).map V.int))) l = some (.lst (((nmL hh m.toNat).set hh.toNat lo).map V.int)) := upd_same
        generalize upd H2 l (.lst (((nmL hh m.toNat).set hh.toNat lo).map V.int)) = H3 at s3 n3 e3
        refine ⟨_, rfl, x, m, es, rfl, hw.same s3, _, _, rfl, rfl, _, rfl, y, m, rs, rfl, hwy.same n3, fun t4 ys4 ht4 hp4 => ⟨t4, ys4, rfl, .inr (SqT.of ht4), fun J C O hC => ?_⟩⟩
        have hl4 := hp4.len
        refine lc_by O (fun i zs H4 => Same H3 H4 ∧ Pairs K H4 zs ((rs.take i).map (rnE lo hh))) (Nat.le_of_lt (small1000 (by omega))) ⟨Same.refl _, .nil⟩ ?_ ?_ ?_
        · rintro i zs H4 hi ⟨s4, q4⟩
          have := q4.len
          rw [List.length_map, List.length_take] at this
          exact ⟨hC _ s4, by omega⟩
        · rintro i zs H4 hi ⟨s4, q4⟩
          obtain ⟨r, a, er, hr2, ei, ha⟩ := hp4.at hi
          obtain ⟨a1, a2, a3, a4⟩ := hrs a ha
          have hzl := q4.len
          rw [List.length_map, List.length_take] at hzl
          have nl3 : ((nmL hh m.toNat).set hh.toNat lo).length = m.toNat := by rw [List.length_set, nmL_len]
          have at1 := at_int (ns := (nmL hh m.toNat).set hh.toNat lo) a1 (by rw [nl3]; omega)
          have at2 := at_int (ns := (nmL hh m.toNat).set hh.toNat lo) a3 (by rw [nl3]; omega)
          rw [nums_get (by omega) a1 (by omega)] at at1
          rw [nums_get (by omega) a3 (by omega)] at at2
          dsimp only
          rw [er]
          refine ⟨r, _, rfl, s4.tup hr2, rfl, _, _, rfl, _, _, rfl, rfl, wk_set2 rfl rfl, iteT ?_⟩
          refine ⟨_, rfl, _, rfl, l, _, _, _, rfl, rfl, SqL.of (s4 _ _ e3), at1, _, rfl, _, rfl, l, _, _, _, rfl, rfl, SqL.of (s4 _ _ e3), at2, (by show 2 ≤ sizeLine; decide), fun t nt => ⟨small1000 (by omega), _, by omega, rfl, hi, s4.next nt, ?_⟩⟩
          rw [take_snoc ei, List.map_append]
          exact (q4.same (Same.new nt)).snoc (e := rnE lo hh a) (SqT.of upd_same)
        · rintro zs H4 ⟨s4, q4⟩ l6 nl6
          rw [show rs.take ys4.length = rs from List.take_of_length_le (by omega)] at q4
          have s5 := s4.next (o := .lst zs) nl6
          refine ⟨l6, m - 1, zs, rs.map (rnE lo hh), rfl, .inl (SqL.of upd_same), q4.same (Same.new nl6), by omega, by omega, by rw [List.length_map]; exact hrl, rn_ends b0 b1 b2 hrs, fun y2 H7 ny s7 hwy2 => k y2 H7 ((s3.trans s5).trans s7) ?_⟩
          unfold jm jes
          rw [if_neg ee, if_neg ee, ← elo, ← ehi]
          exact hwy2
def spTu (K : PySem.W.Frag) (c : Cs) : Sp := fun vs H Q E => ∃ (x : Addr) (p m : Int) (es : List (Int × Int)), vs = [.ref x, .int p] ∧ WebAt K c.Web H x m es ∧ 1 ≤ m ∧ m ≤ 20 ∧ es.length ≤ 40 ∧ EndsIn es m ∧ (¬ (0 ≤ p ∧ p < (es.length : Int)) → E (.ref c.BadTie) none H) ∧
  (0 ≤ p → p < (es.length : Int) → ∀ y H', Same H H' → WebAt K c.Web H' y m (es.set p.toNat ((es.getD p.toNat (0, 0)).2, (es.getD p.toNat (0, 0)).1)) → Q (.ref y) H')
theorem scTu : FnScope ["web", "tie", "ties"] ["web", "tie"] (defScope sTu) := ⟨rfl, rfl, rfl, by decide +kernel, rfl, by decide +kernel, by decide +kernel⟩
set_option maxHeartbeats 4000000 in
theorem ok_Tu {f : Addr} {fd : FuncData} (F : Fun K "turned" "turned" sTu f fd) (T : Txt K mg c) (D_N : MkDef P w K mg base 1 "Web" c.Web ["self", "many", "ties"] (spInit K c.Web)) (D_Ti : DefE P w K mg base 1 "check_tie" ["web", "tie"] (spTi K c.Web c.BadTie)) : FnOk P w K mg base (CXE P w) 3 f fd ["web", "tie"] (spTu K c) := by
  refine F.okE scTu (fun vs H Q E h => ?_) (fun cdv A outer s H vs Q E hr h => ?_)
  · obtain ⟨x, p, m, es, rfl, _⟩ := h
    rfl
  · obtain ⟨x, p, m, es, rfl, hw, m1, m2, hz, hE, k1, k2⟩ := h
    refine ⟨_, pss_cons (ps_expr (pe_defE D_Ti hr rfl rfl (pa_cons (pv 0) (pa_cons (pv 1) pa_nil))))
      (pss_cons (ps_set (i := 2) scTu.nd rfl (Or.inl rfl) (pe_callTy (cList (K := K) rfl) (by rfl) T.list PyProof.Rows.boot_list (pa_cons (pTies (K := K) rfl T.web (pv 0)) pa_nil)))
      (pss_cons (ps_asg (pe_tup (pa_cons (pe_ix (ixT (K := K) rfl) (pe_ix (ixT (K := K) rfl) (pTies (K := K) rfl T.web (pv 0)) (pv 1) (fun _ _ => rfl)) (pe_int) (fun _ _ => rfl)) (pa_cons (pe_ix (ixT (K := K) rfl) (pe_ix (ixT (K := K) rfl) (pTies (K := K) rfl T.web (pv 0)) (pv 1) (fun _ _ => rfl)) (pe_int) (fun _ _ => rfl)) pa_nil))) (pg_sub (pv 2) (pv 1) set_list))
      (pss_one (ps_ret (pe_web D_N hr (pa_cons (pMany (K := K) rfl T.web (pv 0)) (pa_cons (pv 2) pa_nil))))))), ?_⟩
    refine ⟨_, rfl, _, rfl, x, p, m, es, rfl, hw, fun h0 h1 => ?_, fun z => k1 z⟩
    refine ⟨_, rfl, x, m, es, rfl, hw, fun t ys ht hp => ⟨t, ys, rfl, .inr (SqT.of ht), fun l nl => ?_⟩⟩
    have s1 : Same H (upd H l (.lst ys)) := Same.new nl
    have e1 : (upd H l (.lst ys)) l = some (.lst ys) := upd_same
    generalize upd H l (.lst ys) = H1 at s1 e1
    have hl := hp.len
    have hi : p.toNat < es.length := by omega
    have hg : es[p.toNat]? = some (es.getD p.toNat (0, 0)) := by rw [List.getD_eq_getElem?_getD, List.getElem?_eq_getElem hi]; rfl
    refine ⟨_, rfl, x, m, es, rfl, hw.same s1, fun t2 ys2 ht2 hp2 => ?_⟩
    obtain ⟨r2, e2, er2, hr2, ei2, _⟩ := hp2.get hi
    rw [hg] at ei2
    cases ei2
    refine ⟨_, rfl, t2, ys2, p, .ref r2, rfl, rfl, SqT.of ht2, atI_int h0 er2, r2, _, 1, _, rfl, rfl, hr2, rfl, _, rfl, x, m, es, rfl, hw.same s1, fun t3 ys3 ht3 hp3 => ?_⟩
    obtain ⟨r3, e3, er3, hr3, ei3, _⟩ := hp3.get hi
    rw [hg] at ei3
    cases ei3
    refine ⟨_, rfl, t3, ys3, p, .ref r3, rfl, rfl, SqT.of ht3, atI_int h0 er3, r3, _, 0, _, rfl, rfl, hr3, rfl, (by show 2 ≤ sizeLine; decide), fun tt ntt => ?_⟩
    have he := hE _ (List.mem_of_getElem? hg)
    generalize es.getD p.toNat (0, 0) = e at *
    have s2 := s1.next (o := .tup [.int e.2, .int e.1]) ntt
    have e12 := Same.new (o := .tup [.int e.2, .int e.1]) ntt _ _ e1
    have t2' : (upd H1 tt (.tup [.int e.2, .int e.1])) tt = some (.tup [.int e.2, .int e.1]) := upd_same
    generalize upd H1 tt (.tup [.int e.2, .int e.1]) = H2 at s2 e12 t2'
    refine ⟨_, rfl, _, rfl, l, _, p, _, rfl, rfl, e12, ixN_nat h0 (by omega), ?_⟩
    have x3 : SameX l H2 (upd H2 l (.lst (ys.set p.toNat (.ref tt)))) := sameX_upd
    have s3 := s2.upd (o := .lst (ys.set p.toNat (.ref tt))) nl
    have p3 := Pairs.set (e := (e.2, e.1)) (SqT.of (x3 _ _ (ne_of t2' e12 (by intro z; cases z)) t2')) p.toNat ((hp.same s2).sameX x3 e12)
    refine ⟨_, rfl, x, m, es, rfl, hw.same s3, _, rfl, l, m, _, es.set p.toNat (e.2, e.1), rfl, .inl (SqL.of upd_same), p3, m1, m2, by rw [List.length_set]; exact hz, fun e' he' => ?_, fun y H4 ny s4 hwy => k2 h0 h1 y H4 (s3.trans s4) hwy⟩
    rcases List.mem_or_eq_of_mem_set he' with y | y
    · exact hE e' y
    · rw [y]; exact ⟨he.2.2.1, he.2.2.2, he.1, he.2.1⟩
def spPu (K : PySem.W.Frag) (c : Cs) : Sp := fun vs H Q E => ∃ (x y : Addr) (m n : Int) (es fs : List (Int × Int)), vs = [.ref x, .ref y] ∧ WebAt K c.Web H x m es ∧ WebAt K c.Web H y n fs ∧ 1 ≤ m ∧ m ≤ 20 ∧ 1 ≤ n ∧ n ≤ 20 ∧ es.length ≤ 40 ∧ fs.length ≤ 40 ∧ EndsIn es m ∧ EndsIn fs n ∧
  (Big (m + n) (es ++ fs.map (shf m)) → ∀ H', Same H H' → E (.ref c.TooMany) none H') ∧ (¬ Big (m + n) (es ++ fs.map (shf m)) → ∀ z H', Same H H' → WebD K c.Web H' z (m + n) (es ++ fs.map (shf m)) → Q (.ref z) H')
theorem scPu : FnScope ["one", "two", "behind"] ["one", "two"] (defScope sPu) := ⟨rfl, rfl, rfl, by decide +kernel, rfl, by decide +kernel, by decide +kernel⟩
set_option maxHeartbeats 4000000 in
theorem ok_Pu {f : Addr} {fd : FuncData} (F : Fun K "put_together" "put_together" sPu f fd) (T : Txt K mg c) (D_NE : MkDefE P w K mg base 1 "Web" c.Web ["self", "many", "ties"] (spInitT K c.Web c.TooMany c.BadWeb)) : FnOk P w K mg base (CXE P w) 3 f fd ["one", "two"] (spPu K c) := by
  refine F.okE scPu (fun vs H Q E h => ?_) (fun cdv A outer s H vs Q E hr h => ?_)
  · obtain ⟨x, y, m, n, es, fs, rfl, _⟩ := h
    rfl
  · obtain ⟨x, y, m, n, es, fs, rfl, hx, hy, m1, m2, n1, n2, ze, zf, hE, hF, k1, k2⟩ := h
    refine ⟨_, pss_cons (ps_setlc (i := 2) (N' := ["start", "end", "one"]) (nl := 2) (js := [0]) rfl (.of (osc := defScope sPu) (N := ["one", "two", "behind"]) (by decide +kernel) rfl rfl) (piSeq (K := K) rfl (pTies (K := K) rfl T.web (pv 1)))
        (fun _ _ _ _ => pgPair (K := K) (i := 0) (j := 1) rfl rfl (show (["start", "end", "one"] : List Str).Nodup by decide +kernel) rfl rfl rfl rfl) (fun _ _ _ _ => pif_nil)
        (fun _ _ _ _ => pe_tup (pa_cons (pe_op op_add (pMany (K := K) rfl T.web (pv 2)) (pv 0)) (pa_cons (pe_op op_add (pMany (K := K) rfl T.web (pv 2)) (pv 1)) pa_nil))) scPu.nd rfl rfl)
      (pss_one (ps_ret (pe_webT (K := K) rfl D_NE hr rfl (pa_cons (pe_op op_add (pMany (K := K) rfl T.web (pv 0)) (pMany (K := K) rfl T.web (pv 1))) (pa_cons (pe_op op_cat (pe_callTy (cList (K := K) rfl) (by rfl) T.list PyProof.Rows.boot_list (pa_cons (pTies (K := K) rfl T.web (pv 0)) pa_nil)) (pv 2)) pa_nil))))), ?_⟩
    refine ⟨_, rfl, y, n, fs, rfl, hy, fun t ys ht hp => ⟨t, ys, rfl, .inr (SqT.of ht), fun J C O hC => ?_⟩⟩
    have hl := hp.len
    refine lc_by O (fun i zs H2 => Same H H2 ∧ Pairs K H2 zs ((fs.take i).map fun e => (m + e.1, m + e.2))) (Nat.le_of_lt (small1000 (by omega))) ⟨Same.refl _, .nil⟩ ?_ ?_ ?_
    · rintro i zs H2 hi ⟨s2, q2⟩
      have := q2.len
      rw [List.length_map, List.length_take] at this
      exact ⟨hC _ s2, by omega⟩
    · rintro i zs H2 hi ⟨s2, q2⟩
      obtain ⟨r, a, er, hr2, ei, ha⟩ := hp.at hi
      have hzl := q2.len
      rw [List.length_map, List.length_take] at hzl
      dsimp only
      rw [er]
      refine ⟨r, _, rfl, s2.tup hr2, rfl, _, _, rfl, _, _, rfl, rfl, wk_set2 rfl rfl, iteT ?_⟩
      refine ⟨_, rfl, x, m, es, rfl, hx.same s2, _, rfl, _, _, rfl, rfl, _, rfl, x, m, es, rfl, hx.same s2, _, rfl, _, _, rfl, rfl, (by show 2 ≤ sizeLine; decide), fun t nt => ⟨small1000 (by omega), _, by omega, rfl, hi, s2.next nt, ?_⟩⟩
      rw [take_snoc ei, List.map_append]
      exact (q2.same (Same.new nt)).snoc (e := (m + a.1, m + a.2)) (SqT.of upd_same)
    · rintro zs H2 ⟨s2, q2⟩ l6 nl6
      rw [show fs.take ys.length = fs from List.take_of_length_le (by omega)] at q2
      have s3 := s2.next (o := .lst zs) nl6
      have e3 : (upd H2 l6 (.lst zs)) l6 = some (.lst zs) := upd_same
      have q3 := q2.same (Same.new (o := .lst zs) nl6)
      generalize upd H2 l6 (.lst zs) = H3 at s3 e3 q3
      refine ⟨_, rfl, x, m, es, rfl, hx.same s3, _, rfl, y, n, fs, rfl, hy.same s3, _, _, rfl, rfl, ?_⟩
      refine ⟨_, rfl, x, m, es, rfl, hx.same s3, fun t4 ys4 ht4 hp4 => ⟨t4, ys4, rfl, .inr (SqT.of ht4), fun l7 nl7 => ?_⟩⟩
      have s4 := s3.next (o := .lst ys4) nl7
      have n4 := Same.new (o := .lst ys4) nl7
      have e4 : (upd H3 l7 (.lst ys4)) l7 = some (.lst ys4) := upd_same
      generalize upd H3 l7 (.lst ys4) = H4 at s4 n4 e4
      have hl4 := hp4.len
      have hlz := q3.len
      rw [List.length_map] at hlz
      refine ⟨_, rfl, l7, l6, _, _, rfl, rfl, e4, n4 _ _ e3, Nat.le_of_lt (small1000 (by omega)), fun l8 nl8 => ?_⟩
      have s5 := s4.next (o := .lst (ys4 ++ zs)) nl8
      have n5 := n4.trans (Same.new (o := .lst (ys4 ++ zs)) nl8)
      have hE2 : EndsIn (es ++ fs.map (shf m)) (m + n) := fun e he => by
        rcases List.mem_append.mp he with h | h
        · obtain ⟨a, b, c, d⟩ := hE e h; exact ⟨a, by omega, c, by omega⟩
        · obtain ⟨a, ha, rfl⟩ := List.mem_map.mp h
          obtain ⟨b1, b2, b3, b4⟩ := hF a ha
          exact ⟨by show 0 ≤ m + a.1; omega, by show m + a.1 < m + n; omega, by show 0 ≤ m + a.2; omega, by show m + a.2 < m + n; omega⟩
      exact ⟨l8, m + n, ys4 ++ zs, es ++ fs.map (shf m), rfl, .inl (SqL.of upd_same), Pairs.append (hp4.same n5) (q3.same n5), by rw [List.length_append, List.length_map]; omega, fun z H7 s7 => k1 z H7 (s5.trans s7), fun _ z => absurd hE2 z, fun z _ w H7 nw s7 hw => k2 z w H7 (s5.trans s7) hw⟩
def spC (K : PySem.W.Frag) : Sp := fun vs H Q _ => ∃ (a : Addr) (ns : List Int) (k : Int), vs = [.ref a, .int k] ∧ SqL K H a (ns.map V.int) ∧ 0 ≤ k ∧ Q (.int (ns.getD k.toNat 0)) H
theorem scC : FnScope ["script", "k"] ["script", "k"] (defScope sC) := ⟨rfl, rfl, rfl, by decide +kernel, rfl, by decide +kernel, by decide +kernel⟩
theorem ok_C {f : Addr} {fd : FuncData} (F : Fun K "_law_cell" "_law_cell" sC f fd) (T : Txt K mg c) : FnOk P w K mg base CX0 1 f fd ["script", "k"] (spC K) := by
  refine F.ok scC (fun vs H Q E h => ?_) (fun cdv A outer s H vs Q E hr h => ?_)
  · obtain ⟨a, ns, k, rfl, _⟩ := h
    rfl
  · obtain ⟨a, ns, k, rfl, hS, h0, q⟩ := h
    refine ⟨_, pss_cons (ps_if (pt_cmpR op_lt (pv 1) (pe_callB (cLen (K := K) rfl) (by rfl) T.len PySem.boot_len (pa_cons (pv 0) pa_nil)) (nomark _))
        (pss_one (ps_ret (pe_ix (ixL (K := K) rfl) (pv 0) (pv 1) (fun _ _ => rfl)))) (pss_nil))
      (pss_one (ps_ret (pe_int))), ?_⟩
    refine ⟨_, rfl, _, rfl, a, _, rfl, .inl hS, _, _, rfl, rfl, _, rfl, ?_⟩
    refine ite2 (fun c => ?_) (fun c => ?_)
    · have c' := of_decide_eq_true c
      rw [List.length_map] at c'
      exact ⟨_, rfl, _, rfl, a, _, k, _, rfl, rfl, hS, at_int h0 c', q⟩
    · have c' : ¬ k < ((ns.map V.int).length : Int) := fun z => c (decide_eq_true z)
      rw [List.length_map] at c'
      have e : ns.getD k.toNat 0 = 0 := by rw [List.getD_eq_getElem?_getD, List.getElem?_eq_none (by omega)]; rfl
      rw [e] at q
      exact q
def spE (K : PySem.W.Frag) : Sp := fun vs H Q _ => ∃ (a : Addr) (ns : List Int) (m c y : Int), vs = [.ref a, .int m, .int c, .int y] ∧ SqL K H a (ns.map V.int) ∧ 1 ≤ m ∧ m ≤ 1000 ∧ 0 ≤ c ∧ c ≤ 1000 ∧
  ∀ (l : Addr) (xs : List V) (es : List (Int × Int)) (H' : Hp), H l = none → Same H H' → H' l = some (.lst xs) → Pairs K H' xs es → es.length = c.toNat → EndsIn es m → Q (.ref l) H'
theorem scE : FnScope ["script", "many", "count", "way", "found", "rest", "k", "cell"] ["script", "many", "count", "way"] (defScope sE) := ⟨rfl, rfl, rfl, by decide +kernel, rfl, by decide +kernel, by decide +kernel⟩
theorem ok_E {f : Addr} {fd : FuncData} (F : Fun K "_law_ends" "_law_ends" sE f fd) (T : Txt K mg c) (D_C : Def P w K mg base 1 "_law_cell" ["script", "k"] (spC K)) : FnOk P w K mg base CX0 2 f fd ["script", "many", "count", "way"] (spE K) := by
  refine F.ok scE (fun vs H Q E h => ?_) (fun cdv A outer s H vs Q E hr h => ?_)
  · obtain ⟨a, ns, m, c, y, rfl, _⟩ := h
    rfl
  · obtain ⟨a, ns, m, c, y, rfl, hS, m1, m2, c1, c2, k⟩ := h
    refine ⟨_, pss_cons (ps_set (i := 4) scE.nd rfl (Or.inl rfl) (pe_lst pa_nil))
      (pss_cons (ps_set (i := 5) scE.nd rfl (Or.inl rfl) (pe_defR D_C hr (pa_cons (pv 0) (pa_cons (pe_int) pa_nil))))
      (pss_cons (ps_cut (ps_if (pt_cmpR op_eq (pv 3) (pe_int) (nomark _))
        (pss_one (ps_set (i := 5) scE.nd rfl (Or.inl rfl) (pe_op op_mod (pv 5) (pe_int)))) (pss_nil)))
      (pss_cons (ps_for PassesOwn.never rfl (pi_range1 rfl T.range (pa_cons (pv 2) pa_nil)) (pg_name (i := 6) scE.nd rfl (Or.inl rfl))
        (pss_cons (ps_set (i := 7) scE.nd rfl (Or.inl rfl) (pe_defR D_C hr (pa_cons (pv 0) (pa_cons (pe_op op_add (pe_int) (pv 6)) pa_nil))))
      (pss_cons (ps_cut (ps_if (pt_cmpR op_eq (pv 3) (pe_int) (nomark _))
        (pss_cons (ps_set (i := 7) scE.nd rfl (Or.inl rfl) (pe_op op_mod (pv 5) (pe_op op_mul (pv 1) (pv 1))))
      (pss_one (ps_set (i := 5) scE.nd rfl (Or.inl rfl) (pe_op op_fdiv (pv 5) (pe_op op_mul (pv 1) (pv 1)))))) (pss_nil)))
      (pss_cons (ps_cut (ps_if (pt_cmpR op_eq (pv 3) (pe_int) (nomark _))
        (pss_cons (ps_set (i := 5) scE.nd rfl (Or.inl rfl) (pe_op op_mod (pe_op op_mul (pe_op op_add (pe_op op_add (pv 5) (pe_op op_mul (pe_int) (pv 6))) (pe_int)) (pe_int)) (pe_int)))
      (pss_cons (ps_set (i := 5) scE.nd rfl (Or.inl rfl) (pe_op op_mod (pe_op op_mul (pv 5) (pv 5)) (pe_int)))
      (pss_one (ps_set (i := 7) scE.nd rfl (Or.inl rfl) (pe_op op_fdiv (pv 5) (pe_int)))))) (pss_nil)))
      (pss_one (ps_expr (pe_bm PySem.F.plainAttrs_list PySem.F.slot_list_append PySem.F.type_list_append mt_append (pv 4) (pa_cons (pe_tup (pa_cons (pe_op op_mod (pv 7) (pv 1)) (pa_cons (pe_op op_mod (pe_op op_fdiv (pv 7) (pv 1)) (pv 1)) pa_nil))) pa_nil))))))))
      (pss_one (ps_ret (pv 4)))))), ?_⟩
    refine ⟨by decide, fun l hl => ?_⟩
    have s0 : Same H (upd H l (.lst [])) := Same.new hl
    refine ⟨_, rfl, a, ns, 1, rfl, s0.seq hS, by decide, ?_⟩
    generalize ns.getD (1 : Int).toNat 0 = r0
    refine ⟨fun σ' H' => H' = upd H l (.lst []) ∧ ∃ r, (y = 2 → 0 ≤ r ∧ r < 1000000007) ∧ σ' = [some (.ref a), some (.int m), some (.int c), some (.int y), some (.ref l), some (.int r), none, none], ?_, ?_⟩
    · refine ⟨_, rfl, rfl, _, rfl, ite2 (fun c1 => ?_) (fun c1 => ?_)⟩
      · refine ⟨_, rfl, _, _, rfl, rfl, (by show (0 : Int) < 1000000007; decide), ?_⟩
        exact ⟨rfl, _, fun _ => ⟨Int.emod_nonneg _ (by decide), Int.emod_lt_of_pos _ (by decide)⟩, rfl⟩
      · exact ⟨rfl, _, fun e => (c1 (by rw [e]; rfl)).elim, rfl⟩
    · rintro σ' H' ⟨rfl, r, hr0, rfl⟩
      refine ⟨_, rfl, c, rfl, by omega, by omega, for_by itok_range (fun i σ H2 => ∃ (r : Int) (xs : List V) (es : List (Int × Int)) (v6 v7 : Option V), σ = [some (.ref a), some (.int m), some (.int c), some (.int y), some (.ref l), some (.int r), v6, v7] ∧
        (y = 2 → 0 ≤ r ∧ r < 1000000007) ∧ Same H H2 ∧ H2 l = some (.lst xs) ∧ Pairs K H2 xs es ∧ es.length = i ∧ EndsIn es m) ⟨r, [], [], none, none, rfl, hr0, s0, upd_same, .nil, rfl, EndsIn.nil⟩ (fun _ _ _ _ _ => trivial) ?_ ?_⟩
      · rintro i σ H2 hi ⟨r, xs, es, v6, v7, rfl, hr, sH, hl2, hp, he, hE⟩
        refine ⟨_, rfl, _, rfl, _, _, rfl, rfl, a, ns, _, rfl, sH.seq hS, by omega, ?_⟩
        generalize ns.getD ((2 : Int) + (0 + (i : Nat))).toNat 0 = c0
        refine ⟨fun σ' H' => H' = H2 ∧ ∃ r' c', (y = 2 → 0 ≤ r' ∧ r' < 1000000007) ∧ σ' = [some (.ref a), some (.int m), some (.int c), some (.int y), some (.ref l), some (.int r'), some (.int (0 + (i : Nat))), some (.int c')], ?_, ?_⟩
        · refine ⟨_, rfl, rfl, _, rfl, ite2 (fun c1 => ?_) (fun c1 => ?_)⟩
          · have hy : y = 1 := by simpa using c1
            have hmm : 0 < m * m := Int.mul_pos (by omega) (by omega)
            have hmm2 : m * m < 1073741824 := by
              have : m * m ≤ 1000 * 1000 := Int.mul_le_mul m2 m2 (by omega) (by decide)
              omega
            refine ⟨_, rfl, _, rfl, _, rfl, _, _, rfl, rfl, .inl ⟨by omega, by omega⟩, _, _, rfl, rfl, hmm, _, rfl, _, rfl, _, rfl, _, _, rfl, rfl, .inl ⟨by omega, by omega⟩, _, _, rfl, rfl, ⟨hmm, hmm2⟩, ?_⟩
            exact ⟨rfl, _, _, fun e => by omega, rfl⟩
          · exact ⟨rfl, _, _, hr, rfl⟩
        · rintro σ' H2 ⟨rfl, r', c', hr', rfl⟩
          refine ⟨fun σ' H' => H' = H2 ∧ ∃ r' c', (y = 2 → 0 ≤ r' ∧ r' < 1000000007) ∧ σ' = [some (.ref a), some (.int m), some (.int c), some (.int y), some (.ref l), some (.int r'), some (.int (0 + (i : Nat))), some (.int c')], ?_, ?_⟩
          · refine ⟨_, rfl, rfl, _, rfl, ite2 (fun c1 => ?_) (fun c1 => ?_)⟩
            · refine ⟨_, rfl, _, rfl, _, _, rfl, rfl, .inl ⟨by decide, by decide⟩, _, _, rfl, rfl, _, _, rfl, rfl, _, _, rfl, rfl, .inr ⟨by decide, by decide⟩, _, _, rfl, rfl, (by show (0 : Int) < 1000000007; decide), ?_⟩
              have b1 := Int.emod_nonneg ((r' + 977 * (0 + (i : Nat)) + 1) * 48271) (show (1000000007 : Int) ≠ 0 by decide)
              have b2 := Int.emod_lt_of_pos ((r' + 977 * (0 + (i : Nat)) + 1) * 48271) (show (0 : Int) < 1000000007 by decide)
              generalize (r' + 977 * (0 + (i : Nat)) + 1) * 48271 % 1000000007 = q at b1 b2
              refine ⟨_, rfl, _, rfl, _, _, rfl, rfl, .inl ⟨by omega, by omega⟩, _, _, rfl, rfl, (by show (0 : Int) < 998244353; decide), _, rfl, _, _, rfl, rfl, ⟨by decide, by decide⟩, ?_⟩
              refine ⟨rfl, _, _, fun _ => ⟨Int.emod_nonneg _ (by decide), ?_⟩, rfl⟩
              have := Int.emod_lt_of_pos (q * q) (show (0 : Int) < 998244353 by decide)
              omega
            · exact ⟨rfl, _, _, hr', rfl⟩
          · rintro σ' H2 ⟨rfl, r2, c2, hr2, rfl⟩
            refine ⟨_, rfl, .inl ⟨rfl, _, SqL.of hl2⟩, _, rfl, _, rfl, _, _, rfl, rfl, (by show 0 < m; omega), _, rfl, _, rfl, _, _, rfl, rfl, ⟨by omega, by omega⟩, _, rfl, _, _, rfl, rfl, (by show 0 < m; omega), (by show 2 ≤ sizeLine; decide), fun t ht => ?_⟩
            have s2 : Same H2 (upd H2 t (.tup [.int (c2 % m), .int (c2 / m % m)])) := Same.new ht
            have hlt : l ≠ t := ne_of_none hl2 ht
            have hl3 : (upd H2 t (.tup [.int (c2 % m), .int (c2 / m % m)])) l = some (.lst xs) := s2 _ _ hl2
            have hlen := hp.len
            refine ⟨l, _, _, rfl, rfl, hl3, small1000 (by omega), ?_⟩
            refine ⟨r2, xs ++ [.ref t], es ++ [(c2 % m, c2 / m % m)], _, _, rfl, hr2, (sH.trans s2).upd hl, upd_same, ?_, by rw [List.length_append, he]; rfl, hE.snoc ⟨Int.emod_nonneg _ (by omega), Int.emod_lt_of_pos _ (by omega), Int.emod_nonneg _ (by omega), Int.emod_lt_of_pos _ (by omega)⟩⟩
            refine (Pairs.sameX sameX_upd hl3 (hp.same s2)).snoc (e := (c2 % m, c2 / m % m)) ?_
            exact SqT.of (by rw [upd_ne hlt.symm]; exact upd_same)
      · rintro σ H2 ⟨r, xs, es, v6, v7, rfl, hr, sH, hl2, hp, he, hE⟩
        exact ⟨_, rfl, k l xs es H2 hl sH hl2 hp he hE⟩
def spD (K : PySem.W.Frag) : Sp := fun vs H Q _ => ∃ (a : Addr) (ns : List Int), vs = [.ref a] ∧ SqL K H a (ns.map V.int) ∧
  ∀ (t l : Addr) (m : Int) (xs : List V) (es : List (Int × Int)) (H' : Hp), H l = none → Same H H' → H' t = some (.tup [.int m, .ref l]) → H' l = some (.lst xs) → Pairs K H' xs es → 1 ≤ m → m ≤ 20 → es.length ≤ 40 → EndsIn es m → Q (.ref t) H'
theorem scD : FnScope ["script", "first", "many"] ["script"] (defScope sD) := ⟨rfl, rfl, rfl, by decide +kernel, rfl, by decide +kernel, by decide +kernel⟩
theorem ok_D {f : Addr} {fd : FuncData} (F : Fun K "_law_drawn" "_law_drawn" sD f fd) (T : Txt K mg c) (D_C : Def P w K mg base 1 "_law_cell" ["script", "k"] (spC K)) (D_E : Def P w K mg base 2 "_law_ends" ["script", "many", "count", "way"] (spE K)) : FnOk P w K mg base CX0 3 f fd ["script"] (spD K) := by
  refine F.ok scD (fun vs H Q E h => ?_) (fun cdv A outer s H vs Q E hr h => ?_)
  · obtain ⟨a, ns, rfl, _⟩ := h
    rfl
  · obtain ⟨a, ns, rfl, hS, k⟩ := h
    refine ⟨_, pss_cons (ps_set (i := 1) scD.nd rfl (Or.inl rfl) (pe_defR D_C hr (pa_cons (pv 0) (pa_cons (pe_int) pa_nil))))
      (pss_cons (ps_cut (ps_if (pt_cmpR op_eq (pe_op op_mod (pv 1) (pe_int)) (pe_int) (nomark _))
        (pss_cons (ps_set (i := 1) scD.nd rfl (Or.inl rfl) (pe_op op_mod (pe_op op_add (pe_op op_mul (pe_op op_mod (pv 1) (pe_int)) (pe_int)) (pe_int)) (pe_int)))
      (pss_one (ps_set (i := 1) scD.nd rfl (Or.inl rfl) (pe_op op_mod (pe_op op_mul (pv 1) (pv 1)) (pe_int))))) (pss_nil)))
      (pss_cons (ps_set (i := 2) scD.nd rfl (Or.inl rfl) (pe_op op_add (pe_int) (pe_op op_mod (pv 1) (pe_int))))
      (pss_one (ps_ret (pe_tup (pa_cons (pv 2) (pa_cons (pe_defR D_E hr (pa_cons (pv 0) (pa_cons (pv 2) (pa_cons (pe_op op_mod (pe_op op_fdiv (pv 1) (pe_int)) (pe_int)) (pa_cons (pe_op op_mod (pe_op op_fdiv (pv 1) (pe_int)) (pe_int)) pa_nil))))) pa_nil))))))), ?_⟩
    refine ⟨_, rfl, a, ns, 0, rfl, hS, by decide, ?_⟩
    generalize ns.getD (0 : Int).toNat 0 = f0
    refine ⟨fun σ' H' => H' = H ∧ ∃ f1, σ' = [some (.ref a), some (.int f1), none], ?_, ?_⟩
    · refine ⟨_, rfl, _, _, rfl, rfl, (by show (0 : Int) < 2; decide), rfl, _, rfl, ite2 (fun c1 => ?_) (fun c1 => ?_)⟩
      · refine ⟨_, rfl, _, _, rfl, rfl, (by show (0 : Int) < 1000000007; decide), _, _, rfl, rfl, .inr ⟨by decide, by decide⟩, _, _, rfl, rfl, _, _, rfl, rfl, (by show (0 : Int) < 2147483647; decide), ?_⟩
        have b1 := Int.emod_nonneg (f0 % 1000000007 * 48271 + 11) (show (2147483647 : Int) ≠ 0 by decide)
        have b2 := Int.emod_lt_of_pos (f0 % 1000000007 * 48271 + 11) (show (0 : Int) < 2147483647 by decide)
        generalize (f0 % 1000000007 * 48271 + 11) % 2147483647 = q at b1 b2
        refine ⟨_, rfl, _, rfl, _, _, rfl, rfl, .inl ⟨by omega, by omega⟩, _, _, rfl, rfl, (by show (0 : Int) < 998244353; decide), ?_⟩
        exact ⟨rfl, _, rfl⟩
      · exact ⟨rfl, _, rfl⟩
    · rintro σ' H' ⟨rfl, f1, rfl⟩
      have b1 := Int.emod_nonneg f1 (show (20 : Int) ≠ 0 by decide)
      have b2 := Int.emod_lt_of_pos f1 (show (0 : Int) < 20 by decide)
      have b3 := Int.emod_nonneg (f1 / 60) (show (41 : Int) ≠ 0 by decide)
      have b4 := Int.emod_lt_of_pos (f1 / 60) (show (0 : Int) < 41 by decide)
      refine ⟨_, rfl, _, _, rfl, rfl, (by show (0 : Int) < 20; decide), _, _, rfl, rfl, ?_⟩
      refine ⟨_, rfl, _, rfl, _, rfl, _, rfl, _, _, rfl, rfl, ⟨by decide, by decide⟩, _, _, rfl, rfl, (by show (0 : Int) < 41; decide), _, rfl, _, _, rfl, rfl, ⟨by decide, by decide⟩, _, _, rfl, rfl, (by show (0 : Int) < 3; decide),
        a, ns, _, _, _, rfl, hS, by omega, by omega, b3, by omega, fun l xs es H1 hl sH hl1 hp he hE => ?_⟩
      refine ⟨(by show 2 ≤ sizeLine; decide), fun t ht => ?_⟩
      have s2 : Same H1 (upd H1 t (.tup [.int (1 + f1 % 20), .ref l])) := Same.new ht
      exact k t l _ xs es _ hl (sH.trans s2) upd_same (s2 _ _ hl1) (hp.same s2) (by omega) (by omega) (by omega) hE
def spH (_ : PySem.W.Frag) : Sp := fun vs H Q _ => ∃ i, vs = [.int i] ∧ Q (.bl true) H
theorem scH : FnScope ["found"] ["found"] (defScope sH) := ⟨rfl, rfl, rfl, by decide +kernel, rfl, by decide +kernel, by decide +kernel⟩
theorem ok_H {f : Addr} {fd : FuncData} (F : Fun K "_law_whole" "_law_whole" sH f fd) (T : Txt K mg c) : FnOk P w K mg base CX0 1 f fd ["found"] (spH K) := by
  refine F.ok scH (fun vs H Q E h => ?_) (fun cdv A outer s H vs Q E hr h => ?_)
  · obtain ⟨i, rfl, _⟩ := h
    rfl
  · obtain ⟨i, rfl, k⟩ := h
    refine ⟨_, pss_one (ps_ret (pe_and (pe_callB (cIs (K := K) rfl) (by rfl) T.isinstance PyProof.Rows.boot_isinstance (pa_cons (pv 0) (pa_cons (pe_bltn (v := .ty "int") (by rfl) T.int PyProof.Rows.boot_int rfl) pa_nil))) (pe_one (pe_not (pe_callB (cIs (K := K) rfl) (by rfl) T.isinstance PyProof.Rows.boot_isinstance (pa_cons (pv 0) (pa_cons (pe_bltn (v := .ty "bool") (by rfl) T.bool PyProof.Rows.boot_bool rfl) pa_nil))))))), ?_⟩
    refine ⟨_, rfl, _, _, _, _, true, rfl, rfl, fun _ z => z, .of (.int i), kit_self _ _, true, rfl, iteT ?_⟩
    exact ⟨_, rfl, _, _, _, _, false, rfl, rfl, fun _ z => z, .of (.int i), kIntBool, false, rfl, k⟩
def spI (K : PySem.W.Frag) (C : Addr) : Sp := fun vs H Q _ => ∃ (a p : Addr) (m : Int) (xs : List V) (es : List (Int × Int)), vs = [.ref a, .int m, .ref p] ∧ WebAt K C H a m es ∧ SqL K H p xs ∧ Pairs K H xs es ∧ es.length ≤ 1000 ∧ ∀ H', Same H H' → Q (.bl true) H'
theorem scI : FnScope ["web", "many", "ends", "tie"] ["web", "many", "ends"] (defScope sI) := ⟨rfl, rfl, rfl, by decide +kernel, rfl, by decide +kernel, by decide +kernel⟩
theorem ok_I {f : Addr} {fd : FuncData} (F : Fun K "_law_is_web" "_law_is_web" sI f fd) (T : Txt K mg c) (D_H : Def P w K mg base 1 "_law_whole" ["found"] (spH K)) : FnOk P w K mg base CX0 2 f fd ["web", "many", "ends"] (spI K c.Web) := by
  refine F.ok scI (fun vs H Q E h => ?_) (fun cdv A outer s H vs Q E hr h => ?_)
  · obtain ⟨a, p, m, xs, es, rfl, _⟩ := h
    rfl
  · obtain ⟨a, p, m, xs, es, rfl, hW, hS, hp, hz, k⟩ := h
    have hu : A.units + 3 + 64 < cLine := hr.units
    refine ⟨_, pss_cons (ps_if (PW.pt (pw_or (pt_not (pt_val (pe_callB (cIs (K := K) rfl) (by rfl) T.isinstance PyProof.Rows.boot_isinstance (pa_cons (pv 0) (pa_cons (pe_glob (v := .ref c.Web) (by rfl) T.mWeb rfl) pa_nil))))) (pw_or (pt_not (pt_val (pe_defR D_H hr (pa_cons (pMany (K := K) rfl T.web (pv 0)) pa_nil)))) (pw_or (pt_cmpR op_ne (pMany (K := K) rfl T.web (pv 0)) (pv 1) (nomark _)) (pw_or1 (pt_not (pt_val (pe_callB (cIs (K := K) rfl) (by rfl) T.isinstance PyProof.Rows.boot_isinstance (pa_cons (pTies (K := K) rfl T.web (pv 0)) (pa_cons (pe_bltn (v := .ty "tuple") (by rfl) T.tuple PyProof.Rows.boot_tuple rfl) pa_nil))))))))))
        (pss_one (ps_ret (pe_bl))) (pss_nil))
      (pss_cons (ps_if (pt_cmpR (opNeD (K := K) rfl hu) (pe_callTy (cList (K := K) rfl) (by rfl) T.list PyProof.Rows.boot_list (pa_cons (pTies (K := K) rfl T.web (pv 0)) pa_nil)) (pv 2) (nomark _))
        (pss_one (ps_ret (pe_bl))) (pss_nil))
      (pss_cons (ps_for PassesOwn.never rfl (piSeq (K := K) rfl (pTies (K := K) rfl T.web (pv 0))) (pg_name (i := 3) scI.nd rfl (Or.inl rfl))
        (pss_one (ps_if (PW.pt (pw_or (pt_not (pt_val (pe_callB (cIs (K := K) rfl) (by rfl) T.isinstance PyProof.Rows.boot_isinstance (pa_cons (pv 3) (pa_cons (pe_bltn (v := .ty "tuple") (by rfl) T.tuple PyProof.Rows.boot_tuple rfl) pa_nil))))) (pw_or (pt_not (pt_val (pe_defR D_H hr (pa_cons (pe_ix (ixT (K := K) rfl) (pv 3) (pe_int) (fun _ _ => rfl)) pa_nil)))) (pw_or1 (pt_not (pt_val (pe_defR D_H hr (pa_cons (pe_ix (ixT (K := K) rfl) (pv 3) (pe_int) (fun _ _ => rfl)) pa_nil))))))))
        (pss_one (ps_ret (pe_bl))) (pss_nil))))
      (pss_one (ps_ret (pe_bl))))), ?_⟩
    refine ⟨_, rfl, _, _, _, _, true, rfl, rfl, fun _ z => z, .of (hW.ty T.web), kit_self _ _, _, rfl, iteF ?_⟩
    refine ⟨_, rfl, a, m, es, rfl, hW, m, rfl, _, rfl, iteF ?_⟩
    refine ⟨_, rfl, a, m, es, rfl, hW, _, rfl, rfl, _, rfl, ?_⟩
    rw [decide_eq_true rfl]
    refine iteF ⟨_, rfl, a, m, es, rfl, hW, fun t ys ht hy => ⟨_, _, _, _, true, rfl, rfl, fun _ z => z, .of (.tup ht), kit_self _ _, _, rfl, iteF ?_⟩⟩
    refine ⟨_, rfl, a, m, es, rfl, hW, fun t ys ht hy => ⟨t, ys, rfl, .inr (SqT.of ht), fun l hl => ?_⟩⟩
    have s1 : Same H (upd H l (.lst ys)) := Same.new hl
    refine ⟨_, rfl, dE es, dE es, dat_ends (SqL.of upd_same) (hy.same s1), dat_ends (s1.seq hS) (hp.same s1), shaped_dE es, shaped_dE es, _, rfl, ?_⟩
    rw [eqv_dE, decide_eq_true rfl]
    refine iteF ?_
    refine ⟨_, rfl, a, m, es, rfl, hW.same s1, fun t2 zs ht2 hy2 => ⟨t2, zs, rfl, .inr (SqT.of ht2), fun J C O hC => for_by O (fun i σ H2 => H2 = upd H l (.lst ys) ∧ ∃ v, σ = [some (.ref a), some (.int m), some (.ref p), v]) ⟨rfl, _, rfl⟩ (fun i σ H2 _ h => by rw [h.1]; exact hC _ (Same.refl _)) ?_ ?_⟩⟩
    · rintro i σ H2 hi ⟨rfl, v, rfl⟩
      obtain ⟨r, e, er, hr2, _, _⟩ := hy2.at hi
      dsimp only
      rw [er]
      refine ⟨_, rfl, _, _, _, _, true, rfl, rfl, fun _ z => z, .tup hr2, kit_self _ _, _, rfl, iteF ?_⟩
      refine ⟨_, rfl, r, _, _, _, rfl, rfl, hr2, rfl, _, rfl, _, rfl, iteF ?_⟩
      refine ⟨_, rfl, r, _, _, _, rfl, rfl, hr2, rfl, _, rfl, _, rfl, iteF ?_⟩
      exact ⟨rfl, _, rfl⟩
    · rintro σ H2 ⟨rfl, v, rfl⟩
      exact k _ s1
def spX (K : PySem.W.Frag) (c : Cs) : Sp := fun vs H Q _ => ∃ (a A : Addr), vs = [.ref a] ∧ H a = some (.ext (ExcO a (.ref A))) ∧ Alone K c A ∧ ∀ H', Same H H' → Q (.bl true) H'
theorem scX : FnScope ["e", "kinds"] ["e"] (defScope sX) := ⟨rfl, rfl, rfl, by decide +kernel, rfl, by decide +kernel, by decide +kernel⟩
theorem ok_X {f : Addr} {fd : FuncData} (F : Fun K "_law_alone" "_law_alone" sX f fd) (T : Txt K mg c) : FnOkC P w K mg base 1 f fd ["e"] (spX K c) := by
  refine F.okC scX (fun vs H Q E h => ?_) (fun cdv A outer s H vs Q E hr h => ?_)
  · obtain ⟨a, A, rfl, _⟩ := h
    rfl
  · obtain ⟨a, B, rfl, ha, al, k⟩ := h
    obtain ⟨b1, b2, b3, b4, b5, b6, b7, b8, b9, b10, b11, h1, h2, h3, h4, h5, h6, h7, h8, h9, h10, h11, cnt⟩ := al.ks
    refine ⟨_, pss_cons (ps_set (i := 1) scX.nd rfl (Or.inl rfl) (pe_lst (pa_cons (pe_callB (cIsE (K := K) rfl) (by rfl) T.isinstance PyProof.Rows.boot_isinstance (pa_cons (pv 0) (pa_cons (pe_glob (v := .ref c.BadWeb) (by rfl) T.mBadWeb rfl) pa_nil))) (pa_cons (pe_callB (cIsE (K := K) rfl) (by rfl) T.isinstance PyProof.Rows.boot_isinstance (pa_cons (pv 0) (pa_cons (pe_glob (v := .ref c.TooMany) (by rfl) T.mTooMany rfl) pa_nil))) (pa_cons (pe_callB (cIsE (K := K) rfl) (by rfl) T.isinstance PyProof.Rows.boot_isinstance (pa_cons (pv 0) (pa_cons (pe_glob (v := .ref c.BadPlace) (by rfl) T.mBadPlace rfl) pa_nil))) (pa_cons (pe_callB (cIsE (K := K) rfl) (by rfl) T.isinstance PyProof.Rows.boot_isinstance (pa_cons (pv 0) (pa_cons (pe_glob (v := .ref c.BadTie) (by rfl) T.mBadTie rfl) pa_nil))) pa_nil))))))
      (pss_cons (ps_set (i := 1) scX.nd rfl (Or.inl rfl) (pe_op op_cat (pv 1) (pe_lst (pa_cons (pe_callB (cIsE (K := K) rfl) (by rfl) T.isinstance PyProof.Rows.boot_isinstance (pa_cons (pv 0) (pa_cons (pe_glob (v := .ref c.BadFlow) (by rfl) T.mBadFlow rfl) pa_nil))) (pa_cons (pe_callB (cIsE (K := K) rfl) (by rfl) T.isinstance PyProof.Rows.boot_isinstance (pa_cons (pv 0) (pa_cons (pe_glob (v := .ref c.BadRest) (by rfl) T.mBadRest rfl) pa_nil))) (pa_cons (pe_callB (cIsE (K := K) rfl) (by rfl) T.isinstance PyProof.Rows.boot_isinstance (pa_cons (pv 0) (pa_cons (pe_glob (v := .ref c.NoFlow) (by rfl) T.mNoFlow rfl) pa_nil))) (pa_cons (pe_callB (cIsE (K := K) rfl) (by rfl) T.isinstance PyProof.Rows.boot_isinstance (pa_cons (pv 0) (pa_cons (pe_glob (v := .ref c.BadSet) (by rfl) T.mBadSet rfl) pa_nil))) pa_nil)))))))
      (pss_cons (ps_set (i := 1) scX.nd rfl (Or.inl rfl) (pe_op op_cat (pv 1) (pe_lst (pa_cons (pe_callB (cIsE (K := K) rfl) (by rfl) T.isinstance PyProof.Rows.boot_isinstance (pa_cons (pv 0) (pa_cons (pe_glob (v := .ref c.BadPaper) (by rfl) T.mBadPaper rfl) pa_nil))) (pa_cons (pe_callB (cIsE (K := K) rfl) (by rfl) T.isinstance PyProof.Rows.boot_isinstance (pa_cons (pv 0) (pa_cons (pe_glob (v := .ref c.BadText) (by rfl) T.mBadText rfl) pa_nil))) (pa_cons (pe_callB (cIsE (K := K) rfl) (by rfl) T.isinstance PyProof.Rows.boot_isinstance (pa_cons (pv 0) (pa_cons (pe_glob (v := .ref c.BadDeed) (by rfl) T.mBadDeed rfl) pa_nil))) pa_nil))))))
      (pss_one (ps_ret (pe_and (pe_cmpR op_eq (pe_bm PySem.F.plainAttrs_list PySem.F.slot_list_count PySem.F.type_list_count (mCount (K := K) rfl) (pv 1) (pa_cons (pe_bl) pa_nil)) (pe_int) (nomark _)) (pe_and (pe_callB (cIsE (K := K) rfl) (by rfl) T.isinstance PyProof.Rows.boot_isinstance (pa_cons (pv 0) (pa_cons (pe_glob (v := .ref c.FlowError) (by rfl) T.mFlowError rfl) pa_nil))) (pe_one (pe_callB (cIsE (K := K) rfl) (by rfl) T.isinstance PyProof.Rows.boot_isinstance (pa_cons (pv 0) (pa_cons (pe_bltn (v := .ty "ValueError") (by rfl) T.ValueError (show bootBuiltins "ValueError" = some (.type "ValueError") by decide +kernel) rfl) pa_nil)))))))))), ?_⟩
    refine ⟨_, rfl, a, B, _, _, b1, rfl, rfl, fun _ z => z, ha, al.ex, h1, _, rfl, a, B, _, _, b2, rfl, rfl, fun _ z => z, ha, al.ex, h2, _, rfl, a, B, _, _, b3, rfl, rfl, fun _ z => z, ha, al.ex, h3,
      _, rfl, a, B, _, _, b4, rfl, rfl, fun _ z => z, ha, al.ex, h4, (by show 4 ≤ sizeLine; decide), fun l1 n1 => ?_⟩
    have s1 : Same H (upd H l1 (.lst [.bl b1, .bl b2, .bl b3, .bl b4])) := Same.new n1
    have e1 : (upd H l1 (.lst [.bl b1, .bl b2, .bl b3, .bl b4])) l1 = some (.lst [.bl b1, .bl b2, .bl b3, .bl b4]) := upd_same
    generalize upd H l1 (.lst [.bl b1, .bl b2, .bl b3, .bl b4]) = H1 at s1 e1
    have ha1 := s1 _ _ ha
    refine ⟨_, rfl, _, rfl, a, B, _, _, b5, rfl, rfl, fun _ z => z, ha1, al.ex, h5, _, rfl, a, B, _, _, b6, rfl, rfl, fun _ z => z, ha1, al.ex, h6, _, rfl, a, B, _, _, b7, rfl, rfl, fun _ z => z, ha1, al.ex, h7,
      _, rfl, a, B, _, _, b8, rfl, rfl, fun _ z => z, ha1, al.ex, h8, (by show 4 ≤ sizeLine; decide), fun l2 n2 => ?_⟩
    have s2 : Same H1 (upd H1 l2 (.lst [.bl b5, .bl b6, .bl b7, .bl b8])) := Same.new n2
    refine ⟨l1, l2, _, _, rfl, rfl, s2 _ _ e1, upd_same, (by show 8 ≤ sizeLine; decide), fun l3 n3 => ?_⟩
    have s3 : Same H (upd (upd H1 l2 (.lst [.bl b5, .bl b6, .bl b7, .bl b8])) l3 (.lst ([.bl b1, .bl b2, .bl b3, .bl b4] ++ [.bl b5, .bl b6, .bl b7, .bl b8]))) := (s1.trans s2).next n3
    have e3 : (upd (upd H1 l2 (.lst [.bl b5, .bl b6, .bl b7, .bl b8])) l3 (.lst ([.bl b1, .bl b2, .bl b3, .bl b4] ++ [.bl b5, .bl b6, .bl b7, .bl b8]))) l3 = some (.lst ([.bl b1, .bl b2, .bl b3, .bl b4] ++ [.bl b5, .bl b6, .bl b7, .bl b8])) := upd_same
    generalize upd (upd H1 l2 (.lst [.bl b5, .bl b6, .bl b7, .bl b8])) l3 (.lst ([.bl b1, .bl b2, .bl b3, .bl b4] ++ [.bl b5, .bl b6, .bl b7, .bl b8])) = H3 at s3 e3
    have ha3 := s3 _ _ ha
    refine ⟨_, rfl, _, rfl, a, B, _, _, b9, rfl, rfl, fun _ z => z, ha3, al.ex, h9, _, rfl, a, B, _, _, b10, rfl, rfl, fun _ z => z, ha3, al.ex, h10, _, rfl, a, B, _, _, b11, rfl, rfl, fun _ z => z, ha3, al.ex, h11,
      (by show 3 ≤ sizeLine; decide), fun l4 n4 => ?_⟩
    have s4 : Same H3 (upd H3 l4 (.lst [.bl b9, .bl b10, .bl b11])) := Same.new n4
    refine ⟨l3, l4, _, _, rfl, rfl, s4 _ _ e3, upd_same, (by show 11 ≤ sizeLine; decide), fun l5 n5 => ?_⟩
    have s5 := (s3.trans s4).next (o := .lst (([.bl b1, .bl b2, .bl b3, .bl b4] ++ [.bl b5, .bl b6, .bl b7, .bl b8]) ++ [.bl b9, .bl b10, .bl b11])) n5
    have ha5 := s5 _ _ ha
    refine ⟨_, rfl, .inl ⟨rfl, _, SqL.of upd_same⟩, l5, _, _, rfl, rfl, SqL.of upd_same, rfl, rfl, rfl, _, rfl, ?_⟩
    rw [show (([V.bl b1, V.bl b2, V.bl b3, V.bl b4] ++ [V.bl b5, V.bl b6, V.bl b7, V.bl b8]) ++ [V.bl b9, V.bl b10, V.bl b11]).countP (fun z => eqV z (V.bl true)) = 1 from cnt]
    refine iteT ⟨_, rfl, a, B, _, _, true, rfl, rfl, fun _ z => z, ha5, al.ex, al.fe, _, rfl, iteT ⟨_, rfl, a, B, _, _, true, rfl, rfl, fun _ z => z, ha5, al.ex, al.ve, k _ s5⟩⟩
def spCu (K : PySem.W.Frag) : Sp := fun vs H Q _ => ∃ (l : Addr) (m mo co : Int) (xs : List V) (es : List (Int × Int)), vs = [.int m, .ref l, .int mo, .int co] ∧ SqL K H l xs ∧ Pairs K H xs es ∧ 1 ≤ m ∧ m ≤ 20 ∧ 1 ≤ mo ∧ mo ≤ 20 ∧ 0 ≤ co ∧ co ≤ 40 ∧ es.length ≤ 40 ∧
  ∀ (t l2 : Addr) (m2 : Int) (ys : List V) (fs : List (Int × Int)) (H' : Hp), Same H H' → H' t = some (.tup [.int m2, .ref l2]) → H' l2 = some (.lst ys) → Pairs K H' ys fs → 1 ≤ m2 → m2 ≤ mo → fs.length ≤ 40 → EndsIn fs m2 → Q (.ref t) H'
theorem scCu : FnScope ["many", "ends", "most", "count"] ["many", "ends", "most", "count"] (defScope sCu) := ⟨rfl, rfl, rfl, by decide +kernel, rfl, by decide +kernel, by decide +kernel⟩
theorem cut_pairs {K : PySem.W.Frag} {H : Hp} : ∀ {xs : List V} {es : List (Int × Int)} (n : Nat), Pairs K H xs es → Pairs K H (xs.take n) (es.take n)
  | _, _, 0, _ => .nil
  | _, _, _ + 1, .nil => .nil
  | _, _, n + 1, .cons a t => .cons a (cut_pairs n t)
set_option maxHeartbeats 4000000 in
theorem ok_Cu {f : Addr} {fd : FuncData} (F : Fun K "_law_cut" "_law_cut" sCu f fd) (T : Txt K mg c) : FnOk P w K mg base CX0 1 f fd ["many", "ends", "most", "count"] (spCu K) := by
  refine F.ok scCu (fun vs H Q E h => ?_) (fun cdv A outer s H vs Q E hr h => ?_)
  · obtain ⟨l, m, mo, co, xs, es, rfl, _⟩ := h
    rfl
  · obtain ⟨l, m, mo, co, xs, es, rfl, hl, hp, m1, m2, o1, o2, c1, c2, he, k⟩ := h
    refine ⟨_, pss_one (ps_ret (pe_tup (pa_cons (pe_callB (call_min2 rfl) (by rfl) T.min PyProof.Rows.boot_min (pa_cons (pv 0) (pa_cons (pv 2) pa_nil))) (pa_cons (pe_lc (N' := ["one", "two", "many", "most"]) (nl := 2) (js := [0, 2]) rfl (.of (osc := defScope sCu) (N := ["many", "ends", "most", "count"]) (by decide +kernel) rfl rfl) (piSeq (K := K) rfl (pe_slice (slL (K := K) rfl) (pv 1) (po_none) (po_some (pv 3))))
        (fun _ _ _ _ => pgPair (K := K) (i := 0) (j := 1) rfl rfl (show (["one", "two", "many", "most"] : List Str).Nodup by decide +kernel) rfl rfl rfl rfl) (fun _ _ _ _ => pif_nil)
        (fun _ _ _ _ => pe_tup (pa_cons (pe_op op_mod (pv 0) (pe_callB (call_min2 rfl) (by rfl) T.min PyProof.Rows.boot_min (pa_cons (pv 2) (pa_cons (pv 3) pa_nil)))) (pa_cons (pe_op op_mod (pv 1) (pe_callB (call_min2 rfl) (by rfl) T.min PyProof.Rows.boot_min (pa_cons (pv 2) (pa_cons (pv 3) pa_nil)))) pa_nil)))) pa_nil)))), ?_⟩
    obtain ⟨mm, em⟩ : ∃ mm, mm = if mo < m then mo else m := ⟨_, rfl⟩
    have hm : 1 ≤ mm ∧ mm ≤ mo := by rw [em]; split <;> omega
    obtain ⟨n, en⟩ : ∃ n, cutV xs none (some co) = xs.take n := ⟨_, by unfold cutV; rfl⟩
    refine ⟨_, rfl, _, rfl, _, _, rfl, ?_⟩
    rw [← em]
    refine ⟨_, rfl, _, rfl, co, rfl, l, xs, rfl, hl, fun r1 n1 => ?_⟩
    rw [en]
    have s1 := Same.new (o := .lst (xs.take n)) n1
    have e1 : (upd H r1 (.lst (xs.take n))) r1 = some (.lst (xs.take n)) := upd_same
    have p1 := (cut_pairs n hp).same s1
    generalize upd H r1 (.lst (xs.take n)) = H1 at s1 e1 p1
    have hel : (es.take n).length ≤ 40 := by rw [List.length_take]; omega
    generalize es.take n = fs at p1 hel
    generalize xs.take n = ys at e1 p1
    have hyl := p1.len
    refine ⟨r1, ys, rfl, .inl (SqL.of e1), fun J C O hC => lc_by O (fun j zs H2 => Same H1 H2 ∧ Pairs K H2 zs ((fs.take j).map fun e => (e.1 % mm, e.2 % mm))) (Nat.le_of_lt (small1000 (by omega))) ⟨Same.refl _, .nil⟩ ?_ ?_ ?_⟩
    · rintro j zs H2 hj ⟨s2, p2⟩
      exact ⟨hC _ s2, by rw [p2.len, List.length_map, List.length_take]; omega⟩
    · rintro j zs H2 hj ⟨s2, p2⟩
      obtain ⟨r, e, er, hr2, ei, he2⟩ := (p1.same s2).at hj
      have hpl2 := p2.len
      rw [List.length_map, List.length_take] at hpl2
      try dsimp only
      rw [er]
      refine ⟨r, _, rfl, hr2, rfl, _, _, rfl, _, _, rfl, rfl, wk_set2 rfl rfl, iteT ⟨_, rfl, _, rfl, _, rfl, _, _, rfl, ?_⟩⟩
      rw [← em]
      refine ⟨_, _, rfl, rfl, (by show 0 < mm; omega), _, rfl, _, rfl, _, rfl, _, _, rfl, ?_⟩
      rw [← em]
      refine ⟨_, _, rfl, rfl, (by show 0 < mm; omega), (by show 2 ≤ sizeLine; decide), fun z nz => ?_⟩
      have uz := Same.new (o := .tup [.int (e.1 % mm), .int (e.2 % mm)]) nz
      refine ⟨small1000 (by omega), _, by omega, rfl, by omega, s2.trans uz, ?_⟩
      rw [take_snoc ei, List.map_append]
      exact (p2.same uz).snoc (e := (e.1 % mm, e.2 % mm)) (SqT.of upd_same)
    rintro zs H2 ⟨s2, p2⟩ l2 nl2
    rw [hyl, List.take_length] at p2
    refine ⟨(by show 2 ≤ sizeLine; decide), fun t nt => ?_⟩
    have s3 := (Same.new (o := .lst zs) nl2).next (o := .tup [.int mm, .ref l2]) nt
    refine k t l2 mm zs _ _ ((s1.trans s2).trans s3) upd_same (Same.new nt _ _ upd_same) (p2.same s3) hm.1 hm.2 (by rw [List.length_map]; exact hel) fun e he' => ?_
    obtain ⟨e0, _, rfl⟩ := List.mem_map.mp he'
    exact ⟨Int.emod_nonneg _ (by omega), Int.emod_lt_of_pos _ (by omega), Int.emod_nonneg _ (by omega), Int.emod_lt_of_pos _ (by omega)⟩
def spBo (K : PySem.W.Frag) (c : Cs) : Sp := fun vs H Q _ => ∃ (x y : Addr) (m n : Int) (es fs : List (Int × Int)), vs = [.ref x, .ref y] ∧ WebAt K c.Web H x m es ∧ WebAt K c.Web H y n fs ∧ 1 ≤ m ∧ m ≤ 20 ∧ 1 ≤ n ∧ n ≤ 20 ∧ es.length ≤ 40 ∧ fs.length ≤ 40 ∧ EndsIn es m ∧ EndsIn fs n ∧
  (Big (m + n) (es ++ fs.map (shf m)) → ∀ H', Same H H' → Q (.bl true) H') ∧ (¬ Big (m + n) (es ++ fs.map (shf m)) → ∀ z H', Same H H' → WebD K c.Web H' z (m + n) (es ++ fs.map (shf m)) → Q (.ref z) H')
theorem scBo : FnScope ["one", "two", "found", "e"] ["one", "two"] (defScope sBo) := ⟨rfl, rfl, rfl, by decide +kernel, rfl, by decide +kernel, by decide +kernel⟩
set_option maxHeartbeats 4000000 in
theorem ok_Bo {f : Addr} {fd : FuncData} (F : Fun K "_law_both" "_law_both" sBo f fd) (T : Txt K mg c) (D_Pu : DefE P w K mg base 3 "put_together" ["one", "two"] (spPu K c)) (D_X : DefC P w K mg base 1 "_law_alone" ["e"] (spX K c)) : FnOk P w K mg base CX0 4 f fd ["one", "two"] (spBo K c) := by
  refine F.ok scBo (fun vs H Q E h => ?_) (fun cdv A outer s H vs Q E hr h => ?_)
  · obtain ⟨x, y, m, n, es, fs, rfl, _⟩ := h
    rfl
  · obtain ⟨x, y, m, n, es, fs, rfl, hx, hy, m1, m2, n1, n2, ze, zf, hE, hF, k1, k2⟩ := h
    have hu : A.units + 3 + 64 < cLine := hr.units
    refine ⟨_, pss_cons (ps_set (i := 2) scBo.nd rfl (Or.inl rfl) (pe_non))
      (pss_cons (ps_cut (ps_tryE (i := 3) ⟨rfl, rfl, rfl⟩ scBo.nd rfl rfl (by rfl) T.mTooMany T.xTooMany (fun pn Ex => pss_one (ps_set (i := 2) scBo.nd rfl (Or.inl rfl) (pe_defE D_Pu hr rfl rfl (pa_cons (pv 0) (pa_cons (pv 1) pa_nil))))) (fun x => pss_one (ps_set (i := 2) scBo.nd rfl (Or.inl rfl) (pe_defC D_X hr.held (pa_cons (pv 3) pa_nil))))))
      (pss_one (ps_ret (pv 2)))), ?_⟩
    clear hu
    refine ⟨fun σ' H' => Same H H' ∧ ∃ v : V, σ' = [some (.ref x), some (.ref y), some v, none] ∧ ((Big (m + n) (es ++ fs.map (shf m)) ∧ v = .bl true) ∨ (¬ Big (m + n) (es ++ fs.map (shf m)) ∧ ∃ z, v = .ref z ∧ WebD K c.Web H' z (m + n) (es ++ fs.map (shf m)))), ?_, ?_⟩
    · refine ⟨fun σ' C H' => σ' = [some (.ref x), some (.ref y), some .non, none] ∧ Same H H' ∧ C = .ref c.TooMany ∧ Big (m + n) (es ++ fs.map (shf m)), ?_, ?_⟩
      · exact ⟨_, rfl, _, rfl, x, y, m, n, es, fs, rfl, hx, hy, m1, m2, n1, n2, ze, zf, hE, hF, fun b H' s' => ⟨rfl, s', rfl, b⟩, fun b z H' s' hw => ⟨s', .ref z, rfl, .inr ⟨b, z, rfl, hw⟩⟩⟩
      · rintro σ' C H' ⟨rfl, s1, rfl, b⟩
        refine ⟨_, rfl, T.xTooMany, T.rTooMany, fun e ne => ?_⟩
        have s2 := s1.next (o := .ext (ExcO e (.ref c.TooMany))) ne
        have y2 : (upd H' e (.ext (ExcO e (.ref c.TooMany)))) e = some (.ext (ExcO e (.ref c.TooMany))) := upd_same
        generalize upd H' e (.ext (ExcO e (.ref c.TooMany))) = H2 at s2 y2
        exact ⟨_, rfl, e, _, rfl, y2, T.alTooMany, fun H3 s3 => ⟨s2.trans s3, .bl true, rfl, .inl ⟨b, rfl⟩⟩⟩
    · rintro σ' H2 ⟨s2, v, rfl, ⟨b, rfl⟩ | ⟨b, z, rfl, hw⟩⟩
      · exact ⟨_, rfl, k1 b H2 s2⟩
      · exact ⟨_, rfl, k2 b z H2 s2 hw⟩
theorem sum_add {α : Type} (a b : α → Int) : ∀ L : List α, (L.map fun x => a x + b x).sum = (L.map a).sum + (L.map b).sum
  | [] => rfl
  | x :: L => by
    rw [List.map_cons, List.sum_cons, List.map_cons, List.sum_cons, List.map_cons, List.sum_cons, sum_add a b L]; omega
theorem sum_one (q : Int) : ∀ n : Nat, 0 ≤ q → ((List.range n).map fun (p : Nat) => if q = (p : Int) then (1 : Int) else 0).sum = if q < (n : Int) then 1 else 0
  | 0, h => by rw [if_neg (by omega)]; rfl
  | n + 1, h => by
    rw [List.range_succ, List.map_append, List.sum_append, sum_one q n h]
    show _ + ((if q = (n : Int) then (1 : Int) else 0) + 0) = _
    by_cases c1 : q < (n : Int)
    · rw [if_pos c1, if_neg (show ¬ q = (n : Int) by omega), if_pos (by omega)]; rfl
    · rw [if_neg c1]
      by_cases c2 : q = (n : Int)
      · rw [if_pos c2, if_pos (by omega)]; rfl
      · rw [if_neg c2, if_neg (by omega)]; rfl
theorem deg_sum {m : Int} : ∀ {es : List (Int × Int)}, EndsIn es m → ((List.range m.toNat).map fun (p : Nat) => (es.map (cntP (p : Int))).sum).sum = 2 * (es.length : Int)
  | [], _ => by
    show ((List.range m.toNat).map fun _ => (0 : Int)).sum = 0
    generalize List.range m.toNat = L
    induction L with
    | nil => rfl
    | cons a L ih => rw [List.map_cons, List.sum_cons, ih]; rfl
  | e :: es, h => by
    have b := h e List.mem_cons_self
    have ih := deg_sum (m := m) (es := es) fun x hx => h x (List.mem_cons_of_mem _ hx)
    have e1 : ((List.range m.toNat).map fun (p : Nat) => ((e :: es).map (cntP (p : Int))).sum) = (List.range m.toNat).map fun (p : Nat) => cntP (p : Int) e + (es.map (cntP (p : Int))).sum := List.map_congr_left fun p _ => by rw [List.map_cons, List.sum_cons]
    rw [e1, sum_add, ih]
    have e2 : ((List.range m.toNat).map fun (p : Nat) => cntP (p : Int) e).sum = 2 := by
      show ((List.range m.toNat).map fun (p : Nat) => (if e.1 = (p : Int) then (1 : Int) else 0) + (if e.2 = (p : Int) then (1 : Int) else 0)).sum = 2
      rw [sum_add, sum_one e.1 _ b.1, sum_one e.2 _ b.2.2.1, if_pos (by omega), if_pos (by omega)]; rfl
    rw [e2, List.length_cons]; omega
theorem split_at {es : List (Int × Int)} {p : Nat} (hp : p < es.length) : es = es.take p ++ es.getD p (0, 0) :: es.drop (p + 1) := by
  have h1 : es.getD p (0, 0) = es[p] := by rw [List.getD_eq_getElem?_getD, List.getElem?_eq_getElem hp]; rfl
  rw [h1, ← List.drop_eq_getElem_cons hp, List.take_append_drop]
theorem mem_less {es : List (Int × Int)} {p : Nat} (hp : p < es.length) : (∀ e ∈ es, e = es.getD p (0, 0) ∨ e ∈ es.take p ++ es.drop (p + 1)) ∧ (∀ e ∈ es.take p ++ es.drop (p + 1), e ∈ es) ∧ es.getD p (0, 0) ∈ es := by
  refine ⟨fun e he => ?_, fun e he => ?_, ?_⟩
  · rw [split_at hp] at he
    rcases List.mem_append.mp he with y | y
    · exact .inr (List.mem_append_left _ y)
    · rcases List.mem_cons.mp y with y | y
      · exact .inl y
      · exact .inr (List.mem_append_right _ y)
  · rcases List.mem_append.mp he with y | y
    · exact List.mem_of_mem_take y
    · exact List.mem_of_mem_drop y
  · rw [List.getD_eq_getElem?_getD, List.getElem?_eq_getElem hp]; exact List.getElem_mem _
theorem jn_roots {m : Int} {es : List (Int × Int)} {p : Nat} {f k : Int → Int} (hp : p < es.length) (hE : EndsIn es m) (F : Lab m es f) (G : Lab (jm (es.getD p (0, 0)) m) (jes (es.getD p (0, 0)) (es.take p ++ es.drop (p + 1))) k) : (rts (jm (es.getD p (0, 0)) m).toNat k).length = (rts m.toNat f).length := by
  obtain ⟨h1, h2, h0⟩ := mem_less hp
  have b := hE _ h0
  generalize es.getD p (0, 0) = e0 at *
  generalize es.take p ++ es.drop (p + 1) = rs at *
  symm
  by_cases c : e0.1 = e0.2
  · have ej : jm e0 m = m := if_pos c
    have es' : jes e0 rs = rs := if_pos c
    rw [ej, es'] at G
    rw [ej]
    refine rts_maps F G id id (fun p p0 p1 => ⟨p0, p1⟩) (fun p p0 p1 => ⟨p0, p1⟩) (fun h => Cn.map (g := id) (fun e he => ?_) h) (fun h => h.mono h2) (fun p _ _ => .refl _) fun p _ _ => .refl _
    rcases h1 e he with y | y
    · rw [y]; show Cn rs e0.1 e0.2; rw [c]; exact .refl _
    · exact Cn.tie y
  · have ej : jm e0 m = m - 1 := if_neg c
    have es' : jes e0 rs = rs.map (rnE (min e0.1 e0.2) (max e0.1 e0.2)) := if_neg c
    rw [ej, es'] at G
    rw [ej]
    have hlo : ∀ x : Int, (x = e0.1 ∨ x = e0.2) → rn (min e0.1 e0.2) (max e0.1 e0.2) x = min e0.1 e0.2 := fun x hx => by
      unfold rn
      rw [if_neg (by omega)]
      by_cases d : x = max e0.1 e0.2
      · rw [if_pos d]
      · rw [if_neg d]; omega
    refine joined_roots (rn := rn (min e0.1 e0.2) (max e0.1 e0.2)) (fun p => rfl) (by omega) (by omega) (by omega) (fun e he => ?_) h2 ?_ rfl F G
    · rcases h1 e he with y | y
      · rw [y]; exact .inl ⟨hlo _ (.inl rfl), hlo _ (.inr rfl)⟩
      · exact .inr y
    · by_cases d : e0.1 ≤ e0.2
      · rw [Int.min_eq_left d, Int.max_eq_right d]; exact Cn.tie h0
      · rw [Int.min_eq_right (by omega), Int.max_eq_left (by omega)]; exact Cn.eit h0
theorem less_get {es : List (Int × Int)} {i : Nat} (h : i < es.length) (j : Nat) : (es.take i ++ es.drop (i + 1))[j]? = if j < i then es[j]? else es[j + 1]? := by
  rw [List.getElem?_append, List.length_take, Nat.min_eq_left (by omega)]
  by_cases c : j < i
  · rw [if_pos c, if_pos c, List.getElem?_take, if_pos c]
  · rw [if_neg c, if_neg c, List.getElem?_drop]; congr 1; omega
theorem less_len {es : List (Int × Int)} {i : Nat} (h : i < es.length) : (es.take i ++ es.drop (i + 1)).length = es.length - 1 := by
  rw [List.length_append, List.length_take, List.length_drop]; omega
theorem less_comm {es : List (Int × Int)} {t o : Nat} (h1 : t < o) (h2 : o < es.length) : (es.take o ++ es.drop (o + 1)).take t ++ (es.take o ++ es.drop (o + 1)).drop (t + 1) = (es.take t ++ es.drop (t + 1)).take (o - 1) ++ (es.take t ++ es.drop (t + 1)).drop (o - 1 + 1) := by
  have l1 := less_len h2
  have l2 := less_len (es := es) (i := t) (by omega)
  refine List.ext_getElem? fun j => ?_
  rw [less_get (by omega), less_get h2, less_get h2, less_get (by omega), less_get (by omega), less_get (by omega)]
  by_cases c1 : j < t
  · rw [if_pos c1, if_pos (show j < o by omega), if_pos (show j < o - 1 by omega), if_pos c1]
  · rw [if_neg c1]
    by_cases c2 : j + 1 < o
    · rw [if_pos c2, if_pos (show j < o - 1 by omega), if_neg c1]
    · rw [if_neg c2, if_neg (show ¬ j < o - 1 by omega), if_neg (show ¬ j + 1 < t by omega)]
def spDe (K : PySem.W.Frag) (c : Cs) : Sp := fun vs H Q _ => ∃ (x l : Addr) (m ce : Int) (xs : List V) (es : List (Int × Int)), vs = [.ref x, .int m, .ref l, .int ce] ∧ WebD K c.Web H x m es ∧ SqL K H l xs ∧ Pairs K H xs es ∧ 1 ≤ m ∧ m ≤ 20 ∧ es.length ≤ 40 ∧ EndsIn es m ∧ ∀ H', Same H H' → Q (.bl true) H'
theorem scDe : FnScope ["web", "many", "ends", "cell", "count", "tie", "other"] ["web", "many", "ends", "cell"] (defScope sDe) := ⟨rfl, rfl, rfl, by decide +kernel, rfl, by decide +kernel, by decide +kernel⟩
set_option maxHeartbeats 8000000 in
theorem ok_De {f : Addr} {fd : FuncData} (F : Fun K "_law_deeds" "_law_deeds" sDe f fd) (T : Txt K mg c) (D_Dg : DefE P w K mg base 2 "degree" ["web", "place"] (spDg K c)) (D_Pc : Def P w K mg base 2 "pieces" ["web"] (spPc K c)) (D_Jo : DefE P w K mg base 4 "joined" ["web", "tie"] (spJo K c)) (D_Le : DefE P w K mg base 3 "less" ["web", "tie"] (spLe K c)) (D_Tu : DefE P w K mg base 3 "turned" ["web", "tie"] (spTu K c)) (D_I : Def P w K mg base 2 "_law_is_web" ["web", "many", "ends"] (spI K c.Web)) : FnOk P w K mg base CX0 5 f fd ["web", "many", "ends", "cell"] (spDe K c) := by
  refine F.ok scDe (fun vs H Q E h => ?_) (fun cdv A outer s H vs Q E hr h => ?_)
  · obtain ⟨x, l, m, ce, xs, es, rfl, _⟩ := h
    rfl
  · obtain ⟨x, l, m, ce, xs, es, rfl, hw, hl, hp, m1, m2, he, hE, k⟩ := h
    have hu : A.units + 3 + 64 < cLine := hr.units
    refine ⟨_, pss_cons (ps_if (pt_cmpR op_ne (pe_callB (cSum (K := K) rfl rfl) (by rfl) T.sum PyProof.Rows.boot_sum (pa_cons (pe_lc (N' := ["place", "web"]) (nl := 1) (js := [0]) rfl (.of (osc := defScope sDe) (N := ["web", "many", "ends", "cell", "count", "tie", "other"]) (by decide +kernel) rfl rfl) (pi_range1 rfl T.range (pa_cons (pv 1) pa_nil))
        (fun _ _ _ _ => pg_name (i := 0) (show (["place", "web"] : List Str).Nodup by decide +kernel) rfl (Or.inl rfl)) (fun _ _ _ _ => pif_nil)
        (fun _ _ _ _ => pe_defR D_Dg.calm hr (pa_cons (pv 1) (pa_cons (pv 0) pa_nil)))) pa_nil)) (pe_op op_mul (pe_int) (pe_callB (cLen (K := K) rfl) (by rfl) T.len PySem.boot_len (pa_cons (pv 2) pa_nil))) (nomark _))
        (pss_one (ps_ret (pe_bl))) (pss_nil))
      (pss_cons (ps_set (i := 4) scDe.nd rfl (Or.inl rfl) (pe_callB (cLen (K := K) rfl) (by rfl) T.len PySem.boot_len (pa_cons (pe_defR D_Pc hr (pa_cons (pv 0) pa_nil)) pa_nil)))
      (pss_cons (ps_for PassesOwn.never rfl (pi_range3 rfl T.range (pa_cons (pe_op op_mod (pv 3) (pe_int)) (pa_cons (pe_callB (cLen (K := K) rfl) (by rfl) T.len PySem.boot_len (pa_cons (pv 2) pa_nil)) (pa_cons (pe_int) pa_nil)))) (pg_name (i := 5) scDe.nd rfl (Or.inl rfl))
        (pss_cons (ps_if (PW.pt (pw_or (pt_cmpR op_ne (pe_callB (cLen (K := K) rfl) (by rfl) T.len PySem.boot_len (pa_cons (pe_defR D_Pc hr (pa_cons (pe_defR D_Jo.calm hr (pa_cons (pv 0) (pa_cons (pv 5) pa_nil))) pa_nil)) pa_nil)) (pv 4) (nomark _)) (pw_or1 (pt_cmpR (opNotIn (K := K) rfl) (pe_op op_sub (pe_callB (cLen (K := K) rfl) (by rfl) T.len PySem.boot_len (pa_cons (pe_defR D_Pc hr (pa_cons (pe_defR D_Le.calm hr (pa_cons (pv 0) (pa_cons (pv 5) pa_nil))) pa_nil)) pa_nil)) (pv 4)) (pe_lst (pa_cons (pe_int) (pa_cons (pe_int) pa_nil))) (by with_unfolding_all rfl)))))
        (pss_one (ps_ret (pe_bl))) (pss_nil))
      (pss_one (ps_if (pt_not (pt_val (pe_defR D_I hr (pa_cons (pe_defR D_Tu.calm hr (pa_cons (pe_defR D_Tu.calm hr (pa_cons (pv 0) (pa_cons (pv 5) pa_nil))) (pa_cons (pv 5) pa_nil))) (pa_cons (pv 1) (pa_cons (pv 2) pa_nil))))))
        (pss_one (ps_ret (pe_bl))) (pss_nil)))))
      (pss_cons (ps_for PassesOwn.never rfl (pi_range3 rfl T.range (pa_cons (pe_op op_mod (pv 3) (pe_int)) (pa_cons (pe_op op_sub (pe_callB (cLen (K := K) rfl) (by rfl) T.len PySem.boot_len (pa_cons (pv 2) pa_nil)) (pe_int)) (pa_cons (pe_int) pa_nil)))) (pg_name (i := 5) scDe.nd rfl (Or.inl rfl))
        (pss_cons (ps_cut (ps_set (i := 6) scDe.nd rfl (Or.inl rfl) (pe_op op_add (pe_op op_add (pv 5) (pe_int)) (pe_op op_mod (pv 3) (pe_op op_sub (pe_op op_sub (pe_callB (cLen (K := K) rfl) (by rfl) T.len PySem.boot_len (pa_cons (pv 2) pa_nil)) (pe_int)) (pv 5))))))
      (pss_one (ps_if (pt_cmpR (opNeD (K := K) rfl hu) (pTies (K := K) rfl T.web (pe_defR D_Le.calm hr (pa_cons (pe_defR D_Le.calm hr (pa_cons (pv 0) (pa_cons (pv 6) pa_nil))) (pa_cons (pv 5) pa_nil)))) (pTies (K := K) rfl T.web (pe_defR D_Le.calm hr (pa_cons (pe_defR D_Le.calm hr (pa_cons (pv 0) (pa_cons (pv 5) pa_nil))) (pa_cons (pe_op op_sub (pv 6) (pe_int)) pa_nil)))) (nomark _))
        (pss_one (ps_ret (pe_bl))) (pss_nil)))))
      (pss_one (ps_ret (pe_bl)))))), ?_⟩
    clear hu
    have hxl := hp.len
    have hwa := hw.at
    refine ⟨_, rfl, m, rfl, by omega, by omega, lc_by itok_range (fun j ys H2 => Same H H2 ∧ ys = ((List.range j).map fun (p : Nat) => (es.map (cntP (p : Int))).sum).map V.int) (Nat.le_of_lt (small1000 (by omega))) ⟨Same.refl _, rfl⟩ ?_ ?_ ?_⟩
    · rintro j ys H2 hj ⟨s2, rfl⟩
      exact ⟨trivial, by rw [List.length_map, List.length_map, List.length_range]; exact Nat.le_refl _⟩
    · rintro j ys H2 hj ⟨s2, rfl⟩
      have hj' : j < m.toNat := hj
      try dsimp only
      rw [Int.zero_add]
      refine ⟨wk_set rfl, iteT ⟨_, rfl, _, rfl, x, _, m, es, rfl, hw.same s2, he, fun z => absurd ⟨by omega, by omega⟩ z, fun _ _ H3 s3 => ⟨small1000 (by rw [List.length_map, List.length_map, List.length_range]; omega), _, by omega, rfl, by omega, s2.trans s3, ?_⟩⟩⟩
      rw [List.range_succ, List.map_append, List.map_append]; rfl
    rintro ys H2 ⟨s2, rfl⟩ lz nlz
    refine ⟨lz, _, rfl, .inl (SqL.of upd_same), ?_⟩
    rw [deg_sum hE]
    have s3 := s2.next (o := .lst (((List.range m.toNat).map fun (p : Nat) => (es.map (cntP (p : Int))).sum).map V.int)) nlz
    generalize upd H2 lz (.lst (((List.range m.toNat).map fun (p : Nat) => (es.map (cntP (p : Int))).sum).map V.int)) = H3 at s3
    refine ⟨_, rfl, l, xs, rfl, .inl (s3.seq hl), _, _, rfl, rfl, .inl ⟨by decide, by decide⟩, rfl, _, rfl, ?_⟩
    rw [hxl, decide_eq_true rfl]
    refine iteF ?_
    refine ⟨_, rfl, x, m, es, rfl, hwa.same s3, m1, m2, he, hE, fun l4 f4 H4 L4 P4 => ?_⟩
    obtain ⟨s4, n4, ad4, a4, b4, _⟩ := P4
    refine ⟨l4, _, rfl, .inl (SqL.of a4), ?_⟩
    have s04 := s3.trans s4
    have hrl := rts_len m.toNat f4
    obtain ⟨n, en⟩ : ∃ n, n = (rts m.toNat f4).length := ⟨_, rfl⟩
    rw [List.length_map, ← en]
    have cm := Int.emod_nonneg ce (show (7 : Int) ≠ 0 by decide)
    have cl := Int.emod_lt_of_pos ce (show (0 : Int) < 7 by decide)
    refine ⟨_, rfl, _, _, rfl, rfl, (by show (0 : Int) < 7; decide), _, rfl, l, xs, rfl, .inl (s04.seq hl), ce % 7, (xs.length : Int), 7, rfl, ⟨cm, by omega, by omega, by omega, by decide, by decide⟩, fun cnt hcnt _ => for_by itok_range3 (fun i σ H5 => Same H H5 ∧ ∃ v5, σ = [some (.ref x), some (.int m), some (.ref l), some (.int ce), some (.int n), v5, none]) ⟨s04, none, rfl⟩ (fun _ _ _ _ _ => trivial) ?_ ?_⟩
    · rintro i σ H5 hi ⟨s5, v5, rfl⟩
      have hlt := hcnt i hi
      obtain ⟨t, et⟩ : ∃ t : Int, t = ce % 7 + (i : Int) * 7 := ⟨_, rfl⟩
      rw [← et] at hlt
      have t0 : 0 ≤ t := by omega
      have tl : t.toNat < es.length := by omega
      have h0 := (mem_less tl).2.2
      try dsimp only
      rw [← et]
      clear et hcnt
      refine ⟨_, rfl, _, rfl, x, t, m, es, rfl, hwa.same s5, m1, m2, he, hE, fun z => absurd ⟨t0, by omega⟩ z, fun _ _ y H6 s6 hy => ?_⟩
      have s06 := s5.trans s6
      have b0 := hE _ h0
      have jl : (jes (es.getD t.toNat (0, 0)) (es.take t.toNat ++ es.drop (t.toNat + 1))).length ≤ 40 := by
        unfold jes
        split
        · rw [List.length_append, List.length_take, List.length_drop]; omega
        · rw [List.length_map, List.length_append, List.length_take, List.length_drop]; omega
      have jmb : 1 ≤ jm (es.getD t.toNat (0, 0)) m ∧ jm (es.getD t.toNat (0, 0)) m ≤ 20 := by
        unfold jm
        split
        · omega
        · omega
      refine ⟨y, _, _, rfl, hy, jmb.1, jmb.2, jl, ?_, fun l7 f7 H7 L7 P7 => ?_⟩
      · intro e he'
        unfold jes at he'
        unfold jm
        by_cases c : (es.getD t.toNat (0, 0)).1 = (es.getD t.toNat (0, 0)).2
        · rw [if_pos c] at he' ⊢
          exact hE e ((mem_less tl).2.1 e he')
        · rw [if_neg c] at he' ⊢
          obtain ⟨e1, h1, rfl⟩ := List.mem_map.mp he'
          have b1 := hE e1 ((mem_less tl).2.1 e1 h1)
          have rb : ∀ p : Int, 0 ≤ p → p < m → 0 ≤ rn (min (es.getD t.toNat (0, 0)).1 (es.getD t.toNat (0, 0)).2) (max (es.getD t.toNat (0, 0)).1 (es.getD t.toNat (0, 0)).2) p ∧ rn (min (es.getD t.toNat (0, 0)).1 (es.getD t.toNat (0, 0)).2) (max (es.getD t.toNat (0, 0)).1 (es.getD t.toNat (0, 0)).2) p < m - 1 := fun p p0 p1 => by
            unfold rn
            split
            · omega
            · split <;> omega
          exact ⟨(rb _ b1.1 b1.2.1).1, (rb _ b1.1 b1.2.1).2, (rb _ b1.2.2.1 b1.2.2.2).1, (rb _ b1.2.2.1 b1.2.2.2).2⟩
      obtain ⟨s7, n7, ad7, a7, b7, _⟩ := P7
      have s07 := s06.trans s7
      refine ⟨l7, _, rfl, .inl (SqL.of a7), _, rfl, rfl, _, rfl, ?_⟩
      rw [List.length_map, jn_roots tl hE L4 L7, ← en, decide_eq_true rfl]
      refine iteF ?_
      refine ⟨_, rfl, _, rfl, x, t, m, es, rfl, hwa.same s07, m1, m2, he, hE, fun z => absurd ⟨t0, by omega⟩ z, fun _ _ y2 H8 s8 hy2 => ?_⟩
      have s08 := s07.trans s8
      have hE2 : EndsIn (es.take t.toNat ++ es.drop (t.toNat + 1)) m := fun e he' => hE e ((mem_less tl).2.1 e he')
      have ll : (es.take t.toNat ++ es.drop (t.toNat + 1)).length ≤ 40 := by rw [List.length_append, List.length_take, List.length_drop]; omega
      refine ⟨y2, m, _, rfl, hy2, m1, m2, ll, hE2, fun l9 f9 H9 L9 P9 => ?_⟩
      obtain ⟨s9, n9, ad9, a9, b9, _⟩ := P9
      have s09 := s08.trans s9
      have lr := less_roots (mem_less tl).1 (mem_less tl).2.1 h0 b0 L4 L9
      rw [← en] at lr
      refine ⟨l9, _, rfl, .inl (SqL.of a9), _, rfl, _, _, rfl, rfl, ?_⟩
      refine ⟨(by show 2 ≤ sizeLine; decide), fun q nq => ?_⟩
      have sA := s09.next (o := .lst [V.int 0, V.int 1]) nq
      have qA : (upd H9 q (.lst [V.int 0, V.int 1])) q = some (.lst (([0, 1] : List Int).map V.int)) := upd_same
      generalize upd H9 q (.lst [V.int 0, V.int 1]) = HA at sA qA
      refine ⟨q, _, rfl, .inl (SqL.of qA), rfl, flat_ints _, _, rfl, ?_⟩
      rw [if_pos rfl, inV_ints, List.length_map]
      have hin : ([0, 1] : List Int).any (· == (((rts m.toNat f9).length : Int) - (n : Int))) = true := by
        rcases lr with y | y
        · rw [show ((rts m.toNat f9).length : Int) - (n : Int) = 0 by omega]; rfl
        · rw [show ((rts m.toNat f9).length : Int) - (n : Int) = 1 by omega]; rfl
      rw [hin]
      refine iteF ?_
      have tw : ∀ e : Int × Int, EndsIn (es.set t.toNat e) m ↔ EndsIn (es.set t.toNat e) m := fun _ => Iff.rfl
      have hEs : EndsIn (es.set t.toNat ((es.getD t.toNat (0, 0)).2, (es.getD t.toNat (0, 0)).1)) m := fun e he' => by
        rcases List.mem_or_eq_of_mem_set he' with y | y
        · exact hE e y
        · rw [y]; exact ⟨b0.2.2.1, b0.2.2.2, b0.1, b0.2.1⟩
      have back : (es.set t.toNat ((es.getD t.toNat (0, 0)).2, (es.getD t.toNat (0, 0)).1)).set t.toNat (((es.set t.toNat ((es.getD t.toNat (0, 0)).2, (es.getD t.toNat (0, 0)).1)).getD t.toNat (0, 0)).2, ((es.set t.toNat ((es.getD t.toNat (0, 0)).2, (es.getD t.toNat (0, 0)).1)).getD t.toNat (0, 0)).1) = es := by
        have e1 : (es.set t.toNat ((es.getD t.toNat (0, 0)).2, (es.getD t.toNat (0, 0)).1)).getD t.toNat (0, 0) = ((es.getD t.toNat (0, 0)).2, (es.getD t.toNat (0, 0)).1) := by
          rw [List.getD_eq_getElem?_getD, List.getElem?_set_self tl]; rfl
        rw [e1, List.set_set]
        refine List.ext_getElem (List.length_set ..) fun i h1 h2 => ?_
        rw [List.getElem_set]
        by_cases d : t.toNat = i
        · rw [if_pos d]
          subst d
          rw [List.getD_eq_getElem?_getD, List.getElem?_eq_getElem tl]; rfl
        · rw [if_neg d]
      refine ⟨_, rfl, _, rfl, x, t, m, es, rfl, hwa.same sA, m1, m2, he, hE, fun z => absurd ⟨t0, by omega⟩ z, fun _ _ y3 HB sB hy3 => ?_⟩
      have sAB := sA.trans sB
      refine ⟨_, rfl, y3, t, m, _, rfl, hy3, m1, m2, by rw [List.length_set]; exact he, hEs, fun z => absurd ⟨t0, by rw [List.length_set]; omega⟩ z, fun _ _ y4 HC sC hy4 => ?_⟩
      rw [back] at hy4
      have sAC := sAB.trans sC
      exact ⟨_, rfl, _, rfl, y4, l, m, xs, es, rfl, hy4, sAC.seq hl, hp.same sAC, by omega, fun HD sD => ⟨_, rfl, iteF ⟨sAC.trans sD, _, rfl⟩⟩⟩
    · rintro σ H5 ⟨s5, v5, rfl⟩
      have cm4 := Int.emod_nonneg ce (show (4 : Int) ≠ 0 by decide)
      have cl4 := Int.emod_lt_of_pos ce (show (0 : Int) < 4 by decide)
      refine ⟨_, rfl, _, _, rfl, rfl, (by show (0 : Int) < 4; decide), _, rfl, l, xs, rfl, .inl (s5.seq hl), _, _, rfl, rfl, ce % 4, (xs.length : Int) - 1, 4, rfl, ⟨cm4, by omega, by omega, by omega, by decide, by decide⟩, fun cnt hcnt _ => for_by itok_range3 (fun i σ H6 => Same H H6 ∧ ∃ v5 v6, σ = [some (.ref x), some (.int m), some (.ref l), some (.int ce), some (.int n), v5, v6]) ⟨s5, _, none, rfl⟩ (fun _ _ _ _ _ => trivial) ?_ ?_⟩
      · rintro i σ H6 hi ⟨s6, v5, v6, rfl⟩
        have hlt := hcnt i hi
        obtain ⟨t, et⟩ : ∃ t : Int, t = ce % 4 + (i : Int) * 4 := ⟨_, rfl⟩
        rw [← et] at hlt
        have t0 : 0 ≤ t := by omega
        try dsimp only
        rw [← et]
        clear et hcnt
        refine ⟨fun σ' H' => H' = H6 ∧ ∃ o : Int, t < o ∧ o < (es.length : Int) ∧ σ' = [some (.ref x), some (.int m), some (.ref l), some (.int ce), some (.int n), some (.int t), some (.int o)], ?_, ?_⟩
        · have d0 := Int.emod_nonneg ce (show (xs.length : Int) - 1 - t ≠ 0 by omega)
          have d1 := Int.emod_lt_of_pos ce (show (0 : Int) < (xs.length : Int) - 1 - t by omega)
          exact ⟨_, rfl, _, _, rfl, rfl, _, rfl, _, rfl, l, xs, rfl, .inl (s6.seq hl), _, _, rfl, rfl, _, rfl, _, _, rfl, rfl, _, _, rfl, rfl, (by show (0 : Int) < (xs.length : Int) - 1 - t; omega), _, _, rfl, rfl, rfl, _, by omega, by omega, rfl⟩
        rintro σ' H6 ⟨rfl, o, o0, o1, rfl⟩
        have ol : o.toNat < es.length := by omega
        have tl : t.toNat < es.length := by omega
        have hEl : ∀ {j : Nat}, j < es.length → EndsIn (es.take j ++ es.drop (j + 1)) m := fun hj e he' => hE e ((mem_less hj).2.1 e he')
        have l1 := less_len ol
        have l2 := less_len tl
        refine ⟨_, rfl, _, rfl, x, o, m, es, rfl, hwa.same s6, m1, m2, he, hE, fun z => absurd ⟨by omega, o1⟩ z, fun _ _ y1 H7 s7 hy1 => ?_⟩
        refine ⟨_, rfl, y1, t, m, _, rfl, hy1, m1, m2, by omega, hEl ol, fun z => absurd ⟨t0, by omega⟩ z, fun _ _ y2 H8 s8 hy2 => ?_⟩
        have s08 := (s6.trans s7).trans s8
        refine ⟨y2, m, _, rfl, hy2, fun t1 ys1 ht1 hp1 => ?_⟩
        refine ⟨_, rfl, _, rfl, x, t, m, es, rfl, hwa.same s08, m1, m2, he, hE, fun z => absurd ⟨t0, by omega⟩ z, fun _ _ y3 H9 s9 hy3 => ?_⟩
        refine ⟨_, rfl, _, _, rfl, rfl, y3, o - 1, m, _, rfl, hy3, m1, m2, by omega, hEl tl, fun z => absurd ⟨by omega, by omega⟩ z, fun _ _ y4 HA sA hy4 => ?_⟩
        have s9A := s9.trans sA
        refine ⟨y4, m, _, rfl, hy4, fun t2 ys2 ht2 hp2 => ?_⟩
        refine ⟨dT _, dT _, .tup (SqT.of (s9A _ _ ht1)) (hp1.same s9A).dat, .tup (SqT.of ht2) hp2.dat, shaped_dT _, shaped_dT _, _, rfl, ?_⟩
        rw [eqv_dT, decide_eq_true (by rw [less_comm (by omega) ol, show (o - 1).toNat = o.toNat - 1 by omega])]
        exact iteF ⟨s08.trans s9A, _, _, rfl⟩
      · rintro σ H6 ⟨s6, v5, v6, rfl⟩
        exact k _ s6
def dLl (lss : List (List Int)) : PyData := .list (lss.map dI)
theorem dLl_lay : ∀ es : List (List Int), PyData.canLayAll0 (es.map dI) = true ∧ PyData.depthAll (es.map dI) ≤ 1
  | [] => ⟨rfl, Nat.zero_le _⟩
  | n :: r => by
    obtain ⟨h1, h2⟩ := dLl_lay r
    obtain ⟨h3, h4⟩ := dI_lay n
    simp only [List.map_cons, dI, PyData.canLayAll0, PyData.canLay0, PyData.depthAll, PyData.depth, h1, h3, h4]
    exact ⟨rfl, Nat.max_le.mpr ⟨by simp, h2⟩⟩
theorem shaped_dLl (es : List (List Int)) : SeqAt.shaped (dLl es) = true := by
  obtain ⟨h1, h2⟩ := dLl_lay es
  unfold SeqAt.shaped dLl
  simp only [PyData.canLay0, PyData.depth, h1, Bool.true_and]
  exact decide_eq_true (by omega)
theorem eqvAll_dLl : ∀ ns ms : List (List Int), PyData.eqvAll (ns.map dI) (ms.map dI) = decide (ns = ms)
  | [], [] => rfl
  | [], _ :: _ => rfl
  | _ :: _, [] => rfl
  | a :: r, b :: t => by
    simp only [List.map_cons, PyData.eqvAll]
    rw [eqv_dI, eqvAll_dLl r t]
    simp only [List.cons.injEq, Bool.decide_and]
theorem eqv_dLl (ns ms : List (List Int)) : PyData.eqv (dLl ns) (dLl ms) = decide (ns = ms) := eqvAll_dLl ns ms
def LsI (H : Hp) : List V → List (List Int) → Prop := Paired fun v ns => ∃ r, v = .ref r ∧ H r = some (.lst (ns.map V.int))
theorem LsI.same {H H' : Hp} (S : Same H H') {xs : List V} {ls : List (List Int)} (h : LsI H xs ls) : LsI H' xs ls := Paired.mapP h fun _ _ ⟨r, e, q⟩ => ⟨r, e, S _ _ q⟩
theorem LsI.len {H : Hp} {xs : List V} {ls : List (List Int)} (h : LsI H xs ls) : xs.length = ls.length := Paired.length h
theorem LsI.snoc {H : Hp} {xs : List V} {ls : List (List Int)} {r : Addr} {ns : List Int} (h : LsI H xs ls) (q : H r = some (.lst (ns.map V.int))) : LsI H (xs ++ [.ref r]) (ls ++ [ns]) := Paired.snoc h ⟨r, rfl, q⟩
theorem LsI.append : ∀ {H : Hp} {xs ys : List V} {ls ms : List (List Int)}, LsI H xs ls → LsI H ys ms → LsI H (xs ++ ys) (ls ++ ms)
  | _, _, _, _, _, .nil, h => h
  | _, _, _, _, _, .cons a t, h => .cons a (LsI.append t h)
theorem ls_dat {K : PySem.W.Frag} {H : Hp} : ∀ {xs : List V} {ls : List (List Int)}, LsI H xs ls → DatVs K H xs (ls.map dI)
  | _, _, .nil => .nil
  | _, _, .cons ⟨_, e, q⟩ t => by subst e; exact .cons (dat_ints (SqL.of q)) (ls_dat t)
theorem ls_pcs {H : Hp} {ad : Int → Addr} {g : Int → List Int} : ∀ {rs : List Int}, (∀ r ∈ rs, H (ad r) = some (.lst ((g r).map V.int))) → LsI H (rs.map fun r => V.ref (ad r)) (rs.map g)
  | [], _ => .nil
  | r :: rs, h => .cons ⟨ad r, rfl, h r List.mem_cons_self⟩ (ls_pcs fun s hs => h s (List.mem_cons_of_mem _ hs))
theorem pieces_both {m n : Int} {es fs : List (Int × Int)} {fp fq fw : Int → Int} (m0 : 0 ≤ m) (n0 : 0 ≤ n) (hE : EndsIn es m) (hF : EndsIn fs n) (P : Lab (m + n) (es ++ fs.map (shf m)) fp) (Q : Lab m es fq) (W : Lab n fs fw) : pcs (m + n).toNat fp = pcs m.toNat fq ++ (rts n.toNat fw).map fun r => (grp n.toNat fw r).map fun p => m + p := by
  obtain ⟨a, rfl⟩ : ∃ a : Nat, m = a := ⟨m.toNat, by omega⟩
  obtain ⟨b, rfl⟩ : ∃ b : Nat, n = b := ⟨n.toNat, by omega⟩
  have B := Lab.both m0 hE hF Q W
  rw [pcs_congr (g := fun p => if p < (a : Int) then fq p else a + fw (p - a)) fun p p0 p1 => P.uniq B p0 (by omega)]
  have h := pcs_both Q W
  rw [show ((a : Int) + (b : Int)).toNat = a + b by omega, Int.toNat_natCast, Int.toNat_natCast, h]
  unfold pcs
  rw [List.map_map]; rfl
theorem scL : FnScope ["script", "first", "many", "ends", "more", "others", "one", "two", "found", "due"] ["script"] (defScope sL) := ⟨rfl, rfl, rfl, by decide +kernel, rfl, by decide +kernel, by decide +kernel⟩
set_option maxHeartbeats 16000000 in
theorem ok_L {f : Addr} {fd : FuncData} (F : Fun K "law" "law" sL f fd) (T : Txt K mg c) (D_C : Def P w K mg base 1 "_law_cell" ["script", "k"] (spC K)) (D_D : Def P w K mg base 3 "_law_drawn" ["script"] (spD K)) (D_Cu : Def P w K mg base 1 "_law_cut" ["many", "ends", "most", "count"] (spCu K)) (D_Bo : Def P w K mg base 4 "_law_both" ["one", "two"] (spBo K c)) (D_I : Def P w K mg base 2 "_law_is_web" ["web", "many", "ends"] (spI K c.Web)) (D_Pc : Def P w K mg base 2 "pieces" ["web"] (spPc K c)) (D_De : Def P w K mg base 5 "_law_deeds" ["web", "many", "ends", "cell"] (spDe K c)) (D_N : MkDef P w K mg base 1 "Web" c.Web ["self", "many", "ties"] (spInit K c.Web)) : FnOk P w K mg base CX0 6 f fd ["script"] (spLaw K) := by
  refine F.ok scL (fun vs H Q E h => ?_) (fun cdv A outer s H vs Q E hr h => ?_)
  · obtain ⟨a, ns, rfl, _⟩ := h
    rfl
  · obtain ⟨a, ns, rfl, hS, hlen, k⟩ := h
    have hu : A.units + 3 + 64 < cLine := hr.units
    refine ⟨_, pss_cons (ps_set (i := 1) scL.nd rfl (Or.inl rfl) (pe_defR D_C hr (pa_cons (pv 0) (pa_cons (pe_int) pa_nil))))
      (pss_cons (ps_asg (pe_defR D_D hr (pa_cons (pv 0) pa_nil)) (pgTup (K := K) (n := 2) rfl rfl (pgs_cons (pg_name (i := 2) scL.nd rfl (Or.inr rfl)) (pgs_cons (pg_name (i := 3) scL.nd rfl (Or.inl rfl)) (pgs_nil))) rfl))
      (pss_cons (ps_asg (pe_defR D_D hr (pa_cons (pe_listrev (K := K) rfl rfl rfl T.list rfl T.reversed (pa_cons (pv 0) pa_nil)) pa_nil)) (pgTup (K := K) (n := 2) rfl rfl (pgs_cons (pg_name (i := 4) scL.nd rfl (Or.inl rfl)) (pgs_cons (pg_name (i := 5) scL.nd rfl (Or.inl rfl)) (pgs_nil))) rfl))
      (pss_cons (ps_cut (ps_if (pt_cmpR op_lt (pe_op op_mod (pe_op op_fdiv (pv 1) (pe_int)) (pe_int)) (pe_int) (nomark _))
        (pss_cons (ps_asg (pe_defR D_Cu hr (pa_cons (pv 2) (pa_cons (pv 3) (pa_cons (pe_int) (pa_cons (pe_int) pa_nil))))) (pgTup (K := K) (n := 2) rfl rfl (pgs_cons (pg_name (i := 2) scL.nd rfl (Or.inr rfl)) (pgs_cons (pg_name (i := 3) scL.nd rfl (Or.inl rfl)) (pgs_nil))) rfl))
      (pss_one (ps_asg (pe_defR D_Cu hr (pa_cons (pv 4) (pa_cons (pv 5) (pa_cons (pe_op op_add (pe_int) (pe_callTy call_int1 (by rfl) T.int PyProof.Rows.boot_int (pa_cons (pe_cmpR op_eq (pe_op op_mod (pe_op op_fdiv (pv 1) (pe_int)) (pe_int)) (pe_int) (nomark _)) pa_nil))) (pa_cons (pe_op op_add (pe_int) (pe_callTy call_int1 (by rfl) T.int PyProof.Rows.boot_int (pa_cons (pe_cmpR op_eq (pe_op op_mod (pe_op op_fdiv (pv 1) (pe_int)) (pe_int)) (pe_int) (nomark _)) pa_nil))) pa_nil))))) (pgTup (K := K) (n := 2) rfl rfl (pgs_cons (pg_name (i := 4) scL.nd rfl (Or.inl rfl)) (pgs_cons (pg_name (i := 5) scL.nd rfl (Or.inl rfl)) (pgs_nil))) rfl)))) (pss_nil)))
      (pss_cons (ps_set (i := 6) scL.nd rfl (Or.inl rfl) (pe_web D_N hr (pa_cons (pv 2) (pa_cons (pe_callTy (cList (K := K) rfl) (by rfl) T.list PyProof.Rows.boot_list (pa_cons (pv 3) pa_nil)) pa_nil))))
      (pss_cons (ps_set (i := 7) scL.nd rfl (Or.inl rfl) (pe_web D_N hr (pa_cons (pv 4) (pa_cons (pe_callTy (cList (K := K) rfl) (by rfl) T.list PyProof.Rows.boot_list (pa_cons (pv 5) pa_nil)) pa_nil))))
      (pss_cons (ps_set (i := 8) scL.nd rfl (Or.inl rfl) (pe_defR D_Bo hr (pa_cons (pv 6) (pa_cons (pv 7) pa_nil))))
      (pss_cons (ps_if (PW.pt (pw_or (pt_cmpR op_gt (pe_op op_add (pv 2) (pv 4)) (pe_int) (nomark _)) (pw_or1 (pt_cmpR op_gt (pe_op op_add (pe_callB (cLen (K := K) rfl) (by rfl) T.len PySem.boot_len (pa_cons (pv 3) pa_nil)) (pe_callB (cLen (K := K) rfl) (by rfl) T.len PySem.boot_len (pa_cons (pv 5) pa_nil))) (pe_int) (nomark _)))))
        (pss_one (ps_ret (pe_cmpR op_is_bl (pv 8) (pe_bl) (nomark _)))) (pss_nil))
      (pss_cons (ps_set (i := 9) scL.nd rfl (Or.inl rfl) (pe_op op_cat (pv 3) (pe_lc (N' := ["low", "high", "many"]) (nl := 2) (js := [2]) rfl (.of (osc := defScope sL) (N := ["script", "first", "many", "ends", "more", "others", "one", "two", "found", "due"]) (by decide +kernel) rfl rfl) (piSeq (K := K) rfl (pv 5))
        (fun _ _ _ _ => pgPair (K := K) (i := 0) (j := 1) rfl rfl (show (["low", "high", "many"] : List Str).Nodup by decide +kernel) rfl rfl rfl rfl) (fun _ _ _ _ => pif_nil)
        (fun _ _ _ _ => pe_tup (pa_cons (pe_op op_add (pv 0) (pv 2)) (pa_cons (pe_op op_add (pv 1) (pv 2)) pa_nil))))))
      (pss_cons (ps_if (pt_not (pt_val (pe_defR D_I hr (pa_cons (pv 8) (pa_cons (pe_op op_add (pv 2) (pv 4)) (pa_cons (pv 9) pa_nil))))))
        (pss_one (ps_ret (pe_bl))) (pss_nil))
      (pss_cons (ps_if (pt_cmpR (opNeD (K := K) rfl hu) (pe_defR D_Pc hr (pa_cons (pv 8) pa_nil)) (pe_op op_cat (pe_defR D_Pc hr (pa_cons (pv 6) pa_nil)) (pe_lc (N' := ["told", "many"]) (nl := 1) (js := [2]) rfl (.of (osc := defScope sL) (N := ["script", "first", "many", "ends", "more", "others", "one", "two", "found", "due"]) (by decide +kernel) rfl rfl) (piSeq (K := K) rfl (pe_defR D_Pc hr (pa_cons (pv 7) pa_nil)))
        (fun _ _ _ _ => pg_name (i := 0) (show (["told", "many"] : List Str).Nodup by decide +kernel) rfl (Or.inl rfl)) (fun _ _ _ _ => pif_nil)
        (fun _ _ _ _ => pe_lc (N' := ["place", "many"]) (nl := 1) (js := [1]) rfl (.of (osc := ⟨.function, [(".0", .local), ("told", .local), ("many", .cell)], false, false, []⟩) (N := ["told", "many"]) (by decide +kernel) rfl rfl) (piSeq (K := K) rfl (pv 0))
        (fun _ _ _ _ => pg_name (i := 0) (show (["place", "many"] : List Str).Nodup by decide +kernel) rfl (Or.inl rfl)) (fun _ _ _ _ => pif_nil)
        (fun _ _ _ _ => pe_op op_add (pv 0) (pv 1))))) (nomark _))
        (pss_one (ps_ret (pe_bl))) (pss_nil))
      (pss_cons (ps_if (pt_not (pt_val (pe_defR D_De hr (pa_cons (pv 8) (pa_cons (pe_op op_add (pv 2) (pv 4)) (pa_cons (pv 9) (pa_cons (pe_op op_mod (pe_op op_fdiv (pv 1) (pe_int)) (pe_int)) pa_nil)))))))
        (pss_one (ps_ret (pe_bl))) (pss_nil))
      (pss_one (ps_ret (pe_and (pe_defR D_I hr (pa_cons (pv 6) (pa_cons (pv 2) (pa_cons (pv 3) pa_nil)))) (pe_one (pe_defR D_I hr (pa_cons (pv 7) (pa_cons (pv 4) (pa_cons (pv 5) pa_nil))))))))))))))))))), ?_⟩
    clear hu
    refine ⟨_, rfl, a, ns, 0, rfl, hS, by decide, ?_⟩
    generalize ns.getD (0 : Int).toNat 0 = fi
    refine ⟨_, rfl, a, ns, rfl, hS, fun t l m xs es H1 hl s1 ht hl1 hp m1 m2 he hE => ?_⟩
    refine ⟨t, _, rfl, SqT.of ht, rfl, _, _, rfl, _, _, rfl, rfl, ?_⟩
    refine ⟨_, rfl, a, _, rfl, s1.seq hS, fun lr nlr => ?_⟩
    rw [← List.map_reverse]
    have u1 := Same.new (o := .lst (ns.reverse.map V.int)) nlr
    have r1 : (upd H1 lr (.lst (ns.reverse.map V.int))) lr = some (.lst (ns.reverse.map V.int)) := upd_same
    generalize upd H1 lr (.lst (ns.reverse.map V.int)) = H2 at u1 r1
    refine ⟨lr, ns.reverse, rfl, SqL.of r1, fun t2 l2 n ys fs H3 hl2 s3 ht2 hl3 hp2 n1 n2 hf hF => ?_⟩
    refine ⟨t2, _, rfl, SqT.of ht2, rfl, _, _, rfl, _, _, rfl, rfl, ?_⟩
    have s13 := u1.trans s3
    refine ⟨fun σ' H' => ∃ (l l2 : Addr) (m n : Int) (xs ys : List V) (es fs : List (Int × Int)), σ' = [some (.ref a), some (.int fi), some (.int m), some (.ref l), some (.int n), some (.ref l2), none, none, none, none] ∧ H' l = some (.lst xs) ∧ Pairs K H' xs es ∧ 1 ≤ m ∧ m ≤ 20 ∧ es.length ≤ 40 ∧ EndsIn es m ∧ H' l2 = some (.lst ys) ∧ Pairs K H' ys fs ∧ 1 ≤ n ∧ n ≤ 20 ∧ fs.length ≤ 40 ∧ EndsIn fs n, ?_, ?_⟩
    · refine ⟨_, rfl, _, _, rfl, rfl, ⟨by decide, by decide⟩, _, _, rfl, rfl, (by show (0 : Int) < 4; decide), _, _, rfl, rfl, _, rfl, ite2 (fun _ => ?_) (fun _ => ?_)⟩
      · refine ⟨_, rfl, _, rfl, l, m, 12, 20, xs, es, rfl, SqL.of (s13 _ _ hl1), hp.same s13, m1, m2, by decide, by decide, by decide, by decide, he, fun t3 l3 m3 xs3 es3 H4 s4 ht3 hl4 hp4 m31 m32 he3 hE3 => ?_⟩
        refine ⟨t3, _, rfl, SqT.of ht3, rfl, _, _, rfl, _, _, rfl, rfl, ?_⟩
        refine ⟨_, rfl, _, rfl, _, rfl, _, _, rfl, rfl, ⟨by decide, by decide⟩, _, _, rfl, rfl, (by show (0 : Int) < 4; decide), rfl, .inr ⟨_, rfl, ?_⟩⟩
        refine ⟨_, _, rfl, rfl, _, rfl, _, _, rfl, rfl, ⟨by decide, by decide⟩, _, _, rfl, rfl, (by show (0 : Int) < 4; decide), rfl, .inr ⟨_, rfl, ?_⟩⟩
        refine ⟨_, _, rfl, rfl, l2, n, _, _, ys, fs, rfl, SqL.of (s4 _ _ hl3), hp2.same s4, n1, n2, ?_, ?_, ?_, ?_, hf, fun t5 l5 m5 ys5 fs5 H5 s5 ht5 hl5 hp5 m51 m52 hf5 hF5 => ?_⟩
        · show (1 : Int) ≤ 8 + (if _ then 1 else 0); split <;> omega
        · show (8 : Int) + (if _ then 1 else 0) ≤ 20; split <;> omega
        · show (0 : Int) ≤ 20 + (if _ then 1 else 0); split <;> omega
        · show (20 : Int) + (if _ then 1 else 0) ≤ 40; split <;> omega
        have m53 : m5 ≤ 20 := Int.le_trans m52 (by show (8 : Int) + (if _ then 1 else 0) ≤ 20; split <;> omega)
        exact ⟨t5, _, rfl, SqT.of ht5, rfl, _, _, rfl, _, _, rfl, rfl, l3, l5, m3, m5, xs3, ys5, es3, fs5, rfl, s5 _ _ hl4, hp4.same s5, m31, by omega, he3, hE3, hl5, hp5, m51, m53, hf5, hF5⟩
      · exact ⟨l, l2, m, n, xs, ys, es, fs, rfl, s13 _ _ hl1, hp.same s13, m1, m2, he, hE, hl3, hp2, n1, n2, hf, hF⟩
    clear s13 hF hf n2 n1 hp2 hl3 ht2 s3 hl2 u1 r1 hE he m2 m1 hp hl1 ht s1 hl hS
    rintro σ' H3 ⟨l, l2, m, n, xs, ys, es, fs, rfl, hl3, hp3, m1, m2, he, hE, gl3, gp3, n1, n2, hf, hF⟩
    have hxl := hp3.len
    have hyl := gp3.len
    refine ⟨_, rfl, _, rfl, l, _, rfl, .inl (SqL.of hl3), fun q1 nq1 => ?_⟩
    have s4 := Same.new (o := .lst xs) nq1
    have e4 : (upd H3 q1 (.lst xs)) q1 = some (.lst xs) := upd_same
    have p4 := hp3.same s4
    generalize upd H3 q1 (.lst xs) = H4 at s4 e4 p4
    refine ⟨q1, m, xs, es, rfl, .inl (SqL.of e4), p4, m1, m2, he, hE, fun x H5 nx s5 hx => ?_⟩
    have s35 := s4.trans s5
    refine ⟨_, rfl, _, rfl, l2, _, rfl, .inl (SqL.of (s35 _ _ gl3)), fun q2 nq2 => ?_⟩
    have s6 := Same.new (o := .lst ys) nq2
    have e6 : (upd H5 q2 (.lst ys)) q2 = some (.lst ys) := upd_same
    have p6 := (gp3.same s35).same s6
    generalize upd H5 q2 (.lst ys) = H6 at s6 e6 p6
    refine ⟨q2, n, ys, fs, rfl, .inl (SqL.of e6), p6, n1, n2, hf, hF, fun y H7 ny s7 hy => ?_⟩
    have s57 := s6.trans s7
    have s37 := s35.trans s57
    have hx7 := hx.same s57
    clear s4 e4 p4 s5 s6 e6 p6 s7
    have ml : (es ++ fs.map (shf m)).length = es.length + fs.length := by rw [List.length_append, List.length_map]
    refine ⟨_, rfl, _, rfl, x, y, m, n, es, fs, rfl, hx7, hy, m1, m2, n1, n2, he, hf, hE, hF, fun big H8 s8 => ?_, fun nb z H8 s8 hz => ?_⟩
    · have s38 := s37.trans s8
      refine ⟨_, rfl, _, rfl, _, _, rfl, rfl, _, _, rfl, rfl, _, rfl, ?_⟩
      by_cases c1 : (20 : Int) < m + n
      · rw [decide_eq_true c1]
        exact iteT (iteT ⟨_, rfl, true, true, rfl, rfl, k _⟩)
      · rw [decide_eq_false c1]
        refine iteF ⟨_, rfl, l, xs, rfl, .inl (SqL.of (s38 _ _ hl3)), _, rfl, l2, ys, rfl, .inl (SqL.of (s38 _ _ gl3)), _, _, rfl, rfl, _, _, rfl, rfl, _, rfl, ?_⟩
        rw [decide_eq_true (show (40 : Int) < (xs.length : Int) + (ys.length : Int) by unfold Big at big; omega)]
        exact iteT ⟨_, rfl, true, true, rfl, rfl, k _⟩
    · have s38 := s37.trans s8
      have hx8 := hx7.same s8
      have hy8 := hy.same s8
      have nb' : m + n ≤ 20 ∧ es.length + fs.length ≤ 40 := by unfold Big at nb; omega
      refine ⟨_, rfl, _, rfl, _, _, rfl, rfl, _, _, rfl, rfl, _, rfl, ?_⟩
      rw [decide_eq_false (show ¬ (20 : Int) < m + n by omega)]
      refine iteF ⟨_, rfl, l, xs, rfl, .inl (SqL.of (s38 _ _ hl3)), _, rfl, l2, ys, rfl, .inl (SqL.of (s38 _ _ gl3)), _, _, rfl, rfl, _, _, rfl, rfl, _, rfl, ?_⟩
      rw [decide_eq_false (show ¬ (40 : Int) < (xs.length : Int) + (ys.length : Int) by omega)]
      refine iteF ?_
      refine ⟨_, rfl, _, rfl, l2, ys, rfl, .inl (SqL.of (s38 _ _ gl3)), fun J C O hC => lc_by O (fun j zs H' => Same H8 H' ∧ Pairs K H' zs ((fs.take j).map (shf m))) (Nat.le_of_lt (small1000 (by omega))) ⟨Same.refl _, .nil⟩ ?_ ?_ ?_⟩
      · rintro j zs H9 hj ⟨s9, p9⟩
        exact ⟨hC _ s9, by rw [p9.len, List.length_map, List.length_take]; omega⟩
      · rintro j zs H9 hj ⟨s9, p9⟩
        obtain ⟨r, e, er, hr2, ei, he2⟩ := (gp3.same (s38.trans s9)).at hj
        have hpl2 := p9.len
        rw [List.length_map, List.length_take] at hpl2
        try dsimp only
        rw [er]
        refine ⟨r, _, rfl, hr2, rfl, _, _, rfl, _, _, rfl, rfl, wk_set2 rfl rfl, iteT ⟨_, rfl, _, rfl, _, _, rfl, rfl, _, rfl, _, rfl, _, _, rfl, rfl, (by show 2 ≤ sizeLine; decide), fun w nw => ?_⟩⟩
        have uz := Same.new (o := .tup [.int (e.1 + m), .int (e.2 + m)]) nw
        refine ⟨small1000 (by omega), _, by omega, rfl, by omega, s9.trans uz, ?_⟩
        rw [take_snoc ei, List.map_append]
        have hsn := (p9.same uz).snoc (e := (e.1 + m, e.2 + m)) (SqT.of upd_same)
        rw [show (e.1 + m, e.2 + m) = shf m e from by unfold shf; rw [Int.add_comm m, Int.add_comm m]] at hsn
        exact hsn
      rintro zs H9 ⟨s9, p9⟩ lz nlz
      rw [hyl, List.take_length] at p9
      have hzl := p9.len
      rw [List.length_map] at hzl
      have u9 := Same.new (o := .lst zs) nlz
      have e9 : (upd H9 lz (.lst zs)) lz = some (.lst zs) := upd_same
      have p9 := p9.same u9
      have s89 := s9.trans u9
      generalize upd H9 lz (.lst zs) = HA at u9 e9 p9 s89
      have s3A := s38.trans s89
      refine ⟨l, lz, xs, zs, rfl, rfl, s3A _ _ hl3, e9, Nat.le_of_lt (small1000 (by omega)), fun ld nld => ?_⟩
      have uA := Same.new (o := .lst (xs ++ zs)) nld
      have dA : (upd HA ld (.lst (xs ++ zs))) ld = some (.lst (xs ++ zs)) := upd_same
      have s3B := s3A.trans uA
      have s8B := s89.trans uA
      have pB := (hp3.same s3B).append (p9.same uA)
      generalize upd HA ld (.lst (xs ++ zs)) = HB at uA dA s3B s8B pB
      have hzB := hz.same s8B
      refine ⟨_, rfl, _, rfl, _, rfl, _, _, rfl, rfl, _, rfl, z, ld, m + n, _, _, rfl, hzB.at, SqL.of dA, pB, by omega, fun HC sC => ⟨_, rfl, iteF ?_⟩⟩
      have s8C := s8B.trans sC
      have hE8 : EndsIn (es ++ fs.map (shf m)) (m + n) := fun e he' => by
        rcases List.mem_append.mp he' with h | h
        · obtain ⟨a, b, c, d⟩ := hE e h; exact ⟨a, by omega, c, by omega⟩
        · obtain ⟨a, ha, rfl⟩ := List.mem_map.mp h
          obtain ⟨b1, b2, b3, b4⟩ := hF a ha
          exact ⟨by show 0 ≤ m + a.1; omega, by show m + a.1 < m + n; omega, by show 0 ≤ m + a.2; omega, by show m + a.2 < m + n; omega⟩
      refine ⟨_, rfl, z, m + n, _, rfl, (hz.same s8C).at, by omega, by omega, by omega, hE8, fun lp fp HD Lp Pp => ?_⟩
      obtain ⟨sD, nD, adp, ap, bp, _⟩ := Pp
      have s8D := s8C.trans sD
      refine ⟨_, rfl, x, m, es, rfl, hx8.same s8D, m1, m2, he, hE, fun lq fq HE Lq Pq => ?_⟩
      obtain ⟨sE, nE, adq, aq, bq, _⟩ := Pq
      have s8E := s8D.trans sE
      refine ⟨_, rfl, y, n, fs, rfl, hy8.same s8E, n1, n2, hf, hF, fun lw fw HF Lw Pw => ?_⟩
      obtain ⟨sF, nF, adw, aw, bw, _⟩ := Pw
      have s8F := s8E.trans sF
      have hwl : ((rts n.toNat fw).map fun r => V.ref (adw r)).length = (rts n.toNat fw).length := List.length_map ..
      have hrl := rts_len n.toNat fw
      have hql := rts_len m.toNat fq
      refine ⟨lw, _, rfl, .inl (SqL.of aw), fun J C O hC => lc_by O (fun j us H' => Same HF H' ∧ LsI H' us (((rts n.toNat fw).take j).map fun r => (grp n.toNat fw r).map fun p => m + p)) (by rw [hwl]; exact Nat.le_of_lt (small1000 (by omega))) ⟨Same.refl _, .nil⟩ ?_ ?_ ?_⟩
      · rintro j us HG hj ⟨sG, LG⟩
        exact ⟨hC _ sG, by rw [LG.len, List.length_map, List.length_take]; omega⟩
      · rintro j us HG hj ⟨sG, LG⟩
        rw [hwl] at hj
        obtain ⟨r, er⟩ : ∃ r, (rts n.toNat fw)[j]? = some r := ⟨_, List.getElem?_eq_getElem hj⟩
        have ev : ((rts n.toNat fw).map fun r => V.ref (adw r)).getD j .non = V.ref (adw r) := by rw [List.getD_eq_getElem?_getD, List.getElem?_map, er]; rfl
        have hrg := sG _ _ (bw r (List.mem_of_getElem? er)).2.2
        have hgl := grp_len n.toNat fw r
        have hGl := LG.len
        rw [List.length_map, List.length_take] at hGl
        obtain ⟨g, eg⟩ : ∃ g, g = grp n.toNat fw r := ⟨_, rfl⟩
        rw [← eg] at hrg hgl
        have hgm : (g.map V.int).length = g.length := List.length_map ..
        try dsimp only
        rw [ev]
        refine ⟨wk_set rfl, iteT ⟨_, rfl, adw r, _, rfl, .inl (SqL.of hrg), fun J2 C2 O2 hC2 => lc_by O2 (fun i vs H' => H' = HG ∧ vs = ((g.take i).map fun p => m + p).map V.int) (by rw [hgm]; exact Nat.le_of_lt (small1000 (by omega))) ⟨rfl, rfl⟩ ?_ ?_ ?_⟩⟩
        · rintro i vs HI hi ⟨rfl, rfl⟩
          exact ⟨hC2 _ (Same.refl _), by rw [List.length_map, List.length_map, List.length_take]; omega⟩
        · rintro i vs HI hi ⟨rfl, rfl⟩
          obtain ⟨v, ev2, gv⟩ := getD_map_int hi
          rw [hgm] at hi
          try dsimp only
          rw [ev2]
          refine ⟨wk_set rfl, iteT ⟨_, rfl, _, rfl, _, _, rfl, rfl, small1000 (by rw [List.length_map, List.length_map, List.length_take]; omega), _, by omega, rfl, by omega, rfl, ?_⟩⟩
          rw [take_snoc gv, List.map_append, List.map_append]
          show _ ++ [V.int (v + m)] = _ ++ [V.int (m + v)]
          rw [Int.add_comm v m]
        rintro vs HI ⟨rfl, rfl⟩ li nli
        rw [hgm, List.take_length]
        refine ⟨small1000 (by omega), _, by omega, rfl, by omega, sG.next nli, ?_⟩
        rw [take_snoc er, List.map_append]
        refine (LG.same (Same.new nli)).snoc ?_
        show _ = some (HO.lst (((grp n.toNat fw r).map fun p => m + p).map V.int))
        rw [← eg]; exact upd_same
      rintro us HG ⟨sG, LG⟩ lu nlu
      rw [hwl, List.take_length] at LG
      have hGl := LG.len
      rw [List.length_map] at hGl
      have uH := Same.new (o := .lst us) nlu
      have eH : (upd HG lu (.lst us)) lu = some (.lst us) := upd_same
      have LH := LG.same uH
      generalize upd HG lu (.lst us) = HH at uH eH LH
      have sEH := (sF.trans sG).trans uH
      refine ⟨lq, lu, _, _, rfl, rfl, sEH _ _ aq, eH, Nat.le_of_lt (small1000 (by rw [List.length_map]; omega)), fun lt nlt => ?_⟩
      have uI := Same.new (o := .lst ((rts m.toNat fq).map (fun r => V.ref (adq r)) ++ us)) nlt
      have eI : (upd HH lt (.lst ((rts m.toNat fq).map (fun r => V.ref (adq r)) ++ us))) lt = some (.lst ((rts m.toNat fq).map (fun r => V.ref (adq r)) ++ us)) := upd_same
      generalize upd HH lt (.lst ((rts m.toNat fq).map (fun r => V.ref (adq r)) ++ us)) = HI at uI eI
      have sEI := sEH.trans uI
      have sDI := sE.trans sEI
      have Lone : LsI HI ((rts m.toNat fq).map fun r => V.ref (adq r)) ((rts m.toNat fq).map (grp m.toNat fq)) := ls_pcs fun r hr => sEI _ _ (bq r hr).2.2
      refine ⟨dLl (pcs (m + n).toNat fp), dLl (pcs m.toNat fq ++ (rts n.toNat fw).map fun r => (grp n.toNat fw r).map fun p => m + p), .lst (SqL.of (sDI _ _ ap)) (ls_dat (ls_pcs fun r hr => sDI _ _ (bp r hr).2.2)), .lst (SqL.of eI) (ls_dat (Lone.append (LH.same uI))), shaped_dLl _, shaped_dLl _, _, rfl, ?_⟩
      rw [eqv_dLl, decide_eq_true (pieces_both (by omega) (by omega) hE hF Lp Lq Lw)]
      refine iteF ?_
      have s8I := s8D.trans sDI
      have s3I := s38.trans s8I
      have sCI := sD.trans sDI
      have dm := Int.emod_nonneg (fi / 12) (show (1000 : Int) ≠ 0 by decide)
      refine ⟨_, rfl, _, rfl, _, rfl, _, _, rfl, rfl, _, rfl, _, rfl, _, _, rfl, rfl, ⟨by decide, by decide⟩, _, _, rfl, rfl, (by show (0 : Int) < 1000; decide), z, ld, m + n, _, _, _, rfl, hz.same s8I, SqL.of ((sC.trans sCI) _ _ dA), pB.same (sC.trans sCI), by omega, by omega, by omega, hE8, fun HJ sJ => ⟨_, rfl, iteF ?_⟩⟩
      have s3J := s3I.trans sJ
      refine ⟨_, rfl, _, rfl, _, rfl, x, l, m, xs, es, rfl, (hx8.same s8I).same sJ, SqL.of (s3J _ _ hl3), hp3.same s3J, by omega, fun HK sK => ⟨_, rfl, iteT ?_⟩⟩
      have s3K := s3J.trans sK
      exact ⟨_, rfl, _, rfl, _, rfl, y, l2, n, ys, fs, rfl, ((hy8.same s8I).same sJ).same sK, SqL.of (s3K _ _ gl3), gp3.same s3K, by omega, fun HL sL => k _⟩
end
theorem len_1 {us : List Value} (h : us.length = 1) : ∃ a, us = [a] := List.length_eq_one_iff.mp h
theorem len_s {us : List Value} {n : Nat} (h : us.length = n + 1) : ∃ a r, us = a :: r ∧ r.length = n := by
  cases us with
  | nil => cases h
  | cons a r => exact ⟨a, r, rfl, Nat.succ.inj h⟩
theorem len_2 {us : List Value} (h : us.length = 2) : ∃ a b, us = [a, b] := by
  obtain ⟨a, r, rfl, h1⟩ := len_s h
  obtain ⟨b, rfl⟩ := len_1 h1
  exact ⟨a, b, rfl⟩
theorem len_3 {us : List Value} (h : us.length = 3) : ∃ a b c, us = [a, b, c] := by
  obtain ⟨a, r, rfl, h1⟩ := len_s h
  obtain ⟨b, c, rfl⟩ := len_2 h1
  exact ⟨a, b, c, rfl⟩
theorem len_4 {us : List Value} (h : us.length = 4) : ∃ a b c d, us = [a, b, c, d] := by
  obtain ⟨a, r, rfl, h1⟩ := len_s h
  obtain ⟨b, c, d, rfl⟩ := len_3 h1
  exact ⟨a, b, c, d, rfl⟩
theorem len_5 {us : List Value} (h : us.length = 5) : ∃ a b c d e, us = [a, b, c, d, e] := by
  obtain ⟨a, r, rfl, h1⟩ := len_s h
  obtain ⟨b, c, d, e, rfl⟩ := len_4 h1
  exact ⟨a, b, c, d, e, rfl⟩
theorem all_mk {l : PySem.W.OpenLaw} {w : World} {K : PySem.W.Frag} {h : Heap} {mg : Str → Option Value} {fa f1 f2 f3 f4 f5 f6 f7 f8 f9 f10 f11 f12 f13 f14 f15 f16 f17 f18 f19 f20 qFlowError qBadWeb qTooMany qBadPlace qBadTie qBadFlow qBadRest qNoFlow qBadSet qBadPaper qBadText qBadDeed qWeb : Addr} (X : K.In h) (G : h.Ns mainGlobals mg) (hfa : mg "law" = some (.ref fa))
    {tk1 tk2 : Tok} {od1 an1 od2 an2 od3 an3 od4 an4 od5 an5 od6 an6 od7 an7 od8 an8 od9 an9 od10 an10 od11 an11 od12 an12 od13 an13 od14 an14 od15 an15 od16 an16 od17 an17 od18 an18 od19 an19 od20 an20 : Option Addr} {sl1 sl2 sl3 sl4 sl5 sl6 sl7 sl8 sl9 sl10 sl11 sl12 sl13 sl14 sl15 sl16 sl17 sl18 sl19 sl20 : Array (Option Value)} {oc1 kV1 dc1 pm1 cd1 ct1 oc2 kV2 dc2 pm2 cd2 ct2 oc3 kV3 dc3 pm3 cd3 ct3 oc4 kV4 dc4 pm4 cd4 ct4 oc5 kV5 dc5 pm5 cd5 ct5 oc6 kV6 dc6 pm6 cd6 ct6 oc7 kV7 dc7 pm7 cd7 ct7 oc8 kV8 dc8 pm8 cd8 ct8 oc9 kV9 dc9 pm9 cd9 ct9 oc10 kV10 dc10 pm10 cd10 ct10 oc11 kV11 dc11 pm11 cd11 ct11 oc12 kV12 dc12 pm12 cd12 ct12 oc13 kV13 dc13 pm13 cd13 ct13 oc14 kV14 dc14 pm14 cd14 ct14 oc15 kV15 dc15 pm15 cd15 ct15 oc16 kV16 dc16 pm16 cd16 ct16 oc17 kV17 dc17 pm17 cd17 ct17 oc18 kV18 dc18 pm18 cd18 ct18 oc19 kV19 dc19 pm19 cd19 ct19 oc20 kV20 dc20 pm20 cd20 ct20 : Value}
    (aCFlowError : PySem.W.nsIn K mainGlobals "FlowError" = some (some (.ref qFlowError)))
    (aCBadWeb : PySem.W.nsIn K mainGlobals "BadWeb" = some (some (.ref qBadWeb)))
    (aCTooMany : PySem.W.nsIn K mainGlobals "TooMany" = some (some (.ref qTooMany)))
    (aCBadPlace : PySem.W.nsIn K mainGlobals "BadPlace" = some (some (.ref qBadPlace)))
    (aCBadTie : PySem.W.nsIn K mainGlobals "BadTie" = some (some (.ref qBadTie)))
    (aCBadFlow : PySem.W.nsIn K mainGlobals "BadFlow" = some (some (.ref qBadFlow)))
    (aCBadRest : PySem.W.nsIn K mainGlobals "BadRest" = some (some (.ref qBadRest)))
    (aCNoFlow : PySem.W.nsIn K mainGlobals "NoFlow" = some (some (.ref qNoFlow)))
    (aCBadSet : PySem.W.nsIn K mainGlobals "BadSet" = some (some (.ref qBadSet)))
    (aCBadPaper : PySem.W.nsIn K mainGlobals "BadPaper" = some (some (.ref qBadPaper)))
    (aCBadText : PySem.W.nsIn K mainGlobals "BadText" = some (some (.ref qBadText)))
    (aCBadDeed : PySem.W.nsIn K mainGlobals "BadDeed" = some (some (.ref qBadDeed)))
    (aCWeb : PySem.W.nsIn K mainGlobals "Web" = some (some (.ref qWeb)))
    (a1 : PySem.W.findIn K (.ref qWeb) "__init__" = some (some (.ref f1)))
    (i1 : PySem.W.isFn K (.ref f1) = true)
    (l1 : K.lookup f1 = some ⟨oc1, od1, .func (PySem.W.fnOf "__init__" "Web.__init__" (defArgs sN) (defBody sN) (defScope sN) .none kV1 dc1 pm1 an1 cd1 ct1), sl1⟩)
    (c1 : PySem.W.codeIn K cd1 "Web.__init__" = true)
    (k1 : PySem.W.keepIn K (.ref f1) = true)
    (a2 : PySem.W.nsIn K mainGlobals "check_place" = some (some (.ref f2)))
    (l2 : K.lookup f2 = some ⟨oc2, od2, .func (PySem.W.fnOf "check_place" "check_place" (defArgs sPl) (defBody sPl) (defScope sPl) .none kV2 dc2 pm2 an2 cd2 ct2), sl2⟩)
    (c2 : PySem.W.codeIn K cd2 "check_place" = true)
    (k2 : PySem.W.keepIn K (.ref f2) = true)
    (a3 : PySem.W.nsIn K mainGlobals "check_tie" = some (some (.ref f3)))
    (l3 : K.lookup f3 = some ⟨oc3, od3, .func (PySem.W.fnOf "check_tie" "check_tie" (defArgs sTi) (defBody sTi) (defScope sTi) .none kV3 dc3 pm3 an3 cd3 ct3), sl3⟩)
    (c3 : PySem.W.codeIn K cd3 "check_tie" = true)
    (k3 : PySem.W.keepIn K (.ref f3) = true)
    (a4 : PySem.W.nsIn K mainGlobals "degree" = some (some (.ref f4)))
    (l4 : K.lookup f4 = some ⟨oc4, od4, .func (PySem.W.fnOf "degree" "degree" (defArgs sDg) (defBody sDg) (defScope sDg) .none kV4 dc4 pm4 an4 cd4 ct4), sl4⟩)
    (c4 : PySem.W.codeIn K cd4 "degree" = true)
    (k4 : PySem.W.keepIn K (.ref f4) = true)
    (a5 : PySem.W.nsIn K mainGlobals "merged" = some (some (.ref f5)))
    (l5 : K.lookup f5 = some ⟨oc5, od5, .func (PySem.W.fnOf "merged" "merged" (defArgs sMe) (defBody sMe) (defScope sMe) .none kV5 dc5 pm5 an5 cd5 ct5), sl5⟩)
    (c5 : PySem.W.codeIn K cd5 "merged" = true)
    (k5 : PySem.W.keepIn K (.ref f5) = true)
    (a6 : PySem.W.nsIn K mainGlobals "pieces" = some (some (.ref f6)))
    (l6 : K.lookup f6 = some ⟨oc6, od6, .func (PySem.W.fnOf "pieces" "pieces" (defArgs sPc) (defBody sPc) (defScope sPc) .none kV6 dc6 pm6 an6 cd6 ct6), sl6⟩)
    (c6 : PySem.W.codeIn K cd6 "pieces" = true)
    (k6 : PySem.W.keepIn K (.ref f6) = true)
    (a7 : PySem.W.nsIn K mainGlobals "less" = some (some (.ref f7)))
    (l7 : K.lookup f7 = some ⟨oc7, od7, .func (PySem.W.fnOf "less" "less" (defArgs sLe) (defBody sLe) (defScope sLe) .none kV7 dc7 pm7 an7 cd7 ct7), sl7⟩)
    (c7 : PySem.W.codeIn K cd7 "less" = true)
    (k7 : PySem.W.keepIn K (.ref f7) = true)
    (a8 : PySem.W.nsIn K mainGlobals "joined" = some (some (.ref f8)))
    (l8 : K.lookup f8 = some ⟨oc8, od8, .func (PySem.W.fnOf "joined" "joined" (defArgs sJo) (defBody sJo) (defScope sJo) .none kV8 dc8 pm8 an8 cd8 ct8), sl8⟩)
    (c8 : PySem.W.codeIn K cd8 "joined" = true)
    (k8 : PySem.W.keepIn K (.ref f8) = true)
    (a9 : PySem.W.nsIn K mainGlobals "turned" = some (some (.ref f9)))
    (l9 : K.lookup f9 = some ⟨oc9, od9, .func (PySem.W.fnOf "turned" "turned" (defArgs sTu) (defBody sTu) (defScope sTu) .none kV9 dc9 pm9 an9 cd9 ct9), sl9⟩)
    (c9 : PySem.W.codeIn K cd9 "turned" = true)
    (k9 : PySem.W.keepIn K (.ref f9) = true)
    (a10 : PySem.W.nsIn K mainGlobals "put_together" = some (some (.ref f10)))
    (l10 : K.lookup f10 = some ⟨oc10, od10, .func (PySem.W.fnOf "put_together" "put_together" (defArgs sPu) (defBody sPu) (defScope sPu) .none kV10 dc10 pm10 an10 cd10 ct10), sl10⟩)
    (c10 : PySem.W.codeIn K cd10 "put_together" = true)
    (k10 : PySem.W.keepIn K (.ref f10) = true)
    (a11 : PySem.W.nsIn K mainGlobals "_law_cell" = some (some (.ref f11)))
    (l11 : K.lookup f11 = some ⟨oc11, od11, .func (PySem.W.fnOf "_law_cell" "_law_cell" (defArgs sC) (defBody sC) (defScope sC) .none kV11 dc11 pm11 an11 cd11 ct11), sl11⟩)
    (c11 : PySem.W.codeIn K cd11 "_law_cell" = true)
    (k11 : PySem.W.keepIn K (.ref f11) = true)
    (a12 : PySem.W.nsIn K mainGlobals "_law_ends" = some (some (.ref f12)))
    (l12 : K.lookup f12 = some ⟨oc12, od12, .func (PySem.W.fnOf "_law_ends" "_law_ends" (defArgs sE) (defBody sE) (defScope sE) .none kV12 dc12 pm12 an12 cd12 ct12), sl12⟩)
    (c12 : PySem.W.codeIn K cd12 "_law_ends" = true)
    (k12 : PySem.W.keepIn K (.ref f12) = true)
    (a13 : PySem.W.nsIn K mainGlobals "_law_drawn" = some (some (.ref f13)))
    (l13 : K.lookup f13 = some ⟨oc13, od13, .func (PySem.W.fnOf "_law_drawn" "_law_drawn" (defArgs sD) (defBody sD) (defScope sD) .none kV13 dc13 pm13 an13 cd13 ct13), sl13⟩)
    (c13 : PySem.W.codeIn K cd13 "_law_drawn" = true)
    (k13 : PySem.W.keepIn K (.ref f13) = true)
    (a14 : PySem.W.nsIn K mainGlobals "_law_whole" = some (some (.ref f14)))
    (l14 : K.lookup f14 = some ⟨oc14, od14, .func (PySem.W.fnOf "_law_whole" "_law_whole" (defArgs sH) (defBody sH) (defScope sH) .none kV14 dc14 pm14 an14 cd14 ct14), sl14⟩)
    (c14 : PySem.W.codeIn K cd14 "_law_whole" = true)
    (k14 : PySem.W.keepIn K (.ref f14) = true)
    (a15 : PySem.W.nsIn K mainGlobals "_law_is_web" = some (some (.ref f15)))
    (l15 : K.lookup f15 = some ⟨oc15, od15, .func (PySem.W.fnOf "_law_is_web" "_law_is_web" (defArgs sI) (defBody sI) (defScope sI) .none kV15 dc15 pm15 an15 cd15 ct15), sl15⟩)
    (c15 : PySem.W.codeIn K cd15 "_law_is_web" = true)
    (k15 : PySem.W.keepIn K (.ref f15) = true)
    (a16 : PySem.W.nsIn K mainGlobals "_law_alone" = some (some (.ref f16)))
    (l16 : K.lookup f16 = some ⟨oc16, od16, .func (PySem.W.fnOf "_law_alone" "_law_alone" (defArgs sX) (defBody sX) (defScope sX) .none kV16 dc16 pm16 an16 cd16 ct16), sl16⟩)
    (c16 : PySem.W.codeIn K cd16 "_law_alone" = true)
    (k16 : PySem.W.keepIn K (.ref f16) = true)
    (a17 : PySem.W.nsIn K mainGlobals "_law_cut" = some (some (.ref f17)))
    (l17 : K.lookup f17 = some ⟨oc17, od17, .func (PySem.W.fnOf "_law_cut" "_law_cut" (defArgs sCu) (defBody sCu) (defScope sCu) .none kV17 dc17 pm17 an17 cd17 ct17), sl17⟩)
    (c17 : PySem.W.codeIn K cd17 "_law_cut" = true)
    (k17 : PySem.W.keepIn K (.ref f17) = true)
    (a18 : PySem.W.nsIn K mainGlobals "_law_both" = some (some (.ref f18)))
    (l18 : K.lookup f18 = some ⟨oc18, od18, .func (PySem.W.fnOf "_law_both" "_law_both" (defArgs sBo) (defBody sBo) (defScope sBo) .none kV18 dc18 pm18 an18 cd18 ct18), sl18⟩)
    (c18 : PySem.W.codeIn K cd18 "_law_both" = true)
    (k18 : PySem.W.keepIn K (.ref f18) = true)
    (a19 : PySem.W.nsIn K mainGlobals "_law_deeds" = some (some (.ref f19)))
    (l19 : K.lookup f19 = some ⟨oc19, od19, .func (PySem.W.fnOf "_law_deeds" "_law_deeds" (defArgs sDe) (defBody sDe) (defScope sDe) .none kV19 dc19 pm19 an19 cd19 ct19), sl19⟩)
    (c19 : PySem.W.codeIn K cd19 "_law_deeds" = true)
    (k19 : PySem.W.keepIn K (.ref f19) = true)
    (a20 : PySem.W.nsIn K mainGlobals "law" = some (some (.ref f20)))
    (l20 : K.lookup f20 = some ⟨oc20, od20, .func (PySem.W.fnOf "law" "law" (defArgs sL) (defBody sL) (defScope sL) .none kV20 dc20 pm20 an20 cd20 ct20), sl20⟩)
    (c20 : PySem.W.codeIn K cd20 "law" = true)
    (k20 : PySem.W.keepIn K (.ref f20) = true)
    (pg : PySem.W.plainGet K qWeb Str.empty = true)
    (hd : PySem.W.hasDictIn K qWeb = true)
    (po : PySem.W.plainOver K qWeb = true)
    (sa : PySem.W.findIn K (.ref qWeb) "__setattr__" = some (some (.builtin "object.__setattr__")))
    (nM : PySem.W.findIn K (.ref qWeb) "many" = some none)
    (nT : PySem.W.findIn K (.ref qWeb) "ties" = some none)
    (ca : PySem.W.findIn K (.ref qWeb) "__class__" = some (some (.builtin "object.__class__")))
    (cg : PySem.W.specialIn K (.builtin "object.__class__") "__get__" = some (some (.builtin "getset_descriptor.__get__")))
    (ck : PySem.W.takesIn K (.builtin "object.__class__") = some true)
    (co : PySem.W.mroIn K qWeb (.type "object") = some true)
    (mk : PySem.W.makesIn K qWeb = true)
    (kc : PySem.W.keepIn K (.ref qWeb) = true)
    (mp : PySem.W.nsIn K mainGlobals "MOST_PLACES" = some (some (.int 20 tk1)))
    (mt : PySem.W.nsIn K mainGlobals "MOST_TIES" = some (some (.int 40 tk2)))
    (x_ie_FlowError : PySem.W.excIn K qFlowError vErr "ValueError.__new__" = true)
    (x_ie_TooMany : PySem.W.excIn K qTooMany vErr "ValueError.__new__" = true)
    (x_mr_TooMany : PySem.W.mroIn K qTooMany (.ref qTooMany) = some true)
    (x_ga_TooMany : PySem.W.findIn K (.ref qTooMany) "__getattribute__" = some (some (.builtin "BaseException.__getattribute__")))
    (x_gn_TooMany : PySem.W.findIn K (.ref qTooMany) "__getattr__" = some none)
    (x_cl_TooMany : PySem.W.findIn K (.ref qTooMany) "__class__" = some (some (.builtin "object.__class__")))
    (x_co_TooMany : PySem.W.mroIn K qTooMany (.type "object") = some true)
    (x_cb_TooMany : PySem.W.mroIn K qTooMany (.type "BaseException") = some true)
    (x_is_TooMany : PySem.W.isClsIn K qTooMany = true)
    (x_k_TooMany_BadWeb : PySem.W.kitOne K (.ref qTooMany) (.ref qBadWeb) = some false)
    (x_k_TooMany_TooMany : PySem.W.kitOne K (.ref qTooMany) (.ref qTooMany) = some true)
    (x_k_TooMany_BadPlace : PySem.W.kitOne K (.ref qTooMany) (.ref qBadPlace) = some false)
    (x_k_TooMany_BadTie : PySem.W.kitOne K (.ref qTooMany) (.ref qBadTie) = some false)
    (x_k_TooMany_BadFlow : PySem.W.kitOne K (.ref qTooMany) (.ref qBadFlow) = some false)
    (x_k_TooMany_BadRest : PySem.W.kitOne K (.ref qTooMany) (.ref qBadRest) = some false)
    (x_k_TooMany_NoFlow : PySem.W.kitOne K (.ref qTooMany) (.ref qNoFlow) = some false)
    (x_k_TooMany_BadSet : PySem.W.kitOne K (.ref qTooMany) (.ref qBadSet) = some false)
    (x_k_TooMany_BadPaper : PySem.W.kitOne K (.ref qTooMany) (.ref qBadPaper) = some false)
    (x_k_TooMany_BadText : PySem.W.kitOne K (.ref qTooMany) (.ref qBadText) = some false)
    (x_k_TooMany_BadDeed : PySem.W.kitOne K (.ref qTooMany) (.ref qBadDeed) = some false)
    (x_kf_TooMany : PySem.W.kitOne K (.ref qTooMany) (.ref qFlowError) = some true)
    (x_kv_TooMany : PySem.W.kitOne K (.ref qTooMany) (.type "ValueError") = some true)
    (x_ie_BadWeb : PySem.W.excIn K qBadWeb vErr "ValueError.__new__" = true)
    (x_ie_BadPlace : PySem.W.excIn K qBadPlace vErr "ValueError.__new__" = true)
    (x_ie_BadTie : PySem.W.excIn K qBadTie vErr "ValueError.__new__" = true)
    (z0 : PySem.W.nsIn K mainGlobals "ValueError" = some none)
    (z1 : PySem.W.nsIn K mainGlobals "bool" = some none)
    (z2 : PySem.W.nsIn K mainGlobals "enumerate" = some none)
    (z3 : PySem.W.nsIn K mainGlobals "int" = some none)
    (z4 : PySem.W.nsIn K mainGlobals "isinstance" = some none)
    (z5 : PySem.W.nsIn K mainGlobals "len" = some none)
    (z6 : PySem.W.nsIn K mainGlobals "list" = some none)
    (z7 : PySem.W.nsIn K mainGlobals "max" = some none)
    (z8 : PySem.W.nsIn K mainGlobals "min" = some none)
    (z9 : PySem.W.nsIn K mainGlobals "range" = some none)
    (z10 : PySem.W.nsIn K mainGlobals "reversed" = some none)
    (z11 : PySem.W.nsIn K mainGlobals "sum" = some none)
    (z12 : PySem.W.nsIn K mainGlobals "tuple" = some none) :
    ∃ fd : FuncData, (∀ (s : Shared) (v : Value), BindsTo s fd ⟨[v], []⟩ [("script", v)]) ∧ ∀ base : Heap, K.In base → base.Ns mainGlobals mg → FnOk l.prog w K mg base CX0 6 fa fd ["script"] (spLaw K) := by
  have e := hfa.symm.trans (PySem.W.mg_of X G a20)
  cases e
  have T : Txt K mg (⟨qFlowError, qBadWeb, qTooMany, qBadPlace, qBadTie, qBadFlow, qBadRest, qNoFlow, qBadSet, qBadPaper, qBadText, qBadDeed, qWeb⟩ : Cs) := ⟨PySem.W.mg_none_of X G z0, PySem.W.mg_none_of X G z1, PySem.W.mg_none_of X G z2, PySem.W.mg_none_of X G z3, PySem.W.mg_none_of X G z4, PySem.W.mg_none_of X G z5, PySem.W.mg_none_of X G z6, PySem.W.mg_none_of X G z7, PySem.W.mg_none_of X G z8, PySem.W.mg_none_of X G z9, PySem.W.mg_none_of X G z10, PySem.W.mg_none_of X G z11, PySem.W.mg_none_of X G z12, PySem.W.mg_of X G aCFlowError, PySem.W.mg_of X G aCBadWeb, PySem.W.mg_of X G aCTooMany, PySem.W.mg_of X G aCBadPlace, PySem.W.mg_of X G aCBadTie, PySem.W.mg_of X G aCBadFlow, PySem.W.mg_of X G aCBadRest, PySem.W.mg_of X G aCNoFlow, PySem.W.mg_of X G aCBadSet, PySem.W.mg_of X G aCBadPaper, PySem.W.mg_of X G aCBadText, PySem.W.mg_of X G aCBadDeed, PySem.W.mg_of X G aCWeb, ⟨⟨pg, hd, po, sa⟩, nM, nT, ca, cg, ck, co⟩, ⟨_, PySem.W.mg_of X G mp⟩, ⟨_, PySem.W.mg_of X G mt⟩, x_ie_FlowError, x_ie_TooMany, x_mr_TooMany, ⟨⟨x_ga_TooMany, x_gn_TooMany, x_cl_TooMany, cg, ck, x_co_TooMany, x_cb_TooMany, x_is_TooMany⟩, ⟨_, _, _, _, _, _, _, _, _, _, _, x_k_TooMany_BadWeb, x_k_TooMany_TooMany, x_k_TooMany_BadPlace, x_k_TooMany_BadTie, x_k_TooMany_BadFlow, x_k_TooMany_BadRest, x_k_TooMany_NoFlow, x_k_TooMany_BadSet, x_k_TooMany_BadPaper, x_k_TooMany_BadText, x_k_TooMany_BadDeed, rfl⟩, x_kf_TooMany, x_kv_TooMany⟩, x_ie_BadWeb, x_ie_BadPlace, x_ie_BadTie⟩
  have F1 := fun_mk (st := sN) l1 c1 k1
  have F2 := fun_mk (st := sPl) l2 c2 k2
  have F3 := fun_mk (st := sTi) l3 c3 k3
  have F4 := fun_mk (st := sDg) l4 c4 k4
  have F5 := fun_mk (st := sMe) l5 c5 k5
  have F6 := fun_mk (st := sPc) l6 c6 k6
  have F7 := fun_mk (st := sLe) l7 c7 k7
  have F8 := fun_mk (st := sJo) l8 c8 k8
  have F9 := fun_mk (st := sTu) l9 c9 k9
  have F10 := fun_mk (st := sPu) l10 c10 k10
  have F11 := fun_mk (st := sC) l11 c11 k11
  have F12 := fun_mk (st := sE) l12 c12 k12
  have F13 := fun_mk (st := sD) l13 c13 k13
  have F14 := fun_mk (st := sH) l14 c14 k14
  have F15 := fun_mk (st := sI) l15 c15 k15
  have F16 := fun_mk (st := sX) l16 c16 k16
  have F17 := fun_mk (st := sCu) l17 c17 k17
  have F18 := fun_mk (st := sBo) l18 c18 k18
  have F19 := fun_mk (st := sDe) l19 c19 k19
  have F20 := fun_mk (st := sL) l20 c20 k20
  have b1 := F1.binds (ps := ["self", "many", "ties"]) fun _ _ _ _ _ _ us hl => by obtain ⟨_, _, _, rfl⟩ := len_3 hl; rfl
  have b2 := F2.binds (ps := ["web", "place"]) fun _ _ _ _ _ _ us hl => by obtain ⟨_, _, rfl⟩ := len_2 hl; rfl
  have b3 := F3.binds (ps := ["web", "tie"]) fun _ _ _ _ _ _ us hl => by obtain ⟨_, _, rfl⟩ := len_2 hl; rfl
  have b4 := F4.binds (ps := ["web", "place"]) fun _ _ _ _ _ _ us hl => by obtain ⟨_, _, rfl⟩ := len_2 hl; rfl
  have b5 := F5.binds (ps := ["labels", "one", "two"]) fun _ _ _ _ _ _ us hl => by obtain ⟨_, _, _, rfl⟩ := len_3 hl; rfl
  have b6 := F6.binds (ps := ["web"]) fun _ _ _ _ _ _ us hl => by obtain ⟨_, rfl⟩ := len_1 hl; rfl
  have b7 := F7.binds (ps := ["web", "tie"]) fun _ _ _ _ _ _ us hl => by obtain ⟨_, _, rfl⟩ := len_2 hl; rfl
  have b8 := F8.binds (ps := ["web", "tie"]) fun _ _ _ _ _ _ us hl => by obtain ⟨_, _, rfl⟩ := len_2 hl; rfl
  have b9 := F9.binds (ps := ["web", "tie"]) fun _ _ _ _ _ _ us hl => by obtain ⟨_, _, rfl⟩ := len_2 hl; rfl
  have b10 := F10.binds (ps := ["one", "two"]) fun _ _ _ _ _ _ us hl => by obtain ⟨_, _, rfl⟩ := len_2 hl; rfl
  have b11 := F11.binds (ps := ["script", "k"]) fun _ _ _ _ _ _ us hl => by obtain ⟨_, _, rfl⟩ := len_2 hl; rfl
  have b12 := F12.binds (ps := ["script", "many", "count", "way"]) fun _ _ _ _ _ _ us hl => by obtain ⟨_, _, _, _, rfl⟩ := len_4 hl; rfl
  have b13 := F13.binds (ps := ["script"]) fun _ _ _ _ _ _ us hl => by obtain ⟨_, rfl⟩ := len_1 hl; rfl
  have b14 := F14.binds (ps := ["found"]) fun _ _ _ _ _ _ us hl => by obtain ⟨_, rfl⟩ := len_1 hl; rfl
  have b15 := F15.binds (ps := ["web", "many", "ends"]) fun _ _ _ _ _ _ us hl => by obtain ⟨_, _, _, rfl⟩ := len_3 hl; rfl
  have b16 := F16.binds (ps := ["e"]) fun _ _ _ _ _ _ us hl => by obtain ⟨_, rfl⟩ := len_1 hl; rfl
  have b17 := F17.binds (ps := ["many", "ends", "most", "count"]) fun _ _ _ _ _ _ us hl => by obtain ⟨_, _, _, _, rfl⟩ := len_4 hl; rfl
  have b18 := F18.binds (ps := ["one", "two"]) fun _ _ _ _ _ _ us hl => by obtain ⟨_, _, rfl⟩ := len_2 hl; rfl
  have b19 := F19.binds (ps := ["web", "many", "ends", "cell"]) fun _ _ _ _ _ _ us hl => by obtain ⟨_, _, _, _, rfl⟩ := len_4 hl; rfl
  refine ⟨PySem.W.fnOf "law" "law" (defArgs sL) (defBody sL) (defScope sL) .none kV20 dc20 pm20 an20 cd20 ct20, fun s v => .of_eq rfl, fun base _ _ => ?_⟩
  have D_NE : MkDefE l.prog w K mg base 1 "Web" qWeb ["self", "many", "ties"] (spInitT K qWeb qTooMany qBadWeb) := ⟨f1, _, ⟨mk, a1, i1, kc⟩, ok_NE F1 T, b1, PySem.W.mg_of X G aCWeb⟩
  have D_N : MkDef l.prog w K mg base 1 "Web" qWeb ["self", "many", "ties"] (spInit K qWeb) := D_NE.calmN
  have D_Pl : DefE l.prog w K mg base 1 "check_place" ["web", "place"] (spPl K qWeb qBadPlace) := .of F2 (PySem.W.mg_of X G a2) b2 (ok_Pl F2 T )
  have D_Ti : DefE l.prog w K mg base 1 "check_tie" ["web", "tie"] (spTi K qWeb qBadTie) := .of F3 (PySem.W.mg_of X G a3) b3 (ok_Ti F3 T )
  have D_Dg : DefE l.prog w K mg base 2 "degree" ["web", "place"] (spDg K (⟨qFlowError, qBadWeb, qTooMany, qBadPlace, qBadTie, qBadFlow, qBadRest, qNoFlow, qBadSet, qBadPaper, qBadText, qBadDeed, qWeb⟩ : Cs)) := .of F4 (PySem.W.mg_of X G a4) b4 (ok_Dg F4 T D_Pl)
  have D_Me : Def l.prog w K mg base 1 "merged" ["labels", "one", "two"] (spMe K) := .of F5 (PySem.W.mg_of X G a5) b5 (ok_Me F5 T )
  have D_Pc : Def l.prog w K mg base 2 "pieces" ["web"] (spPc K (⟨qFlowError, qBadWeb, qTooMany, qBadPlace, qBadTie, qBadFlow, qBadRest, qNoFlow, qBadSet, qBadPaper, qBadText, qBadDeed, qWeb⟩ : Cs)) := .of F6 (PySem.W.mg_of X G a6) b6 (ok_Pc F6 T D_Me)
  have D_Le : DefE l.prog w K mg base 3 "less" ["web", "tie"] (spLe K (⟨qFlowError, qBadWeb, qTooMany, qBadPlace, qBadTie, qBadFlow, qBadRest, qNoFlow, qBadSet, qBadPaper, qBadText, qBadDeed, qWeb⟩ : Cs)) := .of F7 (PySem.W.mg_of X G a7) b7 (ok_Le F7 T D_N D_Ti)
  have D_Jo : DefE l.prog w K mg base 4 "joined" ["web", "tie"] (spJo K (⟨qFlowError, qBadWeb, qTooMany, qBadPlace, qBadTie, qBadFlow, qBadRest, qNoFlow, qBadSet, qBadPaper, qBadText, qBadDeed, qWeb⟩ : Cs)) := .of F8 (PySem.W.mg_of X G a8) b8 (ok_Jo F8 T D_N D_Le)
  have D_Tu : DefE l.prog w K mg base 3 "turned" ["web", "tie"] (spTu K (⟨qFlowError, qBadWeb, qTooMany, qBadPlace, qBadTie, qBadFlow, qBadRest, qNoFlow, qBadSet, qBadPaper, qBadText, qBadDeed, qWeb⟩ : Cs)) := .of F9 (PySem.W.mg_of X G a9) b9 (ok_Tu F9 T D_N D_Ti)
  have D_Pu : DefE l.prog w K mg base 3 "put_together" ["one", "two"] (spPu K (⟨qFlowError, qBadWeb, qTooMany, qBadPlace, qBadTie, qBadFlow, qBadRest, qNoFlow, qBadSet, qBadPaper, qBadText, qBadDeed, qWeb⟩ : Cs)) := .of F10 (PySem.W.mg_of X G a10) b10 (ok_Pu F10 T D_NE)
  have D_C : Def l.prog w K mg base 1 "_law_cell" ["script", "k"] (spC K) := .of F11 (PySem.W.mg_of X G a11) b11 (ok_C F11 T )
  have D_E : Def l.prog w K mg base 2 "_law_ends" ["script", "many", "count", "way"] (spE K) := .of F12 (PySem.W.mg_of X G a12) b12 (ok_E F12 T D_C)
  have D_D : Def l.prog w K mg base 3 "_law_drawn" ["script"] (spD K) := .of F13 (PySem.W.mg_of X G a13) b13 (ok_D F13 T D_C D_E)
  have D_H : Def l.prog w K mg base 1 "_law_whole" ["found"] (spH K) := .of F14 (PySem.W.mg_of X G a14) b14 (ok_H F14 T )
  have D_I : Def l.prog w K mg base 2 "_law_is_web" ["web", "many", "ends"] (spI K qWeb) := .of F15 (PySem.W.mg_of X G a15) b15 (ok_I F15 T D_H)
  have D_X : DefC l.prog w K mg base 1 "_law_alone" ["e"] (spX K (⟨qFlowError, qBadWeb, qTooMany, qBadPlace, qBadTie, qBadFlow, qBadRest, qNoFlow, qBadSet, qBadPaper, qBadText, qBadDeed, qWeb⟩ : Cs)) := .of F16 (PySem.W.mg_of X G a16) b16 (ok_X F16 T )
  have D_Cu : Def l.prog w K mg base 1 "_law_cut" ["many", "ends", "most", "count"] (spCu K) := .of F17 (PySem.W.mg_of X G a17) b17 (ok_Cu F17 T )
  have D_Bo : Def l.prog w K mg base 4 "_law_both" ["one", "two"] (spBo K (⟨qFlowError, qBadWeb, qTooMany, qBadPlace, qBadTie, qBadFlow, qBadRest, qNoFlow, qBadSet, qBadPaper, qBadText, qBadDeed, qWeb⟩ : Cs)) := .of F18 (PySem.W.mg_of X G a18) b18 (ok_Bo F18 T D_Pu D_X)
  have D_De : Def l.prog w K mg base 5 "_law_deeds" ["web", "many", "ends", "cell"] (spDe K (⟨qFlowError, qBadWeb, qTooMany, qBadPlace, qBadTie, qBadFlow, qBadRest, qNoFlow, qBadSet, qBadPaper, qBadText, qBadDeed, qWeb⟩ : Cs)) := .of F19 (PySem.W.mg_of X G a19) b19 (ok_De F19 T D_Dg D_Pc D_Jo D_Le D_Tu D_I)
  exact ok_L F20 T D_C D_D D_Cu D_Bo D_I D_Pc D_De D_N
theorem walk {l : PySem.W.OpenLaw} {q : Program} {loose : List Str} {XP : (Str → Option Value) → Heap → Prop} {YP : World → Heap → Prop} {d : DefRec} {K : Params → PySem.W.Frag} (hn : l.most = some 63) (hdf : d.params.defaults = [])
    (hY : ∀ (w : World) (h : Heap), YP w h → (K w.params).In h)
    (F : ∀ (w : World) (mg : Str → Option Value) (fa : Addr) (h : Heap), (K w.params).In h → h.Ns mainGlobals mg → mg d.name = some (.ref fa) →
      ∃ fd : FuncData, (∀ (s : Shared) (u : Value), BindsTo s fd ⟨[u], []⟩ [("script", u)]) ∧ ∀ base : Heap, (K w.params).In base → base.Ns mainGlobals mg → FnOk l.prog w (K w.params) mg base CX0 6 fa fd ["script"] (spLaw (K w.params))) :
    PySem.W.WalkO q loose XP YP l.row.toRowW d [] (fun f vs => PySem.call f vs) :=
  L2.walk_of (n := 63) (k := 6) (x := "script") (CX := fun _ => CX0) (sp := fun w => spLaw (K w.params)) hn (by decide) hdf ⟨rfl, by decide, by decide⟩ hY F (fun _ _ a ns hl _ hS => ⟨a, ns, rfl, hS, hl, fun _ => rfl⟩) fun _ _ _ _ _ z => z
end Pk
namespace PySem.W.Fast
theorem tw7117238960026085043 : True := ⟨⟩
theorem tw1900612190560368950 : True := ⟨⟩
theorem tw1427925543100707286 : True := ⟨⟩
theorem tw4142663046583504038 : True := ⟨⟩
theorem tw3078451710213317482 : True := ⟨⟩
theorem tw4113480135597439366 : True := ⟨⟩
theorem tw9056929603746600881 : True := ⟨⟩
theorem tw12828366939484278437 : True := ⟨⟩
theorem tw13272317660421668004 : True := ⟨⟩
theorem tw13746890781847253384 : True := ⟨⟩
theorem tw17335994099880568709 : True := ⟨⟩
theorem tw17325735909591977505 : True := ⟨⟩
theorem tw9526399635234644811 : True := ⟨⟩
theorem tw15911464318462834876 : True := ⟨⟩
theorem tw16205367084355632910 : True := ⟨⟩
theorem tw13299180096222845857 : True := ⟨⟩
theorem tw3111715065677997142 : True := ⟨⟩
theorem tw15323491604796601810 : True := ⟨⟩
theorem tw13823897997213265088 : True := ⟨⟩
theorem tw4577934135168133585 : True := ⟨⟩
theorem tw3349799927471938814 : True := ⟨⟩
theorem tw6953074936902260814 : True := ⟨⟩
theorem tw560640168461990010 : True := ⟨⟩
theorem tw2991378314207028622 : True := ⟨⟩
theorem tw2866689424180836374 : True := ⟨⟩
theorem tw8998148386106742730 : True := ⟨⟩
theorem tw3227371786031072964 : True := ⟨⟩
theorem tw15262849420998657094 : True := ⟨⟩
theorem tw11035169260622737433 : True := ⟨⟩
theorem tw6835127617744560004 : True := ⟨⟩
theorem tw14219970227038952331 : True := ⟨⟩
theorem tw11739471195032303219 : True := ⟨⟩
theorem tw11913711282150404783 : True := ⟨⟩
theorem tw8201318950647645017 : True := ⟨⟩
theorem tw11482839915615400810 : True := ⟨⟩
theorem tw3173564124373338292 : True := ⟨⟩
theorem tw14142687526905434081 : True := ⟨⟩
theorem tw17424217780580374962 : True := ⟨⟩
theorem tw1944116766474927904 : True := ⟨⟩
theorem tw5656123792215210578 : True := ⟨⟩
theorem tw6605747564649017671 : True := ⟨⟩
theorem tw12188360179544712138 : True := ⟨⟩
theorem tw11763548765261807090 : True := ⟨⟩
theorem tw9734504842057944304 : True := ⟨⟩
theorem tw11107085189080404992 : True := ⟨⟩
theorem tw1343827136445420032 : True := ⟨⟩
theorem tw49362932468836258 : True := ⟨⟩
theorem tw3331154602482659141 : True := ⟨⟩
theorem tw10864191820363579135 : True := ⟨⟩
theorem tw13697074305545432306 : True := ⟨⟩
theorem tw17478647447686280720 : True := ⟨⟩
theorem tw822850119370978361 : True := ⟨⟩
theorem tw13703591353405308849 : True := ⟨⟩
theorem tw14234503604438010316 : True := ⟨⟩
theorem tw10473196228822127301 : True := ⟨⟩
theorem tw11605551741067280307 : True := ⟨⟩
theorem tw16690634695861765922 : True := ⟨⟩
theorem tw9072490722999282309 : True := ⟨⟩
theorem tw7665858575003427665 : True := ⟨⟩
theorem tw3348193223242005274 : True := ⟨⟩
theorem tw17229656595287364188 : True := ⟨⟩
theorem tw15250396072460191400 : True := ⟨⟩
theorem tw6062112981959351002 : True := ⟨⟩
theorem tw15476770183491029210 : True := ⟨⟩
theorem tw2707985211690783773 : True := ⟨⟩
theorem tw4764031490920285850 : True := ⟨⟩
theorem tw14093591317065353271 : True := ⟨⟩
theorem tw2618235209881074008 : True := ⟨⟩
theorem tw6655231265747003246 : True := ⟨⟩
theorem tw2184283299487927603 : True := ⟨⟩
theorem tw3234239194164225507 : True := ⟨⟩
theorem tw101391559051863915 : True := ⟨⟩
theorem tw16433386583010522039 : True := ⟨⟩
theorem tw18079448122659743789 : True := ⟨⟩
theorem tw12114203625134139582 : True := ⟨⟩
theorem tw6630905489743403722 : True := ⟨⟩
theorem tw13691763181982310529 : True := ⟨⟩
theorem tw10288919687689669079 : True := ⟨⟩
theorem tw10617729120224036928 : True := ⟨⟩
theorem tw12579295006469077317 : True := ⟨⟩
theorem tw2521656510713431837 : True := ⟨⟩
theorem tw14823257487769026283 : True := ⟨⟩
theorem tw17018803280292341843 : True := ⟨⟩
theorem tw5878680593447940077 : True := ⟨⟩
theorem tw5072707544390258214 : True := ⟨⟩
theorem tw15701624690776018677 : True := ⟨⟩
theorem tw3223092897040689689 : True := ⟨⟩
theorem tw4628700009489431474 : True := ⟨⟩
theorem tw15495848241708248000 : True := ⟨⟩
theorem tw563482220117825951 : True := ⟨⟩
theorem tw1645808919103084242 : True := ⟨⟩
theorem tw10185961070847490293 : True := ⟨⟩
theorem tw14155275770399964315 : True := ⟨⟩
theorem tw8928630889587278410 : True := ⟨⟩
theorem tw5655970649949445075 : True := ⟨⟩
theorem tw5025869558705856907 : True := ⟨⟩
theorem tw2827377686776384951 : True := ⟨⟩
theorem tw4872507420166875031 : True := ⟨⟩
theorem tw7061846403530550746 : True := ⟨⟩
theorem tw631825522625628101 : True := ⟨⟩
theorem tw9329022069804208889 : True := ⟨⟩
theorem tw5100026900915936836 : True := ⟨⟩
theorem tw3374899810590498764 : True := ⟨⟩
theorem tw15595564010855191475 : True := ⟨⟩
theorem tw6204215677853733021 : True := ⟨⟩
theorem tw3433213108835146873 : True := ⟨⟩
theorem tw18280280792029471018 : True := ⟨⟩
theorem tw3891862273312151532 : True := ⟨⟩
theorem tw6586748721010086568 : True := ⟨⟩
theorem tw2314467955203202979 : True := ⟨⟩
theorem tw9614957360844804143 : True := ⟨⟩
theorem tw13835712483659912482 : True := ⟨⟩
theorem tw11880965587932618730 : True := ⟨⟩
theorem tw10453716202896917108 : True := ⟨⟩
theorem tw3056585226576577035 : True := ⟨⟩
theorem tw12000470746725882399 : True := ⟨⟩
theorem tw2017956463079871098 : True := ⟨⟩
theorem tw15208748042980666523 : True := ⟨⟩
theorem tw3741646687219085075 : True := ⟨⟩
theorem tw13984035127356826274 : True := ⟨⟩
theorem tw17633068151855774830 : True := ⟨⟩
theorem tw10282169417914717577 : True := ⟨⟩
theorem tw4922338680120452812 : True := ⟨⟩
theorem tw13131867749429331614 : True := ⟨⟩
theorem tw7793113738770183978 : True := ⟨⟩
theorem tw5039044034863220247 : True := ⟨⟩
theorem tw12204769988071195040 : True := ⟨⟩
theorem tw17917019827504247856 : True := ⟨⟩
theorem tw17322211340607872125 : True := ⟨⟩
theorem tw6332431959500261691 : True := ⟨⟩
theorem tw17611938505226779435 : True := ⟨⟩
theorem tw9577743789281932309 : True := ⟨⟩
theorem tw17177053830553134618 : True := ⟨⟩
theorem tw8063561322828630376 : True := ⟨⟩
theorem tw5349302371246161994 : True := ⟨⟩
theorem tw3024954858870390593 : True := ⟨⟩
theorem tw11610370368194410899 : True := ⟨⟩
theorem tw6825326679254065493 : True := ⟨⟩
theorem tw17089063685182200694 : True := ⟨⟩
theorem tw4867827352128894207 : True := ⟨⟩
theorem tw13082860233048321188 : True := ⟨⟩
theorem tw14926443787727305700 : True := ⟨⟩
theorem tw680687741884676891 : True := ⟨⟩
theorem tw17143077256279120343 : True := ⟨⟩
theorem tw9000059918877195295 : True := ⟨⟩
theorem tw3112697830418416218 : True := ⟨⟩
theorem tw9829458164975543135 : True := ⟨⟩
theorem tw9773138575543825973 : True := ⟨⟩
theorem tw13174703864371953352 : True := ⟨⟩
theorem tw12433147999906911125 : True := ⟨⟩
theorem tw11333132968417439266 : True := ⟨⟩
theorem tw6723793765194426693 : True := ⟨⟩
theorem tw10704737366431987804 : True := ⟨⟩
theorem tw3717243288457056603 : True := ⟨⟩
theorem tw8520991873103651336 : True := ⟨⟩
theorem tw14480805951583743082 : True := ⟨⟩
theorem tw15970678040213172291 : True := ⟨⟩
theorem tw10590046267093292675 : True := ⟨⟩
theorem tw14918267895891482650 : True := ⟨⟩
theorem tw3112246298116145967 : True := ⟨⟩
theorem tw3887206987549659532 : True := ⟨⟩
theorem tw17196077078208715196 : True := ⟨⟩
theorem tw13715686483932810398 : True := ⟨⟩
theorem tw16538111592764966634 : True := ⟨⟩
theorem tw4711428631005068323 : True := ⟨⟩
theorem tw11405061923933678661 : True := ⟨⟩
theorem tw3125971805104390867 : True := ⟨⟩
theorem tw14106644052345198792 : True := ⟨⟩
theorem tw3905985561810410033 : True := ⟨⟩
theorem tw215471272098858559 : True := ⟨⟩
theorem tw2733115882816837115 : True := ⟨⟩
theorem tw5097565114061767234 : True := ⟨⟩
theorem tw13459423075013610774 : True := ⟨⟩
theorem tw8249550667493669679 : True := ⟨⟩
theorem tw17743377638872343811 : True := ⟨⟩
theorem tw17400515202269331260 : True := ⟨⟩
theorem tw5443384762072645633 : True := ⟨⟩
theorem tw14789769939780065374 : True := ⟨⟩
theorem tw932470628319299219 : True := ⟨⟩
theorem tw11675841259007344577 : True := ⟨⟩
theorem tw4107918644352410757 : True := ⟨⟩
theorem tw10957000133624380115 : True := ⟨⟩
theorem tw7728571182108478754 : True := ⟨⟩
theorem tw16471027925432696499 : True := ⟨⟩
theorem tw2612311640113444920 : True := ⟨⟩
theorem tw8593338207767490070 : True := ⟨⟩
theorem tw7633385611411044034 : True := ⟨⟩
theorem tw3629116695194742302 : True := ⟨⟩
theorem tw3100895192615602046 : True := ⟨⟩
theorem tw8190512659639222318 : True := ⟨⟩
theorem tw8738152304540094861 : True := ⟨⟩
theorem tw10814915748696673353 : True := ⟨⟩
theorem tw17182267509801875847 : True := ⟨⟩
theorem tw3852584616205375459 : True := ⟨⟩
theorem tw5567728925782426893 : True := ⟨⟩
theorem tw16934660096071265615 : True := ⟨⟩
theorem tw15027519894917497794 : True := ⟨⟩
theorem tw906760917488603734 : True := ⟨⟩
theorem tw11653135045771814018 : True := ⟨⟩
theorem tw376822625022013715 : True := ⟨⟩
theorem tw4608150963633493754 : True := ⟨⟩
theorem tw12252033833836356814 : True := ⟨⟩
theorem tw16268240621282040171 : True := ⟨⟩
theorem tw15324898776346178056 : True := ⟨⟩
theorem tw15872796890283537888 : True := ⟨⟩
theorem tw913906699291381723 : True := ⟨⟩
theorem tw5162903566651694257 : True := ⟨⟩
theorem tw9446935696678279571 : True := ⟨⟩
theorem tw7395709772310540833 : True := ⟨⟩
theorem tw18210190426570719827 : True := ⟨⟩
theorem tw7236615715652591641 : True := ⟨⟩
theorem tw13216483610488060608 : True := ⟨⟩
theorem tw14943657328546489540 : True := ⟨⟩
theorem tw17092557449246543915 : True := ⟨⟩
theorem tw5901022607796156447 : True := ⟨⟩
theorem tw9257975279882537737 : True := ⟨⟩
theorem tw2033952368883665456 : True := ⟨⟩
theorem tw12312919377936612549 : True := ⟨⟩
theorem tw15618209303278453574 : True := ⟨⟩
theorem tw16860284001576630073 : True := ⟨⟩
theorem tw15353730046417047163 : True := ⟨⟩
theorem tw17014363903879894739 : True := ⟨⟩
theorem tw10333034525430132545 : True := ⟨⟩
theorem tw15317514883595597032 : True := ⟨⟩
theorem tw4764673522423568622 : True := ⟨⟩
theorem tw6320922559779868101 : True := ⟨⟩
theorem tw238513979599531339 : True := ⟨⟩
theorem tw4793606102727354029 : True := ⟨⟩
theorem tw17374944747684548891 : True := ⟨⟩
theorem tw7770711469654633803 : True := ⟨⟩
theorem tw4875501979193622403 : True := ⟨⟩
theorem tw8248490444768705883 : True := ⟨⟩
theorem tw11036855040489159909 : True := ⟨⟩
theorem tw824383024326237131 : True := ⟨⟩
theorem tw256040271417743885 : True := ⟨⟩
theorem tw11432985807007817891 : True := ⟨⟩
theorem tw10391402133389205546 : True := ⟨⟩
theorem tw6204585803197359519 : True := ⟨⟩
theorem tw796875618291446990 : True := ⟨⟩
theorem tw16646985295787614913 : True := ⟨⟩
theorem tw10950493063269483283 : True := ⟨⟩
theorem tw13795966196273405837 : True := ⟨⟩
theorem tw44016042029346356 : True := ⟨⟩
theorem tw329328771110325344 : True := ⟨⟩
theorem tw18155172383927361829 : True := ⟨⟩
theorem tw11980187684853543917 : True := ⟨⟩
theorem tw3213767924954924063 : True := ⟨⟩
theorem tw12386843914318467870 : True := ⟨⟩
theorem tw18253467139797841406 : True := ⟨⟩
theorem tw14672722169539109352 : True := ⟨⟩
theorem tw15304757664509678563 : True := ⟨⟩
theorem tw7779650628693344409 : True := ⟨⟩
theorem tw1108193018879938874 : True := ⟨⟩
theorem tw12472484353567979015 : True := ⟨⟩
theorem tw15240515784098274985 : True := ⟨⟩
theorem tw4515368478294471933 : True := ⟨⟩
theorem tw9928400447373520728 : True := ⟨⟩
theorem tw16780141369600493598 : True := ⟨⟩
theorem tw4153878099473792002 : True := ⟨⟩
theorem tw13740912763697471283 : True := ⟨⟩
theorem tw9380165397195873152 : True := ⟨⟩
theorem tw14171346658067255180 : True := ⟨⟩
theorem tw12730706864450954797 : True := ⟨⟩
theorem tw16450032613274207971 : True := ⟨⟩
theorem tw2378360523801762209 : True := ⟨⟩
theorem tw4365445780884165941 : True := ⟨⟩
theorem tw2973936704716482900 : True := ⟨⟩
theorem tw7391815037672307777 : True := ⟨⟩
theorem tw10044564547022385314 : True := ⟨⟩
theorem tw679579782522096127 : True := ⟨⟩
theorem tw1587285792913349909 : True := ⟨⟩
theorem tw9898082666433551078 : True := ⟨⟩
theorem tw7997540030567897501 : True := ⟨⟩
theorem tw11992547390045175892 : True := ⟨⟩
theorem tw12392558590374962194 : True := ⟨⟩
theorem tw3577939343407126591 : True := ⟨⟩
theorem tw18051631646166025792 : True := ⟨⟩
theorem tw5269127409179502769 : True := ⟨⟩
theorem tw6754366217482950028 : True := ⟨⟩
theorem tw12554150159946656934 : True := ⟨⟩
theorem tw16038905976750283408 : True := ⟨⟩
theorem tw17862909230502494981 : True := ⟨⟩
theorem tw11633106430789224206 : True := ⟨⟩
theorem tw12967723948629295040 : True := ⟨⟩
theorem tw8866884956517884192 : True := ⟨⟩
theorem tw8541610587511152920 : True := ⟨⟩
theorem tw3035520189854938444 : True := ⟨⟩
theorem tw7785725602018247628 : True := ⟨⟩
theorem tw13249924191131408763 : True := ⟨⟩
theorem tw1766716181705719241 : True := ⟨⟩
theorem tw2773642494877390116 : True := ⟨⟩
theorem tw11492701065364871684 : True := ⟨⟩
theorem tw5250956772272453909 : True := ⟨⟩
theorem tw12954682138894696223 : True := ⟨⟩
theorem tw2750803651377374181 : True := ⟨⟩
theorem tw9691950550590029792 : True := ⟨⟩
theorem tw579101603707533352 : True := ⟨⟩
theorem tw2241268849396471989 : True := ⟨⟩
theorem tw2614077736171999141 : True := ⟨⟩
theorem tw47815762222772485 : True := ⟨⟩
theorem tw11694671421253403458 : True := ⟨⟩
theorem tw2563432630238629461 : True := ⟨⟩
theorem tw11550009875006181637 : True := ⟨⟩
theorem tw15156619942491354334 : True := ⟨⟩
theorem tw5527020703350344361 : True := ⟨⟩
theorem tw15254389776539771955 : True := ⟨⟩
theorem tw998805868193084649 : True := ⟨⟩
theorem tw2013906452520401084 : True := ⟨⟩
theorem tw7442028009286296098 : True := ⟨⟩
theorem tw4614550863394683666 : True := ⟨⟩
theorem tw1379047067708147372 : True := ⟨⟩
theorem tw12983519218881392471 : True := ⟨⟩
theorem tw9922405083883700486 : True := ⟨⟩
theorem tw8324669840722447329 : True := ⟨⟩
theorem tw7024640230330023504 : True := ⟨⟩
theorem tw52807743688336746 : True := ⟨⟩
theorem tw13595951772172983700 : True := ⟨⟩
theorem tw16215845337782841232 : True := ⟨⟩
theorem tw8222772083017225080 : True := ⟨⟩
theorem tw5835635666991985007 : True := ⟨⟩
theorem tw18248094198835065055 : True := ⟨⟩
theorem tw319529626077219124 : True := ⟨⟩
theorem tw6617629687896768370 : True := ⟨⟩
theorem tw12339873978493063374 : True := ⟨⟩
theorem tw4975468160974137517 : True := ⟨⟩
theorem tw9369098725964696178 : True := ⟨⟩
theorem tw5559124700151228639 : True := ⟨⟩
theorem tw1982773480209801568 : True := ⟨⟩
theorem tw11849167566864826998 : True := ⟨⟩
theorem tw16048441880989780296 : True := ⟨⟩
theorem tw12260417582348380900 : True := ⟨⟩
theorem tw4125733055712398008 : True := ⟨⟩
end PySem.W.Fast
open PySem PySem.W PyProof.Rows
set_option maxRecDepth 100000 in
set_option maxHeartbeats 0 in
theorem PySem.Challenge.cw_busyweb_k06_whole_webs_put_together_holds : PySem.Challenge.rw_busyweb_k06_whole_webs_put_together.Holds := by
  w_on; o_law; k_head; (case hw => w_witness2)
  k_fill
  refine Pk.walk (l := PySem.Challenge.rw_busyweb_k06_whole_webs_put_together) rfl rfl (fun w h Y => PySem.W.kIn_of Y) ?F
  case F =>
    intro w mg fa h KX G hmg
    refine' Pk.all_mk KX G hmg ?aCFlowError ?aCBadWeb ?aCTooMany ?aCBadPlace ?aCBadTie ?aCBadFlow ?aCBadRest ?aCNoFlow ?aCBadSet ?aCBadPaper ?aCBadText ?aCBadDeed ?aCWeb ?a1 ?i1 ?l1 ?c1 ?k1 ?a2 ?l2 ?c2 ?k2 ?a3 ?l3 ?c3 ?k3 ?a4 ?l4 ?c4 ?k4 ?a5 ?l5 ?c5 ?k5 ?a6 ?l6 ?c6 ?k6 ?a7 ?l7 ?c7 ?k7 ?a8 ?l8 ?c8 ?k8 ?a9 ?l9 ?c9 ?k9 ?a10 ?l10 ?c10 ?k10 ?a11 ?l11 ?c11 ?k11 ?a12 ?l12 ?c12 ?k12 ?a13 ?l13 ?c13 ?k13 ?a14 ?l14 ?c14 ?k14 ?a15 ?l15 ?c15 ?k15 ?a16 ?l16 ?c16 ?k16 ?a17 ?l17 ?c17 ?k17 ?a18 ?l18 ?c18 ?k18 ?a19 ?l19 ?c19 ?k19 ?a20 ?l20 ?c20 ?k20 ?pg ?hd ?po ?sa ?nM ?nT ?ca ?cg ?ck ?co ?mk ?kc ?mp ?mt ?x_ie_FlowError ?x_ie_TooMany ?x_mr_TooMany ?x_ga_TooMany ?x_gn_TooMany ?x_cl_TooMany ?x_co_TooMany ?x_cb_TooMany ?x_is_TooMany ?x_k_TooMany_BadWeb ?x_k_TooMany_TooMany ?x_k_TooMany_BadPlace ?x_k_TooMany_BadTie ?x_k_TooMany_BadFlow ?x_k_TooMany_BadRest ?x_k_TooMany_NoFlow ?x_k_TooMany_BadSet ?x_k_TooMany_BadPaper ?x_k_TooMany_BadText ?x_k_TooMany_BadDeed ?x_kf_TooMany ?x_kv_TooMany ?x_ie_BadWeb ?x_ie_BadPlace ?x_ie_BadTie ?z0 ?z1 ?z2 ?z3 ?z4 ?z5 ?z6 ?z7 ?z8 ?z9 ?z10 ?z11 ?z12
    (case aCFlowError => k_is)
    (case aCBadWeb => k_is)
    (case aCTooMany => k_is)
    (case aCBadPlace => k_is)
    (case aCBadTie => k_is)
    (case aCBadFlow => k_is)
    (case aCBadRest => k_is)
    (case aCNoFlow => k_is)
    (case aCBadSet => k_is)
    (case aCBadPaper => k_is)
    (case aCBadText => k_is)
    (case aCBadDeed => k_is)
    (case aCWeb => k_is)
    (case a1 => k_is)
    (case i1 => k_is)
    (case l1 => k_is)
    (case c1 => k_is)
    (case k1 => k_is)
    (case a2 => k_is)
    (case l2 => k_is)
    (case c2 => k_is)
    (case k2 => k_is)
    (case a3 => k_is)
    (case l3 => k_is)
    (case c3 => k_is)
    (case k3 => k_is)
    (case a4 => k_is)
    (case l4 => k_is)
    (case c4 => k_is)
    (case k4 => k_is)
    (case a5 => k_is)
    (case l5 => k_is)
    (case c5 => k_is)
    (case k5 => k_is)
    (case a6 => k_is)
    (case l6 => k_is)
    (case c6 => k_is)
    (case k6 => k_is)
    (case a7 => k_is)
    (case l7 => k_is)
    (case c7 => k_is)
    (case k7 => k_is)
    (case a8 => k_is)
    (case l8 => k_is)
    (case c8 => k_is)
    (case k8 => k_is)
    (case a9 => k_is)
    (case l9 => k_is)
    (case c9 => k_is)
    (case k9 => k_is)
    (case a10 => k_is)
    (case l10 => k_is)
    (case c10 => k_is)
    (case k10 => k_is)
    (case a11 => k_is)
    (case l11 => k_is)
    (case c11 => k_is)
    (case k11 => k_is)
    (case a12 => k_is)
    (case l12 => k_is)
    (case c12 => k_is)
    (case k12 => k_is)
    (case a13 => k_is)
    (case l13 => k_is)
    (case c13 => k_is)
    (case k13 => k_is)
    (case a14 => k_is)
    (case l14 => k_is)
    (case c14 => k_is)
    (case k14 => k_is)
    (case a15 => k_is)
    (case l15 => k_is)
    (case c15 => k_is)
    (case k15 => k_is)
    (case a16 => k_is)
    (case l16 => k_is)
    (case c16 => k_is)
    (case k16 => k_is)
    (case a17 => k_is)
    (case l17 => k_is)
    (case c17 => k_is)
    (case k17 => k_is)
    (case a18 => k_is)
    (case l18 => k_is)
    (case c18 => k_is)
    (case k18 => k_is)
    (case a19 => k_is)
    (case l19 => k_is)
    (case c19 => k_is)
    (case k19 => k_is)
    (case a20 => k_is)
    (case l20 => k_is)
    (case c20 => k_is)
    (case k20 => k_is)
    (case pg => k_is)
    (case hd => k_is)
    (case po => k_is)
    (case sa => k_is)
    (case nM => k_is)
    (case nT => k_is)
    (case ca => k_is)
    (case cg => k_is)
    (case ck => k_is)
    (case co => k_is)
    (case mk => k_is)
    (case kc => k_is)
    (case mp => k_is)
    (case mt => k_is)
    (case x_ie_FlowError => k_exc)
    (case x_ie_TooMany => k_exc)
    (case x_mr_TooMany => k_is)
    (case x_ga_TooMany => k_is)
    (case x_gn_TooMany => k_is)
    (case x_cl_TooMany => k_is)
    (case x_co_TooMany => k_is)
    (case x_cb_TooMany => k_is)
    (case x_is_TooMany => k_is)
    (case x_k_TooMany_BadWeb => kit_is)
    (case x_k_TooMany_TooMany => kit_is)
    (case x_k_TooMany_BadPlace => kit_is)
    (case x_k_TooMany_BadTie => kit_is)
    (case x_k_TooMany_BadFlow => kit_is)
    (case x_k_TooMany_BadRest => kit_is)
    (case x_k_TooMany_NoFlow => kit_is)
    (case x_k_TooMany_BadSet => kit_is)
    (case x_k_TooMany_BadPaper => kit_is)
    (case x_k_TooMany_BadText => kit_is)
    (case x_k_TooMany_BadDeed => kit_is)
    (case x_kf_TooMany => kit_is)
    (case x_kv_TooMany => kit_is)
    (case x_ie_BadWeb => k_exc)
    (case x_ie_BadPlace => k_exc)
    (case x_ie_BadTie => k_exc)
    (case z0 => k_is)
    (case z1 => k_is)
    (case z2 => k_is)
    (case z3 => k_is)
    (case z4 => k_is)
    (case z5 => k_is)
    (case z6 => k_is)
    (case z7 => k_is)
    (case z8 => k_is)
    (case z9 => k_is)
    (case z10 => k_is)
    (case z11 => k_is)
    (case z12 => k_is)
