import PyProof.Rows.All
import Wide.All
import OpenK.AllK
import Wide.FinOn
import Lean
import PyProof.EqAt
import PyProof.EqKinds
import PyProof.TupleCall
import KE.KRevIter
import KE.KDictList
import KE.KDictLaws
import PyProof.MinMaxWalk
import PyProof.WalkInts
import PySem.Challenge.RW_busyweb_k38_completed
set_option Elab.async false
set_option linter.all false
set_option maxRecDepth 100000
namespace L2
open PySem PySem.Spec PyProof.Rows
abbrev Key := Sum Int Str
def keyIs : Key → Value → Bool
  | .inl k, v => Value.isInt k v
  | .inr x, v => Value.isStrOf x v
def keyH (w : World) : Key → Int
  | .inl k => hashInt k
  | .inr x => hashStr w x
theorem keyIs_shape : ∀ {k : Key} {v : Value}, keyIs k v = true → (∃ i t, k = Sum.inl i ∧ v = Value.int i t) ∨ (∃ x t, k = Sum.inr x ∧ v = Value.str x t)
  | .inl i, v, h => by
    obtain ⟨t, e⟩ := Value.isInt_shape (k := i) (v := v) h
    exact .inl ⟨i, t, rfl, e⟩
  | .inr x, v, h => by
    obtain ⟨t, e⟩ := Value.isStrOf_shape (x := x) (v := v) h
    exact .inr ⟨x, t, rfl, e⟩
theorem keyIs_int (i : Int) (t : Tok) : keyIs (.inl i) (.int i t) = true := by simp [keyIs, Value.isInt]
theorem keyIs_str (x : Str) (t : Tok) : keyIs (.inr x) (.str x t) = true := by simp [keyIs, Value.isStrOf]
theorem key_ll (a b : Int) : decide ((Sum.inl a : Key) = Sum.inl b) = (a == b) := by
  by_cases e : a = b
  · subst e; simp
  · have h : ¬ (Sum.inl a : Key) = Sum.inl b := fun q => e (Sum.inl.inj q)
    rw [decide_eq_false h]
    exact (beq_eq_false_iff_ne.mpr e).symm
theorem key_rr (a b : Str) : decide ((Sum.inr a : Key) = Sum.inr b) = decide (a = b) := by
  by_cases e : a = b
  · subst e; simp
  · have h : ¬ (Sum.inr a : Key) = Sum.inr b := fun q => e (Sum.inr.inj q)
    rw [decide_eq_false h, decide_eq_false e]
theorem key_lr (a : Int) (b : Str) : decide ((Sum.inl a : Key) = Sum.inr b) = false := decide_eq_false (fun q => nomatch q)
theorem key_rl (a : Str) (b : Int) : decide ((Sum.inr a : Key) = Sum.inl b) = false := decide_eq_false (fun q => nomatch q)
def mixKind (prog : Program) (w : World) : PySem.KeyKind prog w Key where
  is := keyIs
  hash := keyH w
  inj := fun v a b ha hb => by
    rcases keyIs_shape ha with ⟨i, t, rfl, rfl⟩ | ⟨x, t, rfl, rfl⟩
    · rcases keyIs_shape hb with ⟨j, u, rfl, e⟩ | ⟨y, u, rfl, e⟩
      · injection e with e1 _; rw [e1]
      · exact nomatch e
    · rcases keyIs_shape hb with ⟨j, u, rfl, e⟩ | ⟨y, u, rfl, e⟩
      · exact nomatch e
      · injection e with e1 _; rw [e1]
  byValue := fun k v h => by
    rcases keyIs_shape h with ⟨i, t, rfl, rfl⟩ | ⟨x, t, rfl, rfl⟩ <;> rfl
  pyHash := fun hv h => by
    rcases keyIs_shape hv with ⟨i, t, rfl, rfl⟩ | ⟨x, t, rfl, rfl⟩
    · exact wpAny_pyHash_int h
    · exact wpAny_pyHash_str h
  eqBool := fun hu hv h => by
    rcases keyIs_shape hu with ⟨i, t, rfl, rfl⟩ | ⟨x, t, rfl, rfl⟩
    · rcases keyIs_shape hv with ⟨j, u, rfl, rfl⟩ | ⟨y, u, rfl, rfl⟩
      · rw [key_ll] at h; exact wpAny_eqBool_int h
      · rw [key_lr] at h; exact SeqAt.EqAt.int_str i t y u _ _ _ _ h
    · rcases keyIs_shape hv with ⟨j, u, rfl, rfl⟩ | ⟨y, u, rfl, rfl⟩
      · rw [key_rl] at h; exact SeqAt.EqAt.str_int x t j u _ _ _ _ h
      · rw [key_rr] at h; exact wpAny_eqBool_str h
  «strs» := fun k x t v h => by
    rcases keyIs_shape h with ⟨i, u, rfl, e⟩ | ⟨y, u, rfl, e⟩
    · exact nomatch e
    · injection e with e1 _
      subst e1
      cases v <;> rfl
theorem mixKind_int (prog : Program) (w : World) (i : Int) (t : Tok) : (mixKind prog w).is (.inl i) (.int i t) = true := keyIs_int i t
theorem mixKind_str (prog : Program) (w : World) (x : Str) (t : Tok) : (mixKind prog w).is (.inr x) (.str x t) = true := keyIs_str x t
end L2
namespace L2
open PySem PySem.Spec PyProof.Rows
inductive V where
  | non | bl (b : Bool) | int (i : Int) | str (x : Str) | byt (b : Array UInt8) | flt (b : UInt64) | ref (a : Addr) | ty (n : String)
  deriving DecidableEq
def RelV : V → Value → Prop
  | .non, u => u = Value.none
  | .bl b, u => u = Value.bool b
  | .int i, u => ∃ t, u = Value.int i t
  | .str x, u => ∃ t, u = Value.str x t
  | .byt b, u => ∃ t, u = Value.bytes b t
  | .flt b, u => ∃ t, u = Value.float b t
  | .ref a, u => u = Value.ref a
  | .ty n, u => u = Value.type n
abbrev Vals : List V → List Value → Prop := Paired RelV
theorem Vals.length {xs : List V} {us : List Value} (r : Vals xs us) : xs.length = us.length := Paired.length r
theorem Vals.get : ∀ {xs : List V} {us : List Value} {i : Nat} {x : V}, Vals xs us → xs[i]? = some x → ∃ u, us[i]? = some u ∧ RelV x u
  | _, _, _, _, .nil, e => by simp at e
  | _, _, 0, _, .cons r _, e => by simp at e; subst e; exact ⟨_, rfl, r⟩
  | _, _, i + 1, x, .cons _ t, e => by
    obtain ⟨u, h1, h2⟩ := Vals.get (i := i) (x := x) t (by simpa using e)
    exact ⟨u, by simpa using h1, h2⟩
theorem Vals.set {x : V} {u : Value} (r : RelV x u) : ∀ {xs : List V} {us : List Value} (i : Nat), Vals xs us → Vals (xs.set i x) (us.set i u)
  | _, _, _, .nil => .nil
  | _, _, 0, .cons _ t => .cons r t
  | _, _, i + 1, .cons q t => .cons q (Vals.set r i t)
theorem Vals.append : ∀ {xs ys : List V} {us ws : List Value}, Vals xs us → Vals ys ws → Vals (xs ++ ys) (us ++ ws)
  | _, _, _, _, .nil, s => s
  | _, _, _, _, .cons r t, s => .cons r (Vals.append t s)
theorem Vals.take : ∀ {xs : List V} {us : List Value} (n : Nat), Vals xs us → Vals (xs.take n) (us.take n)
  | _, _, 0, _ => .nil
  | _, _, _ + 1, .nil => .nil
  | _, _, n + 1, .cons r t => .cons r (Vals.take n t)
theorem Vals.drop : ∀ {xs : List V} {us : List Value} (n : Nat), Vals xs us → Vals (xs.drop n) (us.drop n)
  | _, _, 0, r => r
  | _, _, _ + 1, .nil => .nil
  | _, _, n + 1, .cons _ t => Vals.drop n t
def RelO : Option V → Option Value → Prop
  | some v, some u => RelV v u
  | none, none => True
  | _, _ => False
def KV {κ : Type} : List (κ × V) → List (κ × Value) → Prop := Paired fun (p : κ × V) (q : κ × Value) => p.1 = q.1 ∧ RelV p.2 q.2
def kV : Key → V
  | .inl i => .int i
  | .inr x => .str x
inductive HO where
  | lst (xs : List V)
  | tup (xs : List V)
  | dK (kvs : List (Key × V)) | dT (kvs : List (List Key × V))
  | set (S : Int → Bool) (n : Nat)
  | ins (C dx : Addr) (fs : List (Str × V))
  | own (x : Addr)
  | xd (fs : List (Str × V))
  | met (f x : Addr)
  | rng (lo hi : Int)
  | frz (o : Obj) (u : HO)
  | tbl (ps : Array Value)
  | ext (φ : Heap → Prop)
abbrev Hp := Addr → Option HO
def upd (H : Hp) (a : Addr) (o : HO) : Hp := fun b => if b = a then some o else H b
theorem upd_same {H : Hp} {a : Addr} {o : HO} : upd H a o a = some o := by unfold upd; rw [if_pos rfl]
theorem upd_ne {H : Hp} {a b : Addr} {o : HO} (h : b ≠ a) : upd H a o b = H b := by unfold upd; rw [if_neg h]
theorem ne_of {H : Hp} {a b : Addr} {o u : HO} (h : H a = some o) (h' : H b = some u) (d : o ≠ u) : a ≠ b := by
  intro e; subst e; rw [h] at h'; exact d (Option.some.inj h')
theorem ne_of_none {H : Hp} {a b : Addr} {o : HO} (h : H a = some o) (h' : H b = none) : a ≠ b := by
  intro e; subst e; rw [h] at h'; cases h'
section
variable (P : Program) (w : World)
def ObjOk (H : Hp) (h : Heap) (a : Addr) : HO → Prop
  | .lst xs => xs.length ≤ sizeLine ∧ ∃ (its : List Value) (n : Nat), Vals xs its ∧ h.get? a = some { cls := .type "list", data := .seq its.toArray n }
  | .tup xs => xs.length ≤ sizeLine ∧ ∃ its : List Value, Vals xs its ∧ IsTup h a its.toArray
  | .dK kvs => kvs.length ≤ sizeLine ∧ (a == sysModules) = false ∧ ∃ vs, KV kvs vs ∧ h.DictOf (mixKind P w) a vs
  | .dT kvs => kvs.length ≤ sizeLine ∧ (a == sysModules) = false ∧ ∃ xs : List (List Key × Addr × Value),
      Paired (fun (p : List Key × V) (q : List Key × Addr × Value) => p.1 = q.1 ∧ H q.2.1 = some (.tup (p.1.map kV)) ∧ RelV p.2 q.2.2) kvs xs ∧
      ∃ o es ep, h.get? a = some o ∧ o.ExactDict ∧ o.data = .dict es ep ∧ es.toList = xs.map (entryOfKey (tupleKind (mixKind P w))) ∧ (xs.map (·.1)).Nodup
  | .set S n => h.SetOf (intKind P w) a S n
  | .ins C dx fs => H dx = some (.own a) ∧ fs.length ≤ 1000 ∧ dx ≠ a ∧ h.get? a = some (PySem.W.instObj C dx) ∧
      ∃ mA, h.Ns1 dx mA ∧ (∀ f, RelO (fs.lookup f) (mA f)) ∧ PySem.Within mA (fs.map (·.1))
  | .own _ => ∃ o, h.get? a = some o
  | .xd fs => ∃ mA, h.Ns1 a mA ∧ ∀ f, RelO (fs.lookup f) (mA f)
  | .rng lo hi => ∃ t u v, h.get? a = some { cls := .type "range", data := .fields #[.int lo t, .int hi u, .int 1 v] }
  | .frz o u => h.get? a = some o ∧ ObjOk H h a u
  | .tbl ps => h.get? a = some { cls := .none, data := .fields ps }
  | .met f x => h.get? a = some (PySem.W.methodObj (.ref f) (.ref x))
  | .ext φ => φ h ∧ (∃ o, h.get? a = some o) ∧ ∀ h1 h2 : Heap, φ h1 → (∀ o, h1.get? a = some o → h2.get? a = some o) → φ h2
def HOk (H : Hp) (h : Heap) : Prop := ∀ a o, H a = some o → ObjOk P w H h a o
end
section
variable {P : Program} {w : World} {H H' : Hp} {h h' : Heap} {a : Addr} {o : HO}
theorem ObjOk.lt (x : ObjOk P w H h a o) : a < h.objs.size := by
  cases o with
  | lst xs => obtain ⟨_, _, _, _, e⟩ := x; exact Heap.lt_size e
  | tup xs => obtain ⟨_, _, _, p⟩ := x; exact p.lt
  | dK kvs => obtain ⟨_, _, _, _, o, _, _, e, _⟩ := x; exact Heap.lt_size e
  | dT kvs => obtain ⟨_, _, _, _, o, _, _, e, _⟩ := x; exact Heap.lt_size e
  | set S n => obtain ⟨o, _, _, _, e, _⟩ := x; exact Heap.lt_size e
  | ins C dx fs => obtain ⟨_, _, _, e, _⟩ := x; exact Heap.lt_size e
  | own y => obtain ⟨_, e⟩ := x; exact Heap.lt_size e
  | xd fs => obtain ⟨_, ⟨_, _, _, e, _⟩, _⟩ := x; exact Heap.lt_size e
  | rng lo hi => obtain ⟨_, _, _, e⟩ := x; exact Heap.lt_size e
  | frz ob u => obtain ⟨e, _⟩ := x; exact Heap.lt_size e
  | tbl ps => exact Heap.lt_size (show h.get? a = some _ from x)
  | met f y => exact Heap.lt_size (show h.get? a = some _ from x)
  | ext φ => obtain ⟨_, ⟨_, e⟩, _⟩ := x; exact Heap.lt_size e
theorem Paired.mapP {α β : Type} {F G : α → β → Prop} : ∀ {l₁ : List α} {l₂ : List β}, Paired F l₁ l₂ → (∀ a b, F a b → G a b) → Paired G l₁ l₂
  | _, _, .nil, _ => .nil
  | _, _, .cons r t, f => .cons (f _ _ r) (Paired.mapP t f)
theorem ObjOk.stay (x : ObjOk P w H h a o) (k : ∀ b u, (b = a ∨ H b = some (.own a)) → h.get? b = some u → h'.get? b = some u)
    (ho : ∀ b, H b = some (.own a) → H' b = some (.own a)) (ht : ∀ b xs, H b = some (.tup xs) → H' b = some (.tup xs)) : ObjOk P w H' h' a o := by
  induction o with
  | lst xs => obtain ⟨z, its, n, r, e⟩ := x; exact ⟨z, its, n, r, k _ _ (.inl rfl) e⟩
  | tup xs => obtain ⟨z, its, r, ob, e, c⟩ := x; exact ⟨z, its, r, ob, k _ _ (.inl rfl) e, c⟩
  | dK kvs => obtain ⟨z, y, vs, r, ob, es, ep, e, c⟩ := x; exact ⟨z, y, vs, r, ob, es, ep, k _ _ (.inl rfl) e, c⟩
  | dT kvs =>
    obtain ⟨z, y, xs, r, ob, es, ep, e, c⟩ := x
    exact ⟨z, y, xs, Paired.mapP r fun p q z => ⟨z.1, ht _ _ z.2.1, z.2.2⟩, ob, es, ep, k _ _ (.inl rfl) e, c⟩
  | set S n => obtain ⟨ob, es, ep, t, e, c⟩ := x; exact ⟨ob, es, ep, t, k _ _ (.inl rfl) e, c⟩
  | ins C dx fs =>
    obtain ⟨d, z, ne, e, mA, ⟨od, es, ep, e2, c⟩, r⟩ := x
    exact ⟨ho _ d, z, ne, k _ _ (.inl rfl) e, mA, ⟨od, es, ep, k _ _ (.inr d) e2, c⟩, r⟩
  | own y => obtain ⟨ob, e⟩ := x; exact ⟨ob, k _ _ (.inl rfl) e⟩
  | xd fs => obtain ⟨mA, ⟨od, es, ep, e, c⟩, r⟩ := x; exact ⟨mA, ⟨od, es, ep, k _ _ (.inl rfl) e, c⟩, r⟩
  | rng lo hi => obtain ⟨t, u, v, e⟩ := x; exact ⟨t, u, v, k _ _ (.inl rfl) e⟩
  | frz ob u ih => obtain ⟨e, q⟩ := x; exact ⟨k _ _ (.inl rfl) e, ih q⟩
  | tbl ps =>
    have e : h.get? a = some { cls := .none, data := .fields ps } := x
    show h'.get? a = some { cls := .none, data := .fields ps }
    exact k a _ (.inl rfl) e
  | met f y =>
    have e : h.get? a = some (PySem.W.methodObj (.ref f) (.ref y)) := x
    show h'.get? a = some (PySem.W.methodObj (.ref f) (.ref y))
    exact k a _ (.inl rfl) e
  | ext φ => obtain ⟨p, ⟨o, e⟩, st⟩ := x; exact ⟨st _ _ p fun o q => k _ _ (.inl rfl) q, ⟨o, k _ _ (.inl rfl) e⟩, st⟩
theorem HOk.lt (x : HOk P w H h) (e : H a = some o) : a < h.objs.size := (x a o e).lt
theorem HOk.fresh (x : HOk P w H h) (e : h.objs.size ≤ a) : H a = none := by
  cases q : H a with
  | none => rfl
  | some u => exact absurd (Nat.lt_of_lt_of_le (x.lt q) e) (Nat.lt_irrefl _)
theorem HOk.kept (x : HOk P w H h) (k : ∀ b u, h.get? b = some u → h'.get? b = some u) : HOk P w H h' := fun a o e =>
  (x a o e).stay (fun b u _ q => k b u q) (fun _ q => q) fun _ _ q => q
theorem HOk.laid (x : HOk P w H h) (k : ∀ b u, h.get? b = some u → h'.get? b = some u) (hp : h.objs.size ≤ a) (new : ObjOk P w (upd H a o) h' a o) : HOk P w (upd H a o) h' := fun b u e => by
  have hn := x.fresh hp
  by_cases hb : b = a
  · subst hb; rw [upd_same] at e; cases e; exact new
  · rw [upd_ne hb] at e
    exact (x b u e).stay (fun c v _ q => k c v q) (fun c q => by rw [upd_ne (ne_of_none q hn)]; exact q) fun c xs q => by rw [upd_ne (ne_of_none q hn)]; exact q
end
def Rd (H : Hp) (a : Addr) (u : HO) : Prop := H a = some u ∨ ∃ o, H a = some (.frz o u)
theorem Rd.ok {P : Program} {w : World} {H : Hp} {h : Heap} {a : Addr} {u : HO} (r : Rd H a u) (x : HOk P w H h) : ObjOk P w H h a u := by
  rcases r with r | ⟨o, r⟩
  · exact x a u r
  · obtain ⟨_, q⟩ := x a _ r
    exact q
def Mut : Option HO → Prop
  | some (.lst _) => True
  | some (.dK _) => True
  | some (.dT _) => True
  | some (.set _ _) => True
  | some (.ins _ _ _) => True
  | some (.ext _) => True
  | _ => False
section
variable {P : Program} {w : World} {H : Hp} {h h' : Heap} {x e : Addr} {o' : HO}
theorem HOk.write (ok : HOk P w H h) (mu : Mut (H x)) (he : e = x ∨ H e = some (.own x)) (k : ∀ b u, b ≠ e → h.get? b = some u → h'.get? b = some u) (heo : ∃ u, h'.get? e = some u)
    (new : ObjOk P w (upd H x o') h' x o') : HOk P w (upd H x o') h' := fun b u q => by
  have nown : ∀ c y, H c = some (.own y) → c ≠ x := fun c y r z => by subst z; rw [r] at mu; exact mu
  have ntup : ∀ c xs, H c = some (.tup xs) → c ≠ x := fun c xs r z => by subst z; rw [r] at mu; exact mu
  by_cases hb : b = x
  · subst hb; rw [upd_same] at q; cases q; exact new
  · rw [upd_ne hb] at q
    by_cases hbe : b = e
    · have q' : H b = some (.own x) := by
        rcases he with z | z
        · exact absurd (hbe.trans z) hb
        · rw [hbe]; exact z
      rw [q] at q'; cases q'
      obtain ⟨v, hv⟩ := heo
      exact ⟨v, by rw [hbe]; exact hv⟩
    · refine (ok b u q).stay (fun c v hc r => k c v ?_ r) (fun c r => by rw [upd_ne (nown c b r)]; exact r) fun c xs r => by rw [upd_ne (ntup c xs r)]; exact r
      rcases hc with rfl | hc
      · exact hbe
      · rintro rfl
        rcases he with z | z
        · exact nown c b hc z
        · rw [hc] at z; cases z; exact hb rfl
end
structure Un (fs ex : List Addr) (H H' : Hp) (h h' : Heap) : Prop where
  keep : ∀ b o, h.get? b = some o → H b = none → b ∉ fs → b ∉ ex → h'.get? b = some o
  slot : ∀ b o, h.get? b = some o → H b = none → b ∈ fs → b ∉ ex → ∃ sl, h'.get? b = some { o with slots := sl }
  free : ∀ b o, h.get? b = some o → H b = none → b ∉ ex → H' b = none
  there : ∀ b o, h.get? b = some o → b ∉ ex → ∃ o', h'.get? b = some o'
  tups : ∀ b xs, H b = some (.tup xs) → H' b = some (.tup xs)
  frzs : ∀ b o u, H b = some (.frz o u) → H' b = some (.frz o u)
  tbls : ∀ b ps, H b = some (.tbl ps) → ∃ more, H' b = some (.tbl (ps ++ more))
section
variable {fs fs' ex ex' : List Addr} {H H1 H2 : Hp} {h h1 h2 h' : Heap} {a x e : Addr} {o : HO}
theorem Un.any (u : Un fs ex H H1 h h1) {b : Addr} {ob : Obj} (q : h.get? b = some ob) (n : H b = none) (hx : b ∉ ex) : ∃ sl, h1.get? b = some { ob with slots := sl } := by
  by_cases hb : b ∈ fs
  · exact u.slot b ob q n hb hx
  · exact ⟨ob.slots, u.keep b ob q n hb hx⟩
theorem Un.kept (k : ∀ b u, h.get? b = some u → h'.get? b = some u) : Un fs ex H H h h' :=
  ⟨fun b ob q _ _ _ => k b ob q, fun b ob q _ _ _ => ⟨ob.slots, k b ob q⟩, fun _ _ _ n _ => n, fun b ob q _ => ⟨ob, k b ob q⟩, fun _ _ q => q, fun _ _ _ q => q, fun _ ps q => ⟨#[], by rw [q]; simp⟩⟩
theorem Un.refl : Un fs ex H H h h := Un.kept fun _ _ q => q
theorem Un.laid (k : ∀ b u, h.get? b = some u → h'.get? b = some u) (hp : h.objs.size ≤ a) (hn : H a = none) : Un fs ex H (upd H a o) h h' where
  keep := fun b u q _ _ _ => k b u q
  slot := fun b u q _ _ _ => ⟨u.slots, k b u q⟩
  free := fun b u q n _ => by rw [upd_ne (Nat.ne_of_lt (Nat.lt_of_lt_of_le (Heap.lt_size q) hp))]; exact n
  there := fun b u q _ => ⟨u, k b u q⟩
  tups := fun b xs q => by rw [upd_ne (ne_of_none q hn)]; exact q
  frzs := fun b u xs q => by rw [upd_ne (ne_of_none q hn)]; exact q
  tbls := fun b ps q => ⟨#[], by rw [upd_ne (ne_of_none q hn), q]; simp⟩
theorem Un.write (mu : Mut (H x)) (he : e = x ∨ H e = some (.own x)) (k : ∀ b u, b ≠ e → h.get? b = some u → h'.get? b = some u) (heo : ∃ u, h'.get? e = some u) : Un fs ex H (upd H x o) h h' := by
  have hx : ∀ b, H b = none → b ≠ x := fun b n z => by subst z; rw [n] at mu; exact mu
  have hb : ∀ b, H b = none → b ≠ e := fun b n z => by
    subst z
    rcases he with r | r
    · exact hx b n r
    · rw [n] at r; cases r
  have hm : ∀ b u, H b = some u → ¬ Mut (some u) → b ≠ x := fun b u q nm z => by subst z; rw [q] at mu; exact nm mu
  refine ⟨fun b u q n _ _ => k b u (hb b n) q, fun b u q n _ _ => ⟨u.slots, k b u (hb b n) q⟩, fun b u q n _ => by rw [upd_ne (hx b n)]; exact n, fun b u q _ => ?_,
    fun b xs q => by rw [upd_ne (hm b _ q fun z => z)]; exact q, fun b u xs q => by rw [upd_ne (hm b _ q fun z => z)]; exact q, fun b ps q => ⟨#[], by rw [upd_ne (hm b _ q fun z => z), q]; simp⟩⟩
  by_cases hbe : b = e
  · subst hbe; exact heo
  · exact ⟨u, k b u hbe q⟩
end
def trk (h : Heap) (H : Hp) : List Addr := (List.range h.objs.size).filter fun a => (H a).isSome
def hidT (h : Heap) (H : Hp) : Heap := PySem.W.hideAll h (trk h H)
theorem hidT_size (h : Heap) (H : Hp) : (hidT h H).objs.size = h.objs.size := PySem.W.hideAll_size _ _
theorem hidT_get {h : Heap} {H : Hp} {b : Addr} {o : Obj} (e : h.get? b = some o) (n : H b = none) : (hidT h H).get? b = some o :=
  PySem.W.hideAll_get _ e fun hm => by
    have q : (H b).isSome = true := (List.mem_filter.mp hm).2
    rw [n] at q; simp at q
theorem of_hidT {h : Heap} {H : Hp} {b : Addr} {o : Obj} (e : (hidT h H).get? b = some o) : h.get? b = some o ∧ H b = none := by
  have e' : h.get? b = some o := PySem.W.of_hideAll (trk h H) e
  refine ⟨e', ?_⟩
  cases q : H b with
  | none => rfl
  | some x =>
    have hm : b ∈ trk h H := List.mem_filter.mpr ⟨List.mem_range.mpr (Heap.lt_size e'), by simp [q]⟩
    have z : (hidT h H).get? b = none := PySem.W.hideAll_none (trk h H) hm
    rw [z] at e; cases e
def allNews (g h : Heap) (L : Addr) : List (Addr × Obj) := (List.range h.objs.size).filterMap fun a => if a = L ∨ (g.get? a).isSome = true then none else (h.get? a).map fun o => (a, o)
def rest (g h : Heap) (L d : Addr) : List (Addr × Obj) := (allNews g h L).filter fun p => decide (p.1 ≠ d)
end L2
namespace L2
open PySem PySem.Spec PyProof.Rows
structure Mod (K : PySem.W.Frag) (mg : Str → Option Value) (base : Heap) : Prop where
  kin : K.In base
  glob : base.Ns mainGlobals mg
  blt : ∃ mb, base.Ns builtinsNs mb ∧ ∀ x : Str, x ≠ "__name__" → mb x = bootBuiltins x
  nolimit : base.NoLimit
structure Cx where
  prog : Program
  w : World
  K : PySem.W.Frag
  mg : Str → Option Value
  base : Heap
  A : Around
  N : List Str
  s₀ : Shared
  H₀ : Hp
  env : Env
  outer : List Env
  stack : List Env
  ex : List Addr
  fn : Str → Bool
  calm : Bool
  pn : List (Addr × Obj)
  xe : Value → Shared → Prop
def frs (l : List Env) : List Addr := l.filterMap (·.frame)
abbrev Cx.fs (X : Cx) : List Addr := frs X.outer
def Vis (sc : Scope) (x : Str) : Prop := sc.names.lookup x = some .local ∨ sc.names.lookup x = some .cell ∨ sc.names.lookup x = some .free
def Loc (sc : Scope) (x : Str) : Prop := sc.names.lookup x = some .local ∨ sc.names.lookup x = some .cell
def Look (env : Env) (h : Heap) (m : Str → Option Value) (x : Str) (u : Value) : Prop :=
  (env.kindOf x = some .local ∧ m x = some u) ∨ ((env.kindOf x = some .cell ∨ env.kindOf x = some .free) ∧ ∃ c, env.cells.lookup x = some c ∧ h.IsCell c (some u))
structure Cx.Ok (X : Cx) : Prop where
  mod : Mod X.K X.mg X.base
  kind : X.env.scope.kind = .function
  glob : X.env.globals = mainGlobals
  blt : X.env.builtins = builtinsNs
  above : X.s₀.heap.objs.size ≤ X.env.locals
  inj : ∀ x y c, X.env.cells.lookup x = some c → X.env.cells.lookup y = some c → x = y
  has : ∀ x, (X.env.kindOf x = some .cell ∨ X.env.kindOf x = some .free) → ∃ c, X.env.cells.lookup x = some c
  cab : ∀ x c, X.fn x = true → X.env.cells.lookup x = some c → X.s₀.heap.objs.size ≤ c
  hd : X.calm = true → X.A.handled = none
  frames : X.A.frames = some X.stack
  stk : X.stack = X.outer ∨ (X.stack = X.env :: X.outer ∧ X.env.frame = some X.env.locals)
  exf : ∀ b ∈ X.ex, b ≠ X.env.locals ∧ ∀ x c, X.env.cells.lookup x = some c → c ≠ b
  bs : ∀ b o, X.base.get? b = some o → X.s₀.heap.get? b = some o ∧ X.H₀ b = none
  bsz : X.base.objs.size ≤ X.s₀.heap.objs.size
  noex : ∀ b o, X.base.get? b = some o → b ∉ X.ex
  exfs : ∀ b ∈ X.ex, b ∉ X.fs
  funs : X.s₀.heap.FunFrames X.base X.outer
  frf : ∀ b ∈ X.fs, X.H₀ b = none
structure Inv (X : Cx) (pins : List (Addr × Obj)) (σ : List (Option V)) (H : Hp) (s : Shared) : Prop where
  ok : X.Ok
  os : s.os = X.s₀.os
  bare : AllBare s.gens
  base : Un X.fs X.ex X.H₀ H X.s₀.heap s.heap
  loc : ∃ m, s.heap.Ns X.env.locals m ∧ ∀ (i : Nat) (x : Str) (v : V), X.N[i]? = some x → σ[i]? = some (some v) → Vis X.env.scope x → ∃ u, RelV v u ∧ Look X.env s.heap m x u
  cell : ∀ x c, X.env.cells.lookup x = some c → ∃ v, s.heap.IsCell c v
  free : H X.env.locals = none
  freeC : ∀ x c, X.env.cells.lookup x = some c → H c = none
  pin : ∀ p ∈ X.pn ++ pins, s.heap.get? p.1 = some p.2 ∧ H p.1 = none ∧ p.1 ≠ X.env.locals ∧ p.1 ∉ X.fs ∧ ∀ v, p.2.data ≠ .cell v
  hok : HOk X.prog X.w H s.heap
  len : σ.length = X.N.length
section
variable {X : Cx} {pins : List (Addr × Obj)} {σ : List (Option V)} {H H' : Hp} {s : Shared} {h' : Heap}
theorem Cx.Ok.nofr (ok : X.Ok) {b : Addr} {o : Obj} (e : X.base.get? b = some o) : b ∉ X.fs := fun hb => by
  have := (ok.funs.mem hb).1
  rw [e] at this; cases this
theorem Inv.bs (I : Inv X pins σ H s) : ∀ b o, X.base.get? b = some o → s.heap.get? b = some o ∧ H b = none := fun b o e =>
  ⟨I.base.keep b o (I.ok.bs b o e).1 (I.ok.bs b o e).2 (I.ok.nofr e) (I.ok.noex b o e), I.base.free b o (I.ok.bs b o e).1 (I.ok.bs b o e).2 (I.ok.noex b o e)⟩
theorem Inv.bk (I : Inv X pins σ H s) : ∀ b o, X.base.get? b = some o → s.heap.get? b = some o := fun b o e => (I.bs b o e).1
theorem Inv.mod (I : Inv X pins σ H s) : Mod X.K X.mg X.base := I.ok.mod
theorem Inv.kIn (I : Inv X pins σ H s) : X.K.In s.heap := I.ok.mod.kin.keeps I.bk
theorem Inv.lt (I : Inv X pins σ H s) : X.env.locals < s.heap.objs.size := let ⟨_, hn, _⟩ := I.loc; hn.lt
theorem Inv.sz (I : Inv X pins σ H s) : X.s₀.heap.objs.size ≤ s.heap.objs.size := Nat.le_trans I.ok.above (Nat.le_of_lt I.lt)
theorem Inv.nofs (I : Inv X pins σ H s) {a : Addr} (h : s.heap.objs.size ≤ a) : a ∉ X.fs := fun hb => by
  obtain ⟨_, o, ho, _⟩ := I.ok.funs.mem hb
  exact absurd (Nat.lt_of_lt_of_le (Heap.lt_size ho) (Nat.le_trans I.sz h)) (Nat.lt_irrefl _)
theorem Inv.cne (I : Inv X pins σ H s) : ∀ x c, X.env.cells.lookup x = some c → c ≠ X.env.locals := fun x c e z => by
  obtain ⟨v, o, ho, hd⟩ := I.cell x c e
  obtain ⟨m, ⟨o', es, ep, ho', hd', _⟩, _⟩ := I.loc
  rw [z, ho'] at ho; cases ho; rw [hd'] at hd; cases hd
theorem Inv.funs (I : Inv X pins σ H s) : s.heap.FunFrames X.base X.outer := by
  have all : ∀ (l : List Env), (∀ b ∈ frs l, b ∈ X.fs) → X.s₀.heap.FunFrames X.base l → s.heap.FunFrames X.base l := by
    intro l
    induction l with
    | nil => intro _ _; trivial
    | cons env r ih =>
      intro hs hl
      obtain ⟨hk, ⟨L, o, hf, hn, ho, hd⟩, hr⟩ := hl
      have hL : L ∈ X.fs := hs L (by unfold frs; rw [List.filterMap_cons, hf]; exact List.mem_cons_self)
      obtain ⟨sl, e⟩ := I.base.slot L o ho (I.ok.frf L hL) hL fun z => I.ok.exfs L z hL
      exact ⟨hk, ⟨L, _, hf, hn, e, hd⟩, ih (fun b hb => hs b (by unfold frs; rw [List.filterMap_cons, hf]; exact List.mem_cons_of_mem _ hb)) hr⟩
  exact all X.outer (fun _ hb => hb) I.ok.funs
theorem Inv.stack (I : Inv X pins σ H s) : s.heap.FunFrames X.base X.stack := by
  rcases I.ok.stk with e | ⟨e, hf⟩
  · rw [e]; exact I.funs
  · rw [e]
    obtain ⟨m, hn, _⟩ := I.loc
    refine .cons (by rw [I.ok.kind]; decide) hf hn ?_ I.funs
    exact Heap.get?_none_of_le (Nat.le_trans I.ok.bsz I.ok.above)
theorem Inv.stkSub (I : Inv X pins σ H s) : ∀ b ∈ frs X.stack, b ∈ X.env.locals :: X.fs := fun b hb => by
  rcases I.ok.stk with e | ⟨e, hf⟩
  · rw [e] at hb; exact List.mem_cons_of_mem _ hb
  · rw [e] at hb
    unfold frs at hb
    rw [List.filterMap_cons, hf] at hb
    exact hb
theorem Inv.stkFree (I : Inv X pins σ H s) : ∀ b ∈ frs X.stack, H b = none := fun b hb => by
  rcases List.mem_cons.mp (I.stkSub b hb) with e | hb
  · rw [e]; exact I.free
  · obtain ⟨_, o, ho, _⟩ := I.ok.funs.mem hb
    exact I.base.free b o ho (I.ok.frf b hb) fun z => I.ok.exfs b z hb
theorem Inv.step {g' : Array GenState} {t' : Nat} {d' : Drawn} {ch : List Addr} (I : Inv X pins σ H s)
    (hch : ∀ b ∈ ch, (b ∈ X.ex ∨ X.s₀.heap.objs.size ≤ b) ∧ b ≠ X.env.locals ∧ (∀ x c, X.env.cells.lookup x = some c → c ≠ b) ∧ ∀ p ∈ X.pn ++ pins, p.1 ≠ b)
    (keep : ∀ b o, b ≠ X.env.locals → b ∉ X.fs → b ∉ ch → s.heap.get? b = some o → H b = none → h'.get? b = some o)
    (slot : ∀ b o, b ≠ X.env.locals → b ∈ X.fs → b ∉ ch → s.heap.get? b = some o → H b = none → ∃ sl, h'.get? b = some { o with slots := sl }) (free : ∀ b o, b ∉ ch → s.heap.get? b = some o → H b = none → H' b = none)
    (there : ∀ b o, b ∉ ch → s.heap.get? b = some o → ∃ o', h'.get? b = some o')
    (tups : ∀ b xs, H b = some (.tup xs) → H' b = some (.tup xs)) (frzs : ∀ b o u, H b = some (.frz o u) → H' b = some (.frz o u)) (tbls : ∀ b ps, H b = some (.tbl ps) → ∃ more, H' b = some (.tbl (ps ++ more)))
    (ns : ∀ m, s.heap.Ns X.env.locals m → h'.Ns X.env.locals m) (hok : HOk X.prog X.w H' h') (hg : AllBare g') :
    Inv X pins σ H' { s with heap := h', gens := g', drawn := d', toks := t' } := by
  have neL : ∀ b o, X.s₀.heap.get? b = some o → b ≠ X.env.locals := fun b o e => Nat.ne_of_lt (Nat.lt_of_lt_of_le (Heap.lt_size e) I.ok.above)
  have neC : ∀ b o, X.s₀.heap.get? b = some o → b ∉ X.ex → b ∉ ch := fun b o e hx hb => by
    rcases (hch b hb).1 with z | z
    · exact hx z
    · exact absurd (Nat.lt_of_lt_of_le (Heap.lt_size e) z) (Nat.lt_irrefl _)
  have cellK : ∀ x c, X.env.cells.lookup x = some c → ∀ v, s.heap.IsCell c v → h'.IsCell c v := fun x c e v ⟨o, ho, hd⟩ => by
    have nch : c ∉ ch := fun z => (hch c z).2.2.1 x c e rfl
    by_cases hc : c ∈ X.fs
    · obtain ⟨sl, q⟩ := slot c o (I.cne x c e) hc nch ho (I.freeC x c e)
      exact ⟨_, q, hd⟩
    · exact ⟨o, keep c o (I.cne x c e) hc nch ho (I.freeC x c e), hd⟩
  refine ⟨I.ok, I.os, hg, ⟨fun b o e n hb hx => ?_, fun b o e n hb hx => ?_, fun b o e n hx => ?_, fun b o e hx => ?_, fun b xs e => tups b xs (I.base.tups b xs e), fun b o xs e => frzs b o xs (I.base.frzs b o xs e), fun b ps e => ?_⟩, ?_, fun x c e => ?_, ?_, fun x c e => ?_, fun p hp => ?_, hok, I.len⟩
  · exact keep b o (neL b o e) hb (neC b o e hx) (I.base.keep b o e n hb hx) (I.base.free b o e n hx)
  · obtain ⟨sl, e1⟩ := I.base.slot b o e n hb hx
    obtain ⟨sl', e2⟩ := slot b _ (neL b o e) hb (neC b o e hx) e1 (I.base.free b o e n hx)
    exact ⟨sl', e2⟩
  · obtain ⟨o', e1⟩ := I.base.there b o e hx
    exact free b o' (neC b o e hx) e1 (I.base.free b o e n hx)
  · obtain ⟨o', e1⟩ := I.base.there b o e hx
    exact there b o' (neC b o e hx) e1
  · obtain ⟨m1, e1⟩ := I.base.tbls b ps e
    obtain ⟨m2, e2⟩ := tbls b _ e1
    exact ⟨m1 ++ m2, by rw [e2, Array.append_assoc]⟩
  · obtain ⟨m, hn, hl⟩ := I.loc
    refine ⟨m, ns m hn, fun i x v e1 e2 e3 => ?_⟩
    obtain ⟨u, r, l⟩ := hl i x v e1 e2 e3
    refine ⟨u, r, ?_⟩
    rcases l with l | ⟨k, c, e, z⟩
    · exact .inl l
    · exact .inr ⟨k, c, e, cellK x c e _ z⟩
  · obtain ⟨v, z⟩ := I.cell x c e
    exact ⟨v, cellK x c e v z⟩
  · obtain ⟨m, ⟨o, _, _, ho, _⟩, _⟩ := I.loc
    exact free _ o (fun z => (hch _ z).2.1 rfl) ho I.free
  · obtain ⟨v, o, ho, hd⟩ := I.cell x c e
    exact free c o (fun z => (hch c z).2.2.1 x c e rfl) ho (I.freeC x c e)
  · obtain ⟨e, n, ne, nf, d⟩ := I.pin p hp
    have nch : p.1 ∉ ch := fun z => (hch p.1 z).2.2.2 p hp rfl
    exact ⟨keep p.1 p.2 ne nf nch e n, free p.1 p.2 nch e n, ne, nf, d⟩
theorem Inv.un {t' : Nat} (I : Inv X pins σ H s) (u : Un X.fs [] H H' s.heap h') (hok : HOk X.prog X.w H' h') : Inv X pins σ H' { s with heap := h', toks := t' } := by
  obtain ⟨m, ⟨o, es, ep, ho, r⟩, _⟩ := id I.loc
  obtain ⟨sl, hL⟩ := u.any ho I.free (by simp)
  exact I.step (g' := s.gens) (d' := s.drawn) (ch := []) (fun _ z => nomatch z) (fun b o _ hb _ e n => u.keep b o e n hb (by simp)) (fun b o _ hb _ e n => u.slot b o e n hb (by simp)) (fun b o _ e n => u.free b o e n (by simp)) (fun b o _ e => u.there b o e (by simp)) u.tups u.frzs u.tbls (fun m' hm => by
    obtain ⟨o', es', ep', ho', r'⟩ := hm
    rw [ho] at ho'; cases ho'
    exact ⟨_, es', ep', hL, r'⟩) hok I.bare
theorem Inv.call {g' : Array GenState} {t' : Nat} {d' : Drawn} {ch : List Addr} (I : Inv X pins σ H s) (u : Un (frs X.stack) ch H H' s.heap h') (hok : HOk X.prog X.w H' h') (hg : AllBare g')
    (hch : ∀ b ∈ ch, (b ∈ X.ex ∨ X.s₀.heap.objs.size ≤ b) ∧ b ≠ X.env.locals ∧ (∀ x c, X.env.cells.lookup x = some c → c ≠ b) ∧ ∀ p ∈ X.pn ++ pins, p.1 ≠ b) :
    Inv X pins σ H' { s with heap := h', gens := g', drawn := d', toks := t' } := by
  obtain ⟨m, ⟨o, es, ep, ho, r⟩, _⟩ := id I.loc
  obtain ⟨sl, hL⟩ := u.any ho I.free fun z => (hch _ z).2.1 rfl
  exact I.step (ch := ch) hch (fun b o hL hb hc e n => u.keep b o e n (fun z => (List.mem_cons.mp (I.stkSub b z)).elim hL hb) hc) (fun b o _ _ hc e n => u.any e n hc) (fun b o hc e n => u.free b o e n hc) (fun b o hc e => u.there b o e hc) u.tups u.frzs u.tbls (fun m' hm => by
    obtain ⟨o', es', ep', ho', r'⟩ := hm
    rw [ho] at ho'; cases ho'
    exact ⟨_, es', ep', hL, r'⟩) hok hg
theorem Inv.turned {t' : Nat} {it : Addr} (I : Inv X pins σ H s) (k : ∀ b o, b ≠ it → s.heap.get? b = some o → h'.get? b = some o) (hn : H it = none) (hL : it ≠ X.env.locals)
    (h1 : it ∈ X.ex ∨ X.s₀.heap.objs.size ≤ it) (h2 : ∀ x c, X.env.cells.lookup x = some c → c ≠ it) (h3 : ∀ p ∈ X.pn ++ pins, p.1 ≠ it) : Inv X pins σ H { s with heap := h', toks := t' } := by
  have nit : ∀ b u, H b = some u → b ≠ it := fun b u e z => by rw [z, hn] at e; cases e
  refine I.step (g' := s.gens) (d' := s.drawn) (ch := [it]) (fun b hb => ?_) (fun b o _ _ hc e _ => k b o (fun z => hc (by simp [z])) e) (fun b o _ _ hc e _ => ⟨o.slots, k b o (fun z => hc (by simp [z])) e⟩) (fun _ _ _ _ n => n)
    (fun b o hc e => ⟨o, k b o (fun z => hc (by simp [z])) e⟩) (fun _ _ e => e) (fun _ _ _ e => e) (fun b ps e => ⟨#[], by rw [e]; simp⟩) (fun m hm => ?_) (fun b u e => ?_) I.bare
  · have e : b = it := by simpa using hb
    subst e
    exact ⟨h1, hL, h2, h3⟩
  · obtain ⟨o, es, ep, ho, r⟩ := hm
    exact ⟨o, es, ep, k _ o (Ne.symm hL) ho, r⟩
  · refine (I.hok b u e).stay (fun c v hc q => k c v ?_ q) (fun _ q => q) fun _ _ q => q
    rcases hc with z | z
    · rw [z]; exact nit b u e
    · exact nit c _ z
theorem Inv.tok (I : Inv X pins σ H s) (t : Nat) : Inv X pins σ H { s with toks := t } := I.un (h' := s.heap) (t' := t) Un.refl I.hok
theorem Inv.kept {t' : Nat} (I : Inv X pins σ H s) (k : ∀ b u, s.heap.get? b = some u → h'.get? b = some u) : Inv X pins σ H { s with heap := h', toks := t' } := I.un (Un.kept k) (I.hok.kept k)
theorem Inv.laid {a : Addr} {o : HO} {t' : Nat} (I : Inv X pins σ H s) (k : ∀ b u, s.heap.get? b = some u → h'.get? b = some u) (hp : s.heap.objs.size ≤ a) (new : ObjOk X.prog X.w (upd H a o) h' a o) :
    Inv X pins σ (upd H a o) { s with heap := h', toks := t' } := I.un (Un.laid k hp (I.hok.fresh hp)) (I.hok.laid k hp new)
theorem Inv.write {x e : Addr} {o : HO} {t' : Nat} (I : Inv X pins σ H s) (mu : Mut (H x)) (he : e = x ∨ H e = some (.own x)) (k : ∀ b u, b ≠ e → s.heap.get? b = some u → h'.get? b = some u) (heo : ∃ u, h'.get? e = some u)
    (new : ObjOk X.prog X.w (upd H x o) h' x o) : Inv X pins σ (upd H x o) { s with heap := h', toks := t' } := I.un (Un.write mu he k heo) (I.hok.write mu he k heo new)
theorem Inv.weak {σ' : List (Option V)} (I : Inv X pins σ H s) (hl : σ'.length = σ.length) (w : ∀ (i : Nat) v, σ'[i]? = some (some v) → σ[i]? = some (some v)) : Inv X pins σ' H s :=
  ⟨I.ok, I.os, I.bare, I.base, let ⟨m, hn, hl'⟩ := I.loc; ⟨m, hn, fun i x v e1 e2 e3 => hl' i x v e1 (w i v e2) e3⟩, I.cell, I.free, I.freeC, I.pin, I.hok, hl.trans I.len⟩
theorem Inv.pins_of {pins' : List (Addr × Obj)} (I : Inv X pins σ H s) (h : ∀ p ∈ pins', s.heap.get? p.1 = some p.2 ∧ H p.1 = none ∧ p.1 ≠ X.env.locals ∧ p.1 ∉ X.fs ∧ ∀ v, p.2.data ≠ .cell v) : Inv X pins' σ H s :=
  ⟨I.ok, I.os, I.bare, I.base, I.loc, I.cell, I.free, I.freeC, fun p hp => (List.mem_append.mp hp).elim (fun z => I.pin p (List.mem_append_left _ z)) (h p), I.hok, I.len⟩
theorem nodup_ix {N : List Str} (hN : N.Nodup) {i j : Nat} {x : Str} (a : N[i]? = some x) (b : N[j]? = some x) : i = j := by
  obtain ⟨h1, e1⟩ := List.getElem?_eq_some_iff.mp a
  obtain ⟨h2, e2⟩ := List.getElem?_eq_some_iff.mp b
  exact (List.getElem_inj hN).mp (e1.trans e2.symm)
theorem store_ok2 {M : Model} {A : Around} {E : Value → Shared → Prop} {i : Nat} {x : Str} {v : V} {u : Value} {Q : Unit → Shared → Prop} (I : Inv X pins σ H s) (hN : X.N.Nodup) (hi : X.N[i]? = some x) (hx : Loc X.env.scope x) (r : RelV v u)
    (h : ∀ s', Inv X pins (σ.set i (some v)) H s' → (∃ a, Heap.SameBut a s.heap s'.heap ∧ (a = X.env.locals ∨ X.env.cells.lookup x = some a)) → Q () s') (hf : X.fn x = true ∨ X.env.scope.names.lookup x = some .local := by first | exact .inl rfl | exact .inr rfl | assumption) : wpAny M A (storeName X.env x u) Q E s := by
  obtain ⟨m, hn, hl⟩ := id I.loc
  have hcls : (X.env.scope.kind == .class || (X.env.scope.kind == .module && X.env.locals != X.env.globals)) = false := by rw [I.ok.kind]; rfl
  have hiσ : i < σ.length := by rw [I.len]; exact (List.getElem?_eq_some_iff.mp hi).1
  have cne := I.cne
  have tracked : ∀ {a : Addr} {h' : Heap}, (∃ o, s.heap.get? a = some o ∧ H a = none) → Heap.SameBut a s.heap h' → HOk X.prog X.w H h' := fun {a h'} ha hs b ob e => by
    obtain ⟨_, _, hfree⟩ := ha
    refine (I.hok b ob e).stay (fun c w' hc q => (hs.2 c ?_).trans q) (fun _ q => q) fun _ _ q => q
    rintro rfl
    rcases hc with rfl | hc
    · rw [hfree] at e; cases e
    · rw [hfree] at hc; cases hc
  rcases hx with hk | hk
  · refine wpAny_storeName_local hk hn (fun h' hn' hs => ?_) hcls
    obtain ⟨oL, _, _, hoL, _⟩ := id hn
    refine h _ ⟨I.ok, I.os, I.bare, ⟨fun b o e n hb hx => ?_, fun b o e n hb hx => ?_, I.base.free, fun b o e hx => ?_, I.base.tups, I.base.frzs, I.base.tbls⟩, ⟨_, hn', fun j y v' e1 e2 e3 => ?_⟩, fun y c e => ?_, I.free, I.freeC, fun p hp => ?_, tracked ⟨oL, hoL, I.free⟩ hs, by simpa using I.len⟩ ⟨_, hs, .inl rfl⟩
    · exact (hs.2 b (Nat.ne_of_lt (Nat.lt_of_lt_of_le (Heap.lt_size e) I.ok.above))).trans (I.base.keep b o e n hb hx)
    · obtain ⟨sl, e1⟩ := I.base.slot b o e n hb hx
      exact ⟨sl, (hs.2 b (Nat.ne_of_lt (Nat.lt_of_lt_of_le (Heap.lt_size e) I.ok.above))).trans e1⟩
    · obtain ⟨o', e1⟩ := I.base.there b o e hx
      exact ⟨o', (hs.2 b (Nat.ne_of_lt (Nat.lt_of_lt_of_le (Heap.lt_size e) I.ok.above))).trans e1⟩
    · by_cases hj : j = i
      · subst hj
        rw [hi] at e1; cases e1
        rw [List.getElem?_set_self hiσ] at e2
        cases e2
        exact ⟨u, r, .inl ⟨hk, by simp⟩⟩
      · rw [List.getElem?_set_ne (Ne.symm hj)] at e2
        obtain ⟨u', r', q⟩ := hl j y v' e1 e2 e3
        refine ⟨u', r', ?_⟩
        rcases q with ⟨k, e⟩ | ⟨k, c, e, z⟩
        · refine .inl ⟨k, ?_⟩
          have : y ≠ x := fun e => hj (nodup_ix hN e1 (e ▸ hi))
          simp [this, e]
        · exact .inr ⟨k, c, e, z.sameBut hs (cne y c e)⟩
    · obtain ⟨w', z⟩ := I.cell y c e
      exact ⟨w', z.sameBut hs (cne y c e)⟩
    · obtain ⟨e, n, ne, nf, d⟩ := I.pin p hp
      exact ⟨(hs.2 p.1 ne).trans e, n, ne, nf, d⟩
  · have hfn : X.fn x = true := by
      rcases hf with z | z
      · exact z
      · rw [z] at hk; cases hk
    obtain ⟨c, hc⟩ := I.ok.has x (.inl hk)
    obtain ⟨w', z⟩ := I.cell x c hc
    refine wpAny_storeName_cell I.ok.kind hk hc z (fun h' hc' hs => ?_)
    obtain ⟨oc, hoc, hocd⟩ := id z
    refine h { s with heap := h' } ⟨I.ok, I.os, I.bare, ⟨fun b o e n hb hx => ?_, fun b o e n hb hx => ?_, I.base.free, fun b o e hx => ?_, I.base.tups, I.base.frzs, I.base.tbls⟩, ⟨m, hn.sameBut hs (Ne.symm (cne x c hc)), fun j y v' e1 e2 e3 => ?_⟩, fun y c' e => ?_, I.free, I.freeC, fun p hp => ?_, tracked ⟨oc, hoc, I.freeC x c hc⟩ hs, by simpa using I.len⟩ ⟨c, hs, .inr hc⟩
    · exact (hs.2 b (Nat.ne_of_lt (Nat.lt_of_lt_of_le (Heap.lt_size e) (I.ok.cab x c hfn hc)))).trans (I.base.keep b o e n hb hx)
    · obtain ⟨sl, e1⟩ := I.base.slot b o e n hb hx
      exact ⟨sl, (hs.2 b (Nat.ne_of_lt (Nat.lt_of_lt_of_le (Heap.lt_size e) (I.ok.cab x c hfn hc)))).trans e1⟩
    · obtain ⟨o', e1⟩ := I.base.there b o e hx
      exact ⟨o', (hs.2 b (Nat.ne_of_lt (Nat.lt_of_lt_of_le (Heap.lt_size e) (I.ok.cab x c hfn hc)))).trans e1⟩
    · by_cases hj : j = i
      · subst hj
        rw [hi] at e1; cases e1
        rw [List.getElem?_set_self hiσ] at e2
        cases e2
        exact ⟨u, r, .inr ⟨.inl hk, c, hc, hc'⟩⟩
      · rw [List.getElem?_set_ne (Ne.symm hj)] at e2
        obtain ⟨u', r', q⟩ := hl j y v' e1 e2 e3
        refine ⟨u', r', ?_⟩
        rcases q with q | ⟨k, c', e, z'⟩
        · exact .inl q
        · refine .inr ⟨k, c', e, z'.sameBut hs ?_⟩
          rintro rfl
          exact hj (nodup_ix hN e1 (I.ok.inj _ _ _ e hc ▸ hi))
    · by_cases hcc : c' = c
      · subst hcc; exact ⟨_, hc'⟩
      · obtain ⟨w2, z2⟩ := I.cell y c' e
        exact ⟨w2, z2.sameBut hs hcc⟩
    · obtain ⟨e, n, ne, nf, d⟩ := I.pin p hp
      refine ⟨(hs.2 p.1 ?_).trans e, n, ne, nf, d⟩
      intro q
      rw [q, hoc] at e
      have q' : oc = p.2 := Option.some.inj e
      exact d w' (by rw [← q']; exact hocd)
theorem store_ok {M : Model} {A : Around} {E : Value → Shared → Prop} {i : Nat} {x : Str} {v : V} {u : Value} {Q : Unit → Shared → Prop} (I : Inv X pins σ H s) (hN : X.N.Nodup) (hi : X.N[i]? = some x) (hx : Loc X.env.scope x) (r : RelV v u)
    (h : ∀ s', Inv X pins (σ.set i (some v)) H s' → Q () s') (hf : X.fn x = true ∨ X.env.scope.names.lookup x = some .local := by first | exact .inl rfl | exact .inr rfl | assumption) : wpAny M A (storeName X.env x u) Q E s :=
  store_ok2 I hN hi hx r (fun s' I' _ => h s' I') hf
theorem Inv.call' {s' : Shared} {ch : List Addr} (I : Inv X pins σ H s) (ho : s'.os = s.os) (u : Un (frs X.stack) ch H H' s.heap s'.heap) (hok : HOk X.prog X.w H' s'.heap) (hg : AllBare s'.gens)
    (hch : ∀ b ∈ ch, (b ∈ X.ex ∨ X.s₀.heap.objs.size ≤ b) ∧ b ≠ X.env.locals ∧ (∀ x c, X.env.cells.lookup x = some c → c ≠ b) ∧ ∀ p ∈ X.pn ++ pins, p.1 ≠ b) : Inv X pins σ H' s' := by
  obtain ⟨h', g', d', t', o'⟩ := s'
  have e : o' = s.os := ho
  subst e
  exact I.call (g' := g') (t' := t') (d' := d') u hok hg hch
end
abbrev XK := Value → Option Addr → Hp → Prop
abbrev St := List (Option V)
abbrev VK := V → Hp → Prop
abbrev TE := St → Hp → VK → Prop
abbrev TT := St → Hp → (Bool → Hp → Prop) → Prop
abbrev TA := St → Hp → (List V → Hp → Prop) → Prop
structure Ends where
  nx : St → Hp → Prop
  rt : VK
  bk : St → Hp → Prop := fun _ _ => False
  ct : St → Hp → Prop := fun _ _ => False
abbrev TS := Ends → St → Hp → Prop
def EP (X : Cx) (pins : List (Addr × Obj)) (σ : St) (Q : VK) (u : Value) (s' : Shared) : Prop := ∃ v H', Inv X pins σ H' s' ∧ RelV v u ∧ Q v H'
def TP (X : Cx) (pins : List (Addr × Obj)) (σ : St) (Q : Bool → Hp → Prop) (b : Bool) (s' : Shared) : Prop := ∃ H', Inv X pins σ H' s' ∧ Q b H'
def AP (X : Cx) (pins : List (Addr × Obj)) (σ : St) (Q : List V → Hp → Prop) (us : List Value) (s' : Shared) : Prop := ∃ vs H', Inv X pins σ H' s' ∧ Vals vs us ∧ Q vs H'
def SP (X : Cx) (pins : List (Addr × Obj)) (D : Ends) (f : Flow) (s' : Shared) : Prop :=
  match f with
  | .next => ∃ σ' H', Inv X pins σ' H' s' ∧ D.nx σ' H'
  | .brk => ∃ σ' H', Inv X pins σ' H' s' ∧ D.bk σ' H'
  | .cont => ∃ σ' H', Inv X pins σ' H' s' ∧ D.ct σ' H'
  | .ret u => ∃ v σ' H', Inv X pins σ' H' s' ∧ RelV v u ∧ D.rt v H'
def PE (X : Cx) (e : Expr) (t : TE) : Prop :=
  ∀ (pins : List (Addr × Obj)) (s : Shared) (σ : St) (H : Hp) (Q : VK), Inv X pins σ H s → t σ H Q → wpAny (model X.prog X.w) X.A (eval e X.env) (EP X pins σ Q) X.xe s
def PT (X : Cx) (e : Expr) (t : TT) : Prop :=
  ∀ (pins : List (Addr × Obj)) (s : Shared) (σ : St) (H : Hp) (Q : Bool → Hp → Prop), Inv X pins σ H s → t σ H Q → wpAny (model X.prog X.w) X.A (isTrue e X.env (eval e X.env)) (TP X pins σ Q) X.xe s
def PW (X : Cx) (e : Expr) (t : TT) : Prop :=
  ∀ (whole : Sem Value) (pins : List (Addr × Obj)) (s : Shared) (σ : St) (H : Hp) (Q : Bool → Hp → Prop), Inv X pins σ H s → t σ H Q → wpAny (model X.prog X.w) X.A (isTrue e X.env whole) (TP X pins σ Q) X.xe s
theorem PW.pt {X : Cx} {e : Expr} {t : TT} (h : PW X e t) : PT X e t := h _
def PA (X : Cx) (es : List Expr) (t : TA) : Prop :=
  ∀ (pos : Pos) (pins : List (Addr × Obj)) (s : Shared) (σ : St) (H : Hp) (Q : List V → Hp → Prop), Inv X pins σ H s → t σ H Q → wpAny (model X.prog X.w) X.A (spliced (backTo pos (starEach es X.env))) (AP X pins σ Q) X.xe s
def PS (X : Cx) (st : Stmt) (t : TS) : Prop :=
  ∀ (pins : List (Addr × Obj)) (s : Shared) (σ : St) (H : Hp) (D : Ends), Inv X pins σ H s → t D σ H → wpAny (model X.prog X.w) X.A (exec st X.env) (SP X pins D) X.xe s
def PSs (X : Cx) (st : List Stmt) (t : TS) : Prop :=
  ∀ (pins : List (Addr × Obj)) (s : Shared) (σ : St) (H : Hp) (D : Ends), Inv X pins σ H s → t D σ H → wpAny (model X.prog X.w) X.A (execs st X.env) (SP X pins D) X.xe s
theorem thn {α : Type} {t : Sem α} {Q Q' : α → Shared → Prop} {M : Model} {A : Around} {E : Value → Shared → Prop} {s : Shared} (h : wpAny M A t Q E s) (hQ : ∀ a s, Q a s → Q' a s) : wpAny M A t Q' E s := wpAny_mono h hQ fun _ _ x => x
end L2
namespace L2
open PySem PySem.Spec PyProof.Rows
section
variable {X : Cx}
def tVar (i : Nat) : TE := fun σ H Q => ∃ v, σ[i]? = some (some v) ∧ Q v H
def tC (v : V) : TE := fun _ H Q => Q v H
theorem pe_var {i : Nat} {x : Str} {pos : Pos} (hN : X.N[i]? = some x) (hv : Vis X.env.scope x) (hd : (x == ("__debug__" : Str)) = false := by decide) (hcd : (x == ("__classdict__" : Str)) = false := by decide) : PE X (.Name x pos) (tVar i) := by
  intro pins s σ H Q I h
  obtain ⟨v, e, h⟩ := h
  obtain ⟨m, hn, hl⟩ := I.loc
  obtain ⟨u, r, l⟩ := hl i x v hN e hv
  have fin : EP X pins σ Q u s := ⟨v, H, I, r, h⟩
  rcases l with ⟨hk, hm⟩ | ⟨hk, c, hc, hcell⟩
  · exact wpAny_Name (wpAny_loadName_local I.ok.kind hk hn hm fin) hd
  · rcases hk with hk | hk
    · exact wpAny_Name (wpAny_loadName_cell I.ok.kind hk hc hcell fin) hd
    · exact wpAny_Name (wpAny_loadName_free I.ok.kind hk hc hcell fin hcd) hd
theorem pe_int {i j pos} : PE X (.Constant (.int i) j pos) (tC (.int i)) := fun _ _ _ H _ I h => wpAny_Constant_int ⟨.int i, H, I.tok _, ⟨_, rfl⟩, h⟩
theorem pe_bl {b j pos} : PE X (.Constant (.bool b) j pos) (tC (.bl b)) := fun _ _ _ H _ I h => Constant_bool ⟨.bl b, H, I, rfl, h⟩
theorem pe_non {j pos} : PE X (.Constant .none j pos) (tC .non) := fun _ _ _ H _ I h => Constant_none ⟨.non, H, I, rfl, h⟩
theorem pe_str {x j pos} : PE X (.Constant (.str x) j pos) (tC (.str x)) := fun _ _ _ H _ I h => Calls.Constant_str ⟨.str x, H, I.tok _, ⟨_, rfl⟩, h⟩
def Gl (X : Cx) (x : Str) : Prop := X.env.kindOf x = some .globalImplicit
theorem ld_glob {E : Value → Shared → Prop} {pins : List (Addr × Obj)} {s : Shared} {σ : St} {H : Hp} {x : Str} {u : Value} {pos : Pos} {Q : Value → Shared → Prop} (I : Inv X pins σ H s) (hg : Gl X x) (hm : X.mg x = some u) (h : Q u s)
    (hd : (x == ("__debug__" : Str)) = false := by decide) : wpAny (model X.prog X.w) X.A (eval (.Name x pos) X.env) Q E s :=
  Calls.Name_function_global I.ok.kind hg (Calls.loadGlobal_global (by rw [I.ok.glob]; exact I.mod.glob.keeps I.bk) hm h) hd
theorem ld_blt {E : Value → Shared → Prop} {pins : List (Addr × Obj)} {s : Shared} {σ : St} {H : Hp} {x : Str} {u : Value} {pos : Pos} {Q : Value → Shared → Prop} (I : Inv X pins σ H s) (hg : Gl X x) (hm : X.mg x = none) (hv : bootBuiltins x = some u) (h : Q u s)
    (hn : x ≠ "__name__" := by decide) (hd : (x == ("__debug__" : Str)) = false := by decide) : wpAny (model X.prog X.w) X.A (eval (.Name x pos) X.env) Q E s := by
  obtain ⟨mb, h1, h2⟩ := I.mod.blt
  exact Calls.Name_function_global I.ok.kind hg (Calls.loadGlobal_builtin (by rw [I.ok.glob]; exact I.mod.glob.keeps I.bk) hm (by rw [I.ok.blt]; exact h1.keeps I.bk) ((h2 x hn).trans hv) h) hd
theorem pe_glob {x : Str} {v : V} {u : Value} {pos : Pos} (hg : Gl X x) (hm : X.mg x = some u) (r : RelV v u) (hd : (x == ("__debug__" : Str)) = false := by decide) : PE X (.Name x pos) (tC v) :=
  fun _ _ _ H _ I h => ld_glob I hg hm ⟨v, H, I, r, h⟩ hd
theorem pe_bltn {x : Str} {v : V} {u : Value} {pos : Pos} (hg : Gl X x) (hm : X.mg x = none) (hv : bootBuiltins x = some u) (r : RelV v u) (hn : x ≠ "__name__" := by decide) (hd : (x == ("__debug__" : Str)) = false := by decide) : PE X (.Name x pos) (tC v) :=
  fun _ _ _ H _ I h => ld_blt I hg hm hv ⟨v, H, I, r, h⟩ hn hd
variable {a b : Expr} {ta tb : TE} {pos : Pos}
def PC (X : Cx) (op : CmpOp) (a b : Expr) (t : TE) : Prop :=
  ∀ (pins : List (Addr × Obj)) (s : Shared) (σ : St) (H : Hp) (Q : VK), Inv X pins σ H s → t σ H Q →
    wpAny (model X.prog X.w) X.A (eval a X.env) (fun v s₁ => wpAny (model X.prog X.w) X.A (eval b X.env) (fun u s₂ => wpAny (model X.prog X.w) X.A (compareOp op v u) (EP X pins σ Q) X.xe s₂) X.xe s₁) X.xe s
def tB (t : TE) : TT := fun σ H Q => t σ H fun x H1 => ∃ c, x = .bl c ∧ Q c H1
theorem pt_cmp {op : CmpOp} {t : TE} (h : PC X op a b t) (h1 : behindInMarks op b = false := by first | exact nobehind _ (by decide) (by decide) | rfl) : PT X (.Compare a [op] [b] pos) (tB t) := by
  intro pins s σ H Q I hw
  refine wpAny_isTrue_Compare1 (thn (h pins s σ H _ I hw) fun v s1 h1 => thn h1 fun u s2 h2 => thn h2 fun c s3 ⟨x, H1, I1, r1, q1⟩ => ?_) h1
  obtain ⟨d, rfl, q⟩ := q1
  cases r1
  exact wpAny_truthy_bool ⟨H1, I1, q⟩
theorem pt_val {e : Expr} {t : TE} (h : PE X e t) (he : ∀ whole, isTrue e X.env whole = (do let v ← whole; standAt e.pos; holding [v] (truthy v)) := by intro _; rfl) : PT X e (tB t) := by
  intro pins s σ H Q I hw
  refine isTrue_plain (thn (h pins s σ H _ I hw) fun v s1 ⟨x, H1, I1, r1, q1⟩ => ?_) (he _)
  obtain ⟨d, rfl, q⟩ := q1
  cases r1
  exact wpAny_truthy_bool ⟨H1, I1, q⟩
variable {tA tB' : TT} {rest : List Expr}
def tAnd (t u : TT) : TT := fun σ H Q => t σ H fun c H1 => if c = true then u σ H1 Q else Q false H1
def tOr (t u : TT) : TT := fun σ H Q => t σ H fun c H1 => if c = true then Q true H1 else u σ H1 Q
def tNot (t : TT) : TT := fun σ H Q => t σ H fun c H1 => Q (!c) H1
theorem pw_and1 (ha : PT X a tA) : PW X (.BoolOp .And [a] pos) tA := by
  intro wh pins s σ H Q I h
  refine isTrue_and (thn (ha pins s σ H Q I h) fun c s1 e => ?_)
  cases c with
  | true => exact isTrue_and_nil e
  | false => exact e
theorem pw_or1 (ha : PT X a tA) : PW X (.BoolOp .Or [a] pos) tA := by
  intro wh pins s σ H Q I h
  refine isTrue_or (thn (ha pins s σ H Q I h) fun c s1 e => ?_)
  cases c with
  | false => exact isTrue_or_nil e
  | true => exact e
theorem pw_and (ha : PT X a tA) (hb : PW X (.BoolOp .And (b :: rest) pos) tB') : PW X (.BoolOp .And (a :: b :: rest) pos) (tAnd tA tB') := by
  intro wh pins s σ H Q I h
  refine isTrue_and (thn (ha pins s σ H _ I h) fun c s1 ⟨H1, I1, q1⟩ => ?_)
  cases c with
  | true => exact hb wh pins s1 σ H1 Q I1 q1
  | false => exact ⟨H1, I1, q1⟩
theorem pw_or (ha : PT X a tA) (hb : PW X (.BoolOp .Or (b :: rest) pos) tB') : PW X (.BoolOp .Or (a :: b :: rest) pos) (tOr tA tB') := by
  intro wh pins s σ H Q I h
  refine isTrue_or (thn (ha pins s σ H _ I h) fun c s1 ⟨H1, I1, q1⟩ => ?_)
  cases c with
  | true => exact ⟨H1, I1, q1⟩
  | false => exact hb wh pins s1 σ H1 Q I1 q1
theorem pt_not (ha : PT X a tA) : PT X (.UnaryOp .Not a pos) (tNot tA) := by
  intro pins s σ H Q I h
  exact isTrue_not (ha pins s σ H (fun c H1 => Q (!c) H1) I h)
def tAndV (ta tb : TE) : TE := fun σ H Q => ta σ H fun x H1 => ∃ c, x = .bl c ∧ if c = true then tb σ H1 Q else Q (.bl false) H1
def tNotV (ta : TE) : TE := fun σ H Q => ta σ H fun x H1 => ∃ c, x = .bl c ∧ Q (.bl (!c)) H1
theorem pe_one {op} {t : TE} (h : PE X a t) : PE X (.BoolOp op [a] pos) t := fun pins s σ H Q I hw => BoolOp_one (h pins s σ H Q I hw)
theorem pe_and (ha : PE X a ta) (hb : PE X (.BoolOp .And (b :: rest) pos) tb) : PE X (.BoolOp .And (a :: b :: rest) pos) (tAndV ta tb) := by
  intro pins s σ H Q I h
  refine BoolOp_and (thn (ha pins s σ H _ I h) fun v s1 ⟨x, H1, I1, r1, q1⟩ => ?_)
  obtain ⟨c, rfl, q1⟩ := q1
  cases r1
  refine wpAny_truthy_bool ?_
  cases c with
  | true => exact hb pins s1 σ H1 Q I1 q1
  | false => exact ⟨.bl false, H1, I1, rfl, q1⟩
theorem pe_not (ha : PE X a ta) : PE X (.UnaryOp .Not a pos) (tNotV ta) := by
  intro pins s σ H Q I h
  refine UnaryOp_ (thn (ha pins s σ H _ I h) fun v s1 ⟨x, H1, I1, r1, q1⟩ => ?_)
  obtain ⟨c, rfl, q1⟩ := q1
  cases r1
  exact not_of (wpAny_truthy_bool ⟨.bl (!c), H1, I1, rfl, q1⟩)
def tIf (t : TT) (ta tb : TE) : TE := fun σ H Q => t σ H fun c H1 => if c = true then ta σ H1 Q else tb σ H1 Q
theorem pe_ifExp {c : Expr} (hc : PT X c tA) (ha : PE X a ta) (hb : PE X b tb) : PE X (.IfExp c a b pos) (tIf tA ta tb) := by
  intro pins s σ H Q I h
  refine wpAny_IfExp (thn (hc pins s σ H _ I h) fun d s1 ⟨H1, I1, q1⟩ => ?_)
  cases d with
  | true => exact ha pins s1 σ H1 Q I1 q1
  | false => exact hb pins s1 σ H1 Q I1 q1
end
end L2
namespace L2
open PySem PySem.Spec PyProof.Rows
def SqL (K : PySem.W.Frag) (H : Hp) (a : Addr) (xs : List V) : Prop :=
  Rd H a (.lst xs) ∨
    ∃ (o : Obj) (its : Array Value) (n : Nat), K.lookup a = some o ∧ o.cls = .type "list" ∧ o.dict = none ∧ o.data = .seq its n ∧ its.size ≤ sizeLine ∧ Vals xs its.toList
def SqT (K : PySem.W.Frag) (H : Hp) (a : Addr) (xs : List V) : Prop :=
  Rd H a (.tup xs) ∨
    ∃ (o : Obj) (its : Array Value) (n : Nat), K.lookup a = some o ∧ o.cls = .type "tuple" ∧ o.data = .seq its n ∧ its.size ≤ sizeLine ∧ Vals xs its.toList
def absV : Value → Option V
  | .none => some .non
  | .bool b => some (.bl b)
  | .int i _ => some (.int i)
  | .str x _ => some (.str x)
  | .bytes b _ => some (.byt b)
  | .float b _ => some (.flt b)
  | .ref a => some (.ref a)
  | .type n => some (.ty n)
  | _ => none
theorem RelV.abs {x : V} {u : Value} (r : RelV x u) : absV u = some x := by
  cases x with
  | non => cases r; rfl
  | bl _ => cases r; rfl
  | int _ => obtain ⟨t, rfl⟩ := r; rfl
  | str _ => obtain ⟨t, rfl⟩ := r; rfl
  | byt _ => obtain ⟨t, rfl⟩ := r; rfl
  | flt _ => obtain ⟨t, rfl⟩ := r; rfl
  | ref _ => cases r; rfl
  | ty _ => cases r; rfl
theorem RelV.inj {x y : V} {u : Value} (r : RelV x u) (q : RelV y u) : x = y := Option.some.inj (r.abs.symm.trans q.abs)
theorem Vals.inj : ∀ {xs ys : List V} {us : List Value}, Vals xs us → Vals ys us → xs = ys
  | _, _, _, .nil, .nil => rfl
  | _, _, _, .cons r t, .cons r' t' => by rw [r.inj r', Vals.inj t t']
section
variable {X : Cx} {pins : List (Addr × Obj)} {σ : St} {H : Hp} {s : Shared} {a : Addr} {xs ys : List V}
theorem SqL.of {K : PySem.W.Frag} (h : H a = some (.lst xs)) : SqL K H a xs := .inl (.inl h)
theorem SqT.of {K : PySem.W.Frag} (h : H a = some (.tup xs)) : SqT K H a xs := .inl (.inl h)
theorem Inv.list (I : Inv X pins σ H s) (h : SqL X.K H a xs) : ∃ its : List Value, Vals xs its ∧ PlainL s.heap a its.toArray ∧ xs.length ≤ sizeLine := by
  rcases h with h | ⟨o, its, n, hk, hc, hd, hs, hz, r⟩
  · obtain ⟨z, its, n, r, e⟩ := h.ok I.hok
    exact ⟨its, r, ⟨_, n, e, rfl, rfl, rfl⟩, z⟩
  · refine ⟨its.toList, r, ⟨o, n, I.kIn a o hk, hc, hd, by simpa using hs⟩, ?_⟩
    have e := r.length
    simp only [Array.length_toList] at e
    omega
theorem Inv.tuple (I : Inv X pins σ H s) (h : SqT X.K H a xs) : ∃ its : List Value, Vals xs its ∧ IsTup s.heap a its.toArray ∧ xs.length ≤ sizeLine := by
  rcases h with h | ⟨o, its, n, hk, hc, hs, hz, r⟩
  · obtain ⟨z, its, r, p⟩ := h.ok I.hok
    exact ⟨its, r, p, z⟩
  · refine ⟨its.toList, r, ⟨o, I.kIn a o hk, hc, n, by simpa using hs⟩, ?_⟩
    have e := r.length
    simp only [Array.length_toList] at e
    omega
theorem Inv.list_inj (I : Inv X pins σ H s) (h : SqL X.K H a xs) (h' : SqL X.K H a ys) : xs = ys := by
  obtain ⟨its, r, ⟨o, n, e, _, _, d⟩, _⟩ := I.list h
  obtain ⟨its', r', ⟨o', n', e', _, _, d'⟩, _⟩ := I.list h'
  rw [e] at e'; cases e'
  rw [d] at d'
  injection d' with d1 _
  have : its = its' := by simpa using congrArg Array.toList d1
  subst this
  exact r.inj r'
theorem Inv.tuple_inj (I : Inv X pins σ H s) (h : SqT X.K H a xs) (h' : SqT X.K H a ys) : xs = ys := by
  obtain ⟨its, r, ⟨o, e, _, n, d⟩, _⟩ := I.tuple h
  obtain ⟨its', r', ⟨o', e', _, n', d'⟩, _⟩ := I.tuple h'
  rw [e] at e'; cases e'
  rw [d] at d'
  injection d' with d1 _
  have : its = its' := by simpa using congrArg Array.toList d1
  subst this
  exact r.inj r'
end
abbrev Cx.wish (X : Cx) (E : Value → Shared → Prop) : Cx := { X with xe := E }
abbrev Cx.nox (X : Cx) : Cx := X.wish fun _ _ => False
theorem Cx.Ok.wish {X : Cx} (ok : X.Ok) (E : Value → Shared → Prop) : (X.wish E).Ok :=
  ⟨ok.mod, ok.kind, ok.glob, ok.blt, ok.above, ok.inj, ok.has, ok.cab, ok.hd, ok.frames, ok.stk, ok.exf, ok.bs, ok.bsz, ok.noex, ok.exfs, ok.funs, ok.frf⟩
theorem Cx.Ok.unwish {X : Cx} {E : Value → Shared → Prop} (ok : (X.wish E).Ok) : X.Ok :=
  ⟨ok.mod, ok.kind, ok.glob, ok.blt, ok.above, ok.inj, ok.has, ok.cab, ok.hd, ok.frames, ok.stk, ok.exf, ok.bs, ok.bsz, ok.noex, ok.exfs, ok.funs, ok.frf⟩
section
variable {X : Cx} {pins : List (Addr × Obj)} {σ : St} {H : Hp} {s : Shared} {E : Value → Shared → Prop}
theorem Inv.wish (I : Inv X pins σ H s) (E : Value → Shared → Prop) : Inv (X.wish E) pins σ H s := ⟨I.ok.wish E, I.os, I.bare, I.base, I.loc, I.cell, I.free, I.freeC, I.pin, I.hok, I.len⟩
theorem Inv.unwish (I : Inv (X.wish E) pins σ H s) : Inv X pins σ H s := ⟨I.ok.unwish, I.os, I.bare, I.base, I.loc, I.cell, I.free, I.freeC, I.pin, I.hok, I.len⟩
theorem SP.unwish {D : Ends} {f : Flow} {s' : Shared} (h : SP (X.wish E) pins D f s') : SP X pins D f s' := by
  cases f with
  | next => obtain ⟨σ', H', I, q⟩ := h; exact ⟨σ', H', I.unwish, q⟩
  | brk => obtain ⟨σ', H', I, q⟩ := h; exact ⟨σ', H', I.unwish, q⟩
  | cont => obtain ⟨σ', H', I, q⟩ := h; exact ⟨σ', H', I.unwish, q⟩
  | ret u => obtain ⟨v, σ', H', I, r, q⟩ := h; exact ⟨v, σ', H', I.unwish, r, q⟩
theorem PSs.nox {st : List Stmt} {t : TS} (h : PSs X.nox st t) : PSs X st t := fun pins s σ H D I hw =>
  wpAny_mono (h pins s σ H D (I.wish _) hw) (fun _ _ q => q.unwish) fun _ _ z => False.elim z
end
section
variable {X : Cx} {st : Stmt} {rest : List Stmt} {t u : TS} {e : Expr} {te : TE} {pos : Pos}
def tNext : TS := fun D σ H => D.nx σ H
def tSeq (t u : TS) : TS := fun D σ H => t { D with nx := u D } σ H
theorem pss_nil : PSs X [] tNext := fun _ _ σ H _ I h => wpAny_execs_nil ⟨σ, H, I, h⟩
theorem pss_cons (h1 : PS X st t) (h2 : PSs X rest u) : PSs X (st :: rest) (tSeq t u) := by
  intro pins s σ H D I h
  refine wpAny_execs_cons (thn (h1 pins s σ H { D with nx := u D } I h) fun f s1 q => ?_)
  cases f with
  | next =>
    obtain ⟨σ', H', I', q⟩ := q
    exact h2 pins s1 σ' H' D I' q
  | ret v => exact q
  | brk => exact q
  | cont => exact q
theorem pss_one (h1 : PS X st t) : PSs X [st] t := by
  intro pins s σ H D I h
  refine wpAny_execs_cons (thn (h1 pins s σ H D I h) fun f s1 q => ?_)
  cases f with
  | next => exact wpAny_execs_nil q
  | ret v => exact q
  | brk => exact q
  | cont => exact q
theorem Inv.quiet {pins : List (Addr × Obj)} {σ : St} {H : Hp} {s : Shared} (I : Inv X pins σ H s) : interactive X.env = false := by simp [interactive, I.ok.kind]
def tDrop (te : TE) : TS := fun D σ H => te σ H fun _ H1 => D.nx σ H1
theorem ps_expr (he : PE X e te) (hs : swapsWith e none pos.line X.env = pure false := by rfl) : PS X (.Expr e pos) (tDrop te) := by
  intro pins s σ H D I h
  exact wpAny_Expr_any (thn (he pins s σ H _ I h) fun v s1 ⟨x, H1, I1, r1, q1⟩ => ⟨σ, H1, I1, q1⟩) I.quiet hs
def tRet (te : TE) : TS := fun D σ H => te σ H D.rt
theorem ps_ret (he : PE X e te) : PS X (.Return (some e) pos) (tRet te) := by
  intro pins s σ H D I h
  exact wpAny_Return_some (thn (he pins s σ H _ I h) fun v s1 ⟨x, H1, I1, r1, q1⟩ => ⟨x, σ, H1, I1, r1, q1⟩)
def tIfS (c : TT) (t u : TS) : TS := fun D σ H => c σ H fun b H1 => if b = true then t D σ H1 else u D σ H1
theorem ps_if {c : Expr} {a b : List Stmt} {tc : TT} (hc : PT X c tc) (ha : PSs X a t) (hb : PSs X b u) : PS X (.If c a b pos) (tIfS tc t u) := by
  intro pins s σ H D I h
  refine wpAny_If (thn (hc pins s σ H _ I h) fun d s1 ⟨H1, I1, q1⟩ => ?_)
  cases d with
  | true => exact ha pins s1 σ H1 D I1 q1
  | false => exact hb pins s1 σ H1 D I1 q1
def tNever : TS := fun _ _ _ => False
theorem ps_never : PS X st tNever := fun _ _ _ _ _ _ h => h.elim
end
abbrev TG := V → St → Hp → (St → Hp → Prop) → Prop
abbrev TGs := List V → St → Hp → (St → Hp → Prop) → Prop
def PG (X : Cx) (target : Expr) (t : TG) : Prop :=
  ∀ (pins : List (Addr × Obj)) (s : Shared) (σ : St) (H : Hp) (v : V) (u : Value) (Q : St → Hp → Prop), Inv X pins σ H s → RelV v u → t v σ H Q →
    wpAny (model X.prog X.w) X.A (assign target X.env u) (fun _ s' => ∃ σ' H', Inv X pins σ' H' s' ∧ Q σ' H') X.xe s
def PGs (X : Cx) (ts : List Expr) (t : TGs) : Prop :=
  ∀ (pins : List (Addr × Obj)) (s : Shared) (σ : St) (H : Hp) (vs : List V) (us : List Value) (Q : St → Hp → Prop), Inv X pins σ H s → Vals vs us → t vs σ H Q →
    wpAny (model X.prog X.w) X.A (assignInOrder ((assignEach ts X.env).map (·.2)) us) (fun _ s' => ∃ σ' H', Inv X pins σ' H' s' ∧ Q σ' H') X.xe s
abbrev TSet := V → V → V → Hp → (Hp → Prop) → Prop
def PSet (X : Cx) (t : TSet) : Prop :=
  ∀ (pins : List (Addr × Obj)) (s : Shared) (σ : St) (H : Hp) (o i v : V) (ov iv u : Value) (Q : Hp → Prop), Inv X pins σ H s → RelV o ov → RelV i iv → RelV v u → t o i v H Q →
    wpAny (model X.prog X.w) X.A (setItem ov iv u) (fun _ s' => ∃ H', Inv X pins σ H' s' ∧ Q H') X.xe s
abbrev TIp := V → V → Hp → VK → Prop
def PIp (X : Cx) (op : Operator) (t : TIp) : Prop :=
  ∀ (pins : List (Addr × Obj)) (s : Shared) (σ : St) (H : Hp) (x y : V) (v u : Value) (Q : VK), Inv X pins σ H s → RelV x v → RelV y u → t x y H Q →
    wpAny (model X.prog X.w) X.A (inplaceOp op v u) (EP X pins σ Q) X.xe s
section
variable {X : Cx} {pos : Pos}
def gName (i : Nat) : TG := fun v σ H Q => Q (σ.set i (some v)) H
theorem pg_name {i : Nat} {x : Str} (hN : X.N.Nodup) (hi : X.N[i]? = some x) (hx : Loc X.env.scope x) (hf : X.fn x = true ∨ X.env.scope.names.lookup x = some .local := by first | exact .inl rfl | exact .inr rfl | assumption) : PG X (.Name x pos) (gName i) := by
  intro pins s σ H v u Q I r h
  exact wpAny_assign_Name (store_ok I hN hi hx r (fun s' I' => ⟨_, H, I', h⟩) hf)
def gNil : TGs := fun vs σ H Q => vs = [] ∧ Q σ H
def gCons (t : TG) (u : TGs) : TGs := fun vs σ H Q => ∃ v r, vs = v :: r ∧ t v σ H fun σ' H' => u r σ' H' Q
theorem pgs_nil : PGs X [] gNil := by
  intro pins s σ H vs us Q I r h
  obtain ⟨e, h⟩ := h
  subst e
  cases r
  exact assignInOrder_nil ⟨σ, H, I, h⟩
theorem pgs_cons {e : Expr} {es : List Expr} {t : TG} {u : TGs} (h1 : PG X e t) (h2 : PGs X es u)
    (hs : (assignEach (e :: es) X.env).map (·.2) = assign e X.env :: (assignEach es X.env).map (·.2) := by rfl) : PGs X (e :: es) (gCons t u) := by
  intro pins s σ H vs us Q I r h
  obtain ⟨v, vr, e1, h⟩ := h
  subst e1
  cases r with
  | cons r rr =>
    rw [hs]
    refine assignInOrder_cons (thn (h1 pins s σ H _ _ _ I r h) fun _ s1 ⟨σ1, H1, I1, q1⟩ => ?_)
    exact h2 pins s1 σ1 H1 _ _ Q I1 rr q1
def gTup (K : PySem.W.Frag) (n : Nat) (t : TGs) : TG := fun v σ H Q => ∃ a xs, v = .ref a ∧ SqT K H a xs ∧ xs.length = n ∧ t xs σ H Q
theorem pg_tup {es : List Expr} {k : Nat} {t : TGs} {n : Nat} (hc : X.calm = true) (h : PGs X es t)
    (hn : (assignEach es X.env).length = n := by rfl) (hst : (assignEach es X.env).findIdx? (·.1) = none := by rfl) : PG X (.Tuple es k pos) (gTup X.K n t) := by
  intro pins s σ H v u Q I r hw
  obtain ⟨a, xs, e1, hq, hl, hw⟩ := hw
  subst e1
  cases r
  obtain ⟨its, rv, ht, hz⟩ := I.tuple hq
  refine assign_Tuple_tuple (I.ok.hd hc) ht (by simp [hn, ← hl, rv.length]) hst fun h' hx => ?_
  have I1 : Inv X pins σ H { s with heap := h' } := I.kept (t' := s.toks) fun b o e => hx b o (Nat.ne_of_lt (Heap.lt_size e)) e
  exact h pins _ σ H xs _ Q I1 (by simpa using rv) hw
def tAsg (te : TE) (g : TG) : TS := fun D σ H => te σ H fun x H1 => g x σ H1 D.nx
theorem ps_asg {tg e : Expr} {te : TE} {g : TG} (he : PE X e te) (hg : PG X tg g) (hs : swapsWithSole [tg] e pos.line X.env = pure false := by rfl) (hw : swappedStores [tg] e X.env = pure none := by rfl)
    (h1 : (assignEach [tg] X.env).map (·.2) = [assign tg X.env] := by rfl) : PS X (.Assign [tg] e pos) (tAsg te g) := by
  intro pins s σ H D I h
  refine wpAny_Assign_stores (thn (he pins s σ H _ I h) fun v s1 ⟨x, H1, I1, r1, q1⟩ => ?_) hs hw
  rw [h1]
  exact thn (hg pins s1 σ H1 x v _ I1 r1 q1) fun _ s2 q => q
theorem ps_set {i : Nat} {x : Str} {e : Expr} {te : TE} {pos' : Pos} (hN : X.N.Nodup) (hi : X.N[i]? = some x) (hx : Loc X.env.scope x) (he : PE X e te) (hs : swapsWith e (some (.Name x pos')) pos.line X.env = pure false := by rfl) (hf : X.fn x = true ∨ X.env.scope.names.lookup x = some .local := by first | exact .inl rfl | exact .inr rfl | assumption) :
    PS X (.Assign [.Name x pos'] e pos) (tAsg te (gName i)) := by
  intro pins s σ H D I h
  refine wpAny_Assign_Name (thn (he pins s σ H _ I h) fun v s1 ⟨y, H1, I1, r1, q1⟩ => ?_) hs
  exact store_ok I1 hN hi hx r1 (fun s2 I2 => ⟨_, H1, I2, q1⟩) hf
def tAug (i : Nat) (te : TE) (ti : TIp) : TS := fun D σ H => ∃ x, σ[i]? = some (some x) ∧ te σ H fun y H1 => ti x y H1 fun z H2 => D.nx (σ.set i (some z)) H2
theorem ps_aug {i : Nat} {x : Str} {e : Expr} {te : TE} {op : Operator} {ti : TIp} {pos' : Pos} (hN : X.N.Nodup) (hi : X.N[i]? = some x) (hx : Loc X.env.scope x) (he : PE X e te) (ho : PIp X op ti) (hf : X.fn x = true ∨ X.env.scope.names.lookup x = some .local := by first | exact .inl rfl | exact .inr rfl | assumption) :
    PS X (.AugAssign (.Name x pos') op e pos) (tAug i te ti) := by
  intro pins s σ H D I h
  obtain ⟨v, e1, h⟩ := h
  obtain ⟨m, hn, hl⟩ := I.loc
  have vis : Vis X.env.scope x := by rcases hx with k | k; exact .inl k; exact .inr (.inl k)
  obtain ⟨u, r, l⟩ := hl i x v hi e1 vis
  refine wpAny_AugAssign_Name ?_
  have go : wpAny (model X.prog X.w) X.A (eval e X.env) (fun w s₂ => wpAny (model X.prog X.w) X.A (inplaceOp op u w) (fun r s₃ => wpAny (model X.prog X.w) X.A (storeName X.env x r) (fun _ => SP X pins D .next) X.xe s₃) X.xe s₂) X.xe s := by
    refine thn (he pins s σ H _ I h) fun w s1 ⟨y, H1, I1, r1, q1⟩ => ?_
    refine thn (ho pins s1 σ H1 v y u w _ I1 r r1 q1) fun z s2 ⟨zv, H2, I2, r2, q2⟩ => ?_
    exact store_ok I2 hN hi hx r2 (fun s3 I3 => ⟨_, H2, I3, q2⟩) hf
  rcases l with ⟨hk, hm⟩ | ⟨hk, c, hc, hcell⟩
  · exact wpAny_loadName_local I.ok.kind hk hn hm go
  · rcases hk with hk | hk
    · exact wpAny_loadName_cell I.ok.kind hk hc hcell go
    · rcases hx with k | k
      · have : X.env.scope.names.lookup x = some .free := hk
        rw [k] at this; cases this
      · have : X.env.scope.names.lookup x = some .free := hk
        rw [k] at this; cases this
def tAugS (to ti te : TE) (tget : V → V → Hp → VK → Prop) (tip : TIp) (tset : TSet) : TS := fun D σ H => to σ H fun o H1 => ti σ H1 fun i H2 => tget o i H2 fun x H3 => te σ H3 fun y H4 => tip x y H4 fun z H5 => tset o i z H5 fun H6 => D.nx σ H6
def PGet (X : Cx) (t : V → V → Hp → VK → Prop) : Prop :=
  ∀ (pins : List (Addr × Obj)) (s : Shared) (σ : St) (H : Hp) (o i : V) (ov iv : Value) (Q : VK), Inv X pins σ H s → RelV o ov → RelV i iv → t o i H Q →
    wpAny (model X.prog X.w) X.A (getItem ov iv) (EP X pins σ Q) X.xe s
theorem ps_augS {o i e : Expr} {to ti te : TE} {tget : V → V → Hp → VK → Prop} {tip : TIp} {tset : TSet} {op : Operator} {tpos : Pos} (ho : PE X o to) (hi : PE X i ti) (hg : PGet X tget) (he : PE X e te) (hp : PIp X op tip) (hs : PSet X tset)
    (ha : ∀ ov iv new, augStore i ov iv new = (do holding [new, ov, iv] (setItem ov iv new); release [new, ov, iv] []; pure .next) := by intros; rfl) : PS X (.AugAssign (.Subscript o i tpos) op e pos) (tAugS to ti te tget tip tset) := by
  intro pins s σ H D I h
  refine wpAny_AugAssign_SubscriptAny (thn (ho pins s σ H _ I h) fun ov s1 ⟨x1, H1, I1, r1, q1⟩ => ?_) ha
  refine thn (hi pins s1 σ H1 _ I1 q1) fun iv s2 ⟨x2, H2, I2, r2, q2⟩ => ?_
  refine thn (hg pins s2 σ H2 x1 x2 ov iv _ I2 r1 r2 q2) fun old s3 ⟨x3, H3, I3, r3, q3⟩ => ?_
  refine thn (he pins s3 σ H3 _ I3 q3) fun v s4 ⟨x4, H4, I4, r4, q4⟩ => ?_
  refine thn (hp pins s4 σ H4 x3 x4 old v _ I4 r3 r4 q4) fun new s5 ⟨x5, H5, I5, r5, q5⟩ => ?_
  exact thn (hs pins s5 σ H5 x1 x2 x5 ov iv new _ I5 r1 r2 r5 q5) fun _ s6 ⟨H6, I6, q6⟩ => ⟨σ, H6, I6, q6⟩
def ipI (f : Int → Int → Int) : TIp := fun x y H Q => ∃ i j, x = .int i ∧ y = .int j ∧ Q (.int (f i j)) H
theorem ip_add : PIp X .Add (ipI fun i j => i + j) := by
  intro pins s σ H x y v u Q I r1 r2 h
  obtain ⟨i, j, e1, e2, q⟩ := h
  subst e1; subst e2
  obtain ⟨t, rfl⟩ := r1
  obtain ⟨t', rfl⟩ := r2
  exact iadd_int ⟨.int _, H, I.tok _, ⟨_, rfl⟩, q⟩
theorem ip_sub : PIp X .Sub (ipI fun i j => i - j) := by
  intro pins s σ H x y v u Q I r1 r2 h
  obtain ⟨i, j, e1, e2, q⟩ := h
  subst e1; subst e2
  obtain ⟨t, rfl⟩ := r1
  obtain ⟨t', rfl⟩ := r2
  exact isub_int ⟨.int _, H, I.tok _, ⟨_, rfl⟩, q⟩
end
section
variable {X : Cx} {pos : Pos}
def tWhile (c : TT) (tb : TS) : TS := fun D σ H => ∃ W : Nat → St → Hp → Prop, (∃ m, W m σ H) ∧ ∀ m σ H, W m σ H →
  c σ H fun b H1 => if b = true then ∃ N : St → Hp → Prop, (∀ σ' H', N σ' H' → ∃ m', m' < m ∧ W m' σ' H') ∧ tb { D with nx := N, ct := N, bk := D.nx } σ H1 else D.nx σ H1
theorem ps_while {c : Expr} {body : List Stmt} {tc : TT} {tb : TS} (hp : PassesOwn (model X.prog X.w) X.A X.env X.xe) (hc : PT X c tc) (hb : PSs X body tb) : PS X (.While c body [] pos) (tWhile tc tb) := by
  intro pins s σ H D I h
  obtain ⟨W, ⟨m0, w0⟩, turn⟩ := h
  refine wpAny_While (codeAny_whileLoop (fun n s' => ∃ σ' H', Inv X pins σ' H' s' ∧ W n σ' H') ?_ m0 ⟨σ, H, I, w0⟩)
  rintro n s1 ⟨σ1, H1, I1, w1⟩
  refine wpAny_passesOwn hp (thn (hc pins s1 σ1 H1 _ I1 (turn n σ1 H1 w1)) fun b s2 ⟨H2, I2, q2⟩ => ?_)
  cases b with
  | true =>
    obtain ⟨N, hN, q2⟩ := q2
    rw [if_pos rfl]
    refine wpAny_passesOwn hp (thn (hb pins s2 σ1 H2 _ I2 q2) fun f s3 q3 => ?_)
    cases f with
    | next =>
      obtain ⟨σ3, H3, I3, n3⟩ := q3
      obtain ⟨m', hm, w3⟩ := hN σ3 H3 n3
      exact ⟨m', hm, σ3, H3, I3, w3⟩
    | cont =>
      obtain ⟨σ3, H3, I3, n3⟩ := q3
      obtain ⟨m', hm, w3⟩ := hN σ3 H3 n3
      exact ⟨m', hm, σ3, H3, I3, w3⟩
    | brk => exact q3
    | ret v => exact q3
  | false =>
    rw [if_neg Bool.false_ne_true]
    exact wpAny_execs_nil ⟨σ1, H2, I2, q2⟩
end
structure It where
  go : Nat → Hp → Prop
  yld : Nat → Hp → V → Hp → Prop
  stop : Nat → Hp → Prop
def FpOk (X : Cx) (pins : List (Addr × Obj)) (H : Hp) (b : Addr) : Prop :=
  H b = none ∧ b ≠ X.env.locals ∧ b ∉ X.fs ∧ (b ∈ X.ex ∨ X.s₀.heap.objs.size ≤ b) ∧ (∀ x c, X.env.cells.lookup x = some c → c ≠ b) ∧ ∀ p ∈ X.pn ++ pins, p.1 ≠ b
theorem Inv.fpOk {X : Cx} {pins : List (Addr × Obj)} {σ : St} {H H' : Hp} {s : Shared} {b : Addr} (I : Inv X pins σ H s) (hb : s.heap.objs.size ≤ b) (hn : H' b = none) : FpOk X pins H' b := by
  refine ⟨hn, Nat.ne_of_gt (Nat.lt_of_lt_of_le I.lt hb), I.nofs hb, .inr (Nat.le_trans I.sz hb), fun x c e z => ?_, fun p hp z => ?_⟩
  · obtain ⟨v, q⟩ := I.cell x c e
    exact absurd (Nat.lt_of_lt_of_le q.lt (by rw [z]; exact hb)) (Nat.lt_irrefl _)
  · exact absurd (Nat.lt_of_lt_of_le (Heap.lt_size (I.pin p hp).1) (by rw [z]; exact hb)) (Nat.lt_irrefl _)
structure Turn (P : Program) (w : World) (K : PySem.W.Frag) (tg : Expr) (J : It) (fp : List Addr) (it : Addr) (tn : Nat → Heap → Prop) : Prop where
  mem : it ∈ fp
  obj : ∀ i h, tn i h → ∀ b ∈ fp, ∃ o, h.get? b = some o ∧ ∀ v, o.data ≠ .cell v
  keep : ∀ i h h', tn i h → (∀ b ∈ fp, ∀ o, h.get? b = some o → h'.get? b = some o) → tn i h'
  item : ∀ (X : Cx), X.prog = P → X.w = w → X.K = K → X.calm = true → ∀ (i : Nat) (pins : List (Addr × Obj)) (s : Shared) (σ : St) (H : Hp) (E : Value → Shared → Prop), Inv X pins σ H s → (∀ b ∈ fp, FpOk X pins H b) → tn i s.heap → J.go i H →
    wpAny (model P w) X.A (pyNext (.ref it)) (fun r s1 => ∃ u, r = some u ∧
      wpAny (model P w) X.A (letOwnedTupleGo tg (.ref it) u) (fun _ s2 => ∃ x H', Inv X pins σ H' s2 ∧ RelV x u ∧ J.yld i H x H' ∧ tn (i + 1) s2.heap ∧ ∀ b ∈ fp, H' b = none) E s1) E s
  done : ∀ (X : Cx), X.prog = P → X.w = w → X.K = K → X.calm = true → ∀ (i : Nat) (pins : List (Addr × Obj)) (s : Shared) (σ : St) (H : Hp) (E : Value → Shared → Prop), Inv X pins σ H s → (∀ b ∈ fp, FpOk X pins H b) → tn i s.heap → J.stop i H →
    wpAny (model P w) X.A (pyNext (.ref it)) (fun r s1 => r = none ∧ Inv X pins σ H s1) E s
  self : ∀ (A : Around) (i : Nat) (s : Shared) (Q : Value → Shared → Prop) (E : Value → Shared → Prop), tn i s.heap → Q (.ref it) s → wpAny (model P w) A (pyIter (.ref it)) Q E s
abbrev TI := St → Hp → (It → Hp → Prop) → Prop
def PIE (X : Cx) (pins : List (Addr × Obj)) (σ : St) (tg : Expr) (R : It → Hp → Prop) (itv : Value) (s2 : Shared) : Prop :=
  ∃ (it : Addr) (fp : List Addr) (tn : Nat → Heap → Prop) (J : It) (H' : Hp), itv = .ref it ∧ Inv X pins σ H' s2 ∧ Turn X.prog X.w X.K tg J fp it tn ∧ tn 0 s2.heap ∧ (∀ b ∈ fp, FpOk X pins H' b) ∧ R J H'
def PI (X : Cx) (tg iter : Expr) (wi : TI) : Prop :=
  ∀ (pins : List (Addr × Obj)) (s : Shared) (σ : St) (H : Hp) (R : It → Hp → Prop), Inv X pins σ H s → wi σ H R →
    wpAny (model X.prog X.w) X.A (eval iter X.env) (fun v s1 => wpAny (model X.prog X.w) X.A (pyIter v) (PIE X pins σ tg R) X.xe s1) X.xe s
theorem go_of {M : Model} {A : Around} {E : Value → Shared → Prop} {s : Shared} {tg : Expr} {it : Addr} {u : Value} {o : Obj} {n : String} {vs : Array Value} {Q : Unit → Shared → Prop} (ho : s.heap.get? it = some o) (hc : o.cls = .type n) (hd : o.data = .fields vs)
    (hn : ["enumerate", "zip", "dict_itemiterator", "dict_reverseitemiterator", "odict_iterator", "itertools.zip_longest", "itertools.pairwise"].contains n = false) (hQ : Q () s) : wpAny M A (letOwnedTupleGo tg (.ref it) u) Q E s := by
  unfold letOwnedTupleGo
  cases tg <;> first
    | exact wpAny_pure hQ
    | (cases u <;> first
        | exact wpAny_pure hQ
        | (refine wpAny_bind (wpAny_load ho ?_)
           rw [hc, hd]
           show wpAny M A (if (["enumerate", "zip", "dict_itemiterator", "dict_reverseitemiterator", "odict_iterator", "itertools.zip_longest", "itertools.pairwise"].contains n && vs[0]? == some (rawInt _)) = true then _ else _) Q E s
           rw [if_neg (by intro h; rw [hn, Bool.false_and] at h; cases h)]
           exact wpAny_pure hQ))
def Itl (K : PySem.W.Frag) (a : Addr) : It :=
  ⟨fun i H => ∃ xs x, SqL K H a xs ∧ xs[i]? = some x, fun i H x H' => H' = H ∧ ∀ xs, SqL K H a xs → xs[i]? = some x, fun i H => ∃ xs, SqL K H a xs ∧ xs.length ≤ i⟩
def Itt (K : PySem.W.Frag) (a : Addr) : It :=
  ⟨fun i H => ∃ xs x, SqT K H a xs ∧ xs[i]? = some x, fun i H x H' => H' = H ∧ ∀ xs, SqT K H a xs → xs[i]? = some x, fun i H => ∃ xs, SqT K H a xs ∧ xs.length ≤ i⟩
def Itr (lo : Int) (n : Nat) : It := ⟨fun i _ => i < n, fun i H x H' => H' = H ∧ x = .int (lo + i), fun i _ => n ≤ i⟩
theorem turn_list {P : Program} {w : World} {K : PySem.W.Frag} {tg : Expr} (a it : Addr) : Turn P w K tg (Itl K a) [it] it (fun i h => h.IsListIter it a i) where
  mem := by simp
  obj := fun i h st b hb => by
    have e : b = it := by simpa using hb
    subst e
    obtain ⟨o, e, c, d⟩ := st
    exact ⟨o, e, fun v z => by rw [d] at z; cases z⟩
  keep := fun i h h' st k => st.at fun o e => k it (by simp) o e
  item := by
    intro X hP hw hK hc i pins s σ H E I hf st hg
    subst hP hw hK
    obtain ⟨xs, x, hq, hx⟩ := hg
    obtain ⟨its, rv, p, hz⟩ := I.list hq
    obtain ⟨u, hu, ru⟩ := rv.get hx
    obtain ⟨f0, f1, f2, f3, f4, f5⟩ := hf it (by simp)
    refine wpAny_pyNext_list_item st p.isList (x := u) (by simpa using hu) fun h' st' sb => ?_
    have I1 : Inv X pins σ H { s with heap := h' } := I.turned (t' := s.toks) (fun b o hb e => (sb.2 b hb).trans e) f0 f1 f3 f4 f5
    obtain ⟨o, e, c, d⟩ := id st'
    exact ⟨u, rfl, go_of (s := { s with heap := h' }) e c d (by decide) ⟨x, H, I1, ru, ⟨rfl, fun ys hy => by rw [I.list_inj hy hq]; exact hx⟩, st', fun b hb => (hf b hb).1⟩⟩
  done := by
    intro X hP hw hK hc i pins s σ H E I hf st hg
    subst hP hw hK
    obtain ⟨xs, hq, hx⟩ := hg
    obtain ⟨its, rv, p, hz⟩ := I.list hq
    obtain ⟨f0, f1, f2, f3, f4, f5⟩ := hf it (by simp)
    have hl := rv.length
    exact wpAny_pyNext_list_end (I.ok.hd hc) st p.isList (by simp; omega) fun h' eb => ⟨rfl, I.turned (t' := s.toks) (fun b o hb e => eb b o hb e) f0 f1 f3 f4 f5⟩
  self := fun _ _ _ _ _ st h => wpAny_pyIter_listiter st h
theorem turn_tuple {P : Program} {w : World} {K : PySem.W.Frag} {tg : Expr} (a it : Addr) : Turn P w K tg (Itt K a) [it] it (fun i h => h.IsTupleIter it a i) where
  mem := by simp
  obj := fun i h st b hb => by
    have e : b = it := by simpa using hb
    subst e
    obtain ⟨o, e, c, d⟩ := st
    exact ⟨o, e, fun v z => by rw [d] at z; cases z⟩
  keep := fun i h h' st k => st.at fun o e => k it (by simp) o e
  item := by
    intro X hP hw hK hc i pins s σ H E I hf st hg
    subst hP hw hK
    obtain ⟨xs, x, hq, hx⟩ := hg
    obtain ⟨its, rv, p, hz⟩ := I.tuple hq
    obtain ⟨u, hu, ru⟩ := rv.get hx
    obtain ⟨f0, f1, f2, f3, f4, f5⟩ := hf it (by simp)
    refine wpAny_pyNext_tuple_item st (show s.heap.IsTuple a its.toArray from p) (x := u) (by simpa using hu) fun h' st' sb => ?_
    have I1 : Inv X pins σ H { s with heap := h' } := I.turned (t' := s.toks) (fun b o hb e => (sb.2 b hb).trans e) f0 f1 f3 f4 f5
    obtain ⟨o, e, c, d⟩ := id st'
    exact ⟨u, rfl, go_of (s := { s with heap := h' }) e c d (by decide) ⟨x, H, I1, ru, ⟨rfl, fun ys hy => by rw [I.tuple_inj hy hq]; exact hx⟩, st', fun b hb => (hf b hb).1⟩⟩
  done := by
    intro X hP hw hK hc i pins s σ H E I hf st hg
    subst hP hw hK
    obtain ⟨xs, hq, hx⟩ := hg
    obtain ⟨its, rv, p, hz⟩ := I.tuple hq
    obtain ⟨f0, f1, f2, f3, f4, f5⟩ := hf it (by simp)
    have hl := rv.length
    exact wpAny_pyNext_tuple_end (I.ok.hd hc) st (show s.heap.IsTuple a its.toArray from p) (by simp; omega) fun h' eb => ⟨rfl, I.turned (t' := s.toks) (fun b o hb e => eb b o hb e) f0 f1 f3 f4 f5⟩
  self := fun _ _ _ _ _ st h => wpAny_pyIter_tupleiter st h
theorem turn_range {P : Program} {w : World} {K : PySem.W.Frag} {tg : Expr} (it : Addr) (lo : Int) (n : Nat) : Turn P w K tg (Itr lo n) [it] it (fun i h => IsRangeIter h it (lo + (i : Nat) * 1) ((n : Int) - (i : Nat)) 1) where
  mem := by simp
  obj := fun i h st b hb => by
    have e : b = it := by simpa using hb
    subst e
    exact ⟨_, st, fun v z => by
      have z' : Data.fields _ = Data.cell v := z
      cases z'⟩
  keep := fun i h h' st k => k it (by simp) _ st
  item := by
    intro X hP hw hK hc i pins s σ H E I hf st hg
    subst hP hw hK
    obtain ⟨f0, f1, f2, f3, f4, f5⟩ := hf it (by simp)
    have W := Walks.range (prog := X.prog) (w := X.w) (I.ok.hd hc) it lo 1 n
    refine W.item i s _ _ hg st fun v h' tk hv st' kk => ?_
    obtain ⟨t, rfl⟩ := hv
    have I1 : Inv X pins σ H { s with heap := h', toks := tk } := I.turned (fun b o hb e => kk b o (by simpa using hb) e) f0 f1 f3 f4 f5
    refine ⟨_, rfl, go_of (s := { s with heap := h', toks := tk }) (n := "range_iterator") st' rfl rfl (by decide) ⟨.int (lo + i), H, I1, ⟨t, ?_⟩, ⟨rfl, rfl⟩, st', fun b hb => (hf b hb).1⟩⟩
    rw [Int.mul_one]
  done := by
    intro X hP hw hK hc i pins s σ H E I hf st hg
    subst hP hw hK
    obtain ⟨f0, f1, f2, f3, f4, f5⟩ := hf it (by simp)
    exact wpAny_pyNext_range_end (I.ok.hd hc) st (by have : n ≤ i := hg; omega) fun h' eb => ⟨rfl, I.turned (t' := s.toks) (fun b o hb e => eb b o hb e) f0 f1 f3 f4 f5⟩
  self := fun _ _ _ _ _ st h => wpAny_pyIter_rangeiter st h
end L2
namespace L2
open PySem PySem.Spec PyProof.Rows
section
variable {X : Cx} {tg : Expr}
theorem range_it {pins : List (Addr × Obj)} {σ : St} {H : Hp} {s : Shared} {R : It → Hp → Prop} {E : Value → Shared → Prop} {lo hi : Int} {t u v : Tok} {tk : Nat} (I : Inv X pins σ H s) (h1 : -(2 ^ 62) ≤ lo) (h2 : lo < 2 ^ 62) (h3 : -(2 ^ 62) ≤ hi) (h4 : hi < 2 ^ 62)
    (q : R (Itr lo (hi - lo).toNat) H) : wpAny (model X.prog X.w) X.A (pyIter (.ref s.heap.objs.size)) (PIE X pins σ tg R) E { s with heap := s.heap.push { cls := .type "range", data := .fields #[.int lo t, .int hi u, .int 1 v] }, toks := tk } := by
  refine wpAny_pyIter_range (IsRange.new ..) (small_one h1 h2 h3 h4) ?_
  have I1 : Inv X pins σ H { s with heap := s.heap.push { cls := .type "range", data := .fields #[.int lo t, .int hi u, .int 1 v] }, toks := tk } := I.kept fun b o e => Heap.get?_push_of_some _ e
  refine ⟨(s.heap.push { cls := .type "range", data := .fields #[.int lo t, .int hi u, .int 1 v] }).objs.size, [(s.heap.push { cls := .type "range", data := .fields #[.int lo t, .int hi u, .int 1 v] }).objs.size], _, _, H, rfl,
    I1.kept (t' := tk) fun b o e => Heap.get?_push_of_some _ e, turn_range _ lo (hi - lo).toNat, ?_, fun b hb => ?_, q⟩
  · have e1 : lo + ((0 : Nat) : Int) * 1 = lo := by simp
    have e2 : (((hi - lo).toNat : Nat) : Int) - ((0 : Nat) : Int) = Builtin.Range.rangeSize lo hi 1 := by rw [rangeSize_one]; split <;> omega
    show IsRangeIter _ _ (lo + ((0 : Nat) : Int) * 1) ((((hi - lo).toNat : Nat) : Int) - ((0 : Nat) : Int)) 1
    rw [e1, e2]
    exact Heap.get?_push_size _ rfl
  · have e : b = (s.heap.push { cls := .type "range", data := .fields #[.int lo t, .int hi u, .int 1 v] }).objs.size := by simpa using hb
    subst e
    exact I1.fpOk (Nat.le_refl _) (I1.hok.fresh (Nat.le_refl _))
def iRng1 (ta : TA) : TI := fun σ H R => ta σ H fun vs H1 => ∃ j : Int, vs = [.int j] ∧ -(2 ^ 62) ≤ j ∧ j < 2 ^ 62 ∧ R (Itr 0 j.toNat) H1
theorem pi_range1 {a : Expr} {ta : TA} {p pos : Pos} (hg : Gl X "range") (hm : X.mg "range" = none) (ha : PA X [a] ta) (hs : starEach [a] X.env = [(false, eval a X.env)] := by rfl) : PI X tg (.Call (.Name "range" p) [a] [] pos) (iRng1 ta) := by
  intro pins s σ H R I h
  refine Call_ (ld_blt I hg hm boot_range (PyProof.Rows.callWith_type1 (thn (ha pos pins s σ H _ I h) fun us s1 ⟨vs, H1, I1, r1, q1⟩ => ?_) hs rfl))
  obtain ⟨j, e, q1, q2, q⟩ := q1
  subst e
  cases r1 with
  | cons r rr =>
    cases rr
    obtain ⟨t, rfl⟩ := r
    exact call_range_1 (range_it I1 (by omega) (by omega) q1 q2 (by simpa using q))
def tFor (wi : TI) (g : TG) (tb : TS) : TS := fun D σ H => wi σ H fun J H1 => ∃ W : Nat → Nat → St → Hp → Prop, (∃ m, W 0 m σ H1) ∧ ∀ i m σ H, W i m σ H →
  (J.stop i H ∧ D.nx σ H) ∨ (J.go i H ∧ ∃ N : St → Hp → Prop, (∀ σ' H', N σ' H' → ∃ m', m' < m ∧ W (i + 1) m' σ' H') ∧ ∀ x H', J.yld i H x H' → g x σ H' fun σ2 H2 => tb { D with nx := N, ct := N, bk := D.nx } σ2 H2)
def pinsAt (fp : List Addr) (h : Heap) : List (Addr × Obj) := fp.filterMap fun b => (h.get? b).map fun o => (b, o)
theorem mem_pinsAt {fp : List Addr} {h : Heap} {b : Addr} {o : Obj} (hb : b ∈ fp) (e : h.get? b = some o) : (b, o) ∈ pinsAt fp h := List.mem_filterMap.mpr ⟨b, hb, by rw [e]; rfl⟩
theorem of_pinsAt {fp : List Addr} {h : Heap} {p : Addr × Obj} (hp : p ∈ pinsAt fp h) : p.1 ∈ fp ∧ h.get? p.1 = some p.2 := by
  obtain ⟨b, hb, e⟩ := List.mem_filterMap.mp hp
  cases q : h.get? b with
  | none => rw [q] at e; cases e
  | some o =>
    rw [q] at e
    have e' : (b, o) = p := Option.some.inj e
    subst e'
    exact ⟨hb, q⟩
theorem Inv.pinned {pins : List (Addr × Obj)} {σ : St} {H : Hp} {s : Shared} {fp : List Addr} (I : Inv X pins σ H s) (hf : ∀ b ∈ fp, FpOk X pins H b) (ho : ∀ b ∈ fp, ∃ o, s.heap.get? b = some o ∧ ∀ v, o.data ≠ .cell v) : Inv X (pins ++ pinsAt fp s.heap) σ H s :=
  I.pins_of fun p hp => (List.mem_append.mp hp).elim (fun z => I.pin p (List.mem_append_right _ z)) fun z => by
    obtain ⟨hb, e⟩ := of_pinsAt z
    obtain ⟨f0, f1, f2, _⟩ := hf p.1 hb
    obtain ⟨o, e', d⟩ := ho p.1 hb
    rw [e] at e'; cases e'
    exact ⟨e, f0, f1, f2, d⟩
theorem Inv.unpinned {pins pl : List (Addr × Obj)} {σ : St} {H : Hp} {s : Shared} (I : Inv X (pins ++ pl) σ H s) : Inv X pins σ H s := I.pins_of fun p hp => I.pin p (List.mem_append_right _ (List.mem_append_left _ hp))
theorem ps_for {iter : Expr} {body : List Stmt} {wi : TI} {g : TG} {tb : TS} {pos : Pos} (hp : PassesOwn (model X.prog X.w) X.A X.env X.xe) (hc : X.calm = true) (hi : PI X tg iter wi) (hg : PG X tg g) (hb : PSs X body tb)
    (hs : ∀ x, foldedSetIterable iter X.env x = pure x := by intro _; rfl) : PS X (.For tg iter body [] pos) (tFor wi g tb) := by
  intro pins s σ H D I h
  refine wpAny_For (thn (hi pins s σ H _ I h) fun v s1 h1 => thn h1 fun itv s2 h2 => ?_) hs
  obtain ⟨it, fp, tn, J, H2, e, I2, T, st2, f2, W, ⟨m0, w0⟩, turn⟩ := h2
  subst e
  have stat : ∀ {H' : Hp}, (∀ b ∈ fp, H' b = none) → ∀ b ∈ fp, FpOk X pins H' b := fun hn b hb => ⟨hn b hb, (f2 b hb).2⟩
  refine codeAny_forLoop_any (fun n s' => ∃ i σ' H', Inv X pins σ' H' s' ∧ tn i s'.heap ∧ (∀ b ∈ fp, H' b = none) ∧ W i n σ' H') ?_ m0 ⟨0, σ, H2, I2, st2, fun b hb => (f2 b hb).1, w0⟩
  rintro n s3 ⟨i, σ3, H3, I3, st3, fr3, w3⟩
  rcases turn i n σ3 H3 w3 with ⟨stop, qn⟩ | ⟨go, N, hN, step⟩
  · refine wpAny_passesOwn hp (thn (T.done X rfl rfl rfl hc i pins s3 σ3 H3 X.xe I3 (stat fr3) st3 stop) fun r s4 ⟨hr, I4⟩ => ?_)
    subst hr
    exact wpAny_execs_nil ⟨σ3, H3, I4, qn⟩
  · refine wpAny_passesOwn hp (thn (T.item X rfl rfl rfl hc i pins s3 σ3 H3 X.xe I3 (stat fr3) st3 go) fun r s4 ⟨u, hr, h4⟩ => ?_)
    subst hr
    refine wpAny_passesOwn hp (thn h4 fun _ s5 ⟨x, H5, I5, r5, y5, st5, fr5⟩ => ?_)
    have I5' := I5.pinned (stat fr5) (T.obj _ _ st5)
    refine wpAny_passesOwn hp (thn (hg _ s5 σ3 H5 x u _ I5' r5 (step x H5 y5)) fun _ s6 ⟨σ6, H6, I6, q6⟩ => ?_)
    refine wpAny_passesOwn hp (thn (hb _ s6 σ6 H6 _ I6 q6) fun f s7 q7 => ?_)
    have again : ∀ {σ7 : St} {H7 : Hp}, Inv X (pins ++ pinsAt fp s5.heap) σ7 H7 s7 → N σ7 H7 → ∃ m, m < n ∧ ∃ i σ' H', Inv X pins σ' H' s7 ∧ tn i s7.heap ∧ (∀ b ∈ fp, H' b = none) ∧ W i m σ' H' := fun {σ7 H7} I7 n7 => by
      obtain ⟨m', hm, w7⟩ := hN σ7 H7 n7
      refine ⟨m', hm, i + 1, σ7, H7, I7.unpinned, T.keep _ _ _ st5 fun b hb o e => (I7.pin (b, o) (List.mem_append_right _ (List.mem_append_right _ (mem_pinsAt hb e)))).1, fun b hb => ?_, w7⟩
      obtain ⟨o, e, d⟩ := T.obj _ _ st5 b hb
      exact (I7.pin (b, o) (List.mem_append_right _ (List.mem_append_right _ (mem_pinsAt hb e)))).2.1
    cases f with
    | next => obtain ⟨σ7, H7, I7, n7⟩ := q7; exact again I7 n7
    | cont => obtain ⟨σ7, H7, I7, n7⟩ := q7; exact again I7 n7
    | brk => obtain ⟨σ7, H7, I7, q7⟩ := q7; exact ⟨σ7, H7, I7.unpinned, q7⟩
    | ret v => obtain ⟨x7, σ7, H7, I7, r7, q7⟩ := q7; exact ⟨x7, σ7, H7, I7.unpinned, r7, q7⟩
end
end L2
namespace L2
open PySem PySem.Spec PyProof.Rows
abbrev R2 := V → V → Hp → VK → Prop
def OpR (X : Cx) (f : Value → Value → Sem Value) (r : R2) : Prop :=
  ∀ (pins : List (Addr × Obj)) (s : Shared) (σ : St) (H : Hp) (x y : V) (v u : Value) (Q : VK), Inv X pins σ H s → RelV x v → RelV y u → r x y H Q →
    wpAny (model X.prog X.w) X.A (f v u) (EP X pins σ Q) X.xe s
def UnR (X : Cx) (f : Value → Sem Value) (r : V → Hp → VK → Prop) : Prop :=
  ∀ (pins : List (Addr × Obj)) (s : Shared) (σ : St) (H : Hp) (x : V) (v : Value) (Q : VK), Inv X pins σ H s → RelV x v → r x H Q →
    wpAny (model X.prog X.w) X.A (f v) (EP X pins σ Q) X.xe s
def CallR (X : Cx) (f : Value) (r : List V → Hp → VK → Prop) : Prop :=
  ∀ (pins : List (Addr × Obj)) (s : Shared) (σ : St) (H : Hp) (xs : List V) (us : List Value) (Q : VK), Inv X pins σ H s → Vals xs us → r xs H Q →
    wpAny (model X.prog X.w) X.A (call f us) (EP X pins σ Q) X.xe s
def TruR (X : Cx) (r : V → Hp → (Bool → Hp → Prop) → Prop) : Prop :=
  ∀ (pins : List (Addr × Obj)) (s : Shared) (σ : St) (H : Hp) (x : V) (v : Value) (Q : Bool → Hp → Prop), Inv X pins σ H s → RelV x v → r x H Q →
    wpAny (model X.prog X.w) X.A (truthy v) (TP X pins σ Q) X.xe s
def tOp (r : R2) (ta tb : TE) : TE := fun σ H Q => ta σ H fun x H1 => tb σ H1 fun y H2 => r x y H2 Q
def tUn (r : V → Hp → VK → Prop) (ta : TE) : TE := fun σ H Q => ta σ H fun x H1 => r x H1 Q
def rI (C : Int → Int → Prop) (g : Int → Int → V) : R2 := fun x y H Q => ∃ i j, x = .int i ∧ y = .int j ∧ C i j ∧ Q (g i j) H
def rI0 (g : Int → Int → V) : R2 := fun x y H Q => ∃ i j, x = .int i ∧ y = .int j ∧ Q (g i j) H
def rU (g : Int → V) : V → Hp → VK → Prop := fun x H Q => ∃ i, x = .int i ∧ Q (g i) H
section
variable {X : Cx} {a b c : Expr} {ta tb tc : TE} {pos : Pos}
theorem binT (ha : PE X a ta) (hb : PE X b tb) {pins : List (Addr × Obj)} {s : Shared} {σ : St} {H : Hp} {R : V → V → Hp → Prop} (I : Inv X pins σ H s)
    (h : ta σ H fun x H1 => tb σ H1 fun y H2 => R x y H2) {Q : Value → Shared → Prop} {f : Value → Value → Sem Value}
    (hf : ∀ v u s2 x y H2, Inv X pins σ H2 s2 → RelV x v → RelV y u → R x y H2 → wpAny (model X.prog X.w) X.A (f v u) Q X.xe s2) :
    wpAny (model X.prog X.w) X.A (eval a X.env) (fun v s₁ => wpAny (model X.prog X.w) X.A (eval b X.env) (fun u s₂ => wpAny (model X.prog X.w) X.A (f v u) Q X.xe s₂) X.xe s₁) X.xe s := by
  refine thn (ha pins s σ H _ I h) fun v s1 ⟨x, H1, I1, r1, q1⟩ => ?_
  refine thn (hb pins s1 σ H1 _ I1 q1) fun u s2 ⟨y, H2, I2, r2, q2⟩ => ?_
  exact hf v u s2 x y H2 I2 r1 r2 q2
theorem pe_op {op : Operator} {r : R2} (ho : OpR X (binaryOp op) r) (ha : PE X a ta) (hb : PE X b tb) : PE X (.BinOp a op b pos) (tOp r ta tb) := by
  intro pins s σ H Q I h
  exact wpAny_BinOp (binT ha hb I h fun v u s2 x y H2 I2 rx ry q => ho pins s2 σ H2 x y v u Q I2 rx ry q)
theorem pe_un {op : UnaryOp} {r : V → Hp → VK → Prop} (ho : UnR X (unaryOp op) r) (ha : PE X a ta) : PE X (.UnaryOp op a pos) (tUn r ta) := by
  intro pins s σ H Q I h
  exact UnaryOp_ (thn (ha pins s σ H _ I h) fun v s1 ⟨x, H1, I1, r1, q1⟩ => ho pins s1 σ H1 x v Q I1 r1 q1)
theorem opI {f : Value → Value → Sem Value} {C : Int → Int → Prop} {g : Int → Int → Int}
    (rule : ∀ (i j : Int) (t u : Tok) (s : Shared) (Q : Value → Shared → Prop) (E : Value → Shared → Prop), C i j → Q (.int (g i j) s.toks) { s with toks := s.toks + 1 } → wpAny (model X.prog X.w) X.A (f (.int i t) (.int j u)) Q E s) :
    OpR X f (rI C fun i j => .int (g i j)) := by
  intro pins s σ H x y v u Q I rx ry h
  obtain ⟨i, j, rfl, rfl, hc, q⟩ := h
  obtain ⟨t, rfl⟩ := rx
  obtain ⟨t', rfl⟩ := ry
  exact rule i j t t' s _ _ hc ⟨.int (g i j), H, I.tok _, ⟨_, rfl⟩, q⟩
theorem opI0 {f : Value → Value → Sem Value} {g : Int → Int → Int}
    (rule : ∀ (i j : Int) (t u : Tok) (s : Shared) (Q : Value → Shared → Prop) (E : Value → Shared → Prop), Q (.int (g i j) s.toks) { s with toks := s.toks + 1 } → wpAny (model X.prog X.w) X.A (f (.int i t) (.int j u)) Q E s) :
    OpR X f (rI0 fun i j => .int (g i j)) := by
  intro pins s σ H x y v u Q I rx ry h
  obtain ⟨i, j, rfl, rfl, q⟩ := h
  obtain ⟨t, rfl⟩ := rx
  obtain ⟨t', rfl⟩ := ry
  exact rule i j t t' s _ _ ⟨.int (g i j), H, I.tok _, ⟨_, rfl⟩, q⟩
theorem opB0 {f : Value → Value → Sem Value} {g : Int → Int → Bool}
    (rule : ∀ (i j : Int) (t u : Tok) (s : Shared) (Q : Value → Shared → Prop) (E : Value → Shared → Prop), Q (.bool (g i j)) s → wpAny (model X.prog X.w) X.A (f (.int i t) (.int j u)) Q E s) :
    OpR X f (rI0 fun i j => .bl (g i j)) := by
  intro pins s σ H x y v u Q I rx ry h
  obtain ⟨i, j, rfl, rfl, q⟩ := h
  obtain ⟨t, rfl⟩ := rx
  obtain ⟨t', rfl⟩ := ry
  exact rule i j t t' s _ _ ⟨.bl (g i j), H, I, rfl, q⟩
def CDiv (i j : Int) : Prop := 0 < j ∧ j < 1073741824
def CPow (i j : Int) : Prop := 0 ≤ j ∧ j ≤ 1000000 ∧ i.natAbs < 2 ^ 64
def CMul (i j : Int) : Prop := (-(2 ^ 64) < i ∧ i < 2 ^ 64) ∨ (-(2 ^ 64) < j ∧ j < 2 ^ 64)
theorem CMul.ok {i j : Int} (h : CMul i j) : IntMulOk i j := by
  rcases h with ⟨h1, h2⟩ | ⟨h1, h2⟩
  · exact .of_left (intBits_le_64 h1 h2)
  · exact .of_right (intBits_le_64 h1 h2)
theorem op_add : OpR X (binaryOp .Add) (rI0 fun i j => .int (i + j)) := opI0 fun _ _ _ _ _ _ _ q => add_int q
theorem op_sub : OpR X (binaryOp .Sub) (rI0 fun i j => .int (i - j)) := opI0 fun _ _ _ _ _ _ _ q => sub_int q
theorem op_mul : OpR X (binaryOp .Mult) (rI CMul fun i j => .int (i * j)) := opI fun _ _ _ _ _ _ _ hc q => mul_int q hc.ok
theorem op_fdiv : OpR X (binaryOp .FloorDiv) (rI CDiv fun i j => .int (i / j)) := opI fun i j _ _ _ _ _ hc q => by
  have h1 : (0 : Int) < j := hc.1
  have h2 : j < 1073741824 := hc.2
  exact floordiv_int (by omega) (by rw [Int.fdiv_eq_ediv_of_nonneg i (by omega)]; exact q) (.inl (PyProof.noPylong_small (by omega)))
theorem op_mod : OpR X (binaryOp .Mod) (rI (fun _ j => 0 < j) fun i j => .int (i % j)) := opI fun i j _ _ _ _ _ hc q => by
  have h1 : (0 : Int) < j := hc
  exact mod_int' (by omega) (by rw [Int.fmod_eq_emod_of_nonneg i (by omega)]; exact q)
theorem op_pow : OpR X (binaryOp .Pow) (rI CPow fun i j => .int (i ^ j.toNat)) := opI fun _ _ _ _ _ _ _ hc q => pow_int_small hc.1 hc.2.1 hc.2.2 q
theorem unI {f : Value → Sem Value} {g : Int → Int}
    (rule : ∀ (i : Int) (t : Tok) (s : Shared) (Q : Value → Shared → Prop) (E : Value → Shared → Prop), Q (.int (g i) s.toks) { s with toks := s.toks + 1 } → wpAny (model X.prog X.w) X.A (f (.int i t)) Q E s) :
    UnR X f (rU fun i => .int (g i)) := by
  intro pins s σ H x v Q I rx h
  obtain ⟨i, rfl, q⟩ := h
  obtain ⟨t, rfl⟩ := rx
  exact rule i t s _ _ ⟨.int (g i), H, I.tok _, ⟨_, rfl⟩, q⟩
theorem un_neg : UnR X (unaryOp .USub) (rU fun i => .int (-i)) := unI fun _ _ _ _ _ q => neg_int q
end
def scal : V → V → Bool
  | .non, .non => true | .non, .int _ => true | .int _, .non => true | .non, .bl _ => true | .bl _, .non => true | .non, .str _ => true | .str _, .non => true
  | .int _, .int _ => true | .bl _, .bl _ => true | .str _, .str _ => true | .byt _, .byt _ => true
  | .int _, .str _ => true | .str _, .int _ => true | .bl _, .str _ => true | .str _, .bl _ => true
  | _, _ => false
def rEq : R2 := fun x y H Q => scal x y = true ∧ Q (.bl (decide (x = y))) H
def rNe : R2 := fun x y H Q => scal x y = true ∧ Q (.bl (!decide (x = y))) H
theorem dec_int {i j : Int} : decide (V.int i = V.int j) = (i == j) := by
  rw [Bool.eq_iff_iff]
  simp
theorem dec_bl {i j : Bool} : decide (V.bl i = V.bl j) = (i == j) := by
  rw [Bool.eq_iff_iff]
  simp
theorem dec_str {i j : Str} : decide (V.str i = V.str j) = (i == j) := by
  rw [Bool.eq_iff_iff]
  simp
theorem dec_byt {i j : Array UInt8} : decide (V.byt i = V.byt j) = (i.toList == j.toList) := by
  rw [Bool.eq_iff_iff]
  cases i
  cases j
  simp
section
variable {X : Cx} {a b c : Expr} {ta tb tc : TE} {pos : Pos}
theorem fin_bl {pins : List (Addr × Obj)} {σ : St} {H : Hp} {s : Shared} {Q : VK} {k k' : Bool} (I : Inv X pins σ H s) (q : Q (.bl k) H) (e : k = k') : EP X pins σ Q (.bool k') s := by
  subst e
  exact ⟨.bl k, H, I, rfl, q⟩
theorem op_eq : OpR X (compareOp .Eq) rEq := by
  intro pins s σ H x y v u Q I rx ry h
  obtain ⟨hs, q⟩ := h
  cases x with
  | non =>
    cases rx
    cases y with
    | non => cases ry; exact PySem.EqNone.eq_none_none (fin_bl I q (by simp))
    | bl j => cases ry; exact PySem.EqNone.eq_none_bool (fin_bl I q (by simp))
    | int j => obtain ⟨t', rfl⟩ := ry; exact PySem.EqNone.eq_none_int (fin_bl I q (by simp))
    | str j => obtain ⟨t', rfl⟩ := ry; exact PySem.EqNone.eq_none_str (fin_bl I q (by simp))
    | _ => exact absurd (show false = true from hs) Bool.false_ne_true
  | bl i =>
    cases rx
    cases y with
    | non => cases ry; exact PySem.EqNone.eq_bool_none (fin_bl I q (by simp))
    | bl j => cases ry; exact eq_bool (fin_bl I q dec_bl)
    | str j => obtain ⟨t', rfl⟩ := ry; exact PySem.EqMixed.eq_bool_str (fin_bl I q (by simp))
    | _ => exact absurd (show false = true from hs) Bool.false_ne_true
  | int i =>
    obtain ⟨t, rfl⟩ := rx
    cases y with
    | non => cases ry; exact PySem.EqNone.eq_int_none (fin_bl I q (by simp))
    | int j => obtain ⟨t', rfl⟩ := ry; exact eq_int (fin_bl I q dec_int)
    | str j => obtain ⟨t', rfl⟩ := ry; exact PySem.EqMixed.eq_int_str (fin_bl I q (by simp))
    | _ => exact absurd (show false = true from hs) Bool.false_ne_true
  | str i =>
    obtain ⟨t, rfl⟩ := rx
    cases y with
    | non => cases ry; exact PySem.EqNone.eq_str_none (fin_bl I q (by simp))
    | bl j => cases ry; exact PySem.EqMixed.eq_str_bool (fin_bl I q (by simp))
    | int j => obtain ⟨t', rfl⟩ := ry; exact PySem.EqMixed.eq_str_int (fin_bl I q (by simp))
    | str j => obtain ⟨t', rfl⟩ := ry; exact eq_str (fin_bl I q dec_str)
    | _ => exact absurd (show false = true from hs) Bool.false_ne_true
  | byt i =>
    obtain ⟨t, rfl⟩ := rx
    cases y with
    | byt j => obtain ⟨t', rfl⟩ := ry; exact PySem.W.eq_bytes (fin_bl I q dec_byt)
    | _ => exact absurd (show false = true from hs) Bool.false_ne_true
  | _ => cases y <;> exact absurd (show false = true from hs) Bool.false_ne_true
theorem op_ne : OpR X (compareOp .NotEq) rNe := by
  intro pins s σ H x y v u Q I rx ry h
  obtain ⟨hs, q⟩ := h
  cases x with
  | non =>
    cases rx
    cases y with
    | non => cases ry; exact PySem.EqNone.ne_none_none (fin_bl I q (by simp))
    | bl j => cases ry; exact PySem.EqNone.ne_none_bool (fin_bl I q (by simp))
    | int j => obtain ⟨t', rfl⟩ := ry; exact PySem.EqNone.ne_none_int (fin_bl I q (by simp))
    | str j => obtain ⟨t', rfl⟩ := ry; exact PySem.EqNone.ne_none_str (fin_bl I q (by simp))
    | _ => exact absurd (show false = true from hs) Bool.false_ne_true
  | bl i =>
    cases rx
    cases y with
    | non => cases ry; exact PySem.EqNone.ne_bool_none (fin_bl I q (by simp))
    | bl j => cases ry; exact ne_bool (fin_bl I q (congrArg not dec_bl))
    | str j => obtain ⟨t', rfl⟩ := ry; exact PySem.EqMixed.ne_bool_str (fin_bl I q (by simp))
    | _ => exact absurd (show false = true from hs) Bool.false_ne_true
  | int i =>
    obtain ⟨t, rfl⟩ := rx
    cases y with
    | non => cases ry; exact PySem.EqNone.ne_int_none (fin_bl I q (by simp))
    | int j => obtain ⟨t', rfl⟩ := ry; exact ne_int (fin_bl I q (congrArg not dec_int))
    | str j => obtain ⟨t', rfl⟩ := ry; exact PySem.EqMixed.ne_int_str (fin_bl I q (by simp))
    | _ => exact absurd (show false = true from hs) Bool.false_ne_true
  | str i =>
    obtain ⟨t, rfl⟩ := rx
    cases y with
    | non => cases ry; exact PySem.EqNone.ne_str_none (fin_bl I q (by simp))
    | bl j => cases ry; exact PySem.EqMixed.ne_str_bool (fin_bl I q (by simp))
    | int j => obtain ⟨t', rfl⟩ := ry; exact PySem.EqMixed.ne_str_int (fin_bl I q (by simp))
    | str j => obtain ⟨t', rfl⟩ := ry; exact ne_str (fin_bl I q (congrArg not dec_str))
    | _ => exact absurd (show false = true from hs) Bool.false_ne_true
  | byt i =>
    obtain ⟨t, rfl⟩ := rx
    cases y with
    | byt j => obtain ⟨t', rfl⟩ := ry; exact PySem.W.ne_bytes (fin_bl I q (congrArg not dec_byt))
    | _ => exact absurd (show false = true from hs) Bool.false_ne_true
  | _ => cases y <;> exact absurd (show false = true from hs) Bool.false_ne_true
theorem op_lt : OpR X (compareOp .Lt) (rI0 fun i j => .bl (decide (i < j))) := opB0 fun _ _ _ _ _ _ _ q => lt_int q
theorem op_le : OpR X (compareOp .LtE) (rI0 fun i j => .bl (decide (i ≤ j))) := opB0 fun _ _ _ _ _ _ _ q => le_int q
theorem op_gt : OpR X (compareOp .Gt) (rI0 fun i j => .bl (decide (j < i))) := opB0 fun _ _ _ _ _ _ _ q => gt_int q
theorem op_ge : OpR X (compareOp .GtE) (rI0 fun i j => .bl (decide (j ≤ i))) := opB0 fun _ _ _ _ _ _ _ q => ge_int q
theorem op_isN : OpR X (compareOp .Is) (fun x y H Q => y = .non ∧ Q (.bl (decide (x = .non))) H) := by
  intro pins s σ H x y v u Q I rx ry h
  obtain ⟨rfl, q⟩ := h
  cases ry
  refine is_none_gen (fin_bl I q ?_)
  cases x <;> first
    | (cases rx; rfl)
    | (obtain ⟨t, rfl⟩ := rx; rfl)
theorem nomark (b : Expr) {op : CmpOp} (h : op ≠ .In := by decide) (h2 : op ≠ .NotIn := by decide) : behindInMarks op b = false := by
  have e1 : (op == CmpOp.In) = false := by cases op <;> first | rfl | exact absurd rfl h
  have e2 : (op == CmpOp.NotIn) = false := by cases op <;> first | rfl | exact absurd rfl h2
  cases b <;> simp [behindInMarks, e1, e2]
theorem pe_cmpR {op : CmpOp} {r : R2} (ho : OpR X (compareOp op) r) (ha : PE X a ta) (hb : PE X b tb) (hm : behindInMarks op b = false) : PE X (.Compare a [op] [b] pos) (tOp r ta tb) := by
  intro pins s σ H Q I h
  exact wpAny_Compare1 (binT ha hb I h fun v u s2 x y H2 I2 rx ry q => ho pins s2 σ H2 x y v u Q I2 rx ry q) hm
def tTest (t : TE) : TT := fun σ H Q => t σ H fun x H' => ∃ k, x = .bl k ∧ Q k H'
theorem pt_cmpR {op : CmpOp} {r : R2} (ho : OpR X (compareOp op) r) (ha : PE X a ta) (hb : PE X b tb) (hm : behindInMarks op b = false) : PT X (.Compare a [op] [b] pos) (tTest (tOp r ta tb)) := by
  intro pins s σ H Q I h
  refine wpAny_isTrue_Compare1 (thn (ha pins s σ H _ I h) fun v s1 ⟨x, H1, I1, r1, q1⟩ => thn (hb pins s1 σ H1 _ I1 q1) fun u s2 ⟨y, H2, I2, r2, q2⟩ =>
    thn (ho pins s2 σ H2 x y v u _ I2 r1 r2 q2) fun c s3 ⟨z, H3, I3, r3, k, e, q3⟩ => ?_) hm
  subst e
  cases r3
  exact wpAny_truthy_bool ⟨H3, I3, q3⟩
def tChain (r r' : R2) (ta tb tc : TE) : TE := fun σ H Q => ta σ H fun x H1 => tb σ H1 fun y H2 => r x y H2 fun z H3 => ∃ k, z = .bl k ∧
  (if k = true then tc σ H3 fun w' H4 => r' y w' H4 Q else Q (.bl false) H3)
theorem pe_chain {op op' : CmpOp} {r r' : R2} (ho : OpR X (compareOp op) r) (ho' : OpR X (compareOp op') r') (ha : PE X a ta) (hb : PE X b tb) (hc : PE X c tc)
    (hm : lastMarks [op, op'] [b, c] = false := by with_unfolding_all rfl) : PE X (.Compare a [op, op'] [b, c] pos) (tChain r r' ta tb tc) := by
  intro pins s σ H Q I h
  refine Compare_chain (thn (ha pins s σ H _ I h) fun v s1 ⟨x, H1, I1, r1, q1⟩ => chain_link (thn (hb pins s1 σ H1 _ I1 q1) fun u s2 ⟨y, H2, I2, r2, q2⟩ =>
    thn (ho pins s2 σ H2 x y v u _ I2 r1 r2 q2) fun d s3 ⟨z, H3, I3, r3, k, e, q3⟩ => ?_)) hm
  subst e
  cases r3
  refine wpAny_truthy_bool ?_
  cases k with
  | false => exact ite_ff ⟨.bl false, H3, I3, rfl, q3⟩
  | true => exact ite_tt (chain_last (thn (hc pins s3 σ H3 _ I3 q3) fun w' s4 ⟨z', H4, I4, r4, q4⟩ => ho' pins s4 σ H4 y z' u w' Q I4 r2 r4 q4))
theorem pt_chain {op op' : CmpOp} {r r' : R2} (ho : OpR X (compareOp op) r) (ho' : OpR X (compareOp op') r') (ha : PE X a ta) (hb : PE X b tb) (hc : PE X c tc)
    (hm : lastMarks [op, op'] [b, c] = false := by with_unfolding_all rfl) : PT X (.Compare a [op, op'] [b, c] pos) (tTest (tChain r r' ta tb tc)) := by
  intro pins s σ H Q I h
  refine isTrue_chain (thn (ha pins s σ H _ I h) fun v s1 ⟨x, H1, I1, r1, q1⟩ => test_link (thn (hb pins s1 σ H1 _ I1 q1) fun u s2 ⟨y, H2, I2, r2, q2⟩ =>
    thn (ho pins s2 σ H2 x y v u _ I2 r1 r2 q2) fun d s3 ⟨z, H3, I3, r3, k, e, q3⟩ => ?_)) hm
  subst e
  cases r3
  refine wpAny_truthy_bool ?_
  cases k with
  | false =>
    obtain ⟨k', e', q'⟩ := q3
    cases e'
    exact ite_ff ⟨H3, I3, q'⟩
  | true =>
    refine ite_tt (test_last (thn (hc pins s3 σ H3 _ I3 q3) fun w' s4 ⟨z', H4, I4, r4, q4⟩ => thn (ho' pins s4 σ H4 y z' u w' _ I4 r2 r4 q4) fun d' s5 ⟨z2, H5, I5, r5, k2, e2, q5⟩ => ?_))
    subst e2
    cases r5
    exact wpAny_truthy_bool ⟨H5, I5, q5⟩
def TruV (K : PySem.W.Frag) (x : V) (H : Hp) (k : Bool) : Prop :=
  match x with
  | .non => k = false
  | .bl b => k = b
  | .int i => k = (i != 0)
  | .str y => y.length ≤ sizeLine ∧ k = ((y.length : Int) != 0)
  | .byt y => y.size ≤ sizeLine ∧ k = ((y.size : Int) != 0)
  | .ref p => (∃ xs, SqL K H p xs ∧ k = !xs.isEmpty) ∨ (∃ xs, SqT K H p xs ∧ k = !xs.isEmpty) ∨ ∃ kvs, H p = some (.dK kvs) ∧ k = !kvs.isEmpty
  | _ => False
theorem isEmpty_kv {κ : Type} {kvs : List (κ × V)} {vs : List (κ × Value)} (r : KV kvs vs) : (!vs.isEmpty) = !kvs.isEmpty := by
  cases r <;> rfl
theorem isEmpty_of {xs : List V} {its : List Value} (r : Vals xs its) : (!its.toArray.isEmpty) = !xs.isEmpty := by
  cases r <;> simp
theorem line63 : (sizeLine : Nat) < 2 ^ 63 := by rw [sizeLine_eq]; decide
theorem tru_ok : TruR X (fun x H Q => ∃ k, TruV X.K x H k ∧ Q k H) := by
  intro pins s σ H x v Q I rx h
  obtain ⟨k, e, q⟩ := h
  have hl := line63
  have hs : sizeLine = 16777216 := sizeLine_eq
  cases x with
  | non =>
    cases rx
    have e' : k = false := e
    subst e'
    exact truthy_none ⟨H, I, q⟩
  | bl b =>
    cases rx
    have e' : k = b := e
    subst e'
    exact wpAny_truthy_bool ⟨H, I, q⟩
  | int i =>
    obtain ⟨t, rfl⟩ := rx
    have e' : k = (i != 0) := e
    subst e'
    exact PySem.P.truthy_int ⟨H, I, q⟩
  | str y =>
    obtain ⟨t, rfl⟩ := rx
    obtain ⟨hy, e'⟩ : y.length ≤ sizeLine ∧ k = ((y.length : Int) != 0) := e
    subst e'
    exact PySem.P.truthy_str (by omega) ⟨H, I.tok _, q⟩
  | byt y =>
    obtain ⟨t, rfl⟩ := rx
    obtain ⟨hy, e'⟩ : y.size ≤ sizeLine ∧ k = ((y.size : Int) != 0) := e
    subst e'
    exact PySem.W.truthy_bytes (by omega) ⟨H, I.tok _, q⟩
  | ref p =>
    cases rx
    have e' : (∃ xs, SqL X.K H p xs ∧ k = !xs.isEmpty) ∨ (∃ xs, SqT X.K H p xs ∧ k = !xs.isEmpty) ∨ ∃ kvs, H p = some (.dK kvs) ∧ k = !kvs.isEmpty := e
    rcases e' with ⟨xs, hx, e'⟩ | ⟨xs, hx, e'⟩ | ⟨kvs, hx, e'⟩
    · subst e'
      obtain ⟨its, r, pl, hz⟩ := I.list hx
      have hlen := r.length
      exact wpAny_truthy_list pl.isList (by simp only [List.size_toArray]; omega) ⟨H, I.tok _, by rw [isEmpty_of r]; exact q⟩
    · subst e'
      obtain ⟨its, r, pl, hz⟩ := I.tuple hx
      have hlen := r.length
      exact truthy_tuple pl (by simp only [List.size_toArray]; omega) ⟨H, I.tok _, by rw [isEmpty_of r]; exact q⟩
    · subst e'
      obtain ⟨hz, hS, vs, r, m⟩ : kvs.length ≤ sizeLine ∧ (p == sysModules) = false ∧ ∃ vs, KV kvs vs ∧ s.heap.DictOf (mixKind X.prog X.w) p vs := I.hok p _ hx
      have hlen : kvs.length = vs.length := Paired.length r
      exact wpAny_truthy_dict hS m (by omega) ⟨H, I.tok _, by rw [isEmpty_kv r]; exact q⟩
  | _ => exact (show False from e).elim
theorem pt_truth (ha : PE X a ta) (he : ∀ whole, isTrue a X.env whole = (do let v ← whole; standAt a.pos; holding [v] (truthy v))) :
    PT X a (fun σ H Q => ta σ H fun x H' => ∃ k, TruV X.K x H' k ∧ Q k H') := by
  intro pins s σ H Q I h
  exact isTrue_plain (thn (ha pins s σ H _ I h) fun v s1 ⟨x, H1, I1, r1, q1⟩ => tru_ok pins s1 σ H1 x v Q I1 r1 q1) (he _)
theorem vals1 {x : V} {us : List Value} (r : Vals [x] us) : ∃ u, us = [u] ∧ RelV x u := by
  cases r with
  | cons r1 r2 => cases r2; exact ⟨_, rfl, r1⟩
theorem vals2 {x y : V} {us : List Value} (r : Vals [x, y] us) : ∃ u w', us = [u, w'] ∧ RelV x u ∧ RelV y w' := by
  cases r with
  | cons r1 r2 =>
    cases r2 with
    | cons r3 r4 => cases r4; exact ⟨_, _, rfl, r1, r3⟩
theorem call_abs : CallR X (.builtin "abs") (fun xs H Q => ∃ i, xs = [.int i] ∧ Q (.int (if i < 0 then -i else i)) H) := by
  intro pins s σ H xs us Q I r h
  obtain ⟨i, rfl, q⟩ := h
  obtain ⟨u, rfl, t, rfl⟩ := vals1 r
  exact call_abs_int fun u tk => ⟨.int (if i < 0 then -i else i), H, I.tok _, ⟨_, rfl⟩, q⟩
theorem call_max2 (hc : X.calm = true) : CallR X (.builtin "max") (fun xs H Q => ∃ i j, xs = [.int i, .int j] ∧ Q (.int (if j > i then j else i)) H) := by
  intro pins s σ H xs us Q I r h
  obtain ⟨i, j, rfl, q⟩ := h
  obtain ⟨u, w', rfl, ⟨t, rfl⟩, ⟨t', rfl⟩⟩ := vals2 r
  refine max_two_ints (I.ok.hd hc) fun h' tk k => ⟨_, H, I.kept k, ?_, q⟩
  by_cases hj : j > i
  · rw [if_pos hj, if_pos hj]; exact ⟨_, rfl⟩
  · rw [if_neg hj, if_neg hj]; exact ⟨_, rfl⟩
theorem call_min2 (hc : X.calm = true) : CallR X (.builtin "min") (fun xs H Q => ∃ i j, xs = [.int i, .int j] ∧ Q (.int (if j < i then j else i)) H) := by
  intro pins s σ H xs us Q I r h
  obtain ⟨i, j, rfl, q⟩ := h
  obtain ⟨u, w', rfl, ⟨t, rfl⟩, ⟨t', rfl⟩⟩ := vals2 r
  refine min_two_ints (I.ok.hd hc) fun h' tk k => ⟨_, H, I.kept k, ?_, q⟩
  by_cases hj : j < i
  · rw [if_pos hj, if_pos hj]; exact ⟨_, rfl⟩
  · rw [if_neg hj, if_neg hj]; exact ⟨_, rfl⟩
theorem call_int1 : CallR X (.type "int") (fun xs H Q => (∃ i, xs = [.int i] ∧ Q (.int i) H) ∨ ∃ k, xs = [.bl k] ∧ Q (.int (if k then 1 else 0)) H) := by
  intro pins s σ H xs us Q I r h
  rcases h with ⟨i, rfl, q⟩ | ⟨k, rfl, q⟩
  · obtain ⟨u, rfl, t, rfl⟩ := vals1 r
    exact call_int_int ⟨.int i, H, I, ⟨_, rfl⟩, q⟩
  · obtain ⟨u, rfl, r1⟩ := vals1 r
    cases r1
    exact call_int_bool ⟨.int (if k then 1 else 0), H, I.tok _, ⟨_, rfl⟩, q⟩
end
end L2
namespace L2
open PySem PySem.Spec PyProof.Rows
structure ObjM (h : Heap) (x dx C : Addr) (mA : Str → Option Value) : Prop where
  obj : h.get? x = some (PySem.W.instObj C dx)
  ns : h.Ns1 dx mA
  ne : dx ≠ x
theorem lookIn_ns {h : Heap} {dx : Addr} {mA : Str → Option Value} (n : h.Ns1 dx mA) : ∃ od, h.get? dx = some od ∧ ∀ name, PySem.W.lookIn name od = some (mA name) := by
  obtain ⟨o, es, ep, ho, hd, hk, _, hm⟩ := n
  refine ⟨o, ho, fun name => ?_⟩
  have e := hm name
  unfold nsFind findBy at e
  rw [← Array.find?_toList] at e
  unfold PySem.W.lookIn
  rw [hd]
  dsimp only
  split
  · rename_i y q
    rw [q] at e
    exact congrArg some e
  · rename_i q
    rw [q] at e
    have a : es.toList.any (·.refKey) = false := by
      rw [List.any_eq_false]
      intro y hy
      obtain ⟨z, t, hkey⟩ := hk y (Array.mem_toList_iff.mp hy)
      simp [DictEntry.refKey, hkey]
    have a' : ¬ es.toList.any (·.refKey) = true := by rw [a]; exact Bool.false_ne_true
    rw [if_neg a']
    exact congrArg some e
theorem ObjM.look {h : Heap} {x dx C : Addr} {mA : Str → Option Value} (I : ObjM h x dx C mA) : ∃ od, PySem.W.InstAt h x (PySem.W.instObj C dx) C (some od) ∧ ∀ name, PySem.W.lookIn name od = some (mA name) :=
  let ⟨od, ho, hl⟩ := lookIn_ns I.ns
  ⟨od, ⟨I.obj, rfl, rfl, ho⟩, hl⟩
section
variable {prog : Program} {w : World} {A : Around} {E : Value → Shared → Prop} {s : Shared} {K : PySem.W.Frag} {x dx C f : Addr} {mA : Str → Option Value} {name : Str} {v : Value}
theorem get_map {expr : Bool} {Q : Value → Shared → Prop} (X : K.In s.heap) (I : ObjM s.heap x dx C mA) (hg : PySem.W.plainGet K C name = true) (hh : PySem.W.hasDictIn K C = true)
    (ha : PySem.W.findIn K (.ref C) name = some none) (hv : mA name = some v) (hv' : PySem.W.handedIn v = true) (h : Q v { s with toks := s.toks + 1 }) :
    wpAny (model prog w) A (getAttr (.ref x) name expr) Q E s := by
  obtain ⟨od, J, hl⟩ := I.look
  exact PySem.W.get_value X J (PySem.W.plainGet_of hg).1 (PySem.W.findObj_own hh ha rfl (by rw [hl, hv])) hv' h
theorem set_map {ns : List Str} {Q : Unit → Shared → Prop} (X : K.In s.heap) (I : ObjM s.heap x dx C mA)
    (hs : PySem.W.findIn K (.ref C) "__setattr__" = some (some (.builtin "object.__setattr__"))) (hp : PySem.W.plainOver K C = true) (ht : PySem.W.takerIn K C name = some none) (hh : PySem.W.hasDictIn K C = true)
    (hw : PySem.Within mA ns) (hsz : ns.length ≤ sizeLine)
    (h : ∀ h', ObjM h' x dx C (fun y => if y = name then some v else mA y) → Heap.SameBut dx s.heap h' → Q () { s with heap := h', toks := s.toks + 2 }) :
    wpAny (model prog w) A (setAttr (.ref x) name v) Q E s := by
  obtain ⟨od, J, hl⟩ := I.look
  refine PySem.W.set_plain X J hs (PySem.W.osa_open (s := { s with toks := s.toks + 1 }) (r := none) X J hp ht fun b => ?_)
  obtain ⟨cd, hc, hd'⟩ := PySem.W.any_some hh
  have hx : s.heap.get? x = some ⟨.ref C, some dx, .plain, #[]⟩ := I.obj
  refine wpAny_bind (wpAny_pure (wpAny_bind (wpAny_bind (wpAny_loadPart hx (wpAny_bind (PySem.W.Looks.here (s := { s with toks := s.toks + 1 }) (PySem.W.looks_clsIn X hc) ?_))))))
  rw [hd']
  refine wpAny_pure (a := some dx) (wpAny_bind (wpAny_pure (wpAny_bind ?_)))
  refine wpAny_nsSet1 (s := { s with toks := s.toks + 1 }) I.ns fun h' hn2 hs2 => ?_
  obtain ⟨oD, esD, epD, hoD, hdD, hcD⟩ := hn2.count (PySem.Within.cons name v hw)
  refine wpAny_bind (wpAny_lookBehind hoD (by rw [hdD]; exact pastItsLine_dict (Nat.le_trans hcD (by rw [List.length_cons]; omega))) ?_)
  exact wpAny_pure (h _ ⟨(hs2.2 _ (Ne.symm I.ne)).trans I.obj, hn2, I.ne⟩ hs2)
theorem make_map {R : Result → Shared → Prop} {vs : List Value} {kw : List (Str × Value)} (X : K.In s.heap) (hm : PySem.W.makesIn K C = true)
    (hi : PySem.W.findIn K (.ref C) "__init__" = some (some (.ref f))) (hf : PySem.W.typeIn K (.ref f) = some (.type "function"))
    (h : codeAny (model prog w) (A.under (.builtin "type.__call__" ⟨.ref C :: vs, kw⟩)) (.call (.ref f) ⟨.ref (s.heap.objs.size + 1) :: vs, kw⟩) (PySem.W.InitBack (s.heap.objs.size + 1) R)
      { s with heap := (s.heap.push PySem.W.emptyDict).push (PySem.W.instObj C s.heap.objs.size) }) :
    codeAny (model prog w) A (.call (.ref C) ⟨vs, kw⟩) R s := by
  obtain ⟨hh, g, d, t, os⟩ := s
  exact PySem.W.make_core (PySem.W.makes_of X hm) (PySem.W.looks_findIn X hi) (fun self => PySem.W.bind_fn X self hf) (.inl rfl) h
end
def putF (f : Str) (v : V) : List (Str × V) → List (Str × V)
  | [] => [(f, v)]
  | (g, x) :: r => if g = f then (g, v) :: r else (g, x) :: putF f v r
theorem lookup_putF (f g : Str) (v : V) : ∀ fs : List (Str × V), (putF f v fs).lookup g = if g = f then some v else fs.lookup g
  | [] => by
    show List.lookup g [(f, v)] = _
    by_cases h : g = f
    · have hb : (g == f) = true := beq_iff_eq.mpr h
      simp only [List.lookup, hb, if_pos h]
    · have hb : (g == f) = false := beq_eq_false_iff_ne.mpr h
      simp only [List.lookup, hb, if_neg h]
  | (k, x) :: r => by
    have ih := lookup_putF f g v r
    rw [show putF f v ((k, x) :: r) = (if k = f then (k, v) :: r else (k, x) :: putF f v r) from rfl]
    by_cases hk : k = f
    · rw [if_pos hk]
      by_cases h : g = k
      · have hb : (g == k) = true := beq_iff_eq.mpr h
        simp only [List.lookup, hb, if_pos (h.trans hk)]
      · have hb : (g == k) = false := beq_eq_false_iff_ne.mpr h
        simp only [List.lookup, hb, if_neg (fun e : g = f => h (e.trans hk.symm))]
    · rw [if_neg hk]
      by_cases h : g = k
      · have hb : (g == k) = true := beq_iff_eq.mpr h
        simp only [List.lookup, hb, if_neg (fun e : g = f => hk (h.symm.trans e))]
      · have hb : (g == k) = false := beq_eq_false_iff_ne.mpr h
        simp only [List.lookup, hb]
        exact ih
theorem keys_putF (f : Str) (v : V) : ∀ fs : List (Str × V), f ∈ (putF f v fs).map (·.1) ∧ ∀ g, g ∈ fs.map (·.1) → g ∈ (putF f v fs).map (·.1)
  | [] => ⟨by simp [putF], fun g h => by simp at h⟩
  | (k, x) :: r => by
    obtain ⟨i1, i2⟩ := keys_putF f v r
    rw [show putF f v ((k, x) :: r) = (if k = f then (k, v) :: r else (k, x) :: putF f v r) from rfl]
    by_cases hk : k = f
    · rw [if_pos hk]
      subst hk
      exact ⟨by simp, fun g h => by simpa using h⟩
    · rw [if_neg hk]
      refine ⟨?_, fun g h => ?_⟩
      · rw [List.map_cons]
        exact List.mem_cons_of_mem _ i1
      · rw [List.map_cons] at h ⊢
        rcases List.mem_cons.mp h with e | e
        · exact List.mem_cons.mpr (.inl e)
        · exact List.mem_cons_of_mem _ (i2 g e)
theorem length_putF (f : Str) (v : V) : ∀ fs : List (Str × V), (putF f v fs).length ≤ fs.length + 1
  | [] => by simp [putF]
  | (k, x) :: r => by
    have ih := length_putF f v r
    rw [show putF f v ((k, x) :: r) = (if k = f then (k, v) :: r else (k, x) :: putF f v r) from rfl]
    by_cases hk : k = f
    · rw [if_pos hk, List.length_cons, List.length_cons]; omega
    · rw [if_neg hk, List.length_cons, List.length_cons]; omega
theorem RelO.some_of {v : V} {o : Option Value} (r : RelO (some v) o) : ∃ u, o = some u ∧ RelV v u := by
  cases o with
  | none => exact (show False from r).elim
  | some u => exact ⟨u, rfl, r⟩
theorem handed_of {v : V} {u : Value} (r : RelV v u) : PySem.W.handedIn u = true := by
  cases v with
  | non => cases (show u = Value.none from r); rfl
  | bl b => cases (show u = Value.bool b from r); rfl
  | int i => obtain ⟨t, e⟩ := (show ∃ t, u = Value.int i t from r); cases e; rfl
  | str x => obtain ⟨t, e⟩ := (show ∃ t, u = Value.str x t from r); cases e; rfl
  | byt b => obtain ⟨t, e⟩ := (show ∃ t, u = Value.bytes b t from r); cases e; rfl
  | flt b => obtain ⟨t, e⟩ := (show ∃ t, u = Value.float b t from r); cases e; rfl
  | ref a => cases (show u = Value.ref a from r); rfl
  | ty n => cases (show u = Value.type n from r); rfl
section
variable {P : Program} {w : World} {H H' : Hp} {h h' : Heap} {a C dx : Addr} {fs fs' : List (Str × V)}
theorem ins_get (hok : HOk P w H h) (e : H a = some (.ins C dx fs)) : ∃ mA, ObjM h a dx C mA ∧ (∀ f, RelO (fs.lookup f) (mA f)) ∧ PySem.Within mA (fs.map (·.1)) ∧ fs.length ≤ 1000 ∧ H dx = some (.own a) := by
  obtain ⟨d, z, ne, ob, mA, n, r, q⟩ := (show ObjOk P w H h a (.ins C dx fs) from hok a _ e)
  exact ⟨mA, ⟨ob, n, ne⟩, r, q, z, d⟩
end
structure Cls (K : PySem.W.Frag) (C : Addr) : Prop where
  pg : PySem.W.plainGet K C Str.empty = true
  hd : PySem.W.hasDictIn K C = true
  po : PySem.W.plainOver K C = true
  sa : PySem.W.findIn K (.ref C) "__setattr__" = some (some (.builtin "object.__setattr__"))
theorem Cls.get {K : PySem.W.Frag} {C : Addr} (c : Cls K C) (f : Str) : PySem.W.plainGet K C f = true := c.pg
def NoAttr (K : PySem.W.Frag) (C : Addr) (f : Str) : Prop := PySem.W.findIn K (.ref C) f = some none
theorem NoAttr.taker {K : PySem.W.Frag} {C : Addr} {f : Str} (n : NoAttr K C f) : PySem.W.takerIn K C f = some none := by
  unfold PySem.W.takerIn
  rw [show PySem.W.findIn K (.ref C) f = some none from n]
  rfl
section
variable {X : Cx} {pins : List (Addr × Obj)} {σ : St} {H : Hp} {s : Shared} {a C dx : Addr} {fs : List (Str × V)} {f : Str} {v : V} {A : Around} {E : Value → Shared → Prop}
theorem getattr_ok {b : Bool} {Q : Value → Shared → Prop} (I : Inv X pins σ H s) (e : H a = some (.ins C dx fs)) (c : Cls X.K C) (n : NoAttr X.K C f) (l : fs.lookup f = some v)
    (h : ∀ u s', Inv X pins σ H s' → RelV v u → Q u s') : wpAny (model X.prog X.w) A (getAttr (.ref a) f b) Q E s := by
  obtain ⟨mA, O, r, _, _, _⟩ := ins_get I.hok e
  obtain ⟨u, hu, ru⟩ := RelO.some_of (v := v) (o := mA f) (by rw [← l]; exact r f)
  exact get_map I.kIn O (c.get f) c.hd n hu (handed_of ru) (h u _ (I.tok _) ru)
theorem setattr_ok {y : V} {u : Value} {Q : Unit → Shared → Prop} (I : Inv X pins σ H s) (e : H a = some (.ins C dx fs)) (c : Cls X.K C) (n : NoAttr X.K C f) (hl : fs.length < 1000) (ry : RelV y u)
    (h : ∀ s', Inv X pins σ (upd H a (.ins C dx (putF f y fs))) s' → Q () s') : wpAny (model X.prog X.w) A (setAttr (.ref a) f u) Q E s := by
  obtain ⟨mA, O, r, wi, _, ho⟩ := ins_get I.hok e
  have hz : (fs.map (·.1)).length ≤ sizeLine := by rw [List.length_map, sizeLine_eq]; omega
  refine set_map I.kIn O c.sa c.po n.taker c.hd wi hz fun h' O' sb => h _ ?_
  have hd : ∃ o, h'.get? dx = some o := let ⟨o, _, _, e', _⟩ := O'.ns; ⟨o, e'⟩
  refine I.write (x := a) (e := dx) (by rw [e]; exact True.intro) (.inr ho) (fun b q hb z => (sb.2 b hb).trans z) hd ?_
  refine ⟨by rw [upd_ne O.ne]; exact ho, ?_, O.ne, O'.obj, _, O'.ns, fun g => ?_, fun g hg => ?_⟩
  · have := length_putF f y fs; omega
  · show RelO ((putF f y fs).lookup g) (if g = f then some u else mA g)
    rw [lookup_putF]
    by_cases q : g = f
    · rw [if_pos q, if_pos q]; exact ry
    · rw [if_neg q, if_neg q]; exact r g
  · by_cases q : g = f
    · rw [q]; exact (keys_putF f y fs).1
    · refine (keys_putF f y fs).2 g (wi g fun z => hg ?_)
      show (if g = f then some u else mA g) = none
      rw [if_neg q]; exact z
theorem Inv.made (I : Inv X pins σ H s) : Inv X pins σ (upd (upd H s.heap.objs.size (.own (s.heap.objs.size + 1))) (s.heap.objs.size + 1) (.ins C s.heap.objs.size []))
    { s with heap := (s.heap.push PySem.W.emptyDict).push (PySem.W.instObj C s.heap.objs.size) } := by
  have e1 : (s.heap.push PySem.W.emptyDict).get? s.heap.objs.size = some PySem.W.emptyDict := Heap.get?_push_size s.heap rfl
  have e2 : ((s.heap.push PySem.W.emptyDict).push (PySem.W.instObj C s.heap.objs.size)).get? (s.heap.objs.size + 1) = some (PySem.W.instObj C s.heap.objs.size) := by
    have := Heap.get?_push_size (s.heap.push PySem.W.emptyDict) (o := PySem.W.instObj C s.heap.objs.size) rfl
    rwa [Heap.size_push] at this
  have e3 : (s.heap.push PySem.W.emptyDict).Ns s.heap.objs.size (fun _ => none) := ⟨PySem.W.emptyDict, #[], _, e1, rfl, (fun e he => absurd he (by simp)), fun _ => rfl⟩
  have I1 := I.laid (a := s.heap.objs.size) (o := .own (s.heap.objs.size + 1)) (h' := s.heap.push PySem.W.emptyDict) (t' := s.toks) (fun b u q => Heap.get?_push_of_some _ q) (Nat.le_refl _) ⟨_, e1⟩
  refine I1.laid (a := s.heap.objs.size + 1) (o := .ins C s.heap.objs.size []) (t' := s.toks) (fun b u q => Heap.get?_push_of_some _ q) (Nat.le_of_eq (Heap.size_push _ _)) ?_
  have ne : s.heap.objs.size ≠ s.heap.objs.size + 1 := Nat.ne_of_lt (Nat.lt_succ_self _)
  refine ⟨by rw [upd_ne ne, upd_same], Nat.zero_le _, ne, e2, fun _ => none, (Heap.Ns1.of_empty e3).at fun o q => Heap.get?_push_of_some _ q, fun _ => True.intro, fun y hy => absurd rfl hy⟩
theorem attr_of {prog : Program} {w : World} {env : Env} {e : Expr} {f : Str} {pos : Pos} {s : Shared} {Q : Value → Shared → Prop} (hb : attributeBase e f env (eval e env) = eval e env)
    (h : wpAny (model prog w) A (eval e env) (fun o s₁ => wpAny (model prog w) A (getAttr o f true) Q E s₁) E s) : wpAny (model prog w) A (eval (.Attribute e f pos) env) Q E s :=
  Attribute_any_ h (by rw [arm_eval_Attribute, hb])
end
def sFld (K : PySem.W.Frag) (ta tv : TE) (f : Str) : TS := fun D σ H => tv σ H fun y H1 => ta σ H1 fun x H2 => ∃ a C dx fs, x = .ref a ∧ H2 a = some (.ins C dx fs) ∧ Cls K C ∧ NoAttr K C f ∧ fs.length < 1000 ∧
  D.nx σ (upd H2 a (.ins C dx (putF f y fs)))
section
variable {X : Cx} {o e value : Expr} {f : Str} {pos pos' tpos : Pos} {ta tv : TE}
theorem ps_fld (ha : PE X o ta) (hv : PE X value tv) (hs : swapsWith value (some (.Attribute o f pos')) pos.line X.env = pure false) : PS X (.Assign [.Attribute o f pos'] value pos) (sFld X.K ta tv f) := by
  intro pins s σ H D I h
  refine plainObj_wpAny_Assign_Attribute (thn (hv pins s σ H _ I h) fun u s1 ⟨y, H1, I1, ry, q⟩ => thn (ha pins s1 σ H1 _ I1 q) fun ov s2 ⟨x, H2, I2, rx, a, C, dx, fs, ex, ea, c, n, l, q2⟩ => ?_) hs
  subst ex
  obtain rfl : ov = Value.ref a := rx
  exact setattr_ok I2 ea c n l ry fun s3 I3 => ⟨σ, _, I3, q2⟩
end
section
variable {X : Cx} {pins : List (Addr × Obj)} {σ : St} {H : Hp} {s : Shared} {A : Around} {E : Value → Shared → Prop} {Q : Value → Shared → Prop} {c : Value} {b : Bool}
inductive TyOf (K : PySem.W.Frag) (H : Hp) : V → Value → Prop where
  | non : TyOf K H .non (.type "NoneType")
  | bl (x : Bool) : TyOf K H (.bl x) (.type "bool")
  | int (i : Int) : TyOf K H (.int i) (.type "int")
  | str (x : Str) : TyOf K H (.str x) (.type "str")
  | flt (x : UInt64) : TyOf K H (.flt x) (.type "float")
  | lst {a : Addr} {xs : List V} (e : H a = some (.lst xs)) : TyOf K H (.ref a) (.type "list")
  | frz {a : Addr} {o : Obj} {xs : List V} (e : H a = some (.frz o (.lst xs))) : TyOf K H (.ref a) (.type "list")
  | tup {a : Addr} {xs : List V} (e : H a = some (.tup xs)) : TyOf K H (.ref a) (.type "tuple")
  | dK {a : Addr} {kvs : List (Key × V)} (e : H a = some (.dK kvs)) : TyOf K H (.ref a) (.type "dict")
  | dT {a : Addr} {kvs : List (List Key × V)} (e : H a = some (.dT kvs)) : TyOf K H (.ref a) (.type "dict")
  | ins {a C dx : Addr} {fs : List (Str × V)} (e : H a = some (.ins C dx fs)) (cl : Cls K C) (ha : PySem.W.findIn K (.ref C) "__class__" = some (some (.builtin "object.__class__")))
      (hn : PySem.W.specialIn K (.builtin "object.__class__") "__get__" = some (some (.builtin "getset_descriptor.__get__"))) (htk : PySem.W.takesIn K (.builtin "object.__class__") = some true)
      (hm : PySem.W.mroIn K C (.type "object") = some true) : TyOf K H (.ref a) (.ref C)
theorem isinst_ok {x : V} {u t : Value} (I : Inv X pins σ H s) (rx : RelV x u) (ty : TyOf X.K H x t) (e : PySem.W.kitOne X.K t c = some b) (h : ∀ tk, Q (.bool b) { s with toks := tk }) :
    wpAny (model X.prog X.w) A (call (.builtin "isinstance") [u, c]) Q E s := by
  cases ty with
  | non => cases (show u = Value.none from rx); exact PySem.W.kia_one PySem.W.kitx_none I.kIn True.intro e (fun z => nomatch z) h
  | bl y => cases (show u = Value.bool y from rx); exact PySem.W.kia_one PySem.W.kitx_bool I.kIn True.intro e (fun z => nomatch z) h
  | int i => obtain ⟨t, q⟩ := (show ∃ t, u = Value.int i t from rx); cases q; exact PySem.W.kia_one PySem.W.kitx_int I.kIn True.intro e (fun z => nomatch z) h
  | str y => obtain ⟨t, q⟩ := (show ∃ t, u = Value.str y t from rx); cases q; exact PySem.W.kia_one PySem.W.kitx_str I.kIn True.intro e (fun z => nomatch z) h
  | flt y => obtain ⟨t, q⟩ := (show ∃ t, u = Value.float y t from rx); cases q; exact PySem.W.kia_one PySem.W.kitx_float I.kIn True.intro e (fun z => nomatch z) h
  | @lst a xs ea =>
    cases (show u = Value.ref a from rx)
    obtain ⟨_, _, n, _, h1⟩ := (show ObjOk X.prog X.w H s.heap a (.lst xs) from I.hok a _ ea)
    exact PySem.W.kia_one PySem.W.kitx_list I.kIn ⟨_, h1, rfl⟩ e (fun z => nomatch z) h
  | @frz a ob xs ea =>
    cases (show u = Value.ref a from rx)
    obtain ⟨_, _, _, n, _, h1⟩ := (show ObjOk X.prog X.w H s.heap a (.frz ob (.lst xs)) from I.hok a _ ea)
    exact PySem.W.kia_one PySem.W.kitx_list I.kIn ⟨_, h1, rfl⟩ e (fun z => nomatch z) h
  | @tup a xs ea =>
    cases (show u = Value.ref a from rx)
    obtain ⟨_, _, _, p⟩ := (show ObjOk X.prog X.w H s.heap a (.tup xs) from I.hok a _ ea)
    obtain ⟨o, h1, h2, _⟩ := p
    exact PySem.W.kia_one PySem.W.kitx_tuple I.kIn ⟨o, h1, h2⟩ e (fun z => nomatch z) h
  | @dK a kvs ea =>
    cases (show u = Value.ref a from rx)
    obtain ⟨_, _, vs, _, p⟩ := (show ObjOk X.prog X.w H s.heap a (.dK kvs) from I.hok a _ ea)
    obtain ⟨o, es, ep, h1, h2, _⟩ := p
    exact PySem.W.kia_one PySem.W.kitx_dict I.kIn ⟨o, h1, h2.1⟩ e (fun z => nomatch z) h
  | @dT a kvs ea =>
    cases (show u = Value.ref a from rx)
    obtain ⟨_, _, xs, _, o, es, ep, h1, h2, _⟩ := (show ObjOk X.prog X.w H s.heap a (.dT kvs) from I.hok a _ ea)
    exact PySem.W.kia_one PySem.W.kitx_dict I.kIn ⟨o, h1, h2.1⟩ e (fun z => nomatch z) h
  | @ins a C dx fs ea cl ha hn htk hm =>
    cases (show u = Value.ref a from rx)
    obtain ⟨mA, O, _⟩ := ins_get I.hok ea
    obtain ⟨od, J, _⟩ := O.look
    exact PySem.W.kia_one (PySem.W.kitx_own (cl.get _) cl.hd ha hn htk hm) I.kIn J e (fun z => nomatch z) h
end
end L2
namespace L2
open PySem PySem.Spec PyProof.Rows
structure Room (k : Nat) (A : Around) : Prop where
  hd : A.handled = none
  dp : A.depth + 3 * k + 5 < recursionLimit
  un : A.units + 16 * k + 200 < cLine
theorem Room.mono {j k : Nat} {A : Around} (r : Room k A) (h : j ≤ k) : Room j A := ⟨r.hd, by have := r.dp; omega, by have := r.un; omega⟩
theorem Room.deeper {k : Nat} {A : Around} (r : Room (k + 1) A) (env : Env) : Room k (A.deeper env) :=
  ⟨r.hd, by have := r.dp; show A.depth + 1 + 3 * k + 5 < _; omega, by have := r.un; show A.units + 3 + 16 * k + 200 < _; omega⟩
theorem make_depth {A : Around} {C : Addr} {us : List Value} {kw : List (Str × Value)} : (A.under (.builtin "type.__call__" ⟨.ref C :: us, kw⟩)).depth = A.depth + 1 := by
  first | rfl | simp [Around.under, Code.weight, Code.isCreation, Code.isGuard, Code.isCaller, Code.frames, Code.isFrame, guardIds]
theorem make_units {A : Around} {C : Addr} {us : List Value} {kw : List (Str × Value)} : (A.under (.builtin "type.__call__" ⟨.ref C :: us, kw⟩)).units = A.units + 1 := by
  first | rfl | simp [Around.under, Code.cUnits, Code.frames, Code.isFrame]
theorem Room.make {k : Nat} {A : Around} (r : Room (k + 1) A) (C : Addr) (us : List Value) (kw : List (Str × Value)) : Room k (A.under (.builtin "type.__call__" ⟨.ref C :: us, kw⟩)) :=
  ⟨r.hd, by have := r.dp; rw [make_depth]; omega, by have := r.un; rw [make_units]; omega⟩
theorem Room.depth {k : Nat} {A : Around} (r : Room k A) : A.depth < recursionLimit := by have := r.dp; omega
theorem Room.units {k : Nat} {A : Around} (r : Room k A) : A.units + 64 < cLine := by have := r.un; omega
def tNil : TA := fun _ H Q => Q [] H
def tCons (ta : TE) (tr : TA) : TA := fun σ H Q => ta σ H fun x H1 => tr σ H1 fun xs H2 => Q (x :: xs) H2
section
variable {X : Cx} {e : Expr} {es : List Expr} {te : TE} {t : TA} {pos : Pos}
theorem pa_nil : PA X [] tNil := fun _ _ _ _ H Q I h => Calls.spliced_nil ⟨[], H, I, .nil, h⟩
theorem pa_cons (ha : PE X e te) (hr : PA X es t) (hs : starEach (e :: es) X.env = (false, eval e X.env) :: starEach es X.env := by rfl) : PA X (e :: es) (tCons te t) := by
  intro pos pins s σ H Q I h
  rw [hs]
  show wpAny _ _ (spliced ((false, eval e X.env) :: backTo pos (starEach es X.env))) _ _ s
  refine Calls.spliced_cons (thn (ha pins s σ H _ I h) fun u s1 ⟨x, H1, I1, r1, q1⟩ => ?_)
  exact thn (hr pos pins s1 σ H1 _ I1 q1) fun us s2 ⟨xs, H2, I2, r2, q2⟩ => ⟨x :: xs, H2, I2, .cons r1 r2, q2⟩
def tTup (t : TA) : TE := fun σ H Q => t σ H fun xs H1 => xs.length ≤ sizeLine ∧ ∀ p, H1 p = none → Q (.ref p) (upd H1 p (.tup xs))
def tLst (t : TA) : TE := fun σ H Q => t σ H fun xs H1 => xs.length ≤ sizeLine ∧ ∀ p, H1 p = none → Q (.ref p) (upd H1 p (.lst xs))
theorem pe_tup {x1} (h : PA X es t) : PE X (.Tuple es x1 pos) (tTup t) := by
  intro pins s σ H Q I hq
  refine wpAny_Tuple_spliced (thn (h pos pins s σ H _ I hq) fun us s1 ⟨xs, H1, I1, r, z, q⟩ => ⟨by rw [← r.length]; exact z, ?_⟩)
  have hf : H1 s1.heap.objs.size = none := I1.hok.fresh (Nat.le_refl _)
  refine ⟨.ref s1.heap.objs.size, upd H1 s1.heap.objs.size (.tup xs), I1.laid (t' := s1.toks) (fun b u e => Heap.get?_push_of_some _ e) (Nat.le_refl _) ?_, rfl, q _ hf⟩
  exact ⟨z, us, r, ⟨_, Heap.get?_push_size _ rfl, rfl, _, rfl⟩⟩
theorem pe_lst (h : PA X es t) : PE X (.List es pos) (tLst t) := by
  intro pins s σ H Q I hq
  refine wpAny_List_spliced (thn (h pos pins s σ H _ I hq) fun us s1 ⟨xs, H1, I1, r, z, q⟩ => ⟨by rw [← r.length]; exact z, ?_⟩)
  have hf : H1 s1.heap.objs.size = none := I1.hok.fresh (Nat.le_refl _)
  refine ⟨.ref s1.heap.objs.size, upd H1 s1.heap.objs.size (.lst xs), I1.laid (t' := s1.toks) (fun b u e => Heap.get?_push_of_some _ e) (Nat.le_refl _) ?_, rfl, q _ hf⟩
  exact ⟨z, us, 0, r, Heap.get?_push_size _ rfl⟩
end
abbrev Sp := List V → Hp → VK → XK → Prop
abbrev CXT := List Env → Hp → Shared → XK → Value → Shared → Prop
structure Env0 (P : Program) (w : World) (K : PySem.W.Frag) (mg : Str → Option Value) (base : Heap) (A : Around) (outer : List Env) (s : Shared) (H : Hp) : Prop where
  frames : A.frames = some outer
  mod : Mod K mg base
  bs : ∀ b o, base.get? b = some o → s.heap.get? b = some o ∧ H b = none
  bsz : base.objs.size ≤ s.heap.objs.size
  funs : s.heap.FunFrames base outer
  frf : ∀ b ∈ frs outer, H b = none
  hok : HOk P w H s.heap
  bare : AllBare s.gens
def CE (outer : List Env) (P : Program) (w : World) (H : Hp) (s : Shared) (Q : VK) (u : Value) (s' : Shared) : Prop :=
  ∃ v H', s'.os = s.os ∧ AllBare s'.gens ∧ Un (frs outer) [] H H' s.heap s'.heap ∧ HOk P w H' s'.heap ∧ RelV v u ∧ Q v H'
def CR (CX : CXT) (outer : List Env) (P : Program) (w : World) (H : Hp) (s : Shared) (Q : VK) (E : XK) (r : Result) (s' : Shared) : Prop :=
  match r with
  | .ok (.ret u) => CE outer P w H s Q u s'
  | .ok _ => False
  | .error e => CX outer H s E e s'
structure FnOk (P : Program) (w : World) (K : PySem.W.Frag) (mg : Str → Option Value) (base : Heap) (CX : CXT) (k : Nat) (f : Addr) (fd : FuncData) (ps : List Str) (sp : Sp) : Prop where
  len : ∀ vs H Q E, sp vs H Q E → vs.length = ps.length
  run : ∀ (A : Around) (outer : List Env) (s : Shared) (H : Hp) (args : Args) (us : List Value) (vs : List V) (Q : VK) (E : XK), Room k A → Env0 P w K mg base A outer s H → BindsTo s fd args (ps.zip us) → Vals vs us → sp vs H Q E →
    codeAny (model P w) A (.call (.ref f) args) (CR CX outer P w H s Q E) s
theorem Env0.make {P : Program} {w : World} {K : PySem.W.Frag} {mg : Str → Option Value} {base : Heap} {A : Around} {outer : List Env} {s : Shared} {H : Hp} (e : Env0 P w K mg base A outer s H) (C : Addr) (us : List Value) (kw : List (Str × Value)) :
    Env0 P w K mg base (A.under (.builtin "type.__call__" ⟨.ref C :: us, kw⟩)) outer s H := ⟨by first | exact e.frames | (simpa [Around.under, Code.envs, Code.isFrame, pushEnvs] using e.frames), e.mod, e.bs, e.bsz, e.funs, e.frf, e.hok, e.bare⟩
section
variable {X : Cx} {pins : List (Addr × Obj)} {σ : St} {H : Hp} {s s' : Shared}
theorem Inv.env0 (I : Inv X pins σ H s) : Env0 X.prog X.w X.K X.mg X.base X.A X.stack s H :=
  ⟨I.ok.frames, I.ok.mod, I.bs, Nat.le_trans I.ok.bsz I.sz, I.stack, I.stkFree, I.hok, I.bare⟩
theorem Inv.after {Q : VK} {u : Value} (I : Inv X pins σ H s) (h : CE X.stack X.prog X.w H s Q u s') : EP X pins σ Q u s' := by
  obtain ⟨v, H', os, bare, un, hok, r, q⟩ := h
  obtain ⟨hh, g, d, t, os'⟩ := s'
  obtain rfl : os' = s.os := os
  exact ⟨v, H', I.call (h' := hh) (g' := g) (d' := d) (t' := t) (ch := []) un hok bare (fun b z => absurd z (by simp)), r, q⟩
end
def tCall (sp : Sp) (dvs : List V) (E : XK) (t : TA) : TE := fun σ H Q => t σ H fun vs H1 => sp (vs ++ dvs) H1 Q E
def Binds (K : PySem.W.Frag) (fd : FuncData) (ps : List Str) (ds : List Value) : Prop :=
  ∀ (s : Shared) (us : List Value), K.In s.heap → (us ++ ds).length = ps.length → BindsTo s fd ⟨us, []⟩ (ps.zip (us ++ ds))
theorem Binds.all {K : PySem.W.Frag} {fd : FuncData} {ps : List Str} (h : ∀ us : List Value, us.length = ps.length → bindArgs fd ⟨us, []⟩ = pure (ps.zip us)) : Binds K fd ps [] := fun s us _ hl => by
  rw [List.append_nil] at hl ⊢
  exact .of_eq (h us hl)
def Passes (CX : CXT) (X : Cx) (E : XK) : Prop := ∀ (pins : List (Addr × Obj)) (σ : St) (H : Hp) (s : Shared) (e : Value) (s' : Shared), Inv X pins σ H s → CX X.stack H s E e s' → X.xe e s'
section
variable {X : Cx} {CX : CXT} {k : Nat} {f C : Addr} {fd : FuncData} {ps : List Str} {sp : Sp} {dvs : List V} {ds : List Value} {E : XK} {x m : Str} {p pos apos : Pos} {e o : Expr} {es : List Expr} {ta : TE} {t : TA}
theorem run_fn {pins : List (Addr × Obj)} {σ : St} {H : Hp} {s : Shared} {Q : VK} {us : List Value} {vs : List V} (F : FnOk X.prog X.w X.K X.mg X.base CX k f fd ps sp) (hr : Room k X.A) (hb : Binds X.K fd ps ds) (hd : Vals dvs ds) (hx : Passes CX X E)
    (I : Inv X pins σ H s) (r : Vals vs us) (h : sp (vs ++ dvs) H Q E) : wpAny (model X.prog X.w) X.A (call (.ref f) us) (EP X pins σ Q) X.xe s := by
  have r2 : Vals (vs ++ dvs) (us ++ ds) := r.append hd
  have hl : (us ++ ds).length = ps.length := by rw [← r2.length]; exact F.len _ _ _ _ h
  refine wpAny_call (codeAny_mono (F.run X.A X.stack s H ⟨us, []⟩ (us ++ ds) (vs ++ dvs) Q E hr I.env0 (hb s us I.kIn hl) r2 h) fun r s' hq => ?_)
  cases r with
  | error e => exact hx pins σ H s e s' I hq
  | ok fl =>
    cases fl with
    | ret u => exact I.after hq
    | next => exact False.elim hq
    | brk => exact False.elim hq
    | cont => exact False.elim hq
theorem pe_call (F : FnOk X.prog X.w X.K X.mg X.base CX k f fd ps sp) (hr : Room k X.A) (hg : Gl X x) (hm : X.mg x = some (.ref f)) (hk : PySem.W.keepIn X.K (.ref f) = true) (hb : Binds X.K fd ps ds) (hd : Vals dvs ds) (hx : Passes CX X E)
    (ha : PA X (e :: es) t) (hdb : (x == ("__debug__" : Str)) = false := by decide) (he : starEach (e :: es) X.env = (false, eval e X.env) :: starEach es X.env := by rfl) (hpl : (backTo pos (starEach es X.env)).any (·.1) = false := by rfl) :
    PE X (.Call (.Name x p) (e :: es) [] pos) (tCall sp dvs E t) := by
  intro pins s σ H Q I h
  refine wpAny_Call_Name_kw (ld_glob I hg hm ?_ hdb)
  refine PySem.W.callWith_K (h₀ := X.base) I.ok.mod.kin hk (thn (ha pos pins s σ H _ I h) fun us s1 ⟨vs, H1, I1, r, q⟩ => ⟨I1.kIn, ?_⟩) he hpl
  exact run_fn F hr hb hd hx I1 r q
structure Mk (K : PySem.W.Frag) (C f : Addr) : Prop where
  makes : PySem.W.makesIn K C = true
  init : PySem.W.findIn K (.ref C) "__init__" = some (some (.ref f))
  fn : PySem.W.isFn K (.ref f) = true
  kp : PySem.W.keepIn K (.ref C) = true
theorem run_make {pins : List (Addr × Obj)} {σ : St} {H : Hp} {s : Shared} {Q : VK} {us : List Value} {vs : List V} (M : Mk X.K C f) (F : FnOk X.prog X.w X.K X.mg X.base CX k f fd ps sp) (hr : Room (k + 1) X.A) (hb : Binds X.K fd ps ds) (hd : Vals dvs ds)
    (hx : Passes CX X E) (I : Inv X pins σ H s) (r : Vals vs us)
    (h : ∀ x dx, H x = none → H dx = none → dx ≠ x → sp (.ref x :: (vs ++ dvs)) (upd (upd H dx (.own x)) x (.ins C dx [])) (fun v H2 => v = .non ∧ Q (.ref x) H2) E) :
    wpAny (model X.prog X.w) X.A (call (.ref C) us) (EP X pins σ Q) X.xe s := by
  have hq := h (s.heap.objs.size + 1) s.heap.objs.size (I.hok.fresh (Nat.le_succ _)) (I.hok.fresh (Nat.le_refl _)) (Nat.ne_of_lt (Nat.lt_succ_self _))
  have I2 := Inv.made (C := C) I
  have r2 : Vals (V.ref (s.heap.objs.size + 1) :: (vs ++ dvs)) (Value.ref (s.heap.objs.size + 1) :: (us ++ ds)) := .cons rfl (r.append hd)
  have hl : (Value.ref (s.heap.objs.size + 1) :: us ++ ds).length = ps.length := by
    have e := r2.length
    rw [F.len _ _ _ _ hq] at e
    exact e.symm
  refine wpAny_call (make_map (f := f) I.kIn M.makes M.init (beq_iff_eq.mp M.fn) (codeAny_mono (F.run _ X.stack _ _ ⟨Value.ref (s.heap.objs.size + 1) :: us, []⟩ (Value.ref (s.heap.objs.size + 1) :: (us ++ ds)) _ _ E (hr.make C us [])
    (I2.env0.make C us []) (hb _ (Value.ref (s.heap.objs.size + 1) :: us) I2.kIn hl) r2 hq) fun r s' hq' => ?_))
  cases r with
  | error e => exact hx pins σ _ _ e s' I2 hq'
  | ok fl =>
    cases fl with
    | ret u =>
      obtain ⟨v, H', I3, rv, ev, q3⟩ := I2.after hq'
      subst ev
      exact ⟨rv, ⟨V.ref (s.heap.objs.size + 1), H', I3, rfl, q3⟩⟩
    | next => exact False.elim hq'
    | brk => exact False.elim hq'
    | cont => exact False.elim hq'
end
section
variable {X : Cx} {CX : CXT} {k : Nat} {f C : Addr} {fd : FuncData} {ps ks : List Str} {sp : Sp} {E : XK} {x m : Str} {p pos apos kpos : Pos} {e o : Expr} {es : List Expr} {kws : List Keyword} {te ta : TE} {t tk : TA} {nm : Option Str}
variable {g : List Value → List Value → List Value} {gV : List V → List V → List V}
end
structure FnScope (N P : List Str) (sc : Scope) : Prop where
  kind : sc.kind = .function
  co : sc.isCoroutine = false
  gen : sc.isGenerator = false
  nd : N.Nodup
  pre : N.take P.length = P
  par : ∀ x ∈ P, sc.names.lookup x = some .local ∨ sc.names.lookup x = some .cell
  nofree : ∀ y ∈ sc.names, y.2 ≠ .free
theorem bindL_out {kindOf : Str → Option NameKind} {x : Str} : ∀ {binds : List (Str × Value)} {m : Str → Option Value}, (∀ v, (x, v) ∉ binds) → bindL kindOf binds m x = m x
  | [], _, _ => rfl
  | (n, v) :: r, m, h => by
    unfold bindL
    rw [bindL_out fun w hw => h w (List.mem_cons_of_mem _ hw)]
    split
    · have : x ≠ n := by rintro rfl; exact h v List.mem_cons_self
      simp [this]
    · rfl
theorem bindC_out {kindOf : Str → Option NameKind} {x : Str} : ∀ {binds : List (Str × Value)} {m : Str → Option Value}, (∀ v, (x, v) ∉ binds) → bindC kindOf binds m x = m x
  | [], _, _ => rfl
  | (n, v) :: r, m, h => by
    unfold bindC
    rw [bindC_out fun w hw => h w (List.mem_cons_of_mem _ hw)]
    split
    · rfl
    · have : x ≠ n := by rintro rfl; exact h v List.mem_cons_self
      simp [this]
theorem bindL_get {kindOf : Str → Option NameKind} {x : Str} {v : Value} : ∀ {P : List Str} {vs : List Value} {i : Nat} {m : Str → Option Value}, P.Nodup → P[i]? = some x → vs[i]? = some v → kindOf x = some .local →
    bindL kindOf (P.zip vs) m x = some v
  | [], _, _, _, _, h, _, _ => by simp at h
  | _ :: _, [], _, _, _, _, h, _ => by simp at h
  | p :: P, w :: vs, 0, m, nd, h1, h2, hk => by
    simp at h1 h2; subst h1; subst h2
    show bindL kindOf ((p, w) :: P.zip vs) m p = _
    unfold bindL
    rw [bindL_out fun v hv => (List.nodup_cons.mp nd).1 (List.of_mem_zip hv).1, if_pos hk]
    simp
  | p :: P, w :: vs, i + 1, m, nd, h1, h2, hk => by
    show bindL kindOf ((p, w) :: P.zip vs) m x = _
    unfold bindL
    exact bindL_get (i := i) (List.nodup_cons.mp nd).2 (by simpa using h1) (by simpa using h2) hk
theorem bindC_get {kindOf : Str → Option NameKind} {x : Str} {v : Value} : ∀ {P : List Str} {vs : List Value} {i : Nat} {m : Str → Option Value}, P.Nodup → P[i]? = some x → vs[i]? = some v → kindOf x ≠ some .local →
    bindC kindOf (P.zip vs) m x = some v
  | [], _, _, _, _, h, _, _ => by simp at h
  | _ :: _, [], _, _, _, _, h, _ => by simp at h
  | p :: P, w :: vs, 0, m, nd, h1, h2, hk => by
    simp at h1 h2; subst h1; subst h2
    show bindC kindOf ((p, w) :: P.zip vs) m p = _
    unfold bindC
    rw [bindC_out fun v hv => (List.nodup_cons.mp nd).1 (List.of_mem_zip hv).1, if_neg hk]
    simp
  | p :: P, w :: vs, i + 1, m, nd, h1, h2, hk => by
    show bindC kindOf ((p, w) :: P.zip vs) m x = _
    unfold bindC
    exact bindC_get (i := i) (List.nodup_cons.mp nd).2 (by simpa using h1) (by simpa using h2) hk
def start (N : List Str) (vs : List V) : St := vs.map some ++ List.replicate (N.length - vs.length) none
def cxOf (CX : CXT) (P : Program) (w : World) (K : PySem.W.Frag) (mg : Str → Option Value) (base : Heap) (N : List Str) (qual : Str) (scope : Scope) (f : Addr) (cd : Value) (A : Around) (outer : List Env) (s : Shared) (H : Hp) (E : XK) : Cx where
  prog := P
  w := w
  K := K
  mg := mg
  base := base
  A := A.deeper (envOfC qual scope s.heap.objs.size f cd)
  N := N
  s₀ := s
  H₀ := H
  env := envOfC qual scope s.heap.objs.size f cd
  outer := outer
  stack := envOfC qual scope s.heap.objs.size f cd :: outer
  ex := []
  calm := true
  fn := fun _ => true
  pn := []
  xe := fun e s' => wpAny (model P w) (A.deeper (envOfC qual scope s.heap.objs.size f cd)) (leaving (envOfC qual scope s.heap.objs.size f cd) e) (fun _ s'' => CX outer H s E e s'') (fun e' s'' => CX outer H s E e' s'') s'
theorem cell_has {sc : Scope} {n : Nat} {x : Str} (h : sc.names.lookup x = some .cell) : ∃ c, (cellsFrom n sc.names []).lookup x = some c := by
  have q := PySem.W.cellsFrom_some sc.names n [] (.inl h)
  exact Option.isSome_iff_exists.mp q
theorem inv_start {CX : CXT} {P : Program} {w : World} {K : PySem.W.Frag} {mg : Str → Option Value} {base : Heap} {N ps : List Str} {qual : Str} {scope : Scope} {f : Addr} {cd : Value} {A : Around} {outer : List Env} {s s1 : Shared} {H : Hp} {E : XK} {us : List Value} {vs : List V}
    (S : FnScope N ps scope) (hd : A.handled = none) (e0 : Env0 P w K mg base A outer s H) (hl : vs.length = ps.length) (r : Vals vs us)
    (x : InCallC s s.heap.objs.size (bindL (envOfC qual scope s.heap.objs.size f cd).kindOf (ps.zip us) fun _ => none) (cellsFrom (s.heap.objs.size + 1) scope.names []) (bindC (envOfC qual scope s.heap.objs.size f cd).kindOf (ps.zip us) fun _ => none) s1) :
    Inv (cxOf CX P w K mg base N qual scope f cd A outer s H E) [] (start N vs) H s1 := by
  have hpl : ps.length ≤ N.length := by have := congrArg List.length S.pre; rw [List.length_take] at this; omega
  obtain ⟨h1, tk, rfl, hk⟩ := x.done
  have noA : ∀ b : Addr, b ∉ (cxOf CX P w K mg base N qual scope f cd A outer s H E).ex := fun b z => absurd (show b ∈ ([] : List Addr) from z) (by simp)
  refine ⟨⟨e0.mod, S.kind, rfl, rfl, Nat.le_refl _, fun y z c h1 h2 => ?_, fun y hy => ?_, fun y c _ h => ?_, fun _ => hd, Around.frames_deeper e0.frames, .inr ⟨rfl, rfl⟩, fun b z => absurd z (noA b), e0.bs, e0.bsz, fun b _ _ => noA b, fun b z => absurd z (noA b), e0.funs, e0.frf⟩,
    rfl, e0.bare, Un.kept hk, ⟨_, x.toInCall.ns, fun i y v h1 h2 h3 => ?_⟩, fun y c h => ⟨_, x.cell y c h⟩, e0.hok.fresh (Nat.le_refl _), fun y c h => ?_, fun p hp => absurd (show p ∈ ([] : List (Addr × Obj)) from hp) (by simp), e0.hok.kept hk, ?_⟩
  · exact name_of_addr x.apart (PySem.mem_of_lookup h1) (PySem.mem_of_lookup h2)
  · have hy : scope.names.lookup y = some .cell ∨ scope.names.lookup y = some .free := hy
    rcases hy with hy | hy
    · exact cell_has hy
    · exact absurd rfl (S.nofree _ (PySem.mem_of_lookup hy))
  · exact Nat.le_of_lt (x.above y c (PySem.mem_of_lookup h))
  · have hi : i < vs.length := by
      unfold start at h2
      by_cases hi : i < vs.length
      · exact hi
      · rw [List.getElem?_append_right (by simpa using hi)] at h2
        rw [List.getElem?_replicate] at h2
        split at h2 <;> cases h2
    have ha : vs[i]? = some v := by
      unfold start at h2
      rw [List.getElem?_append_left (by simpa using hi), List.getElem?_map] at h2
      cases e : vs[i]? with
      | none => rw [e] at h2; cases h2
      | some a => rw [e] at h2; cases h2; rfl
    obtain ⟨u, hu, rv⟩ := r.get ha
    have hp : ps[i]? = some y := by
      rw [← S.pre, List.getElem?_take_of_lt (by omega)]; exact h1
    have ndP : ps.Nodup := by rw [← S.pre]; exact S.nd.sublist (List.take_sublist _ _)
    refine ⟨u, rv, ?_⟩
    rcases S.par y (List.mem_of_getElem? hp) with k | k
    · exact .inl ⟨k, bindL_get ndP hp hu k⟩
    · obtain ⟨c, e⟩ := cell_has (n := s.heap.objs.size + 1) k
      refine .inr ⟨.inl k, c, e, ?_⟩
      have q := x.cell y c e
      rw [bindC_get ndP hp hu (by show scope.names.lookup y ≠ _; rw [k]; decide)] at q
      exact q
  · exact e0.hok.fresh (Nat.le_of_lt (x.above y c (PySem.mem_of_lookup h)))
  · unfold start
    show _ = N.length
    rw [List.length_append, List.length_map, List.length_replicate]
    omega
theorem fn_of {CX : CXT} {P : Program} {w : World} {K : PySem.W.Frag} {mg : Str → Option Value} {base : Heap} {k : Nat} {f : Addr} {name qual : Str} {params : Arguments} {body : List Stmt} {scope : Scope} {dV kV doc pm cdv ct oc : Value} {an od : Option Addr}
    {osl : Array (Option Value)} {N ps : List Str} {sp : Sp} (lk : K.lookup f = some ⟨oc, od, .func (PySem.W.fnOf name qual params body scope dV kV doc pm an cdv ct), osl⟩) (hcd : PySem.W.codeIn K cdv qual = true) (S : FnScope N ps scope)
    (len : ∀ vs H Q E, sp vs H Q E → vs.length = ps.length)
    (hbody : ∀ (A : Around) (outer : List Env) (s : Shared) (H : Hp) (vs : List V) (Q : VK) (E : XK), Room k (A.deeper (envOfC qual scope s.heap.objs.size f cdv)) → sp vs H Q E →
      ∃ t, PSs (cxOf CX P w K mg base N qual scope f cdv A outer s H E) body t ∧ t { nx := fun _ H' => Q .non H', rt := Q } (start N vs) H) :
    FnOk P w K mg base CX (k + 1) f (PySem.W.fnOf name qual params body scope dV kV doc pm an cdv ct) ps sp := by
  refine ⟨len, fun A outer s H args us vs Q E hr e0 hb r hsp => ?_⟩
  have hl := len _ _ _ _ hsp
  have KX : K.In s.heap := e0.mod.kin.keeps fun b o e => (e0.bs b o e).1
  have lim : s.heap.NoLimit := e0.mod.nolimit.keeps fun b o e => (e0.bs b o e).1
  have hkind : ∀ y ∈ ps.zip us, scope.names.lookup y.1 = some .local ∨ (scope.names.lookup y.1 = some .cell ∧ ((cellsFrom (s.heap.objs.size + 1) scope.names []).lookup y.1).isSome = true) := fun ⟨n, v⟩ hy => by
    rcases S.par n (List.of_mem_zip hy).1 with q | q
    · exact .inl q
    · exact .inr ⟨q, PySem.W.cellsFrom_some _ _ _ (.inl q)⟩
  refine codeAny_call_function hr.depth (KX _ _ lk) rfl S.co S.gen rfl (PySem.W.codeRec_of KX hcd) (hb _ _ _ _ ?_)
  refine wpAny_newFunctionEnv_cells S.kind hkind fun env he s1 x => ?_
  subst he
  refine ⟨lim.keeps x.toInCall.keep, codeAny_func ?_⟩
  obtain ⟨t, ht, hq⟩ := hbody A outer s H vs Q E (hr.deeper _) hsp
  have I : Inv (cxOf CX P w K mg base N qual scope f cdv A outer s H E) [] (start N vs) H s1 := inv_start S hr.hd e0 hl r x
  refine wpAny_mono (ht [] s1 (start N vs) H _ I hq) (fun fl s' hs => ?_) fun e s' hs => hs
  have fin : ∀ {σ' : St} {H' : Hp} {v : V} {u : Value}, Inv (cxOf CX P w K mg base N qual scope f cdv A outer s H E) [] σ' H' s' → RelV v u → Q v H' → CE outer P w H s Q u s' :=
    fun {σ' H' v u} J rv q => ⟨v, H', J.os, J.bare, J.base, J.hok, rv, q⟩
  cases fl with
  | ret u =>
    obtain ⟨v, σ', H', J, rv, q⟩ := hs
    exact fin J rv q
  | next =>
    obtain ⟨σ', H', J, q⟩ := hs
    exact fin (v := V.non) (u := Value.none) J rfl q
  | brk =>
    obtain ⟨_, _, _, q⟩ := hs
    exact False.elim q
  | cont =>
    obtain ⟨_, _, _, q⟩ := hs
    exact False.elim q
end L2
namespace L2
open PySem PySem.Spec PyProof.Rows
section
variable {X : Cx} {x : Str} {p pos : Pos} {e : Expr} {es : List Expr} {t : TA} {id T : String} {r : List V → Hp → VK → Prop}
def tCB (r : List V → Hp → VK → Prop) (t : TA) : TE := fun σ H Q => t σ H fun vs H1 => r vs H1 Q
theorem pe_callB (hc : CallR X (.builtin id) r) (hg : Gl X x) (hm : X.mg x = none) (hv : bootBuiltins x = some (.builtin id)) (ha : PA X (e :: es) t) (hn : x ≠ "__name__" := by decide) (hdb : (x == ("__debug__" : Str)) = false := by decide)
    (he : starEach (e :: es) X.env = (false, eval e X.env) :: starEach es X.env := by rfl) (hpl : (backTo pos (starEach es X.env)).any (·.1) = false := by rfl) : PE X (.Call (.Name x p) (e :: es) [] pos) (tCB r t) := by
  intro pins s σ H Q I h
  refine wpAny_Call_Name_kw (ld_blt I hg hm hv ?_ hn hdb)
  exact PyProof.Rows.callWith_builtin1 (thn (ha pos pins s σ H _ I h) fun us s1 ⟨vs, H1, I1, r1, q1⟩ => hc pins s1 σ H1 vs us Q I1 r1 q1) he hpl
theorem pe_callTy (hc : CallR X (.type T) r) (hg : Gl X x) (hm : X.mg x = none) (hv : bootBuiltins x = some (.type T)) (ha : PA X (e :: es) t) (hn : x ≠ "__name__" := by decide) (hdb : (x == ("__debug__" : Str)) = false := by decide)
    (he : starEach (e :: es) X.env = (false, eval e X.env) :: starEach es X.env := by rfl) (hpl : (backTo pos (starEach es X.env)).any (·.1) = false := by rfl) : PE X (.Call (.Name x p) (e :: es) [] pos) (tCB r t) := by
  intro pins s σ H Q I h
  refine wpAny_Call_Name_kw (ld_blt I hg hm hv ?_ hn hdb)
  exact PyProof.Rows.callWith_type1 (thn (ha pos pins s σ H _ I h) fun us s1 ⟨vs, H1, I1, r1, q1⟩ => hc pins s1 σ H1 vs us Q I1 r1 q1) he hpl
end
end L2
namespace HT
open PySem PyProof.Rows
section
open PySem.SeqAt
open PySem.AutoSeq1 (wpAny_loadPart')
open PySem.MeetsSeq PySem.MeetsSeq2 PySem.MeetsSeq3
end
section
variable {prog : Program} {w : World} {A : Around} {E : Value → Shared → Prop} {s : Shared}
def sIx (n d : Nat) : Option Int → Nat
  | none => d
  | some v => if v < 0 then (v + (n : Int)).toNat else min v.toNat n
theorem sIx_none (n d : Nat) : sIx n d none = d := rfl
end
end HT
namespace L2
open PySem PySem.Spec PyProof.Rows
abbrev TO := St → Hp → (Option Int → Hp → Prop) → Prop
def PO (X : Cx) (e : Option Expr) (t : TO) : Prop :=
  ∀ (pins : List (Addr × Obj)) (s : Shared) (σ : St) (H : Hp) (Q : Option Int → Hp → Prop), Inv X pins σ H s → t σ H Q →
    wpAny (model X.prog X.w) X.A (evalPart e X.env) (fun u s' => ∃ o H', Inv X pins σ H' s' ∧ IsPart u o ∧ Q o H') X.xe s
def tNoPart : TO := fun _ H Q => Q none H
def tPart (t : TE) : TO := fun σ H Q => t σ H fun x H1 => ∃ i, x = .int i ∧ Q (some i) H1
section
variable {X : Cx} {e : Expr} {te : TE} {lo hi : Option Expr} {tl th : TO} {pos p2 : Pos}
theorem po_none : PO X none tNoPart := by
  intro pins s σ H Q I h
  rw [evalPart_none]
  exact wpAny_pure ⟨none, H, I, .none, h⟩
theorem po_some (h : PE X e te) : PO X (some e) (tPart te) := by
  intro pins s σ H Q I hw
  rw [evalPart_some]
  refine thn (h pins s σ H _ I hw) fun u s1 ⟨x, H1, I1, r1, q1⟩ => ?_
  obtain ⟨i, rfl, q⟩ := q1
  obtain ⟨t, rfl⟩ := r1
  exact ⟨some i, H1, I1, .int i t, q⟩
def SlR (X : Cx) (r : V → Option Int → Option Int → Hp → VK → Prop) : Prop :=
  ∀ (pins : List (Addr × Obj)) (s : Shared) (σ : St) (H : Hp) (x : V) (v vl vu : Value) (lo hi : Option Int) (sl : Addr) (Q : VK), Inv X pins σ H s → RelV x v → s.heap.IsSliceOf sl vl vu .none → IsPart vl lo → IsPart vu hi → r x lo hi H Q →
    ∃ T id, typeLookup (.type T) "__getitem__" = pure (some (.builtin id)) ∧ s.TypeIs v T ∧ wpAny (model X.prog X.w) X.A (getItem v (.ref sl)) (EP X pins σ Q) X.xe s
def tSl (r : V → Option Int → Option Int → Hp → VK → Prop) (te : TE) (tl th : TO) : TE := fun σ H Q => te σ H fun x H1 => tl σ H1 fun l H2 => th σ H2 fun u H3 => r x l u H3 Q
theorem pe_slice {r : V → Option Int → Option Int → Hp → VK → Prop} (hr : SlR X r) (he : PE X e te) (hl : PO X lo tl) (hu : PO X hi th) : PE X (.Subscript e (.Slice lo hi none p2) pos) (tSl r te tl th) := by
  intro pins s σ H Q I h
  refine Subscript_ (thn (he pins s σ H _ I h) fun v s1 ⟨x, H1, I1, r1, q1⟩ => ?_)
  refine wpAny_Slice (thn (hl pins s1 σ H1 _ I1 q1) fun vl s2 ⟨l, H2, I2, pl, q2⟩ => thn (hu pins s2 σ H2 _ I2 q2) fun vu s3 ⟨u, H3, I3, pu, q3⟩ => ?_)
  rw [evalPart_none]
  refine wpAny_pure ?_
  have I4 : Inv X pins σ H3 { s3 with heap := s3.heap.push { cls := .type "slice", data := .fields #[vl, vu, .none] } } := I3.kept (t' := s3.toks) fun b ob q => Heap.get?_push_of_some _ q
  obtain ⟨T, id, hT, ht, hg⟩ := hr pins { s3 with heap := s3.heap.push { cls := .type "slice", data := .fields #[vl, vu, .none] } } σ H3 x v vl vu l u s3.heap.objs.size Q I4 r1 (Heap.IsSliceOf.new ..) pl pu q3
  show wpAny (model X.prog X.w) X.A (subscriptTail e (.Slice lo hi none p2) v (.ref s3.heap.objs.size)) (EP X pins σ Q) X.xe { s3 with heap := s3.heap.push { cls := .type "slice", data := .fields #[vl, vu, .none] } }
  exact tail_any (ops := [.ref s3.heap.objs.size, v]) ht hT hg (by with_unfolding_all rfl)
def cutV (xs : List V) (lo hi : Option Int) : List V := (xs.drop (HT.sIx xs.length 0 lo)).take (HT.sIx xs.length xs.length hi - HT.sIx xs.length 0 lo)
theorem cutV_length (xs : List V) (lo hi : Option Int) : (cutV xs lo hi).length ≤ xs.length := by
  unfold cutV
  rw [List.length_take, List.length_drop]
  omega
end
end L2
namespace L2
open PySem PySem.Spec PyProof.Rows
def ixN (n : Nat) (i : Int) : Option Nat := if 0 ≤ i then (if i < n then some i.toNat else none) else if -(n : Int) ≤ i then some (i + n).toNat else none
def atI {α : Type} (xs : List α) (i : Int) : Option α := (ixN xs.length i).bind fun j => xs[j]?
theorem ixN_seq {n : Nat} {i : Int} {j : Nat} (h : ixN n i = some j) : seqIndex? i n = some j ∧ j < n ∧ -(n : Int) ≤ i ∧ i < n := by
  unfold ixN at h
  by_cases h0 : 0 ≤ i
  · rw [if_pos h0] at h
    by_cases h1 : i < n
    · rw [if_pos h1] at h
      have e : i.toNat = j := Option.some.inj h
      exact ⟨by rw [seqIndex_of h0 h1, e], by omega, by omega, h1⟩
    · rw [if_neg h1] at h; cases h
  · rw [if_neg h0] at h
    by_cases h1 : -(n : Int) ≤ i
    · rw [if_pos h1] at h
      have e : (i + n).toNat = j := Option.some.inj h
      exact ⟨by rw [seqIndex_neg (by omega) h1, e], by omega, h1, by omega⟩
    · rw [if_neg h1] at h; cases h
theorem atI_get {α : Type} {xs : List α} {i : Int} {v : α} (h : atI xs i = some v) : ∃ j, seqIndex? i xs.length = some j ∧ xs[j]? = some v ∧ j < xs.length ∧ -(xs.length : Int) ≤ i ∧ i < xs.length := by
  unfold atI at h
  cases e : ixN xs.length i with
  | none => rw [e] at h; cases h
  | some j =>
    rw [e] at h
    obtain ⟨h1, h2, h3, h4⟩ := ixN_seq e
    exact ⟨j, h1, h, h2, h3, h4⟩
theorem atI_nat {α : Type} {xs : List α} {j : Nat} {v : α} (h : xs[j]? = some v) : atI xs (j : Int) = some v := by
  have hj : j < xs.length := (List.getElem?_eq_some_iff.mp h).1
  have e : ixN xs.length (j : Int) = some j := by
    unfold ixN
    rw [if_pos (by omega), if_pos (by omega)]; simp
  unfold atI; rw [e]; exact h
def PlainIx (b : Expr) : Prop := ∀ o i, subscripted b false o i = operate [o, i] (getItem o i)
def IxR (X : Cx) (r : R2) : Prop :=
  ∀ (value slice : Expr) (pins : List (Addr × Obj)) (s : Shared) (σ : St) (H : Hp) (x y : V) (v u : Value) (Q : VK), Inv X pins σ H s → RelV x v → RelV y u → r x y H Q →
    subscripted slice false v u = operate [v, u] (getItem v u) → wpAny (model X.prog X.w) X.A (subscriptTail value slice v u) (EP X pins σ Q) X.xe s
def MtR (X : Cx) (id : String) (r : V → List V → Hp → VK → Prop) : Prop :=
  ∀ (pins : List (Addr × Obj)) (s : Shared) (σ : St) (H : Hp) (x : V) (xs : List V) (v : Value) (us : List Value) (Q : VK), Inv X pins σ H s → RelV x v → Vals xs us → r x xs H Q →
    wpAny (model X.prog X.w) X.A (call (.builtin id) (v :: us)) (EP X pins σ Q) X.xe s
section
variable {X : Cx} {a b : Expr} {ta tb : TE} {pos : Pos}
theorem pe_ix {r : R2} (hr : IxR X r) (ha : PE X a ta) (hb : PE X b tb) (hs : PlainIx b) : PE X (.Subscript a b pos) (tOp r ta tb) := by
  intro pins s σ H Q I h
  exact Subscript_ (binT ha hb I h fun v u s2 x y H2 I2 rx ry q => hr a b pins s2 σ H2 x y v u Q I2 rx ry q (hs _ _))
def rIxL (K : PySem.W.Frag) : R2 := fun x y H Q => ∃ p xs i v, x = .ref p ∧ y = .int i ∧ SqL K H p xs ∧ atI xs i = some v ∧ Q v H
def rIxT (K : PySem.W.Frag) : R2 := fun x y H Q => ∃ p xs i v, x = .ref p ∧ y = .int i ∧ SqT K H p xs ∧ atI xs i = some v ∧ Q v H
theorem ix_list : IxR X (rIxL X.K) := by
  intro value slice pins s σ H x y v u Q I rx ry h hs
  obtain ⟨p, xs, i, z, rfl, rfl, hq, he, q⟩ := h
  cases rx
  obtain ⟨t, rfl⟩ := ry
  obtain ⟨its, r, pl, hz⟩ := I.list hq
  obtain ⟨j, h1, h2, h3, h4, h5⟩ := atI_get he
  obtain ⟨w, ew, rw'⟩ := r.get h2
  have hl := r.length
  have hn := line63
  have fin : EP X pins σ Q w s := ⟨z, H, I, rw', q⟩
  by_cases h0 : 0 ≤ i
  · have hj : i.toNat = j := by
      rw [seqIndex_of h0 h5] at h1
      exact Option.some.inj h1
    exact item_listR pl.isList h0 (by omega) (by rw [hj]; simpa using ew) fin hs
  · have hj : (i + (its.toArray.size : Int)).toNat = j := by
      rw [seqIndex_neg (by omega) h4] at h1
      rw [List.size_toArray, ← hl]
      exact Option.some.inj h1
    exact subscriptTail_builtinR (x := w) pl.isList.typeIs slot_list_getitem.lookup
      (wpAny_getItem_list_neg (Q := fun r s' => r = w ∧ EP X pins σ Q r s') pl.isList (by omega) (by rw [List.size_toArray] <;> omega) (by omega) (by rw [hj]; simpa using ew) ⟨rfl, fin⟩) hs
theorem ix_tup : IxR X (rIxT X.K) := by
  intro value slice pins s σ H x y v u Q I rx ry h hs
  obtain ⟨p, xs, i, z, rfl, rfl, hq, he, q⟩ := h
  cases rx
  obtain ⟨t, rfl⟩ := ry
  obtain ⟨its, r, pl, hz⟩ := I.tuple hq
  obtain ⟨j, h1, h2, h3, h4, h5⟩ := atI_get he
  obtain ⟨w, ew, rw'⟩ := r.get h2
  have hl := r.length
  have hn := line63
  have fin : EP X pins σ Q w s := ⟨z, H, I, rw', q⟩
  exact subscriptTail_builtinR (x := w) pl.typeIs slot_tuple_getitem.lookup
    (getItem_tuple (j := j) (Q := fun r s' => r = w ∧ EP X pins σ Q r s') pl (by omega) (by omega) (by rw [List.size_toArray, ← hl]; exact h1) (by simpa using ew) ⟨rfl, fin⟩) hs
theorem mapSeq_set (its : List Value) (n j : Nat) (u : Value) : Obj.mapSeq (·.setIfInBounds j u) { cls := .type "list", data := .seq its.toArray n } = { cls := .type "list", data := .seq (its.set j u).toArray n } := by
  simp [Obj.mapSeq]
theorem Inv.lst {pins : List (Addr × Obj)} {σ : St} {H : Hp} {s : Shared} {p : Addr} {xs : List V} (I : Inv X pins σ H s) (h : H p = some (.lst xs)) :
    ∃ (its : List Value) (n : Nat), Vals xs its ∧ s.heap.get? p = some { cls := .type "list", data := .seq its.toArray n } ∧ xs.length ≤ sizeLine := by
  obtain ⟨z, its, n, r, e⟩ := I.hok p _ h
  exact ⟨its, n, r, e, z⟩
theorem Inv.lstUpd {pins : List (Addr × Obj)} {σ : St} {H : Hp} {s : Shared} {p : Addr} {xs ys : List V} {its its' : List Value} {n n' : Nat} {f : Obj → Obj} (I : Inv X pins σ H s) (h : H p = some (.lst xs))
    (ho : s.heap.get? p = some { cls := .type "list", data := .seq its.toArray n }) (hf : f { cls := .type "list", data := .seq its.toArray n } = { cls := .type "list", data := .seq its'.toArray n' }) (r : Vals ys its') (hz : ys.length ≤ sizeLine) (t : Nat) :
    Inv X pins σ (upd H p (.lst ys)) { s with heap := s.heap.update p f, toks := t } := by
  have e : (s.heap.update p f).get? p = some { cls := .type "list", data := .seq its'.toArray n' } := by
    rw [Heap.get?_update_self f ho (by rw [hf] <;> rfl), hf]
  refine I.write (x := p) (e := p) (by rw [h]; trivial) (.inl rfl) (fun b u hb q => (Heap.get?_update_other _ _ (Ne.symm hb)).trans q) ⟨_, e⟩ ?_
  exact ⟨hz, its', n', r, e⟩
def rSetL : V → V → V → Hp → (Hp → Prop) → Prop := fun o i v H Q => ∃ p xs k j, o = .ref p ∧ i = .int k ∧ H p = some (.lst xs) ∧ ixN xs.length k = some j ∧ Q (upd H p (.lst (xs.set j v)))
theorem set_list : PSet X rSetL := by
  intro pins s σ H o i v ov iv u Q I ro ri rv h
  obtain ⟨p, xs, k, j, rfl, rfl, hp, hj, q⟩ := h
  cases ro
  obtain ⟨t, rfl⟩ := ri
  obtain ⟨its, n, r, ho, hz⟩ := I.lst hp
  obtain ⟨h1, h2, h3, h4⟩ := ixN_seq hj
  have hl := r.length
  have hn := line63
  have I' : Inv X pins σ (upd H p (.lst (xs.set j v))) { s with heap := s.heap.update p (Obj.mapSeq (·.setIfInBounds j u)) } :=
    I.lstUpd hp ho (mapSeq_set its n j u) (r.set rv j) (by rw [List.length_set]; exact hz) s.toks
  by_cases h0 : 0 ≤ k
  · have hk : k.toNat = j := by
      rw [seqIndex_of h0 h4] at h1
      exact Option.some.inj h1
    exact PySem.W.ki_setAt ho h0 (by omega) (by rw [List.size_toArray, ← hl]; exact h4) (by rw [hk]; exact ⟨_, I', q⟩)
  · have hk : (k + (its.toArray.size : Int)).toNat = j := by
      rw [seqIndex_neg (by omega) h3] at h1
      rw [List.size_toArray, ← hl]
      exact Option.some.inj h1
    exact PySem.W.ki_setBack ho (by omega) (by rw [List.size_toArray, ← hl]; exact h3) (by omega) (by rw [hk]; exact ⟨_, I', q⟩)
theorem slice_bounds (lo hi : Option Int) (n : Nat) : (sliceBounds lo hi none n).1 = ((HT.sIx n 0 lo : Nat) : Int) ∧ (sliceBounds lo hi none n).2.1 = ((HT.sIx n n hi : Nat) : Int) ∧ (sliceBounds lo hi none n).2.2 = 1 := by
  refine ⟨?_, ?_, rfl⟩
  · cases lo with
    | none => simp [sliceBounds, HT.sIx]
    | some i =>
      simp only [sliceBounds, HT.sIx, Option.getD_none, show (1 : Int) > 0 by decide, if_true]
      by_cases h : i < 0
      · simp only [h, if_true] <;> omega
      · simp only [h, if_false] <;> omega
  · cases hi with
    | none => simp [sliceBounds, HT.sIx]
    | some i =>
      simp only [sliceBounds, HT.sIx, Option.getD_none, show (1 : Int) > 0 by decide, if_true]
      by_cases h : i < 0
      · simp only [h, if_true] <;> omega
      · simp only [h, if_false] <;> omega
theorem slicePick_cut (its : List Value) (lo hi : Option Int) : slicePick its.toArray lo hi none = ((its.drop (HT.sIx its.length 0 lo)).take (HT.sIx its.length its.length hi - HT.sIx its.length 0 lo)).toArray := by
  obtain ⟨h1, h2, h3⟩ := slice_bounds lo hi its.toArray.size
  unfold slicePick
  rw [h1, h2, h3]
  simp only [sliceRange_one, pick_run, List.size_toArray] <;> rfl
def rSlL (K : PySem.W.Frag) : V → Option Int → Option Int → Hp → VK → Prop := fun x lo hi H Q => ∃ a xs, x = .ref a ∧ SqL K H a xs ∧ ∀ p, H p = none → Q (.ref p) (upd H p (.lst (cutV xs lo hi)))
theorem sl_list : SlR X (rSlL X.K) := by
  intro pins s σ H x v vl vu lo hi sl Q I rx hs pl pu h
  obtain ⟨a, xs, rfl, hx, q⟩ := h
  cases rx
  obtain ⟨its, r, ht, hz⟩ := I.list hx
  have hlen := r.length
  refine ⟨"list", _, slot_list_getitem.lookup, ht.isList.typeIs, ?_⟩
  refine wpAny_getItem_list_slice ht.isList hs pl pu .none (by simp) ?_ (by rw [List.size_toArray] <;> omega)
  rw [slicePick_cut, ← hlen]
  refine ⟨.ref s.heap.objs.size, _, I.laid (t' := s.toks) (o := .lst (cutV xs lo hi)) (fun b ob q => Heap.get?_push_of_some _ q) (Nat.le_refl _) ?_, rfl, q _ (I.hok.fresh (Nat.le_refl _))⟩
  exact ⟨Nat.le_trans (cutV_length xs lo hi) hz, _, 0, (r.drop (HT.sIx xs.length 0 lo)).take (HT.sIx xs.length xs.length hi - HT.sIx xs.length 0 lo), Heap.get?_push_size _ rfl⟩
def flatV : V → Bool
  | .non => true
  | .bl _ => true
  | .int _ => true
  | .str _ => true
  | _ => false
def eqV : V → V → Bool
  | .non, .non => true
  | .bl a, .bl b => a == b
  | .bl a, .int b => (if a then 1 else 0) == b
  | .int a, .bl b => a == (if b then 1 else 0)
  | .int a, .int b => a == b
  | .str a, .str b => a == b
  | _, _ => false
theorem eqAt_V {A : Around} {s : Shared} {y x : V} {u v : Value} (ry : RelV y u) (rx : RelV x v) (fy : flatV y = true) (fx : flatV x = true) : SeqAt.EqAt A s u v (eqV y x) := by
  cases y with
  | non =>
    cases ry
    cases x with
    | non => cases rx; exact SeqAt.EqAt.same _
    | bl b => cases rx; exact SeqAt.EqAt.none_bool b
    | int b => obtain ⟨t, rfl⟩ := rx; exact SeqAt.EqAt.none_int b t
    | str b => obtain ⟨t, rfl⟩ := rx; exact SeqAt.EqAt.none_str b t
    | _ => exact absurd (show false = true from fx) Bool.false_ne_true
  | bl a =>
    cases ry
    cases x with
    | non => cases rx; exact SeqAt.EqAt.bool_none a
    | bl b => cases rx; exact SeqAt.EqAt.bool_bool a b
    | int b => obtain ⟨t, rfl⟩ := rx; exact SeqAt.EqAt.bool_int a b t
    | str b => obtain ⟨t, rfl⟩ := rx; exact SeqAt.EqAt.bool_str a b t
    | _ => exact absurd (show false = true from fx) Bool.false_ne_true
  | int a =>
    obtain ⟨t', rfl⟩ := ry
    cases x with
    | non => cases rx; exact SeqAt.EqAt.int_none a t'
    | bl b => cases rx; exact SeqAt.EqAt.int_bool a t' b
    | int b => obtain ⟨t, rfl⟩ := rx; exact SeqAt.EqAt.int_int a t' b t
    | str b => obtain ⟨t, rfl⟩ := rx; exact SeqAt.EqAt.int_str a t' b t
    | _ => exact absurd (show false = true from fx) Bool.false_ne_true
  | str a =>
    obtain ⟨t', rfl⟩ := ry
    cases x with
    | non => cases rx; exact SeqAt.EqAt.str_none a t'
    | bl b => cases rx; exact SeqAt.EqAt.str_bool a t' b
    | int b => obtain ⟨t, rfl⟩ := rx; exact SeqAt.EqAt.str_int a t' b t
    | str b => obtain ⟨t, rfl⟩ := rx; exact SeqAt.EqAt.str_str a t' b t
    | _ => exact absurd (show false = true from fx) Bool.false_ne_true
  | _ => exact absurd (show false = true from fy) Bool.false_ne_true
def eqU (x : V) (u : Value) : Bool := match u with
  | .none => eqV .non x
  | .bool b => eqV (.bl b) x
  | .int i _ => eqV (.int i) x
  | .str z _ => eqV (.str z) x
  | _ => false
theorem eqU_of {x y : V} {u : Value} (r : RelV y u) (f : flatV y = true) : eqU x u = eqV y x := by
  cases y with
  | non => cases r; rfl
  | bl b => cases r; rfl
  | int i => obtain ⟨t, rfl⟩ := r; rfl
  | str z => obtain ⟨t, rfl⟩ := r; rfl
  | _ => exact absurd (show false = true from f) Bool.false_ne_true
theorem any_eqU {x : V} : ∀ {xs : List V} {us : List Value}, Vals xs us → xs.all flatV = true → us.any (eqU x) = xs.any fun y => eqV y x
  | _, _, .nil, _ => rfl
  | y :: xs, u :: us, .cons r t, f => by
    rw [List.all_cons, Bool.and_eq_true] at f
    rw [List.any_cons, List.any_cons, eqU_of r f.1, any_eqU t f.2]
theorem mem_eqAt {A : Around} {s : Shared} {x : V} {v : Value} (rx : RelV x v) (fx : flatV x = true) : ∀ {xs : List V} {us : List Value}, Vals xs us → xs.all flatV = true → ∀ u ∈ us, SeqAt.EqAt A s u v (eqU x u)
  | _, _, .nil, _ => fun u hu => by cases hu
  | y :: xs, u :: us, .cons r t, f => fun u' hu => by
    rw [List.all_cons, Bool.and_eq_true] at f
    rcases List.mem_cons.mp hu with rfl | hu
    · rw [eqU_of r f.1]; exact eqAt_V r rx f.1 fx
    · exact mem_eqAt rx fx t f.2 u' hu
def inV (x : V) (xs : List V) : Bool := xs.any fun y => eqV y x
def rIn (K : PySem.W.Frag) (neg : Bool) : R2 := fun x y H Q => ∃ p xs, y = .ref p ∧ (SqL K H p xs ∨ SqT K H p xs) ∧ flatV x = true ∧ xs.all flatV = true ∧ Q (.bl (if neg then !inV x xs else inV x xs)) H
theorem op_in_seq : OpR X (compareOp .In) (rIn X.K false) := by
  intro pins s σ H x y v u Q I rx ry h
  obtain ⟨p, xs, rfl, hq, fx, fs, q⟩ := h
  cases ry
  rcases hq with hq | hq
  · obtain ⟨its, r, pl, hz⟩ := I.list hq
    refine SeqAt.in_listAt (eqU x) pl.isList (fun w hw => mem_eqAt rx fx r fs w (by simpa using hw)) ⟨.bl _, H, I, rfl, ?_⟩
    rw [show its.toArray.any (eqU x) = its.any (eqU x) by simp, any_eqU r fs]
    exact q
  · obtain ⟨its, r, pl, hz⟩ := I.tuple hq
    refine SeqAt.in_tupleAt (eqU x) pl (fun w hw => mem_eqAt rx fx r fs w (by simpa using hw)) ⟨.bl _, H, I, rfl, ?_⟩
    rw [show its.toArray.any (eqU x) = its.any (eqU x) by simp, any_eqU r fs]
    exact q
theorem op_notIn_seq : OpR X (compareOp .NotIn) (rIn X.K true) := by
  intro pins s σ H x y v u Q I rx ry h
  obtain ⟨p, xs, rfl, hq, fx, fs, q⟩ := h
  cases ry
  rcases hq with hq | hq
  · obtain ⟨its, r, pl, hz⟩ := I.list hq
    refine SeqAt.notIn_listAt (eqU x) pl.isList (fun w hw => mem_eqAt rx fx r fs w (by simpa using hw)) ⟨.bl _, H, I, rfl, ?_⟩
    rw [show its.toArray.any (eqU x) = its.any (eqU x) by simp, any_eqU r fs]
    exact q
  · obtain ⟨its, r, pl, hz⟩ := I.tuple hq
    refine SeqAt.notIn_tupleAt (eqU x) pl (fun w hw => mem_eqAt rx fx r fs w (by simpa using hw)) ⟨.bl _, H, I, rfl, ?_⟩
    rw [show its.toArray.any (eqU x) = its.any (eqU x) by simp, any_eqU r fs]
    exact q
theorem call_len_seq : CallR X (.builtin "len") (fun xs H Q => ∃ p ys, xs = [.ref p] ∧ (SqL X.K H p ys ∨ SqT X.K H p ys) ∧ Q (.int ys.length) H) := by
  intro pins s σ H xs us Q I r h
  obtain ⟨p, ys, rfl, hq, q⟩ := h
  obtain ⟨u, rfl, rx⟩ := vals1 r
  cases rx
  have hn := line63
  rcases hq with hq | hq
  · obtain ⟨its, r', pl, hz⟩ := I.list hq
    have hlen := r'.length
    exact Calls.call_len_list pl.isList (by simp only [List.size_toArray] <;> omega) ⟨.int ys.length, H, I.tok _, ⟨s.toks + 1, by rw [List.size_toArray, hlen]⟩, q⟩
  · obtain ⟨its, r', pl, hz⟩ := I.tuple hq
    have hlen := r'.length
    exact len_tuple pl (by simp only [List.size_toArray] <;> omega) ⟨.int ys.length, H, I.tok _, ⟨s.toks + 1, by rw [List.size_toArray, hlen]⟩, q⟩
theorem call_list_of : CallR X (.type "list") (fun xs H Q => ∃ p ys, xs = [.ref p] ∧ (SqL X.K H p ys ∨ SqT X.K H p ys) ∧ ∀ l, H l = none → Q (.ref l) (upd H l (.lst ys))) := by
  intro pins s σ H xs us Q I r h
  obtain ⟨p, ys, rfl, hq, q⟩ := h
  obtain ⟨u, rfl, rx⟩ := vals1 r
  cases rx
  have fin : ∀ (its : List Value), Vals ys its → ys.length ≤ sizeLine → ∀ (h' : Heap) (c' : Nat), (∀ b o', s.heap.get? b = some o' → h'.get? b = some o') →
      h'.get? s.heap.objs.size = some { cls := .type "list", dict := none, data := .seq its.toArray c', slots := #[] } → EP X pins σ Q (.ref s.heap.objs.size) { s with heap := h' } := fun its r' hz h' c' kp e =>
    ⟨.ref s.heap.objs.size, _, I.laid (t' := s.toks) kp (Nat.le_refl _) (show ObjOk X.prog X.w _ h' _ (.lst ys) from ⟨hz, its, c', r', e⟩), rfl, q _ (I.hok.fresh (Nat.le_refl _))⟩
  rcases hq with hq | hq
  · obtain ⟨its, r', pl, hz⟩ := I.list hq
    have hlen := r'.length
    obtain ⟨o, ho, hc, n, hd⟩ := pl.isList
    exact call_list_seq p (.inl rfl) ho hc hd (fun h' c' kp e => fin its r' hz h' c' kp e) (by simp only [List.size_toArray] <;> omega)
  · obtain ⟨its, r', pl, hz⟩ := I.tuple hq
    have hlen := r'.length
    obtain ⟨o, ho, hc, n, hd⟩ := pl
    exact call_list_seq p (.inr rfl) ho hc hd (fun h' c' kp e => fin its r' hz h' c' kp e) (by simp only [List.size_toArray] <;> omega)
theorem call_tuple_of : CallR X (.type "tuple") (fun xs H Q => ∃ p ys, xs = [.ref p] ∧ ((SqL X.K H p ys ∧ ∀ l, H l = none → Q (.ref l) (upd H l (.tup ys))) ∨ (SqT X.K H p ys ∧ Q (.ref p) H))) := by
  intro pins s σ H xs us Q I r h
  obtain ⟨p, ys, rfl, h⟩ := h
  obtain ⟨u, rfl, rx⟩ := vals1 r
  cases rx
  rcases h with ⟨hq, q⟩ | ⟨hq, q⟩
  · obtain ⟨its, r', pl, hz⟩ := I.list hq
    have hlen := r'.length
    refine call_tuple_list pl.isList (fun h' kp => ?_) (by simp only [List.size_toArray] <;> omega)
    have I1 : Inv X pins σ H { s with heap := h' } := I.kept (t' := s.toks) kp
    have I2 : Inv X pins σ (upd H h'.objs.size (.tup ys)) { s with heap := h'.push { cls := .type "tuple", data := .seq its.toArray } } :=
      I1.laid (t' := s.toks) (fun b o e => Heap.get?_push_of_some _ e) (Nat.le_refl _) (show ObjOk X.prog X.w _ _ _ (.tup ys) from ⟨hz, its, r', IsTup.new _ _⟩)
    exact ⟨.ref h'.objs.size, _, I2, rfl, q _ (I1.hok.fresh (Nat.le_refl _))⟩
  · obtain ⟨its, r', pl, hz⟩ := I.tuple hq
    exact call_tuple_same pl ⟨.ref p, H, I, rfl, q⟩
def tyV (K : PySem.W.Frag) (T : String) (x : V) (H : Hp) : Prop := match x with
  | .str _ => T = "str"
  | .int _ => T = "int"
  | .ref p => (T = "list" ∧ ∃ xs, SqL K H p xs) ∨ (T = "tuple" ∧ ∃ o, K.lookup p = some o ∧ o.cls = .type "tuple" ∧ o.dict = none) ∨
      (T = "dict" ∧ ((∃ kvs, H p = some (.dK kvs)) ∨ ∃ kvs, H p = some (.dT kvs))) ∨ (T = "set" ∧ ∃ S n, H p = some (.set S n))
  | _ => False
theorem tyV_is {pins : List (Addr × Obj)} {σ : St} {H : Hp} {s : Shared} {T : String} {x : V} {v : Value} (I : Inv X pins σ H s) (r : RelV x v) (ty : tyV X.K T x H) :
    s.TypeIs v T ∧ ∀ a, v = .ref a → ∃ ob, s.heap.get? a = some ob ∧ ob.dict = none := by
  cases x with
  | str z =>
    obtain ⟨t, rfl⟩ := r
    cases (show T = "str" from ty)
    exact ⟨typeIs_str s z t, fun _ e => nomatch e⟩
  | int i =>
    obtain ⟨t, rfl⟩ := r
    cases (show T = "int" from ty)
    exact ⟨typeIs_int s i t, fun _ e => nomatch e⟩
  | ref p =>
    cases r
    rcases ty with ⟨rfl, xs, hq⟩ | ⟨rfl, o, hk, hc, hd⟩ | ⟨rfl, hk⟩ | ⟨rfl, S, n, hk⟩
    · obtain ⟨its, _, pl, _⟩ := I.list hq
      refine ⟨pl.isList.typeIs, fun a e => ?_⟩
      cases e
      obtain ⟨o, n, e, c, hd, _⟩ := pl
      exact ⟨o, e, hd⟩
    · refine ⟨⟨o, I.kIn p o hk, hc⟩, fun a e => ?_⟩
      cases e
      exact ⟨o, I.kIn _ o hk, hd⟩
    · have z : ∃ o, s.heap.get? p = some o ∧ o.ExactDict := by
        rcases hk with ⟨kvs, hk⟩ | ⟨kvs, hk⟩
        · obtain ⟨_, _, _, _, o, _, _, e, ex, _⟩ := I.hok p _ hk
          exact ⟨o, e, ex⟩
        · obtain ⟨_, _, _, _, o, _, _, e, ex, _⟩ := I.hok p _ hk
          exact ⟨o, e, ex⟩
      obtain ⟨o, e, ex⟩ := z
      refine ⟨⟨o, e, ex.1⟩, fun a e2 => ?_⟩
      cases e2
      exact ⟨o, e, ex.2.1⟩
    · obtain ⟨o, _, _, _, e, ex, _⟩ := I.hok p _ hk
      refine ⟨⟨o, e, ex.1⟩, fun a e2 => ?_⟩
      cases e2
      exact ⟨o, e, ex.2.1⟩
  | _ => exact False.elim ty
def tBM (K : PySem.W.Frag) (T : String) (r : V → List V → Hp → VK → Prop) (to : TE) (t : TA) : TE := fun σ H Q => to σ H fun x H1 => tyV K T x H1 ∧ t σ H1 fun xs H2 => r x xs H2 Q
variable {o e : Expr} {es : List Expr} {to : TE} {t : TA} {name : Str} {apos cpos : Pos} {T id : String} {r : V → List V → Hp → VK → Prop}
theorem pe_bm (pa : PlainAttrs T) (slot : Slot T name id) (hty : typeOf (.builtin id) = pure (.type "method_descriptor")) (hm : MtR X id r) (ho : PE X o to) (ha : PA X (e :: es) t)
    (hbase : attributeBase o name X.env (eval o X.env) = eval o X.env := by rfl)
    (hfew : ((backTo cpos (starEach (e :: es) X.env)).all (fun x => !x.1) && (backToKw cpos (keywordEach [] X.env)).all (fun x => x.1.isSome)
      && decide ((e :: es).length + ([] : List Keyword).length + (if ([] : List Keyword).isEmpty then 0 else 1) < 30)) = true := by rfl)
    (hline : (apos.endLine == cpos.line) = true := by rfl) (hs : starEach (e :: es) X.env = (false, eval e X.env) :: starEach es X.env := by rfl) (hplain : (backTo cpos (starEach es X.env)).any (·.1) = false := by rfl) :
    PE X (.Call (.Attribute o name apos) (e :: es) [] cpos) (tBM X.K T r to t) := by
  intro pins s σ H Q I h
  refine wpAny_Call_method_late hbase hfew hline rfl (thn (ho pins s σ H _ I h) fun v s1 ⟨x, H1, I1, r1, ty, q1⟩ => ?_)
  obtain ⟨h1, h2⟩ := tyV_is I1 r1 ty
  refine ⟨T, id, pa, slot, hty, h1, h2, ?_⟩
  have hA := ha cpos pins s1 σ H1 _ I1 q1
  rw [hs] at hA ⊢
  refine Calls.callWith_builtin (by show (false || (backTo cpos (starEach es X.env)).any (·.1)) = false; rw [hplain] <;> rfl) (Calls.evalArgs_plain ?_)
  exact thn hA fun us s2 ⟨vs, H2, I2, r2, q2⟩ => hm pins s2 σ H2 x vs v us Q I2 r1 r2 q2
end
end L2
namespace L2
open PySem PySem.Spec PyProof.Rows
def MtM (X : Cx) (id : String) (r : V → List V → Hp → VK → Prop) : Prop :=
  ∀ (pins : List (Addr × Obj)) (s : Shared) (σ : St) (H : Hp) (x : V) (xs : List V) (v : Value) (us : List Value) (Q : VK), Inv X pins σ H s → RelV x v → Vals xs us → r x xs H Q →
    wpAny (model X.prog X.w) X.A (call (.builtin id) (v :: us)) (EP X pins σ Q) X.xe s
theorem Vals.one : ∀ {x : V} {us : List Value}, Vals [x] us → ∃ u, us = [u] ∧ RelV x u
  | _, _, .cons r .nil => ⟨_, rfl, r⟩
theorem Vals.eraseIdx : ∀ {xs : List V} {us : List Value} (i : Nat), Vals xs us → Vals (xs.eraseIdx i) (us.eraseIdx i)
  | _, _, _, .nil => .nil
  | _, _, 0, .cons _ t => t
  | _, _, i + 1, .cons r t => .cons r (Vals.eraseIdx i t)
theorem Vals.rep {xs : List V} {us : List Value} (h : Vals xs us) : ∀ k : Nat, Vals (List.replicate k xs).flatten (List.replicate k us).flatten
  | 0 => .nil
  | k + 1 => by
    rw [List.replicate_succ, List.replicate_succ, List.flatten_cons, List.flatten_cons]
    exact Vals.append h (Vals.rep h k)
theorem foldl_rep (its : List Value) : ∀ (k : Nat) (acc : List Value),
    List.foldl (fun x1 x2 => x1 ++ x2) acc.toArray (List.replicate k its.toArray) = (acc ++ (List.replicate k its).flatten).toArray
  | 0, acc => by simp
  | k + 1, acc => by
    have e : acc.toArray ++ its.toArray = (acc ++ its).toArray := by simp
    have e2 : (acc ++ its) ++ (List.replicate k its).flatten = acc ++ (List.replicate (k + 1) its).flatten := by
      rw [List.replicate_succ, List.flatten_cons, List.append_assoc]
    rw [← e2, ← foldl_rep its k (acc ++ its), ← e, List.replicate_succ, List.foldl_cons]
section
variable {X : Cx} {pins : List (Addr × Obj)} {σ : St} {H : Hp} {s : Shared} {l b : Addr} {xs ys zs : List V}
theorem Inv.lset {its its' : List Value} {n : Nat} {f : Array Value → Array Value} {t' : Nat} (I : Inv X pins σ H s) (hH : H l = some (.lst xs))
    (e : s.heap.get? l = some { cls := .type "list", data := .seq its.toArray n }) (hf : f its.toArray = its'.toArray) (hv : Vals ys its') (hz : ys.length ≤ sizeLine) :
    Inv X pins σ (upd H l (.lst ys)) { s with heap := s.heap.update l (Obj.mapSeq f), toks := t' } := by
  have q := PySem.IsL.update e f
  rw [hf] at q
  refine I.write (x := l) (e := l) (by rw [hH]; exact trivial) (.inl rfl) (fun b' u hb hu => (Heap.get?_update_other s.heap (Obj.mapSeq f) (Ne.symm hb)).trans hu) ⟨_, q⟩ ?_
  exact ⟨hz, its', _, hv, q⟩
theorem Inv.lnew {its : List Value} {t' : Nat} (I : Inv X pins σ H s) (hv : Vals ys its) (hz : ys.length ≤ sizeLine) :
    Inv X pins σ (upd H s.heap.objs.size (.lst ys)) { s with heap := s.heap.push { cls := .type "list", data := .seq its.toArray }, toks := t' } :=
  I.laid (fun _ _ q => Heap.get?_push_of_some _ q) (Nat.le_refl _) ⟨hz, its, 0, hv, Heap.get?_push_size _ rfl⟩
theorem Inv.fresh (I : Inv X pins σ H s) : H s.heap.objs.size = none := I.hok.fresh (Nat.le_refl _)
theorem Inv.lstM (I : Inv X pins σ H s) (hH : H l = some (.lst xs)) : xs.length ≤ sizeLine ∧ ∃ (its : List Value) (n : Nat), Vals xs its ∧ xs.length = its.length ∧ s.heap.get? l = some { cls := .type "list", data := .seq its.toArray n } := by
  obtain ⟨z, its, n, r, e⟩ := I.hok l _ hH
  exact ⟨z, its, n, r, r.length, e⟩
theorem notLongL {n : Nat} (h : n ≤ sizeLine) : Builtin.List.listTooLong n = false := by
  unfold Builtin.List.listTooLong
  exact decide_eq_false (by omega)
end
section
variable {X : Cx}
def rAppend : V → List V → Hp → VK → Prop := fun x vs H Q => ∃ l xs y, x = .ref l ∧ vs = [y] ∧ H l = some (.lst xs) ∧ xs.length < sizeLine ∧ Q .non (upd H l (.lst (xs ++ [y])))
theorem mt_append : MtM X "list.append" rAppend := by
  intro pins s σ H x vs v us Q I rx rv h
  obtain ⟨l, xs, y, rfl, rfl, hH, hz, q⟩ := h
  cases rx
  obtain ⟨u, rfl, ru⟩ := rv.one
  obtain ⟨z, its, n, r, hl, e⟩ := I.lstM hH
  refine call_meets F.slot_list_append ⟨_, e, rfl⟩ F.entry_list_append (F.args_list_append_2 _ _) (PySem.list_append l its.toArray n u (by rw [List.size_toArray]; omega)) ⟨e, ?_⟩
  refine ⟨.non, _, I.lset (its' := its ++ [u]) hH e (by simp) (r.append (.cons ru .nil)) ?_, rfl, q⟩
  rw [List.length_append, List.length_singleton]
  omega
def rCat : R2 := fun x y H Q => ∃ l b xs zs, x = .ref l ∧ y = .ref b ∧ H l = some (.lst xs) ∧ H b = some (.lst zs) ∧ xs.length + zs.length ≤ sizeLine ∧ ∀ p, H p = none → Q (.ref p) (upd H p (.lst (xs ++ zs)))
theorem op_cat : OpR X (binaryOp .Add) rCat := by
  intro pins s σ H x y v u Q I rx ry h
  obtain ⟨l, b, xs, zs, rfl, rfl, hH, hB, hz, q⟩ := h
  cases rx
  cases ry
  obtain ⟨z, its, n, r, hl, e⟩ := I.lstM hH
  obtain ⟨z2, its2, n2, r2, hl2, e2⟩ := I.lstM hB
  refine PySem.P.add_list e e2 ?_ (by rw [List.size_toArray, List.size_toArray]; omega)
  have ea : its.toArray ++ its2.toArray = (its ++ its2).toArray := by simp
  rw [ea]
  exact ⟨.ref _, _, I.lnew (t' := s.toks) (r.append r2) (by rw [List.length_append]; omega), rfl, q _ I.fresh⟩
def rRep : R2 := fun x y H Q => ∃ l k xs, x = .ref l ∧ y = .int k ∧ H l = some (.lst xs) ∧ -(2 ^ 63) ≤ k ∧ k < 2 ^ 63 ∧ xs.length * k.toNat ≤ sizeLine ∧
  ∀ p, H p = none → Q (.ref p) (upd H p (.lst (List.replicate k.toNat xs).flatten))
theorem len_rep {α : Type} (xs : List α) (k : Nat) : (List.replicate k xs).flatten.length = k * xs.length := by
  induction k with
  | zero => simp
  | succ k ih => rw [List.replicate_succ, List.flatten_cons, List.length_append, ih, Nat.succ_mul, Nat.add_comm]
theorem op_rep : OpR X (binaryOp .Mult) rRep := by
  intro pins s σ H x y v u Q I rx ry h
  obtain ⟨l, k, xs, rfl, rfl, hH, h1, h2, hz, q⟩ := h
  cases rx
  obtain ⟨t, rfl⟩ := ry
  obtain ⟨z, its, n, r, hl, e⟩ := I.lstM hH
  have hlen : its.toArray.size * k.toNat ≤ sizeLine := by rw [List.size_toArray, ← hl]; exact hz
  have hcap : ¬ its.toArray.size * k.toNat > (2 ^ 63 - 1) / 8 := by
    have : (sizeLine : Nat) ≤ (2 ^ 63 - 1) / 8 := by decide
    omega
  have hfit : ¬ (!Builtin.List.listFitsIndex k) = true := by
    rw [fitsIndex_both h1 h2]
    exact Bool.false_ne_true
  have hlong : ¬ Builtin.List.listTooLong (its.toArray.size * k.toNat) = true := by
    rw [notLongL hlen]
    exact Bool.false_ne_true
  have hnew : List.foldl (fun x1 x2 => x1 ++ x2) #[] (List.replicate (if its.toArray.isEmpty = true then 0 else k.toNat) its.toArray) = (List.replicate k.toNat its).flatten.toArray := by
    have f0 : ∀ m : Nat, List.foldl (fun x1 x2 => x1 ++ x2) #[] (List.replicate m its.toArray) = (List.replicate m its).flatten.toArray := fun m => by
      have := foldl_rep its m []
      rw [List.nil_append] at this
      exact this
    rw [f0]
    cases its with
    | nil => simp
    | cons a r' => rw [if_neg (by simp)]
  refine wpAny_binaryOp_repeat_ref (T := "list") (U := "int") (by decide) ⟨_, e, rfl⟩ (fun s' => typeIs_int s' k t) noFill_list_mul F.fills_int_mul F.slot_int_rmul repeat_list F.slot_int_index.lookup
    (call_meets F.slot_int_rmul (typeIs_int s k t) F.entry_int_rmul (F.args_int_rmul_2 _ _) (int___rmul___int_list k t l its.toArray n)
      ⟨e, rfl, ⟨_, e, rfl⟩, call_meets F.slot_list_mul ⟨_, e, rfl⟩ F.entry_list_mul (F.args_list_mul_2 _ _) (AutoListH.list___mul___list_int_3 l its.toArray n k t hfit hcap hlong) ⟨e, ?_⟩⟩)
  rw [hnew]
  exact ⟨.ref _, _, I.lnew (t' := s.toks) (r.rep k.toNat) (by rw [len_rep, Nat.mul_comm]; exact hz), rfl, q _ I.fresh⟩
end
section
variable {prog : Program} {w : World} {A : Around} {E : Value → Shared → Prop} {s : Shared}
end
section
variable {X : Cx}
end
end L2
namespace Att
open PySem PySem.W PySem.Calls PyProof.Rows
theorem ints_of_wellAll {P : Params} {h : Heap} : ∀ (ns : List Int) (vs : List Value), WellAll P h vs (ns.map WData.int) → IntsAre vs ns := by
  intro ns
  induction ns with
  | nil =>
    intro vs w
    rw [List.map_nil] at w
    cases w
    exact .nil
  | cons n ns ih =>
    intro vs w
    rw [List.map_cons] at w
    cases w with
    | cons a b =>
      cases a
      exact .cons _ _ (ih _ b)
theorem script_of {l : OpenLaw} {n : Nat} (hn : l.most = some n) {P : Params} {h : Heap} {args : List WData} {vals : List Value}
    (hpre : l.row.toRowW.claim.pre args = true) (hwl : WellAll P h vals args) :
    ∃ a vs ns, vals = [Value.ref a] ∧ args = [WData.list (ns.map WData.int)] ∧ h.get? a = some { cls := .type "list", data := .seq vs.toArray } ∧ IntsAre vs ns ∧ ns.length ≤ n := by
  have hsh : WShape.hasAll [] args [.list .int] = true := (pre_splitW hpre).1
  have hc : l.pre.holds [] { args := args } = true := (pre_splitW hpre).2
  obtain ⟨d, r, rfl, h1, h2⟩ := hasAllW_cons hsh
  obtain rfl := hasAllW_nil h2
  obtain ⟨xs, rfl, h3⟩ := hasW_list h1
  obtain ⟨ns, rfl⟩ := items_int h3
  have hlen : ns.length ≤ n := by
    unfold OpenLaw.pre at hc
    have h4 : (WTm.not (.lt (.lit (.int (n : Int))) (.len (.arg 0)))).holds [] { args := [.list (ns.map .int)] } = true := by
      have h4 := (holds_andW hc).1
      rw [hn] at h4
      exact h4
    have h5 := condW_of h4 (w_not (w_lt w_lit (w_len_list (w_arg rfl))))
    rw [List.length_map] at h5
    refine Nat.le_of_not_lt fun q => ?_
    have q' : (n : Int) < ((ns.length : Nat) : Int) := by omega
    first
      | (rw [decide_eq_true q'] at h5; exact absurd h5 (by decide))
      | (simp at h5; omega)
  cases hwl with
  | cons w1 w2 =>
    cases w2
    cases w1 with
    | list ho hall => exact ⟨_, _, ns, rfl, rfl, ho, ints_of_wellAll ns _ hall, hlen⟩
theorem post_true (l : OpenLaw) (args : List WData) : l.row.toRowW.claim.post args (.bool true) args = true :=
  postW_of (r := l.row.toRowW) (X := (true == true))
    (show WShape.has [] (.bool true) .bool = true by first | rfl | decide | simp [WShape.has, WShape.arms, WShape.armsAll])
    (show (WTm.eq .res (.lit (.bool true))).value [] { args := args, res := some (.bool true), after := args } = some (.bool (true == true)) from w_eq_bool (w_res rfl) w_lit) rfl
theorem attach_call {l : OpenLaw} {n : Nat} {q : Program} {loose : List Str} {XP : (Str → Option Value) → Heap → Prop} {YP : World → Heap → Prop} {d : DefRec}
    (hn : l.most = some n) (hdf : d.params.defaults = [])
    (call : ∀ (w : World) (s₀ s₁ : Shared) (mg mb : Str → Option Value) (fa : Addr) (o : Obj) (pm cd doc : Value) (a : Addr) (vs : List Value) (ns : List Int),
      Ground q loose [] XP w s₀ mg mb s₁.heap → YP w s₁.heap →
      s₁.heap.get? fa = some o → o.data = .func (docDef d.name d.params d.body d.scope pm cd doc) → s₁.heap.CodeRec cd d.name → mg d.name = some (.ref fa) →
      s₁.heap.get? a = some { cls := .type "list", data := .seq vs.toArray } → IntsAre vs ns → ns.length ≤ n → s₁.gens = #[] →
      codeAny (model l.prog w) callerA (.call (.ref fa) ⟨[.ref a], []⟩) (fun r s' => r = .ok (.ret (.bool true)) ∧ OldK s₁.heap s'.heap ∧ s'.os = s₁.os ∧ AllBare s'.gens) s₁) :
    WalkO q loose XP YP l.row.toRowW d [] (fun f vs => PySem.call f vs) := by
  intro w s₀ s₁ mg mb G Y fa o pm cd doc dV kV ho hd hcd hD hmg hg args vals as hpre hlay hrd hwl hlo
  obtain rfl : dV = .none := Dflts.none hD hdf
  obtain rfl : kV = .none := Dflts.noKw hD
  obtain ⟨a, vs, ns, rfl, rfl, hobj, hints, hlen⟩ := script_of hn hpre hwl
  refine enter_call (codeAny_mono (call w s₀ s₁ mg mb fa o pm cd doc a vs ns G Y ho (fd_plain hd) hcd hmg hobj hints hlen hg) fun r s' hq => ?_)
  obtain ⟨rfl, h2, h3, h4⟩ := hq
  exact ⟨.inl ⟨.bool true, .bool true, [], rfl, fun _ => rfl, .bool true, post_true l _, fun _ => ⟨List.Pairwise.nil, fun _ hm => (nomatch hm)⟩⟩, h2, h3, h4⟩
section
variable {prog : Program} {w : World} {A : Around} {E : Value → Shared → Prop} {s : Shared} {K : Frag}
end
end Att
namespace L2
open PySem PySem.Spec PyProof.Rows
theorem vals_ints : ∀ {vs : List Value} {ns : List Int}, IntsAre vs ns → Vals (ns.map V.int) vs
  | _, _, .nil => .nil
  | _, _, .cons n t h => .cons ⟨t, rfl⟩ (vals_ints h)
def Only (H : Hp) : Prop := ∀ b, H b = none ∨ ∃ o xs, H b = some (.frz o (.lst xs))
theorem law_call {P : Program} {w : World} {K : PySem.W.Frag} {mg mb : Str → Option Value} {CX : CXT} {k : Nat} {fa a : Addr} {fd : FuncData} {x : Str} {sp : Sp} {s₁ : Shared} {vs : List Value} {ns : List Int}
    (KX : K.In s₁.heap) (hns : s₁.heap.Ns mainGlobals mg) (hb : s₁.heap.Ns builtinsNs mb) (hbb : ∀ x : Str, x ≠ "__name__" → mb x = bootBuiltins x) (hlim : s₁.heap.NoLimit) (hg : s₁.gens = #[])
    (ha : s₁.heap.get? a = some { cls := .type "list", data := .seq vs.toArray }) (hi : IntsAre vs ns) (hl : ns.length ≤ sizeLine) (hr : Room k callerA)
    (F : ∀ base : Heap, K.In base → base.Ns mainGlobals mg → FnOk P w K mg base CX k fa fd [x] sp) (hbind : ∀ (s : Shared) (u : Value), BindsTo s fd ⟨[u], []⟩ [(x, u)])
    (hsp : ∀ H : Hp, Only H → SqL K H a (ns.map V.int) → sp [.ref a] H (fun v _ => v = .bl true) fun _ _ _ => False)
    (hCX : ∀ H e s', CX [] H s₁ (fun _ _ _ => False) e s' → False) :
    codeAny (model P w) callerA (.call (.ref fa) ⟨[.ref a], []⟩) (fun r s' => r = .ok (.ret (.bool true)) ∧ OldK s₁.heap s'.heap ∧ s'.os = s₁.os ∧ AllBare s'.gens) s₁ := by
  have rv := vals_ints hi
  have lenV := hi.length
  have core : ∀ H : Hp, Only H → SqL K H a (ns.map V.int) → HOk P w H s₁.heap → (∀ b, H b ≠ none → b = a) → (H a ≠ none → K.lookup a = none) →
      codeAny (model P w) callerA (.call (.ref fa) ⟨[.ref a], []⟩) (fun r s' => r = .ok (.ret (.bool true)) ∧ OldK s₁.heap s'.heap ∧ s'.os = s₁.os ∧ AllBare s'.gens) s₁ := by
    intro H hO hS hok hA hK
    have base_of : ∀ {b : Addr} {o : Obj}, s₁.heap.get? b = some o → H b = none → (hidT s₁.heap H).get? b = some o := fun e n => hidT_get e n
    have noA : ∀ {b : Addr} {o : Obj} {es : Array DictEntry} {ep : Nat}, s₁.heap.get? b = some o → o.data = .dict es ep → H b = none := fun {b o es ep} e d => by
      cases q : H b with
      | none => rfl
      | some u =>
        have e' : b = a := hA b (by rw [q]; simp)
        subst e'
        rw [ha] at e; cases e
        have d' : Data.seq vs.toArray _ = Data.dict es ep := d
        cases d'
    have nsK : ∀ {b : Addr} {m : Str → Option Value}, s₁.heap.Ns b m → (hidT s₁.heap H).Ns b m := fun {b m} ⟨o, es, ep, e, d, r⟩ => ⟨o, es, ep, base_of e (noA e d), d, r⟩
    have hKb : K.In (hidT s₁.heap H) := fun b o e => base_of (KX b o e) (by
      cases q : H b with
      | none => rfl
      | some u =>
        have e' : b = a := hA b (by rw [q]; simp)
        subst e'
        rw [hK (by rw [q]; simp)] at e; cases e)
    have hM : Mod K mg (hidT s₁.heap H) := ⟨hKb, nsK hns, ⟨mb, nsK hb, hbb⟩, let ⟨mc, h1, h2⟩ := hlim; ⟨mc, nsK h1, h2⟩⟩
    have e0 : Env0 P w K mg (hidT s₁.heap H) callerA [] s₁ H := ⟨rfl, hM, fun b o e => of_hidT e, Nat.le_of_eq (hidT_size _ _), trivial, fun b hb => absurd (show b ∈ ([] : List Addr) from hb) (by simp), hok, .of_eq hg⟩
    refine codeAny_mono ((F _ hKb (nsK hns)).run callerA [] s₁ H ⟨[.ref a], []⟩ [.ref a] [.ref a] _ _ hr e0 (hbind s₁ (.ref a)) (.cons rfl .nil) (hsp H hO hS)) fun r s' h => ?_
    cases r with
    | error e => exact (hCX H e s' h).elim
    | ok fl =>
      cases fl with
      | next => exact False.elim h
      | brk => exact False.elim h
      | cont => exact False.elim h
      | ret u =>
        obtain ⟨v, H', os, bare, un, hok', r', q⟩ := h
        have q' : v = .bl true := q
        subst q'
        obtain rfl : u = Value.bool true := r'
        refine ⟨rfl, OldK.of_keep fun b o e => ?_, os, bare⟩
        cases q : H b with
        | none => exact un.keep b o e q (by intro z; exact absurd (show b ∈ ([] : List Addr) from z) (by simp)) (by simp)
        | some u =>
          rcases hO b with z | ⟨ob, xs, z⟩
          · rw [q] at z; cases z
          · have z2 := un.frzs b ob _ z
            obtain ⟨e1, _⟩ := hok b _ z
            obtain ⟨e2, _⟩ := hok' b _ z2
            rw [e] at e1; cases e1
            exact e2
  cases hk : K.lookup a with
  | some o =>
    have e := KX a o hk
    rw [ha] at e
    cases e
    refine core (fun _ => none) (fun _ => .inl rfl) (.inr ⟨_, vs.toArray, _, hk, rfl, rfl, rfl, by rw [List.size_toArray, lenV]; exact hl, by simpa using rv⟩) (fun b u z => by have z' : (none : Option HO) = some u := z; cases z') (fun b z => absurd rfl z) fun z => absurd rfl z
  | none =>
    refine core (fun b => if b = a then some (.frz { cls := .type "list", data := .seq vs.toArray } (.lst (ns.map V.int))) else none) (fun b => ?_) (.inl (.inr ⟨{ cls := .type "list", data := .seq vs.toArray }, if_pos rfl⟩)) (fun b u z => ?_) (fun b z => ?_) fun _ => hk
    · by_cases hb : b = a
      · exact .inr ⟨_, _, if_pos hb⟩
      · exact .inl (if_neg hb)
    · by_cases hb : b = a
      · have z' := (if_pos hb).symm.trans z
        cases z'
        subst hb
        exact ⟨ha, by rw [List.length_map]; exact hl, vs, _, rv, ha⟩
      · have z' := (if_neg hb).symm.trans z
        cases z'
    · by_cases hb : b = a
      · exact hb
      · exact absurd (if_neg hb) z
end L2
namespace L2
open PySem PySem.Spec PyProof.Rows
theorem walk_of {l : PySem.W.OpenLaw} {n k : Nat} {q : Program} {loose : List Str} {XP : (Str → Option Value) → Heap → Prop} {YP : World → Heap → Prop} {d : DefRec} {K : Params → PySem.W.Frag} {CX : World → CXT} {sp : World → Sp} {x : Str}
    (hn : l.most = some n) (hn2 : n ≤ sizeLine) (hdf : d.params.defaults = []) (hr : Room k callerA)
    (hY : ∀ (w : World) (h : Heap), YP w h → (K w.params).In h)
    (F : ∀ (w : World) (mg : Str → Option Value) (fa : Addr) (h : Heap), (K w.params).In h → h.Ns mainGlobals mg → mg d.name = some (.ref fa) →
      ∃ fd : FuncData, (∀ (s : Shared) (u : Value), BindsTo s fd ⟨[u], []⟩ [(x, u)]) ∧
        ∀ base : Heap, (K w.params).In base → base.Ns mainGlobals mg → FnOk l.prog w (K w.params) mg base (CX w) k fa fd [x] (sp w))
    (hsp : ∀ (w : World) (H : Hp) (a : Addr) (ns : List Int), ns.length ≤ n → Only H → SqL (K w.params) H a (ns.map V.int) → sp w [.ref a] H (fun v _ => v = .bl true) fun _ _ _ => False)
    (hCX : ∀ (w : World) (H : Hp) (s : Shared) (e : Value) (s' : Shared), CX w [] H s (fun _ _ _ => False) e s' → False) :
    PySem.W.WalkO q loose XP YP l.row.toRowW d [] (fun f vs => PySem.call f vs) := by
  refine Att.attach_call hn hdf fun w s₀ s₁ mg mb fa o pm cd doc a vs ns G Y ho hd hcd hmg hobj hints hlen hg => ?_
  have KX := hY w _ Y
  obtain ⟨fd, hb, hF⟩ := F w mg fa _ KX G.T.g hmg
  exact law_call KX G.T.g G.T.b G.T.builtins G.T.nolimit hg hobj hints (Nat.le_trans hlen hn2) hr hF hb (fun H hO hS => hsp w H a ns hlen hO hS) fun H e s' => hCX w H s₁ e s'
end L2
namespace L2
open PySem PySem.Spec PyProof.Rows
def inClass (s : Stmt) (j : Nat) : Stmt := match s with
  | .ClassDef _ _ _ body _ _ _ _ _ _ _ => body.getD j (.Pass ⟨0, 0, 0, 0⟩)
  | _ => .Pass ⟨0, 0, 0, 0⟩
def defArgs (s : Stmt) : Arguments := match s with
  | .FunctionDef _ a _ _ _ _ _ _ _ _ => a
  | _ => { posonlyargs := [], args := [], vararg := none, kwonlyargs := [], kw_defaults := [], kwarg := none, defaults := [] }
def defBody (s : Stmt) : List Stmt := match s with
  | .FunctionDef _ _ b _ _ _ _ _ _ _ => b
  | _ => []
def defScope (s : Stmt) : Scope := match s with
  | .FunctionDef _ _ _ _ _ _ sc _ _ _ => sc
  | _ => { kind := .function, names := [], isGenerator := false, isCoroutine := false }
abbrev CX0 : CXT := fun _ _ _ _ _ _ => False
abbrev E0 : XK := fun _ _ _ => False
theorem pass0 {X : Cx} : Passes CX0 X E0 := fun _ _ _ _ _ _ _ h => h.elim
structure Fun (K : PySem.W.Frag) (x qual : Str) (st : Stmt) (f : Addr) (fd : FuncData) : Prop where
  ex : ∃ (oc : Value) (od : Option Addr) (kV doc pm : Value) (an : Option Addr) (cdv ct : Value) (osl : Array (Option Value)),
    fd = PySem.W.fnOf x qual (defArgs st) (defBody st) (defScope st) .none kV doc pm an cdv ct ∧ K.lookup f = some ⟨oc, od, .func fd, osl⟩ ∧ PySem.W.codeIn K cdv qual = true
  kp : PySem.W.keepIn K (.ref f) = true
section
variable {P : Program} {w : World} {K : PySem.W.Frag} {mg : Str → Option Value} {base : Heap}
theorem Fun.ok {x qual : Str} {st : Stmt} {f : Addr} {fd : FuncData} {N ps : List Str} {k : Nat} {sp : Sp} (F : Fun K x qual st f fd) (S : FnScope N ps (defScope st)) (len : ∀ vs H Q E, sp vs H Q E → vs.length = ps.length)
    (hbody : ∀ (cdv : Value) (A : Around) (outer : List Env) (s : Shared) (H : Hp) (vs : List V) (Q : VK) (E : XK), Room k (A.deeper (envOfC qual (defScope st) s.heap.objs.size f cdv)) → sp vs H Q E →
      ∃ t, PSs (cxOf CX0 P w K mg base N qual (defScope st) f cdv A outer s H E).nox (defBody st) t ∧ t { nx := fun _ H' => Q .non H', rt := Q } (start N vs) H) : FnOk P w K mg base CX0 (k + 1) f fd ps sp := by
  obtain ⟨oc, od, kV, doc, pm, an, cdv, ct, osl, rfl, lk, hcd⟩ := F.ex
  refine fn_of lk hcd S len fun A outer s H vs Q E hr hsp => ?_
  obtain ⟨t, h, q⟩ := hbody cdv A outer s H vs Q E hr hsp
  exact ⟨t, h.nox, q⟩
theorem Fun.binds {x qual : Str} {st : Stmt} {f : Addr} {fd : FuncData} {ps : List Str} (F : Fun K x qual st f fd)
    (h : ∀ (kV doc pm : Value) (an : Option Addr) (cdv ct : Value) (us : List Value), us.length = ps.length → bindArgs (PySem.W.fnOf x qual (defArgs st) (defBody st) (defScope st) .none kV doc pm an cdv ct) ⟨us, []⟩ = pure (ps.zip us)) : Binds K fd ps [] := by
  obtain ⟨oc, od, kV, doc, pm, an, cdv, ct, osl, rfl, lk, hcd⟩ := F.ex
  exact .all (h kV doc pm an cdv ct)
theorem fun_mk {x qual : Str} {st : Stmt} {f : Addr} {oc : Value} {od an : Option Addr} {osl : Array (Option Value)} {kV doc pm cdv ct : Value} (l : K.lookup f = some ⟨oc, od, .func (PySem.W.fnOf x qual (defArgs st) (defBody st) (defScope st) .none kV doc pm an cdv ct), osl⟩)
    (c : PySem.W.codeIn K cdv qual = true) (k : PySem.W.keepIn K (.ref f) = true) : Fun K x qual st f (PySem.W.fnOf x qual (defArgs st) (defBody st) (defScope st) .none kV doc pm an cdv ct) := ⟨⟨oc, od, kV, doc, pm, an, cdv, ct, osl, rfl, l, c⟩, k⟩
end
theorem hu_of {A : Around} {k : Nat} (hr : Room k A) : A.units + 1 < cLine := Nat.lt_of_le_of_lt (Nat.add_le_add_left (by decide : 1 ≤ 64) _) hr.units
theorem small1000 {n : Nat} (h : n ≤ 1000) : n < sizeLine := Nat.lt_of_le_of_lt h (by decide)
section
variable {X : Cx}
theorem pv (i : Nat) {x : Str} {pos : Pos} (hN : X.N[i]? = some x := by rfl) (hv : Vis X.env.scope x := by first | exact Or.inl rfl | exact Or.inr (Or.inl rfl) | exact Or.inr (Or.inr rfl)) (hd : (x == ("__debug__" : Str)) = false := by decide)
    (hcd : (x == ("__classdict__" : Str)) = false := by decide) : PE X (.Name x pos) (tVar i) := pe_var hN hv hd hcd
end
theorem iteF {A B : Prop} (h : B) : if false = true then A else B := by
  rw [if_neg Bool.false_ne_true]
  exact h
theorem iteT {A B : Prop} (h : A) : if true = true then A else B := by
  rw [if_pos rfl]
  exact h
theorem ite2 {c A B : Prop} [Decidable c] (h1 : c → A) (h2 : ¬ c → B) : if c then A else B := by
  by_cases h : c
  · rw [if_pos h]
    exact h1 h
  · rw [if_neg h]
    exact h2 h
def Same (H H' : Hp) : Prop := ∀ b o, H b = some o → H' b = some o
theorem Same.refl (H : Hp) : Same H H := fun _ _ h => h
theorem Same.trans {H H1 H2 : Hp} (a : Same H H1) (b : Same H1 H2) : Same H H2 := fun c o h => b c o (a c o h)
theorem Same.seq {K : PySem.W.Frag} {H H' : Hp} {a : Addr} {xs : List V} (e : Same H H') (h : SqL K H a xs) : SqL K H' a xs := by
  rcases h with (h | ⟨o, h⟩) | h
  · exact .inl (.inl (e _ _ h))
  · exact .inl (.inr ⟨o, e _ _ h⟩)
  · exact .inr h
end L2
namespace L2
open PySem PySem.Spec PyProof.Rows
def clOf (en : Env) : List (Str × NameKind) → List (Str × Addr) → List (Str × Addr)
  | [], cs => cs
  | (n, k) :: r, cs => if (k == NameKind.free) = true then clOf en r ((n, (en.cells.lookup n).getD 0) :: cs) else clOf en r cs
theorem clOf_for {en : Env} : ∀ (ns : List (Str × NameKind)) (cs : List (Str × Addr)), (∀ y ∈ ns, y.2 = .free → (en.cells.lookup y.1).isSome = true) →
    (forIn ns cs fun (y : Str × NameKind) (r : List (Str × Addr)) => (if (y.2 == NameKind.free) = true then (cellOf en y.1 >>= fun a => pure (ForInStep.yield ((y.1, a) :: r))) else pure (ForInStep.yield r) : Sem (ForInStep (List (Str × Addr))))) = pure (clOf en ns cs) := by
  intro ns
  induction ns with
  | nil => intro cs _; rfl
  | cons y r ih =>
    intro cs h
    obtain ⟨n, k⟩ := y
    rw [List.forIn_cons]
    have hr := fun cs => ih cs fun y hy => h y (List.mem_cons_of_mem _ hy)
    dsimp only
    by_cases hk : (k == NameKind.free) = true
    · have hk' : k = .free := by simpa using hk
      obtain ⟨a, ha⟩ := Option.isSome_iff_exists.mp (h (n, k) List.mem_cons_self hk')
      have e1 : cellOf en n = pure a := by unfold cellOf; dsimp only at ha; rw [ha]
      have e2 : clOf en ((n, k) :: r) cs = clOf en r ((n, a) :: cs) := by
        show (if (k == NameKind.free) = true then _ else _) = _
        rw [if_pos hk]; dsimp only at ha; rw [ha]; rfl
      rw [if_pos hk, e1, e2]
      simp only [pure_bind]
      exact hr _
    · have e2 : clOf en ((n, k) :: r) cs = clOf en r cs := by
        show (if (k == NameKind.free) = true then _ else _) = _
        rw [if_neg hk]
      rw [if_neg hk, e2]
      simp only [pure_bind]
      exact hr _
theorem closureFor_cl {en : Env} {sc : Scope} (h : ∀ y ∈ sc.names, y.2 = .free → (en.cells.lookup y.1).isSome = true) : closureFor sc en = pure (clOf en sc.names []) := by
  have q := clOf_for (en := en) sc.names [] h
  unfold closureFor
  refine Eq.trans ?_ (show (forIn sc.names ([] : List (Str × Addr)) _ >>= pure) = _ by rw [q]; rfl)
  rfl
theorem clOf_sub {en : Env} : ∀ (ns : List (Str × NameKind)) (cs : List (Str × Addr)), (∀ y ∈ ns, y.2 = .free → (en.cells.lookup y.1).isSome = true) → (∀ x c, cs.lookup x = some c → en.cells.lookup x = some c) →
    ∀ x c, (clOf en ns cs).lookup x = some c → en.cells.lookup x = some c
  | [], cs, _, hc, x, c, e => hc x c e
  | (n, k) :: r, cs, h, hc, x, c, e => by
    have hr : ∀ y ∈ r, y.2 = .free → (en.cells.lookup y.1).isSome = true := fun y hy => h y (List.mem_cons_of_mem _ hy)
    unfold clOf at e
    by_cases hk : (k == NameKind.free) = true
    · rw [if_pos hk] at e
      refine clOf_sub r _ hr (fun x' c' e' => ?_) x c e
      rw [List.lookup_cons] at e'
      cases hx : x' == n with
      | true =>
        rw [hx] at e'
        have hx' : x' = n := by simpa using hx
        obtain ⟨a, ha⟩ := Option.isSome_iff_exists.mp (h (n, k) List.mem_cons_self (by simpa using hk))
        dsimp only at ha e'
        rw [ha] at e'
        rw [hx', ha]
        exact e'
      | false => rw [hx] at e'; exact hc x' c' e'
    · rw [if_neg hk] at e
      exact clOf_sub r cs hr hc x c e
theorem clOf_has {en : Env} : ∀ (ns : List (Str × NameKind)) (cs : List (Str × Addr)) (x : Str), ((x, NameKind.free) ∈ ns ∨ (cs.lookup x).isSome = true) → ((clOf en ns cs).lookup x).isSome = true
  | [], cs, x, h => by
    rcases h with h | h
    · cases h
    · exact h
  | (n, k) :: r, cs, x, h => by
    unfold clOf
    by_cases hk : (k == NameKind.free) = true
    · rw [if_pos hk]
      refine clOf_has r _ x ?_
      rcases h with h | h
      · rcases List.mem_cons.mp h with e | h
        · right
          rw [List.lookup_cons, show (x == n) = true by simpa using congrArg Prod.fst e]
          rfl
        · exact .inl h
      · right
        rw [List.lookup_cons]
        cases hx : x == n with
        | true => rfl
        | false => exact h
    · rw [if_neg hk]
      refine clOf_has r _ x ?_
      rcases h with h | h
      · rcases List.mem_cons.mp h with e | h
        · exfalso
          have e' : NameKind.free = k := congrArg Prod.snd e
          rw [← e'] at hk
          exact hk (by decide)
        · exact .inl h
      · exact .inr h
theorem relabel_free {en : Env} : ∀ {ns : List (Str × NameKind)} {x : Str}, ns.lookup x = some .free →
    (ns.map fun (n, k) => if (k == NameKind.free && en.scope.kind == .function && en.kindOf n == some .cell) then (n, NameKind.cell) else (n, k)).lookup x = some .cell ∨
    (ns.map fun (n, k) => if (k == NameKind.free && en.scope.kind == .function && en.kindOf n == some .cell) then (n, NameKind.cell) else (n, k)).lookup x = some .free
  | [], _, h => by simp at h
  | (n, k) :: r, x, h => by
    have ih := @relabel_free en r x
    rw [List.map_cons]
    cases hx : x == n with
    | true =>
      simp only [List.lookup_cons, hx] at h
      cases h
      dsimp only
      split
      · left; simp [List.lookup_cons, hx]
      · right; simp [List.lookup_cons, hx]
    | false =>
      simp only [List.lookup_cons, hx] at h
      dsimp only
      split
      · simp only [List.lookup_cons, hx]; exact ih h
      · simp only [List.lookup_cons, hx]; exact ih h
theorem relabel_of {en : Env} : ∀ {ns : List (Str × NameKind)} {x : Str} {q : NameKind}, (q = .cell ∨ q = .free) →
    (ns.map fun (n, k) => if (k == NameKind.free && en.scope.kind == .function && en.kindOf n == some .cell) then (n, NameKind.cell) else (n, k)).lookup x = some q → (x, NameKind.free) ∈ ns ∨ (x, NameKind.cell) ∈ ns
  | [], _, _, _, h => by simp at h
  | (n, k) :: r, x, q, hq, h => by
    have ih := @relabel_of en r x q hq
    rw [List.map_cons] at h
    dsimp only at h
    by_cases hc : (k == NameKind.free && en.scope.kind == .function && en.kindOf n == some .cell) = true
    · rw [if_pos hc] at h
      have hk : k = .free := by
        simp only [Bool.and_eq_true] at hc
        simpa using hc.1.1
      cases hx : x == n with
      | true =>
        have hx' : x = n := by simpa using hx
        exact .inl (by rw [hx', hk]; exact List.mem_cons_self)
      | false =>
        simp only [List.lookup_cons, hx] at h
        rcases ih h with z | z
        · exact .inl (List.mem_cons_of_mem _ z)
        · exact .inr (List.mem_cons_of_mem _ z)
    · rw [if_neg hc] at h
      cases hx : x == n with
      | true =>
        have hx' : x = n := by simpa using hx
        simp only [List.lookup_cons, hx] at h
        cases h
        rcases hq with z | z
        · exact .inr (by rw [hx', ← z]; exact List.mem_cons_self)
        · exact .inl (by rw [hx', ← z]; exact List.mem_cons_self)
      | false =>
        simp only [List.lookup_cons, hx] at h
        rcases ih h with z | z
        · exact .inl (List.mem_cons_of_mem _ z)
        · exact .inr (List.mem_cons_of_mem _ z)
abbrev blk (X : Cx) (N' : List Str) (sc : Scope) (C : Addr) (s2 : Shared) (H2 : Hp) (ex : List Addr) : Cx :=
  { X with N := N', s₀ := s2, H₀ := H2, env := compEnvC sc (clOf X.env sc.names []) C X.env, outer := X.stack, stack := X.stack, ex := ex, fn := fun _ => false, xe := fun _ _ => False }
def cst (σ : St) (nl : Nat) (js : List Nat) : St := List.replicate nl none ++ js.map fun j => (σ[j]?).getD none
structure CScope (X : Cx) (sc : Scope) (N' : List Str) (nl : Nat) (js : List Nat) : Prop where
  kind : sc.kind = .function
  nocell : ∀ y ∈ sc.names, y.2 ≠ .cell
  locs : ∀ y ∈ sc.names, y.2 = .local → sc.names.lookup y.1 = some .local
  frees : ∀ y ∈ sc.names, y.2 = .free → X.env.kindOf y.1 = some .cell ∨ X.env.kindOf y.1 = some .free
  cap : ∀ (i j : Nat), js[i]? = some j → ∃ x, N'[nl + i]? = some x ∧ X.N[j]? = some x ∧ sc.names.lookup x = some .free
  len : N'.length = nl + js.length
def Wk (σ0 σ2 : St) : Prop := σ0.length = σ2.length ∧ ∀ (i : Nat) v, σ0[i]? = some (some v) → σ2[i]? = some (some v)
def PIf (X : Cx) (ifs : List Expr) (t : TT) : Prop :=
  ∀ (pins : List (Addr × Obj)) (s : Shared) (σ : St) (H : Hp) (Q : Bool → Hp → Prop), Inv X pins σ H s → t σ H Q →
    wpAny (model X.prog X.w) X.A (forIn ifs true fun c r => if r = true then do let ok ← isTrue c X.env (eval c X.env); pure (ForInStep.yield ok) else pure (ForInStep.yield r)) (TP X pins σ Q) X.xe s
theorem pif_nil {X : Cx} : PIf X [] (fun _ H Q => Q true H) := fun _ _ _ H _ I h => wpAny_tests_nil ⟨H, I, h⟩
theorem pif_one {X : Cx} {c : Expr} {t : TT} (h : PT X c t) : PIf X [c] t := fun pins s σ H Q I hw => wpAny_tests_one (h pins s σ H Q I hw)
section
variable {X : Cx} {sc : Scope} {N' : List Str} {nl : Nat} {js : List Nat} {pins : List (Addr × Obj)} {σ : St} {H : Hp} {s : Shared}
theorem CScope.hasC (S : CScope X sc N' nl js) (ok : X.Ok) : ∀ y ∈ sc.names, y.2 = .free → (X.env.cells.lookup y.1).isSome = true := fun y hy hf => by
  obtain ⟨c, e⟩ := ok.has y.1 (S.frees y hy hf)
  rw [e]; rfl
theorem CScope.sub (S : CScope X sc N' nl js) (ok : X.Ok) {x : Str} {c : Addr} (e : (clOf X.env sc.names []).lookup x = Option.some c) : X.env.cells.lookup x = Option.some c :=
  clOf_sub sc.names [] (S.hasC ok) (fun _ _ z => by simp at z) x c e
theorem blk_ok (S : CScope X sc N' nl js) (I : Inv X pins σ H s) {fp : List Addr} {C : Addr} (hf : ∀ b ∈ fp, FpOk X pins H b) (hC : s.heap.objs.size ≤ C) (hfC : ∀ b ∈ fp, b ≠ C) : (blk X N' sc C s H fp).Ok where
  mod := I.ok.mod
  kind := S.kind
  glob := I.ok.glob
  blt := I.ok.blt
  above := hC
  inj := fun x y c h1 h2 => I.ok.inj x y c (S.sub I.ok h1) (S.sub I.ok h2)
  has := fun x hx => by
    have hm : (x, NameKind.free) ∈ sc.names ∨ (x, NameKind.cell) ∈ sc.names := by
      rcases hx with z | z
      · exact relabel_of (.inl rfl) z
      · exact relabel_of (.inr rfl) z
    rcases hm with z | z
    · exact Option.isSome_iff_exists.mp (clOf_has sc.names [] x (.inl z))
    · exact absurd rfl (S.nocell _ z)
  cab := fun x c h _ => absurd (show false = true from h) Bool.false_ne_true
  hd := I.ok.hd
  frames := I.ok.frames
  stk := .inl rfl
  exf := fun b hb => ⟨hfC b hb, fun x c e => (hf b hb).2.2.2.2.1 x c (S.sub I.ok e)⟩
  bs := I.bs
  bsz := Nat.le_trans I.ok.bsz I.sz
  noex := fun b o e hb => by
    rcases (hf b hb).2.2.2.1 with z | z
    · exact I.ok.noex b o e z
    · exact absurd (Nat.lt_of_lt_of_le (Heap.lt_size (I.ok.bs b o e).1) z) (Nat.lt_irrefl _)
  exfs := fun b hb hs => by
    rcases List.mem_cons.mp (I.stkSub b hs) with z | z
    · exact (hf b hb).2.1 z
    · exact (hf b hb).2.2.1 z
  funs := I.stack
  frf := I.stkFree
theorem cst_len (hl : N'.length = nl + js.length) : (cst σ nl js).length = N'.length := by
  unfold cst
  rw [List.length_append, List.length_replicate, List.length_map, hl]
theorem cst_get {i : Nat} {v : V} (e : (cst σ nl js)[i]? = some (some v)) : ∃ k j, i = nl + k ∧ js[k]? = some j ∧ σ[j]? = some (some v) := by
  unfold cst at e
  by_cases hi : i < nl
  · rw [List.getElem?_append_left (by simpa using hi), List.getElem?_replicate] at e
    rw [if_pos hi] at e
    cases e
  · rw [List.getElem?_append_right (by simpa using hi), List.length_replicate, List.getElem?_map] at e
    cases q : js[i - nl]? with
    | none => rw [q] at e; cases e
    | some j =>
      rw [q] at e
      have e' : (σ[j]?).getD none = some v := by simpa using e
      refine ⟨i - nl, j, by omega, q, ?_⟩
      cases z : σ[j]? with
      | none => rw [z] at e'; cases e'
      | some w' => rw [z] at e'; simpa using e'
theorem blk_inv (S : CScope X sc N' nl js) (I : Inv X pins σ H s) {fp : List Addr} {C : Addr} {h' : Heap} {t' : Nat} {m : Str → Option Value} (hf : ∀ b ∈ fp, FpOk X pins H b) (hC : s.heap.objs.size ≤ C) (hfC : ∀ b ∈ fp, b ≠ C)
    (k : ∀ b u, s.heap.get? b = some u → h'.get? b = some u) (hn : h'.Ns C m) : Inv (blk X N' sc C s H fp) pins (cst σ nl js) H { s with heap := h', toks := t' } where
  ok := blk_ok S I hf hC hfC
  os := rfl
  bare := I.bare
  base := Un.kept k
  loc := by
    refine ⟨m, hn, fun i x v e1 e2 e3 => ?_⟩
    obtain ⟨q, j, rfl, hj, hv⟩ := cst_get e2
    obtain ⟨x', n1, n2, n3⟩ := S.cap q j hj
    have ex : x' = x := by
      have z : N'[nl + q]? = some x := e1
      rw [n1] at z; exact Option.some.inj z
    subst ex
    obtain ⟨m0, _, hl⟩ := I.loc
    have kf := S.frees (x', .free) (PySem.mem_of_lookup n3) rfl
    obtain ⟨u, r, l⟩ := hl j x' v n2 hv (by
      rcases kf with z | z
      · exact .inr (.inl z)
      · exact .inr (.inr z))
    refine ⟨u, r, ?_⟩
    rcases l with ⟨z, _⟩ | ⟨_, c, hc, hcell⟩
    · rcases kf with y | y
      · rw [z] at y; cases y
      · rw [z] at y; cases y
    · obtain ⟨c', hc'⟩ := Option.isSome_iff_exists.mp (clOf_has (en := X.env) sc.names [] x' (.inl (PySem.mem_of_lookup n3)))
      have e : c' = c := by
        have z := S.sub I.ok hc'
        rw [hc] at z; exact (Option.some.inj z).symm
      subst e
      obtain ⟨o, ho, hd⟩ := hcell
      exact .inr ⟨relabel_free n3, c', hc', ⟨o, k _ _ ho, hd⟩⟩
  cell := fun x c e => by
    obtain ⟨v, o, ho, hd⟩ := I.cell x c (S.sub I.ok e)
    exact ⟨v, o, k _ _ ho, hd⟩
  free := I.hok.fresh hC
  freeC := fun x c e => I.freeC x c (S.sub I.ok e)
  pin := fun p hp => by
    obtain ⟨e, n, ne, nf, d⟩ := I.pin p hp
    refine ⟨k _ _ e, n, Nat.ne_of_lt (Nat.lt_of_lt_of_le (Heap.lt_size e) hC), fun z => ?_, d⟩
    rcases List.mem_cons.mp (I.stkSub _ z) with y | y
    · exact ne y
    · exact nf y
  hok := I.hok.kept k
  len := cst_len S.len
end
theorem compLoop_any {prog : Program} {w : World} {A : Around} {R : Result → Shared → Prop} {s : Shared} {elt tg it' : Expr} {ifs : List Expr} {sc : Scope} {pos : Pos} {it acc : Value} {en : Env} (I : Nat → Shared → Prop)
    (turn : ∀ n s, I n s → wpAny (model prog w) A (pyNext it) (fun r s1 => match r with
      | none => R (.ok .next) s1
      | some v => wpAny (model prog w) A (letOwnedTupleGo tg it v) (fun _ s2 => wpAny (model prog w) A (assign tg en v) (fun _ s3 =>
          wpAny (model prog w) A (forIn ifs true fun c r => if r = true then do let ok ← isTrue c en (eval c en); pure (ForInStep.yield ok) else pure (ForInStep.yield r)) (fun ok s4 =>
            if ok = true then wpAny (model prog w) A (eval elt en) (fun x s5 => wpAny (model prog w) A (call (.builtin "list.append") [acc, x]) (fun _ s6 => ∃ m, m < n ∧ I m s6) (fun _ _ => False) s5) (fun _ _ => False) s4
            else ∃ m, m < n ∧ I m s4) (fun _ _ => False) s3) (fun _ _ => False) s2) (fun _ _ => False) s1) (fun _ _ => False) s)
    (n : Nat) (h : I n s) : codeAny (model prog w) A (.compLoop (.ListComp elt [⟨tg, it', ifs, 0⟩] sc pos) 0 it acc en) R s := by
  refine codeAny_loop rfl I (fun n s hI => ?_) n h
  show wpAny _ A ((compTurn (.ListComp elt [⟨tg, it', ifs, 0⟩] sc pos) 0 it acc en).onRaise (fun x => do noteFrame x en; theTreesLotGoes x)) _ _ s
  refine wpAny_noted ?_
  rw [compTurn_list]
  refine wpAny_bind (wpAny_standAt (wpAny_bind (wpAny_mono (turn n s hI) (fun r s1 h1 => ?_) fun _ _ z => z.elim)))
  cases r with
  | none => exact wpAny_pure h1
  | some v =>
    refine wpAny_bind (wpAny_mono h1 (fun _ s2 h2 => ?_) fun _ _ z => z.elim)
    refine wpAny_bind (wpAny_mono h2 (fun _ s3 h3 => ?_) fun _ _ z => z.elim)
    refine wpAny_bind (wpAny_mono h3 (fun ok s4 h4 => ?_) fun _ _ z => z.elim)
    cases ok with
    | false => exact wpAny_pure ⟨rfl, h4⟩
    | true =>
      refine wpAny_bind (wpAny_bind (wpAny_mono h4 (fun x s5 h5 => ?_) fun _ _ z => z.elim))
      exact wpAny_bind (wpAny_mono h5 (fun _ s6 h6 => wpAny_pure (wpAny_pure ⟨rfl, h6⟩)) fun _ _ z => z.elim)
def LcW (J : It) (g : TG) (tt : TT) (te : TE) (σ0 : St) (Q : VK) (H1 : Hp) : Prop :=
  ∃ W : Nat → Nat → List V → Hp → Prop, (∃ m, W 0 m [] H1) ∧ ∀ i m ys H, W i m ys H → ys.length ≤ sizeLine ∧
    ((J.stop i H ∧ ∀ p, H p = none → Q (.ref p) (upd H p (.lst ys))) ∨
     (J.go i H ∧ ∀ x H', J.yld i H x H' → g x σ0 H' fun σ2 H2 => Wk σ0 σ2 ∧ tt σ2 H2 fun k H3 => if k = true then te σ2 H3 fun v H4 => ys.length < sizeLine ∧ ∃ m', m' < m ∧ W (i + 1) m' (ys ++ [v]) H4 else ∃ m', m' < m ∧ W (i + 1) m' ys H3))
def tLc (wi : TI) (g : TG) (tt : TT) (te : TE) (nl : Nat) (js : List Nat) : TE := fun σ H Q => wi σ H fun J H1 => LcW J g tt te (cst σ nl js) Q H1
section
variable {X : Cx} {sc : Scope} {N' : List Str} {nl : Nat} {js : List Nat} {tg iter elt : Expr} {ifs : List Expr} {pos : Pos} {wi : TI} {g : TG} {tt : TT} {te : TE}
theorem lc_core {pins : List (Addr × Obj)} {σ : St} {H : Hp} {s : Shared} {E : Value → Shared → Prop} {RR : Value → Addr → Result → Shared → Prop} {it : Addr} {fp : List Addr} {tn : Nat → Heap → Prop} {J : It} {Q : VK} (hc : X.calm = true) (S : CScope X sc N' nl js)
    (hg : ∀ C s2 H2 ex, PG (blk X N' sc C s2 H2 ex) tg g) (ht : ∀ C s2 H2 ex, PIf (blk X N' sc C s2 H2 ex) ifs tt) (he : ∀ C s2 H2 ex, PE (blk X N' sc C s2 H2 ex) elt te)
    (I : Inv X pins σ H s) (T : Turn X.prog X.w X.K tg J fp it tn) (st : tn 0 s.heap) (hf : ∀ b ∈ fp, FpOk X pins H b) (h : LcW J g tt te (cst σ nl js) Q H)
    (fin : ∀ D C H' s' m, Inv X pins σ H' s' → s'.heap.Ns C m → FpOk X pins H' C → Q (.ref D) H' → RR (.ref D) C (.ok .next) s') :
    wpAny (model X.prog X.w) X.A (newList []) (fun acc s3 => wpAny (model X.prog X.w) X.A (newFunctionEnv sc X.env.globals (clOf X.env sc.names []) [] X.env.qual none .none (some X.env)) (fun cenv s4 =>
      codeAny (model X.prog X.w) X.A (.compStart (.ListComp elt [⟨tg, iter, ifs, 0⟩] sc pos) 0 (.ref it) acc { cenv with scope := relabel sc X.env }) (RR acc cenv.locals) s4) E s3) E s := by
  obtain ⟨W, ⟨m0, w0⟩, step⟩ := h
  refine wpAny_newObj_type (wpAny_newFunctionEnv S.nocell (by intro y hy; simp at hy) (fun h1 hns hsb => ?_) S.kind)
  dsimp only at hns hsb ⊢
  generalize hP : s.heap.push { cls := .type "list", dict := none, data := .seq ([] : List Value).toArray } = P1 at hns hsb ⊢
  have hCs : P1.objs.size = s.heap.objs.size + 1 := by rw [← hP, Heap.size_push]
  have hDC : s.heap.objs.size ≠ P1.objs.size := by rw [hCs]; exact Nat.ne_of_lt (Nat.lt_succ_self _)
  have hCle : s.heap.objs.size ≤ P1.objs.size := by rw [hCs]; exact Nat.le_succ _
  have ltf : ∀ b ∈ fp, b < s.heap.objs.size := fun b hb => by
    obtain ⟨o, e, _⟩ := T.obj 0 _ st b hb
    exact Heap.lt_size e
  have hfC : ∀ b ∈ fp, b ≠ P1.objs.size := fun b hb => Nat.ne_of_lt (Nat.lt_of_lt_of_le (ltf b hb) hCle)
  have old : ∀ b o, s.heap.get? b = some o → h1.get? b = some o := fun b o e =>
    hsb.extBut b o (Nat.ne_of_lt (Nat.lt_of_lt_of_le (Heap.lt_size e) hCle)) (Heap.get?_push_of_some _ (hP ▸ Heap.get?_push_of_some _ e))
  have accD : h1.get? s.heap.objs.size = some { cls := .type "list", data := .seq ([] : List Value).toArray 0 } := hsb.extBut _ _ hDC (Heap.get?_push_of_some _ (hP ▸ Heap.get?_push_size _ rfl))
  generalize hDd : s.heap.objs.size = D at *
  generalize hCd : P1.objs.size = C at *
  have ltp : ∀ p ∈ X.pn ++ pins, p.1 < D := fun p hp => by rw [← hDd]; exact Heap.lt_size (I.pin p hp).1
  have ltc : ∀ x c, X.env.cells.lookup x = some c → c < D := fun x c e => by
    obtain ⟨v, o, ho, _⟩ := I.cell x c e
    rw [← hDd]; exact Heap.lt_size ho
  have noD : D ∉ frs X.stack := fun z => by
    rcases List.mem_cons.mp (I.stkSub _ z) with y | y
    · have := I.lt; rw [← y, hDd] at this; exact Nat.lt_irrefl _ this
    · exact I.nofs (Nat.le_of_eq hDd) y
  have fpB : ∀ {H' : Hp} {o : Obj}, (∀ b ∈ fp, H' b = none) → ∀ b ∈ fp, FpOk (blk X N' sc C s H fp) (pins ++ [(D, o)]) H' b := fun {H' o} hn b hb => by
    obtain ⟨f0, f1, f2, f3, f4, f5⟩ := hf b hb
    refine ⟨hn b hb, hfC b hb, fun z => ?_, .inl hb, fun x c e => f4 x c (S.sub I.ok e), fun p hp => ?_⟩
    · rcases List.mem_cons.mp (I.stkSub _ z) with y | y
      · exact f1 y
      · exact f2 y
    · have hp' : p ∈ (X.pn ++ pins) ++ [(D, o)] := by rw [List.append_assoc]; exact hp
      rcases List.mem_append.mp hp' with z | z
      · exact f5 p z
      · have e : p = (D, o) := by simpa using z
        subst e
        exact Nat.ne_of_gt (ltf b hb)
  have repin : ∀ {σ' : St} {H' : Hp} {s' : Shared} {its : List Value} {c : Nat}, Inv (blk X N' sc C s H fp) pins σ' H' s' → H' D = none → s'.heap.get? D = some { cls := .type "list", data := .seq its.toArray c } →
      Inv (blk X N' sc C s H fp) (pins ++ [(D, { cls := .type "list", data := .seq its.toArray c })]) σ' H' s' := fun {σ' H' s' its c} I' hn e =>
    I'.pins_of fun p hp => by
      rcases List.mem_append.mp hp with z | z
      · exact I'.pin p (List.mem_append_right _ z)
      · have e' : p = (D, { cls := .type "list", data := .seq its.toArray c }) := by simpa using z
        subst e'
        exact ⟨e, hn, hDC, noD, fun v z => by cases z⟩
  have loop : ∀ s4 : Shared, s4 = { s with heap := h1, toks := s.toks + ([] : List (Str × Value)).length } →
      codeAny (model X.prog X.w) X.A (.compLoop (.ListComp elt [⟨tg, iter, ifs, 0⟩] sc pos) 0 (.ref it) (.ref D) (compEnvC sc (clOf X.env sc.names []) C X.env)) (RR (.ref D) C) s4 := by
    rintro s4 rfl
    refine compLoop_any (fun n s' => ∃ (i : Nat) (ys : List V) (H' : Hp) (its : List Value) (c : Nat), Inv (blk X N' sc C s H fp) (pins ++ [(D, { cls := .type "list", data := .seq its.toArray c })]) (cst σ nl js) H' s' ∧
      tn i s'.heap ∧ (∀ b ∈ fp, H' b = none) ∧ Vals ys its ∧ W i n ys H') ?_ m0 ⟨0, [], H, [], 0, ?_, ?_, fun b hb => (hf b hb).1, .nil, w0⟩
    · rintro n s' ⟨i, ys, H', its, c, I', st', fr', rv, w'⟩
      obtain ⟨hz, alt⟩ := step i n ys H' w'
      rcases alt with ⟨stop, qn⟩ | ⟨go, more⟩
      · refine wpAny_mono (T.done (blk X N' sc C s H fp) rfl rfl rfl hc i _ s' _ H' (fun _ _ => False) I' (fpB fr') st' stop) (fun r s5 ⟨hr, I5⟩ => ?_) fun _ _ z => z
        subst hr
        obtain ⟨eD, nD, _⟩ := I5.pin (D, _) (List.mem_append_right _ (List.mem_append_right _ List.mem_cons_self))
        dsimp only at eD nD
        obtain ⟨mC, hnC, _⟩ := I5.loc
        have hHD : H D = none := I.hok.fresh (Nat.le_of_eq hDd)
        have I6 : Inv X pins σ (upd H' D (.lst ys)) s5 := by
          refine I.call' (ch := fp) I5.os ?_ ?_ I5.bare fun b hb => ?_
          · have B : Un (frs X.stack) fp H H' s.heap s5.heap := I5.base
            refine ⟨B.keep, B.slot, fun b o e n hx => ?_, B.there, fun b xs e => ?_, fun b o u e => ?_, fun b ps e => ?_⟩
            · rw [upd_ne (by rw [← hDd]; exact Nat.ne_of_lt (Heap.lt_size e))]; exact B.free b o e n hx
            · rw [upd_ne (ne_of_none e hHD)]; exact B.tups b xs e
            · rw [upd_ne (ne_of_none e hHD)]; exact B.frzs b o u e
            · rw [upd_ne (ne_of_none e hHD)]; exact B.tbls b ps e
          · intro b u e
            by_cases hb : b = D
            · subst hb
              rw [upd_same] at e
              cases e
              exact ⟨hz, its, c, rv, eD⟩
            · rw [upd_ne hb] at e
              exact (I5.hok b u e).stay (fun _ _ _ q => q) (fun x q => by rw [upd_ne (ne_of_none q nD)]; exact q) fun x xs q => by rw [upd_ne (ne_of_none q nD)]; exact q
          · obtain ⟨f0, f1, f2, f3, f4, f5⟩ := hf b hb
            exact ⟨f3, f1, f4, f5⟩
        refine fin D C _ s5 mC I6 hnC ⟨?_, ?_, ?_, ?_, ?_, ?_⟩ (qn D nD)
        · rw [upd_ne (Ne.symm hDC)]; exact I5.free
        · have := I.lt; rw [hDd] at this; exact Nat.ne_of_gt (Nat.lt_of_lt_of_le this hCle)
        · exact I.nofs (by rw [hDd]; exact hCle)
        · exact .inr (Nat.le_trans I.sz (by rw [hDd]; exact hCle))
        · exact fun x c' e => Nat.ne_of_lt (Nat.lt_of_lt_of_le (ltc x c' e) hCle)
        · exact fun p hp => Nat.ne_of_lt (Nat.lt_of_lt_of_le (ltp p hp) hCle)
      · refine wpAny_mono (T.item (blk X N' sc C s H fp) rfl rfl rfl hc i _ s' _ H' (fun _ _ => False) I' (fpB fr') st' go) (fun r s5 ⟨u, hr, h5⟩ => ?_) fun _ _ z => z
        subst hr
        refine wpAny_mono h5 (fun _ s6 ⟨x, H6, I6, r6, y6, st6, fr6⟩ => ?_) fun _ _ z => z
        have I6' := I6.pinned (fpB fr6) (T.obj _ _ st6)
        refine wpAny_mono (hg C s H fp _ s6 _ H6 x u _ I6' r6 (more x H6 y6)) (fun _ s7 ⟨σ7, H7, I7, wk, q7⟩ => ?_) fun _ _ z => z
        refine wpAny_mono (ht C s H fp _ s7 σ7 H7 _ I7 q7) (fun ok s8 ⟨H8, I8, q8⟩ => ?_) fun _ _ z => z
        have again : ∀ {H9 : Hp} {s9 : Shared}, Inv (blk X N' sc C s H fp) ((pins ++ [(D, { cls := .type "list", data := .seq its.toArray c })]) ++ pinsAt fp s6.heap) σ7 H9 s9 →
            (∀ b ∈ fp, ∀ o, s6.heap.get? b = some o → s9.heap.get? b = some o) ∧ (∀ b ∈ fp, H9 b = none) := fun {H9 s9} I9 => by
          refine ⟨fun b hb o e => (I9.pin (b, o) (List.mem_append_right _ (List.mem_append_right _ (mem_pinsAt hb e)))).1, fun b hb => ?_⟩
          obtain ⟨o, e, d⟩ := T.obj _ _ st6 b hb
          exact (I9.pin (b, o) (List.mem_append_right _ (List.mem_append_right _ (mem_pinsAt hb e)))).2.1
        cases ok with
        | false =>
          rw [if_neg Bool.false_ne_true] at q8 ⊢
          obtain ⟨m', hm, w8⟩ := q8
          obtain ⟨k8, fr8⟩ := again I8
          exact ⟨m', hm, i + 1, ys, H8, its, c, I8.unpinned.weak wk.1 wk.2, T.keep _ _ _ st6 k8, fr8, rv, w8⟩
        | true =>
          rw [if_pos rfl] at q8 ⊢
          refine wpAny_mono (he C s H fp _ s8 σ7 H8 _ I8 q8) (fun y s9 ⟨v, H9, I9, r9, hz9, m', hm, w9⟩ => ?_) fun _ _ z => z
          obtain ⟨k9, fr9⟩ := again I9
          have I9' := I9.unpinned
          obtain ⟨eD, nD, _⟩ := I9'.pin (D, _) (List.mem_append_right _ (List.mem_append_right _ List.mem_cons_self))
          dsimp only at eD nD
          have hl := rv.length
          refine wpAny_list_append_plain ⟨c, eD⟩ (fun h' pl sb => ?_) (by rw [List.size_toArray]; omega)
          have I10 : Inv (blk X N' sc C s H fp) pins σ7 H9 { s9 with heap := h' } := I9'.unpinned.turned (it := D) (t' := s9.toks) (fun b o hb e => (sb.2 b hb).trans e) nD hDC
            (.inr (Nat.le_of_eq hDd)) (fun x c' e => Nat.ne_of_lt (ltc x c' (S.sub I.ok e))) fun p hp => Nat.ne_of_lt (ltp p hp)
          obtain ⟨c2, e2⟩ := pl
          have ea : its.toArray.push y = (its ++ [y]).toArray := by simp
          rw [ea] at e2
          refine ⟨m', hm, i + 1, ys ++ [v], H9, its ++ [y], c2, (repin I10 nD e2).weak wk.1 wk.2, T.keep _ _ _ st6 fun b hb o e => ?_, fr9, rv.append (.cons r9 .nil), w9⟩
          exact (sb.2 b (Nat.ne_of_lt (ltf b hb))).trans (k9 b hb o e)
    · exact repin (blk_inv S I hf (by rw [hDd]; exact hCle) hfC old hns) (I.hok.fresh (Nat.le_of_eq hDd)) accD
    · exact T.keep _ _ _ st fun b _ o e => old b o e
  exact codeAny_compStart_list (loop _ rfl) (T.self _ 0 _ _ _ (T.keep _ _ _ st fun b _ o e => old b o e) (loop _ rfl))
theorem pe_lc (hc : X.calm = true) (S : CScope X sc N' nl js) (hi : PI X tg iter wi)
    (hg : ∀ C s2 H2 ex, PG (blk X N' sc C s2 H2 ex) tg g) (ht : ∀ C s2 H2 ex, PIf (blk X N' sc C s2 H2 ex) ifs tt) (he : ∀ C s2 H2 ex, PE (blk X N' sc C s2 H2 ex) elt te)
    (hs : ∀ x, foldedSetIterable iter X.env x = pure x := by intro _; rfl) : PE X (.ListComp elt [⟨tg, iter, ifs, 0⟩] sc pos) (tLc wi g tt te nl js) := by
  intro pins s σ H Q I h
  rw [eval_ListComp]
  refine wpAny_comprehension_free (use := none) rfl hs (closureFor_cl (S.hasC I.ok)) S.kind S.locs (thn (hi pins s σ H _ I h) fun v s1 h1 => thn h1 fun itv s2 h2 => ?_)
  obtain ⟨it, fp, tn, J, H2, rfl, I2, T, st2, f2, q2⟩ := h2
  refine lc_core (RR := fun acc C => compPost (model X.prog X.w) X.A X.xe none (EP X pins σ Q) acc C) hc S hg ht he I2 T st2 f2 q2 fun D C H' s' m I' hn ⟨f0, f1, f2, f3, f4, f5⟩ q => ?_
  exact ⟨m, hn, fun h' sb => ⟨.ref D, H', I'.turned (it := C) (t' := s'.toks) (fun b o hb e => (sb.2 b hb).trans e) f0 f1 f3 f4 f5, rfl, q⟩⟩
theorem ps_setlc {i : Nat} {x : Str} {pos' spos : Pos} (hc : X.calm = true) (S : CScope X sc N' nl js) (hi : PI X tg iter wi)
    (hg : ∀ C s2 H2 ex, PG (blk X N' sc C s2 H2 ex) tg g) (ht : ∀ C s2 H2 ex, PIf (blk X N' sc C s2 H2 ex) ifs tt) (he : ∀ C s2 H2 ex, PE (blk X N' sc C s2 H2 ex) elt te)
    (hN : X.N.Nodup) (hx : X.N[i]? = some x) (hloc : X.env.scope.names.lookup x = some .local)
    (hsw : swapsWith (.ListComp elt [⟨tg, iter, ifs, 0⟩] sc pos) (some (.Name x pos')) spos.line X.env = pure true := by rfl) (hs : ∀ x, foldedSetIterable iter X.env x = pure x := by intro _; rfl) :
    PS X (.Assign [.Name x pos'] (.ListComp elt [⟨tg, iter, ifs, 0⟩] sc pos) spos) (tAsg (tLc wi g tt te nl js) (gName i)) := by
  intro pins s σ H D0 I h
  rw [exec_Assign_Name_used _ _ _ _ hsw]
  refine wpAny_bind (wpAny_standAt (wpAny_bind ?_))
  show wpAny _ X.A (do let _ ← comprehension (.ListComp elt [⟨tg, iter, ifs, 0⟩] sc pos) sc X.env _ (newList []) false (eval iter X.env) (some (assign (.Name x pos') X.env))) _ _ s
  refine wpAny_bind (wpAny_mono (wpAny_comprehension_free (use := some (assign (.Name x pos') X.env)) (Q := fun _ s' => SP X pins D0 .next s') rfl hs (closureFor_cl (S.hasC I.ok)) S.kind S.locs
    (thn (hi pins s σ H _ I h) fun v s1 h1 => thn h1 fun itv s2 h2 => ?_)) (fun _ s' hq => wpAny_pure (wpAny_pure hq)) fun _ _ e => e)
  obtain ⟨it, fp, tn, J, H2, rfl, I2, T, st2, f2, q2⟩ := h2
  refine lc_core (RR := fun acc C => compPost (model X.prog X.w) X.A X.xe (some (assign (.Name x pos') X.env)) (fun _ s' => SP X pins D0 .next s') acc C) hc S hg ht he I2 T st2 f2 q2 fun D C H' s' m I' hn ⟨f0, f1, f2, f3, f4, f5⟩ q => ?_
  show wpAny _ X.A (assign (.Name x pos') X.env (.ref D)) _ _ s'
  obtain ⟨o, es, ep, ho, hd, r⟩ := hn
  have I2' : Inv X (pins ++ [(C, o)]) σ H' s' := I'.pins_of fun p hp => by
    rcases List.mem_append.mp hp with z | z
    · exact I'.pin p (List.mem_append_right _ z)
    · have e' : p = (C, o) := by simpa using z
      subst e'
      exact ⟨ho, f0, f1, f2, fun v z => by rw [hd] at z; cases z⟩
  refine wpAny_assign_Name (store_ok I2' hN hx (.inl hloc) (v := .ref D) rfl (fun s3 I3 => ?_) (.inr hloc))
  obtain ⟨e3, _⟩ := I3.pin (C, o) (List.mem_append_right _ (List.mem_append_right _ List.mem_cons_self))
  refine ⟨m, ⟨o, es, ep, e3, hd, r⟩, fun h' sb => ⟨_, H', I3.unpinned.turned (it := C) (t' := s3.toks) (fun b o hb e => (sb.2 b hb).trans e) f0 f1 f3 f4 f5, q⟩⟩
end
end L2
namespace L2
open PySem PySem.Spec PyProof.Rows
theorem Vals.tog : ∀ {xs : List V} {us : List Value} {i : Nat} {u : Value}, Vals xs us → us[i]? = some u → ∃ x, xs[i]? = some x ∧ RelV x u
  | _, _, _, _, .nil, e => by simp at e
  | _, _, 0, _, .cons r _, e => by simp at e; subst e; exact ⟨_, rfl, r⟩
  | _, _, i + 1, u, .cons _ t, e => by
    obtain ⟨x, h1, h2⟩ := Vals.tog (i := i) (u := u) t (by simpa using e)
    exact ⟨x, by simpa using h1, h2⟩
theorem Vals.ints_at {ns : List Int} {us : List Value} {i : Nat} {u : Value} (r : Vals (ns.map V.int) us) (e : us.toArray[i]? = some u) : ∃ t, u = .int (ns.getD i 0) t := by
  obtain ⟨x, h1, h2⟩ := r.tog (i := i) (u := u) (by simpa using e)
  rw [List.getElem?_map] at h1
  cases q : ns[i]? with
  | none => rw [q] at h1; cases h1
  | some z =>
    rw [q] at h1
    have e' : V.int z = x := Option.some.inj h1
    subst e'
    obtain ⟨t, rfl⟩ := h2
    exact ⟨t, by rw [List.getD_eq_getElem?_getD, q]; rfl⟩
theorem preSum_take (ns : List Int) : ∀ k, preSum (fun i => ns.getD i 0) k = (ns.take k).sum
  | 0 => by simp [preSum]
  | k + 1 => by
    rw [preSum, preSum_take ns k, List.take_add_one, List.sum_append, List.getD_eq_getElem?_getD]
    cases ns[k]? <;> simp
section
variable {X : Cx} {pins : List (Addr × Obj)} {σ : St} {H : Hp} {s : Shared}
theorem Inv.moved {o : Obj} {s' : Shared} (I : Inv X pins σ H s) (mv : Moved [s.heap.objs.size] (fun a b => b = a) { s with heap := s.heap.push o } s') : Inv X pins σ H s' := by
  have k : ∀ b u, s.heap.get? b = some u → s'.heap.get? b = some u := fun b u e => mv.heap b u (fun z => by
    have z' : b = s.heap.objs.size := by simpa using z
    exact absurd (Heap.lt_size e) (by rw [z']; exact Nat.lt_irrefl _)) (Heap.get?_push_of_some _ e)
  exact I.call' (ch := []) mv.os (Un.kept k) (I.hok.kept k) (by rw [mv.gens]; exact I.bare) fun b z => absurd z (by simp)
theorem iter_seq {A : Around} {E : Value → Shared → Prop} {Q : Value → Shared → Prop} {p : Addr} {ys : List V} (hh : A.handled = none) (I : Inv X pins σ H s) (hq : SqL X.K H p ys ∨ SqT X.K H p ys)
    (h : ∀ (it : Addr) (its : List Value) (fp : List Addr) (T : Nat → Heap → Prop) (s2 : Shared), Vals ys its → Walks X.prog X.w A it fp [it] its.toArray.size (fun i v => its.toArray[i]? = some v) T → T 0 s2.heap → (∀ b ∈ fp, b < s2.heap.objs.size) →
      (∀ s', Moved [it] (fun a b => b = a) s2 s' → Inv X pins σ H s') → Q (.ref it) s2) : wpAny (model X.prog X.w) A (pyIter (.ref p)) Q E s := by
  rcases hq with hq | hq
  · obtain ⟨its, r, pl, hz⟩ := I.list hq
    obtain ⟨o, ho, _⟩ := id pl.isList
    have hlt := Heap.lt_size ho
    refine wpAny_pyIter_list pl.isList (h s.heap.objs.size its [s.heap.objs.size, p] _ _ r (Walks.list hh _ p (Nat.ne_of_lt hlt) its.toArray) ⟨⟨_, Heap.get?_push_size _ rfl, rfl, rfl⟩, pl.isList.at fun o e => Heap.get?_push_of_some _ e⟩ (fun b hb => ?_) fun s' mv => I.moved mv)
    dsimp only
    rw [Heap.size_push]
    rcases List.mem_cons.mp hb with z | z
    · rw [z]; exact Nat.lt_succ_self _
    · have z' : b = p := by simpa using z
      rw [z']; exact Nat.lt_succ_of_lt hlt
  · obtain ⟨its, r, pl, hz⟩ := I.tuple hq
    have pt : s.heap.IsTuple p its.toArray := pl
    obtain ⟨o, ho, _⟩ := id pt
    have hlt := Heap.lt_size ho
    refine wpAny_pyIter_tuple pt (h s.heap.objs.size its [s.heap.objs.size, p] _ _ r (Walks.tuple hh _ p (Nat.ne_of_lt hlt) its.toArray) ⟨⟨_, Heap.get?_push_size _ rfl, rfl, rfl⟩, pt.at fun o e => Heap.get?_push_of_some _ e⟩ (fun b hb => ?_) fun s' mv => I.moved mv)
    dsimp only
    rw [Heap.size_push]
    rcases List.mem_cons.mp hb with z | z
    · rw [z]; exact Nat.lt_succ_self _
    · have z' : b = p := by simpa using z
      rw [z']; exact Nat.lt_succ_of_lt hlt
end
section
variable {X : Cx}
theorem call_sum_seq (hc : X.calm = true) : CallR X (.builtin "sum") (fun xs H Q => ∃ (p : Addr) (ns : List Int), xs = [.ref p] ∧ (SqL X.K H p (ns.map V.int) ∨ SqT X.K H p (ns.map V.int)) ∧ Q (.int ns.sum) H) := by
  intro pins s σ H xs us Q I r h
  obtain ⟨p, ns, rfl, hq, q⟩ := h
  obtain ⟨u, rfl, rx⟩ := vals1 r
  cases rx
  refine call_sum_walkAnyS (iter_seq (I.ok.hd hc) I hq fun it its fp T s2 rv W st hfp inv => ⟨it, fp, [it], _, _, _, _, fun i => ns.getD i 0, rfl, W.toS, st, hfp, fun i v e => rv.ints_at e, fun s' t' mv => ?_⟩)
  have hl : its.toArray.size = ns.length := by
    have := rv.length
    rw [List.length_map] at this
    rw [List.size_toArray]; omega
  refine ⟨.int ns.sum, H, inv s' mv, ⟨t', ?_⟩, q⟩
  rw [preSum_take, hl, List.take_length]
def tv : V → Bool
  | .bl b => b
  | .int i => i != 0
  | _ => false
def isBI : V → Bool
  | .bl _ => true
  | .int _ => true
  | _ => false
theorem truth_of {ys : List V} {its : List Value} {A : Around} (rv : Vals ys its) (hb : ys.all isBI = true) : TruthOf X.prog X.w A (fun i v => its.toArray[i]? = some v) (fun i => tv (ys.getD i .non)) := by
  intro i v s Q E e h
  obtain ⟨x, h1, h2⟩ := rv.tog (i := i) (u := v) (by simpa using e)
  have hx : isBI x = true := List.all_eq_true.mp hb x (List.mem_of_getElem? h1)
  dsimp only at h
  rw [List.getD_eq_getElem?_getD, h1] at h
  cases x with
  | bl b => cases h2; exact wpAny_truthy_bool h
  | int i => obtain ⟨t, rfl⟩ := h2; exact PySem.P.truthy_int h
  | _ => exact absurd (show false = true from hx) Bool.false_ne_true
theorem range_all {ys : List V} (f : V → Bool) : (List.range ys.length).all (fun i => f (ys.getD i .non)) = ys.all f := by
  rw [Bool.eq_iff_iff, List.all_eq_true, List.all_eq_true]
  constructor
  · intro h x hx
    obtain ⟨i, hi, rfl⟩ := List.mem_iff_getElem.mp hx
    have := h i (List.mem_range.mpr hi)
    rwa [List.getD_eq_getElem?_getD, List.getElem?_eq_getElem hi] at this
  · intro h i hi
    have hi' := List.mem_range.mp hi
    rw [List.getD_eq_getElem?_getD, List.getElem?_eq_getElem hi']
    exact h _ (List.getElem_mem hi')
theorem range_any {ys : List V} (f : V → Bool) : (List.range ys.length).any (fun i => f (ys.getD i .non)) = ys.any f := by
  rw [Bool.eq_iff_iff, List.any_eq_true, List.any_eq_true]
  constructor
  · rintro ⟨i, hi, h⟩
    have hi' := List.mem_range.mp hi
    rw [List.getD_eq_getElem?_getD, List.getElem?_eq_getElem hi'] at h
    exact ⟨_, List.getElem_mem hi', h⟩
  · rintro ⟨x, hx, h⟩
    obtain ⟨i, hi, rfl⟩ := List.mem_iff_getElem.mp hx
    exact ⟨i, List.mem_range.mpr hi, by rw [List.getD_eq_getElem?_getD, List.getElem?_eq_getElem hi]; exact h⟩
theorem call_all_seq (hc : X.calm = true) : CallR X (.builtin "all") (fun xs H Q => ∃ (p : Addr) (ys : List V), xs = [.ref p] ∧ (SqL X.K H p ys ∨ SqT X.K H p ys) ∧ ys.all isBI = true ∧ Q (.bl (ys.all tv)) H) := by
  intro pins s σ H xs us Q I r h
  obtain ⟨p, ys, rfl, hq, hb, q⟩ := h
  obtain ⟨u, rfl, rx⟩ := vals1 r
  cases rx
  refine call_all_walkS (iter_seq (I.ok.hd hc) I hq fun it its fp T s2 rv W st hfp inv => ⟨it, fp, [it], _, _, _, _, _, rfl, W.toS, st, truth_of rv hb, fun s' mv => ?_⟩)
  refine ⟨.bl (ys.all tv), H, inv s' mv, ?_, q⟩
  show Value.bool _ = Value.bool _
  rw [List.size_toArray, ← rv.length, range_all]
theorem call_any_seq (hc : X.calm = true) : CallR X (.builtin "any") (fun xs H Q => ∃ (p : Addr) (ys : List V), xs = [.ref p] ∧ (SqL X.K H p ys ∨ SqT X.K H p ys) ∧ ys.all isBI = true ∧ Q (.bl (ys.any tv)) H) := by
  intro pins s σ H xs us Q I r h
  obtain ⟨p, ys, rfl, hq, hb, q⟩ := h
  obtain ⟨u, rfl, rx⟩ := vals1 r
  cases rx
  refine call_any_walkS (iter_seq (I.ok.hd hc) I hq fun it its fp T s2 rv W st hfp inv => ⟨it, fp, [it], _, _, _, _, _, rfl, W.toS, st, truth_of rv hb, fun s' mv => ?_⟩)
  refine ⟨.bl (ys.any tv), H, inv s' mv, ?_, q⟩
  show Value.bool _ = Value.bool _
  rw [List.size_toArray, ← rv.length, range_any]
end
structure ItOk (J : It) (n : Nat) (val : Nat → V) (C : Hp → Prop) : Prop where
  go : ∀ i H, C H → i < n → J.go i H
  yld : ∀ i H x H', C H → i < n → J.yld i H x H' → H' = H ∧ x = val i
  stop : ∀ i H, C H → n ≤ i → J.stop i H
theorem itok_list {K : PySem.W.Frag} {a : Addr} {xs : List V} : ItOk (Itl K a) xs.length (fun i => xs.getD i .non) (fun H => SqL K H a xs) where
  go := fun i H q hi => ⟨xs, xs[i], q, by simp [hi]⟩
  yld := fun i H x H' q hi ⟨e, y⟩ => ⟨e, by rw [List.getD_eq_getElem?_getD, y xs q]; rfl⟩
  stop := fun i H q hi => ⟨xs, q, hi⟩
theorem itok_tup {K : PySem.W.Frag} {a : Addr} {xs : List V} : ItOk (Itt K a) xs.length (fun i => xs.getD i .non) (fun H => SqT K H a xs) where
  go := fun i H q hi => ⟨xs, xs[i], q, by simp [hi]⟩
  yld := fun i H x H' q hi ⟨e, y⟩ => ⟨e, by rw [List.getD_eq_getElem?_getD, y xs q]; rfl⟩
  stop := fun i H q hi => ⟨xs, q, hi⟩
theorem itok_range {lo : Int} {n : Nat} : ItOk (Itr lo n) n (fun i => .int (lo + (i : Nat))) (fun _ => True) where
  go := fun i H _ hi => hi
  yld := fun i H x H' _ hi ⟨e, y⟩ => ⟨e, y⟩
  stop := fun i H _ hi => hi
theorem lc_by {J : It} {n : Nat} {val : Nat → V} {C : Hp → Prop} {g : TG} {tt : TT} {te : TE} {σ0 : St} {Q : VK} {H : Hp} (O : ItOk J n val C) (Pv : Nat → List V → Hp → Prop) (hn : n ≤ sizeLine) (h0 : Pv 0 [] H) (hl : ∀ i ys H, i ≤ n → Pv i ys H → C H ∧ ys.length ≤ i)
    (hs : ∀ i ys H, i < n → Pv i ys H → g (val i) σ0 H fun σ2 H2 => Wk σ0 σ2 ∧ tt σ2 H2 fun k H3 => if k = true then te σ2 H3 fun v H4 => ys.length < sizeLine ∧ ∃ m', m' < n - i ∧ (m' = n - (i + 1) ∧ i + 1 ≤ n ∧ Pv (i + 1) (ys ++ [v]) H4) else ∃ m', m' < n - i ∧ (m' = n - (i + 1) ∧ i + 1 ≤ n ∧ Pv (i + 1) ys H3))
    (hd : ∀ ys H, Pv n ys H → ∀ p, H p = none → Q (.ref p) (upd H p (.lst ys))) : LcW J g tt te σ0 Q H := by
  refine ⟨fun i m ys H => m = n - i ∧ i ≤ n ∧ Pv i ys H, ⟨n, by simp, Nat.zero_le _, h0⟩, ?_⟩
  rintro i m ys H ⟨rfl, hi, p⟩
  obtain ⟨c, hy⟩ := hl i ys H hi p
  refine ⟨by omega, ?_⟩
  by_cases hlt : i < n
  · refine .inr ⟨O.go i H c hlt, fun x H' y => ?_⟩
    obtain ⟨rfl, rfl⟩ := O.yld i H x H' c hlt y
    exact hs i ys _ hlt p
  · have e : i = n := by omega
    subst e
    exact .inl ⟨O.stop _ H c (Nat.le_refl _), hd ys H p⟩
theorem for_by {J : It} {n : Nat} {val : Nat → V} {C : Hp → Prop} {g : TG} {tb : TS} {D : Ends} {σ : St} {H : Hp} (O : ItOk J n val C) (Pv : Nat → St → Hp → Prop) (h0 : Pv 0 σ H) (hl : ∀ i σ H, i ≤ n → Pv i σ H → C H)
    (hs : ∀ i σ H, i < n → Pv i σ H → g (val i) σ H fun σ2 H2 => tb { D with nx := Pv (i + 1), ct := Pv (i + 1), bk := D.nx } σ2 H2) (hd : ∀ σ H, Pv n σ H → D.nx σ H) :
    ∃ W : Nat → Nat → St → Hp → Prop, (∃ m, W 0 m σ H) ∧ ∀ i m σ H, W i m σ H →
      (J.stop i H ∧ D.nx σ H) ∨ (J.go i H ∧ ∃ N : St → Hp → Prop, (∀ σ' H', N σ' H' → ∃ m', m' < m ∧ W (i + 1) m' σ' H') ∧ ∀ x H', J.yld i H x H' → g x σ H' fun σ2 H2 => tb { D with nx := N, ct := N, bk := D.nx } σ2 H2) := by
  refine ⟨fun i m σ H => m = n - i ∧ i ≤ n ∧ Pv i σ H, ⟨n, by simp, Nat.zero_le _, h0⟩, ?_⟩
  rintro i m σ H ⟨rfl, hi, p⟩
  have c := hl i σ H hi p
  by_cases hlt : i < n
  · refine .inr ⟨O.go i H c hlt, Pv (i + 1), fun σ' H' p' => ⟨n - (i + 1), by omega, rfl, hlt, p'⟩, fun x H' y => ?_⟩
    obtain ⟨rfl, rfl⟩ := O.yld i H x H' c hlt y
    exact hs i σ _ hlt p
  · have e : i = n := by omega
    subst e
    exact .inl ⟨O.stop _ H c (Nat.le_refl _), hd σ H p⟩
theorem wk_set {σ0 : St} {i : Nat} {v : Option V} (h : σ0[i]? = some none) : Wk σ0 (σ0.set i v) := by
  refine ⟨by rw [List.length_set], fun j w' e => ?_⟩
  by_cases hj : i = j
  · subst hj; rw [h] at e; cases e
  · rw [List.getElem?_set_ne hj]; exact e
theorem Same.new {H : Hp} {p : Addr} {o : HO} (h : H p = none) : Same H (upd H p o) := fun b u e => by
  rw [upd_ne (ne_of_none e h)]
  exact e
theorem Same.tup {K : PySem.W.Frag} {H H' : Hp} {a : Addr} {xs : List V} (e : Same H H') (h : SqT K H a xs) : SqT K H' a xs := by
  rcases h with (h | ⟨o, h⟩) | h
  · exact .inl (.inl (e _ _ h))
  · exact .inl (.inr ⟨o, e _ _ h⟩)
  · exact .inr h
theorem Same.next {H H1 : Hp} {p : Addr} {o : HO} (s : Same H H1) (h : H1 p = none) : Same H (upd H1 p o) := s.trans (Same.new h)
end L2
namespace L2
open PySem PySem.Spec PyProof.Rows
def tCut (t : TS) : TS := fun D σ H => ∃ M : St → Hp → Prop, t { D with nx := M } σ H ∧ ∀ σ' H', M σ' H' → D.nx σ' H'
theorem ps_cut {X : Cx} {st : Stmt} {t : TS} (h : PS X st t) : PS X st (tCut t) := by
  intro pins s σ H D I hw
  obtain ⟨M, h1, h2⟩ := hw
  refine thn (h pins s σ H { D with nx := M } I h1) fun f s' q => ?_
  cases f with
  | next => obtain ⟨σ', H', I', q⟩ := q; exact ⟨σ', H', I', h2 _ _ q⟩
  | brk => exact q
  | cont => exact q
  | ret u => exact q
def Def (P : Program) (w : World) (K : PySem.W.Frag) (mg : Str → Option Value) (base : Heap) (k : Nat) (x : Str) (ps : List Str) (sp : Sp) : Prop :=
  ∃ f fd, FnOk P w K mg base CX0 k f fd ps sp ∧ mg x = some (.ref f) ∧ PySem.W.keepIn K (.ref f) = true ∧ Binds K fd ps []
theorem Def.of {P : Program} {w : World} {K : PySem.W.Frag} {mg : Str → Option Value} {base : Heap} {k : Nat} {x qual : Str} {ps : List Str} {sp : Sp} {st : Stmt} {f : Addr} {fd : FuncData}
    (F : Fun K x qual st f fd) (m : mg x = some (.ref f)) (b : Binds K fd ps []) (ok : FnOk P w K mg base CX0 k f fd ps sp) : Def P w K mg base k x ps sp := ⟨f, fd, ok, m, F.kp, b⟩
theorem pe_def {X : Cx} {k : Nat} {x : Str} {ps : List Str} {sp : Sp} {e : Expr} {es : List Expr} {t : TA} {p pos : Pos} (D : Def X.prog X.w X.K X.mg X.base k x ps sp) (hr : Room k X.A) (hg : Gl X x) (ha : PA X (e :: es) t)
    (hdb : (x == ("__debug__" : Str)) = false := by decide) (he : starEach (e :: es) X.env = (false, eval e X.env) :: starEach es X.env := by rfl) (hpl : (backTo pos (starEach es X.env)).any (·.1) = false := by rfl) :
    PE X (.Call (.Name x p) (e :: es) [] pos) (tCall sp [] E0 t) := by
  obtain ⟨f, fd, F, m, kp, b⟩ := D
  exact pe_call F hr hg m kp b .nil pass0 ha hdb he hpl
def cchk (osc : Scope) (N : List Str) (sc : Scope) (N' : List Str) (nl : Nat) (js : List Nat) : Bool :=
  sc.kind == .function && sc.names.all (fun y => y.2 != .cell) && sc.names.all (fun y => y.2 != .local || sc.names.lookup y.1 == some .local) &&
  sc.names.all (fun y => y.2 != .free || (osc.names.lookup y.1 == some .cell || osc.names.lookup y.1 == some .free)) && (N'.length == nl + js.length) &&
  (List.range js.length).all (fun i => match js[i]?, N'[nl + i]? with | some j, some x => N[j]? == some x && sc.names.lookup x == some .free | _, _ => false)
theorem CScope.of {X : Cx} {osc sc : Scope} {N N' : List Str} {nl : Nat} {js : List Nat} (h : cchk osc N sc N' nl js = true) (h1 : X.env.scope = osc) (h2 : X.N = N) : CScope X sc N' nl js := by
  unfold cchk at h
  simp only [Bool.and_eq_true] at h
  obtain ⟨⟨⟨⟨⟨a1, a2⟩, a3⟩, a4⟩, a5⟩, a6⟩ := h
  refine ⟨by simpa using a1, fun y hy e => ?_, fun y hy e => ?_, fun y hy e => ?_, fun i j e => ?_, by simpa using a5⟩
  · have := List.all_eq_true.mp a2 y hy
    rw [e] at this
    exact absurd this (by decide)
  · have := List.all_eq_true.mp a3 y hy
    rw [e] at this
    simpa using this
  · have := List.all_eq_true.mp a4 y hy
    rw [e] at this
    have this : (osc.names.lookup y.1 == some .cell || osc.names.lookup y.1 == some .free) = true := by simpa using this
    show X.env.scope.names.lookup y.1 = _ ∨ X.env.scope.names.lookup y.1 = _
    rw [h1]
    simpa using this
  · have hi : i < js.length := (List.getElem?_eq_some_iff.mp e).1
    have := List.all_eq_true.mp a6 i (List.mem_range.mpr hi)
    rw [e] at this
    cases q : N'[nl + i]? with
    | none => rw [q] at this; exact absurd (show false = true from this) Bool.false_ne_true
    | some x =>
      rw [q] at this
      dsimp only at this
      rw [Bool.and_eq_true] at this
      exact ⟨x, rfl, by rw [h2]; simpa using this.1, by simpa using this.2⟩
theorem at_int {ns : List Int} {k : Int} (h0 : 0 ≤ k) (h : k < (ns.length : Int)) : atI (ns.map V.int) k = some (.int (ns.getD k.toNat 0)) := by
  have hk : k.toNat < ns.length := by omega
  have := atI_nat (xs := ns.map V.int) (j := k.toNat) (v := .int (ns.getD k.toNat 0)) (by rw [List.getElem?_map, List.getD_eq_getElem?_getD, List.getElem?_eq_getElem hk]; rfl)
  rwa [Int.toNat_of_nonneg h0] at this
theorem flat_ints (ns : List Int) : (ns.map V.int).all flatV = true := by
  rw [List.all_eq_true]
  intro x hx
  obtain ⟨n, _, rfl⟩ := List.mem_map.mp hx
  rfl
theorem inV_ints (z : Int) (ns : List Int) : inV (.int z) (ns.map V.int) = ns.any (· == z) := by
  unfold inV
  rw [List.any_map]
  rfl
theorem getD_map_int {ns : List Int} {i : Nat} (h : i < (ns.map V.int).length) : ∃ z, (ns.map V.int).getD i .non = .int z ∧ ns[i]? = some z := by
  rw [List.length_map] at h
  refine ⟨ns[i], ?_, List.getElem?_eq_getElem h⟩
  rw [List.getD_eq_getElem?_getD, List.getElem?_map, List.getElem?_eq_getElem h]
  rfl
theorem take_snoc {α : Type} {l : List α} {i : Nat} {z : α} (h : l[i]? = some z) : l.take (i + 1) = l.take i ++ [z] := by
  rw [List.take_add_one, h]
  rfl
end L2
namespace L2
open PySem
theorem kit_self (K : PySem.W.Frag) (t : Value) : PySem.W.kitOne K t t = some true := by
  unfold PySem.W.kitOne
  rw [if_pos (by simp)]
end L2
namespace L2
open PySem PySem.Spec PyProof.Rows
mutual
inductive DatV (K : PySem.W.Frag) (H : Hp) : V → PyData → Prop
  | non : DatV K H .non .none
  | bl (b : Bool) : DatV K H (.bl b) (.bool b)
  | int (i : Int) : DatV K H (.int i) (.int i)
  | str (x : Str) : DatV K H (.str x) (.str x)
  | lst {a : Addr} {xs : List V} {ds : List PyData} : SqL K H a xs → DatVs K H xs ds → DatV K H (.ref a) (.list ds)
  | tup {a : Addr} {xs : List V} {ds : List PyData} : SqT K H a xs → DatVs K H xs ds → DatV K H (.ref a) (.tuple ds)
inductive DatVs (K : PySem.W.Frag) (H : Hp) : List V → List PyData → Prop
  | nil : DatVs K H [] []
  | cons {x : V} {d : PyData} {xs : List V} {ds : List PyData} : DatV K H x d → DatVs K H xs ds → DatVs K H (x :: xs) (d :: ds)
end
section
variable {X : Cx} {pins : List (Addr × Obj)} {σ : St} {H : Hp} {s : Shared}
mutual
theorem DatV.reads (I : Inv X pins σ H s) : ∀ {x : V} {d : PyData} {u : Value}, DatV X.K H x d → RelV x u → ∃ as, Reads s.heap u d as
  | _, _, _, .non, r => by cases r; exact ⟨_, .none⟩
  | _, _, _, .bl b, r => by cases r; exact ⟨_, .bool b⟩
  | _, _, _, .int i, r => by obtain ⟨t, rfl⟩ := r; exact ⟨_, .int i t⟩
  | _, _, _, .str x, r => by obtain ⟨t, rfl⟩ := r; exact ⟨_, .str x t⟩
  | _, _, _, .lst hq h, r => by
    cases r
    obtain ⟨its, rv, pl, _⟩ := I.list hq
    obtain ⟨o, n, e, c, _, d⟩ := pl
    obtain ⟨as, q⟩ := DatVs.reads I h rv
    exact ⟨_, .list e c d (by simpa using q)⟩
  | _, _, _, .tup hq h, r => by
    cases r
    obtain ⟨its, rv, pl, _⟩ := I.tuple hq
    obtain ⟨o, e, c, n, d⟩ := pl
    obtain ⟨as, q⟩ := DatVs.reads I h rv
    exact ⟨_, .tuple e c d (by simpa using q)⟩
theorem DatVs.reads (I : Inv X pins σ H s) : ∀ {xs : List V} {ds : List PyData} {us : List Value}, DatVs X.K H xs ds → Vals xs us → ∃ as, ReadsAll s.heap us ds as
  | _, _, _, .nil, .nil => ⟨_, .nil⟩
  | _, _, _, .cons h t, .cons r rr => by
    obtain ⟨as, q⟩ := DatV.reads I h r
    obtain ⟨bs, q'⟩ := DatVs.reads I t rr
    exact ⟨_, .cons q q'⟩
end
end
def rEqD (K : PySem.W.Frag) (f : Bool → Bool) : R2 := fun x y H Q => ∃ d e, DatV K H x d ∧ DatV K H y e ∧ SeqAt.shaped d = true ∧ SeqAt.shaped e = true ∧ Q (.bl (f (PyData.eqv d e))) H
section
variable {X : Cx}
theorem op_eqD (hu : X.A.units + 64 < cLine) : OpR X (compareOp .Eq) (rEqD X.K id) := by
  intro pins s σ H x y v u Q I rx ry h
  obtain ⟨d, e, hd, he, sd, se, q⟩ := h
  obtain ⟨as, r1⟩ := hd.reads I rx
  obtain ⟨bs, r2⟩ := he.reads I ry
  exact eq_dataH r1 r2 sd se hu ⟨.bl _, H, I, rfl, q⟩
theorem op_neD (hu : X.A.units + 64 < cLine) : OpR X (compareOp .NotEq) (rEqD X.K not) := by
  intro pins s σ H x y v u Q I rx ry h
  obtain ⟨d, e, hd, he, sd, se, q⟩ := h
  obtain ⟨as, r1⟩ := hd.reads I rx
  obtain ⟨bs, r2⟩ := he.reads I ry
  exact ne_dataH r1 r2 sd se hu ⟨.bl _, H, I, rfl, q⟩
end
mutual
theorem DatV.same {K : PySem.W.Frag} {H H' : Hp} (S : Same H H') : ∀ {x : V} {d : PyData}, DatV K H x d → DatV K H' x d
  | _, _, .non => .non
  | _, _, .bl b => .bl b
  | _, _, .int i => .int i
  | _, _, .str x => .str x
  | _, _, .lst hq h => .lst (S.seq hq) (DatVs.same S h)
  | _, _, .tup hq h => .tup (S.tup hq) (DatVs.same S h)
theorem DatVs.same {K : PySem.W.Frag} {H H' : Hp} (S : Same H H') : ∀ {xs : List V} {ds : List PyData}, DatVs K H xs ds → DatVs K H' xs ds
  | _, _, .nil => .nil
  | _, _, .cons h t => .cons (DatV.same S h) (DatVs.same S t)
end
def dI (ns : List Int) : PyData := .list (ns.map PyData.int)
def dP (e : Int × Int) : PyData := .tuple [.int e.1, .int e.2]
theorem dI_lay : ∀ ns : List Int, PyData.canLayAll0 (ns.map PyData.int) = true ∧ PyData.depthAll (ns.map PyData.int) = 0
  | [] => ⟨rfl, rfl⟩
  | n :: r => by
    obtain ⟨h1, h2⟩ := dI_lay r
    simp only [List.map_cons, PyData.canLayAll0, PyData.canLay0, PyData.depthAll, PyData.depth, h1, h2]
    exact ⟨rfl, rfl⟩
theorem shaped_dI (ns : List Int) : SeqAt.shaped (dI ns) = true := by
  obtain ⟨h1, h2⟩ := dI_lay ns
  unfold SeqAt.shaped dI
  simp only [PyData.canLay0, PyData.depth, h1, h2]
  rfl
theorem eqvAll_dI : ∀ ns ms : List Int, PyData.eqvAll (ns.map PyData.int) (ms.map PyData.int) = decide (ns = ms)
  | [], [] => rfl
  | [], _ :: _ => rfl
  | _ :: _, [] => rfl
  | a :: r, b :: t => by
    simp only [List.map_cons, PyData.eqvAll, PyData.eqv, eqvAll_dI r t]
    by_cases h : a = b <;> by_cases h' : r = t <;> simp [h, h']
theorem eqv_dI (ns ms : List Int) : PyData.eqv (dI ns) (dI ms) = decide (ns = ms) := eqvAll_dI ns ms
theorem datVs_ints {K : PySem.W.Frag} {H : Hp} : ∀ ns : List Int, DatVs K H (ns.map V.int) (ns.map PyData.int)
  | [] => .nil
  | n :: r => .cons (.int n) (datVs_ints r)
theorem dat_ints {K : PySem.W.Frag} {H : Hp} {a : Addr} {ns : List Int} (h : SqL K H a (ns.map V.int)) : DatV K H (.ref a) (dI ns) := .lst h (datVs_ints ns)
def Pairs (K : PySem.W.Frag) (H : Hp) : List V → List (Int × Int) → Prop := Paired fun v e => ∃ r, v = .ref r ∧ SqT K H r [.int e.1, .int e.2]
theorem Pairs.same {K : PySem.W.Frag} {H H' : Hp} (S : Same H H') {xs : List V} {es : List (Int × Int)} (h : Pairs K H xs es) : Pairs K H' xs es := Paired.mapP h fun _ _ ⟨r, e, q⟩ => ⟨r, e, S.tup q⟩
theorem Pairs.len {K : PySem.W.Frag} {H : Hp} {xs : List V} {es : List (Int × Int)} (h : Pairs K H xs es) : xs.length = es.length := Paired.length h
theorem Pairs.at {K : PySem.W.Frag} {H : Hp} : ∀ {xs : List V} {es : List (Int × Int)} {i : Nat}, Pairs K H xs es → i < xs.length → ∃ r e, xs.getD i .non = .ref r ∧ SqT K H r [.int e.1, .int e.2] ∧ es[i]? = some e ∧ e ∈ es
  | _, _, _, .nil, h => absurd h (Nat.not_lt_zero _)
  | _, _, 0, .cons ⟨r, e, q⟩ _, _ => ⟨r, _, e, q, rfl, List.mem_cons_self⟩
  | _, _, i + 1, .cons _ t, h => by
    obtain ⟨r, e, h1, h2, h3, h4⟩ := Pairs.at (i := i) t (by simpa using h)
    exact ⟨r, e, by simpa using h1, h2, by simpa using h3, List.mem_cons_of_mem _ h4⟩
theorem Pairs.snoc {K : PySem.W.Frag} {H : Hp} {xs : List V} {es : List (Int × Int)} {r : Addr} {e : Int × Int} (h : Pairs K H xs es) (q : SqT K H r [.int e.1, .int e.2]) : Pairs K H (xs ++ [.ref r]) (es ++ [e]) := Paired.snoc h ⟨r, rfl, q⟩
def SameX (a : Addr) (H H' : Hp) : Prop := ∀ b o, b ≠ a → H b = some o → H' b = some o
theorem SameX.tup {K : PySem.W.Frag} {H H' : Hp} {a r : Addr} {xs zs : List V} (S : SameX a H H') (ha : H a = some (.lst zs)) (h : SqT K H r xs) : SqT K H' r xs := by
  rcases h with (h | ⟨o, h⟩) | h
  · exact .inl (.inl (S _ _ (ne_of h ha (by intro z; cases z)) h))
  · exact .inl (.inr ⟨o, S _ _ (ne_of h ha (by intro z; cases z)) h⟩)
  · exact .inr h
theorem Pairs.sameX {K : PySem.W.Frag} {H H' : Hp} {a : Addr} {zs : List V} (S : SameX a H H') (ha : H a = some (.lst zs)) {xs : List V} {es : List (Int × Int)} (h : Pairs K H xs es) : Pairs K H' xs es :=
  Paired.mapP h fun _ _ ⟨r, e, q⟩ => ⟨r, e, S.tup ha q⟩
theorem sameX_upd {H : Hp} {a : Addr} {o : HO} : SameX a H (upd H a o) := fun b u hb e => by rw [upd_ne hb]; exact e
end L2
namespace L2
open PySem PySem.Spec PyProof.Rows
section
variable {X : Cx} {tg : Expr}
def iSeq (K : PySem.W.Frag) (tl : TE) : TI := fun σ H R => tl σ H fun x H1 => ∃ a xs, x = .ref a ∧ (SqL K H1 a xs ∨ SqT K H1 a xs) ∧ ∀ J C, ItOk J xs.length (fun i => xs.getD i .non) C → (∀ H2, Same H1 H2 → C H2) → R J H1
theorem pi_seq {l : Expr} {tl : TE} (hl : PE X l tl) : PI X tg l (iSeq X.K tl) := by
  intro pins s σ H R I h
  refine thn (hl pins s σ H _ I h) fun v s1 ⟨x, H1, I1, r1, q1⟩ => ?_
  obtain ⟨a, xs, e, hq, q⟩ := q1
  subst e
  cases r1
  have fp : ∀ b ∈ [s1.heap.objs.size], FpOk X pins H1 b := fun b hb => by
    have e : b = s1.heap.objs.size := by simpa using hb
    rw [e]; exact I1.fpOk (Nat.le_refl _) (I1.hok.fresh (Nat.le_refl _))
  rcases hq with hq | hq
  · obtain ⟨its, rv, p, hz⟩ := I1.list hq
    exact wpAny_pyIter_list p.isList ⟨s1.heap.objs.size, [s1.heap.objs.size], _, _, H1, rfl, I1.kept (t' := s1.toks) fun b o e => Heap.get?_push_of_some _ e, turn_list a _, ⟨_, Heap.get?_push_size _ rfl, rfl, rfl⟩, fp,
      q _ _ itok_list fun H2 S => S.seq hq⟩
  · obtain ⟨its, rv, p, hz⟩ := I1.tuple hq
    exact wpAny_pyIter_tuple (show s1.heap.IsTuple a its.toArray from p) ⟨s1.heap.objs.size, [s1.heap.objs.size], _, _, H1, rfl, I1.kept (t' := s1.toks) fun b o e => Heap.get?_push_of_some _ e, turn_tuple a _, ⟨_, Heap.get?_push_size _ rfl, rfl, rfl⟩, fp,
      q _ _ itok_tup fun H2 S => S.tup hq⟩
end
inductive TyX (K : PySem.W.Frag) (H : Hp) : V → Value → Prop
  | of {x : V} {t : Value} : TyOf K H x t → TyX K H x t
  | tup {a : Addr} {xs : List V} : SqT K H a xs → TyX K H (.ref a) (.type "tuple")
  | lst {a : Addr} {xs : List V} : SqL K H a xs → TyX K H (.ref a) (.type "list")
section
variable {X : Cx}
theorem call_isX : CallR X (.builtin "isinstance") (fun xs H Q => ∃ x c t cv b, xs = [x, c] ∧ RelV c cv ∧ (∀ u, RelV c u → u = cv) ∧ TyX X.K H x t ∧ PySem.W.kitOne X.K t cv = some b ∧ Q (.bl b) H) := by
  intro pins s σ H xs us Q I r h
  obtain ⟨x, c, t, cv, b, rfl, _, hu, ty, e, q⟩ := h
  obtain ⟨u, u', rfl, rx, rc⟩ := vals2 r
  obtain rfl := hu u' rc
  have fin : ∀ tk, EP X pins σ Q (.bool b) { s with toks := tk } := fun tk => ⟨.bl b, H, I.tok _, rfl, q⟩
  cases ty with
  | of ty => exact isinst_ok I rx ty e fin
  | @tup a ys hq =>
    cases (show u = Value.ref a from rx)
    obtain ⟨its, rv, ⟨o, h1, h2, _⟩, hz⟩ := I.tuple hq
    exact PySem.W.kia_one PySem.W.kitx_tuple I.kIn ⟨o, h1, h2⟩ e (fun z => nomatch z) fin
  | @lst a ys hq =>
    cases (show u = Value.ref a from rx)
    obtain ⟨its, rv, ⟨o, n, h1, h2, _⟩, hz⟩ := I.list hq
    exact PySem.W.kia_one PySem.W.kitx_list I.kIn ⟨o, h1, h2⟩ e (fun z => nomatch z) fin
end
end L2
namespace L2
open PySem PySem.Spec PyProof.Rows
theorem pg_pair {X : Cx} {i j : Nat} {x y : Str} {p1 p2 pos : Pos} {k : Nat} (hc : X.calm = true) (hN : X.N.Nodup) (hi : X.N[i]? = some x) (hj : X.N[j]? = some y) (hx : X.env.scope.names.lookup x = some .local) (hy : X.env.scope.names.lookup y = some .local) :
    PG X (.Tuple [.Name x p1, .Name y p2] k pos) (gTup X.K 2 (gCons (gName i) (gCons (gName j) gNil))) := pg_tup hc (pgs_cons (pg_name hN hi (.inl hx) (.inr hx)) (pgs_cons (pg_name hN hj (.inl hy) (.inr hy)) pgs_nil))
theorem kIntBool {K : PySem.W.Frag} : PySem.W.kitOne K (.type "int") (.type "bool") = some false := by with_unfolding_all rfl
theorem Wk.trans {a b d : St} (x : Wk a b) (y : Wk b d) : Wk a d := ⟨x.1.trans y.1, fun i v e => y.2 i v (x.2 i v e)⟩
theorem wk_set2 {σ0 : St} {i j : Nat} {v u : Option V} (h : σ0[i]? = some none) (h' : (σ0.set i v)[j]? = some none) : Wk σ0 ((σ0.set i v).set j u) := (wk_set h).trans (wk_set h')
section
variable {K : PySem.W.Frag} {H H' : Hp} {a r C dx : Addr} {xs : List V} {fs : List (Str × V)}
theorem SameX.seqI (S : SameX a H H') (ha : H a = some (.ins C dx fs)) (h : SqL K H r xs) : SqL K H' r xs := by
  rcases h with (h | ⟨o, h⟩) | h
  · exact .inl (.inl (S _ _ (ne_of h ha (by intro z; cases z)) h))
  · exact .inl (.inr ⟨o, S _ _ (ne_of h ha (by intro z; cases z)) h⟩)
  · exact .inr h
theorem SameX.tupI (S : SameX a H H') (ha : H a = some (.ins C dx fs)) (h : SqT K H r xs) : SqT K H' r xs := by
  rcases h with (h | ⟨o, h⟩) | h
  · exact .inl (.inl (S _ _ (ne_of h ha (by intro z; cases z)) h))
  · exact .inl (.inr ⟨o, S _ _ (ne_of h ha (by intro z; cases z)) h⟩)
  · exact .inr h
theorem Pairs.sameI (S : SameX a H H') (ha : H a = some (.ins C dx fs)) {es : List (Int × Int)} (h : Pairs K H xs es) : Pairs K H' xs es := Paired.mapP h fun _ _ ⟨r, e, q⟩ => ⟨r, e, S.tupI ha q⟩
end
end L2
namespace L2
open PySem PySem.Spec PyProof.Rows
theorem PE.imp {X : Cx} {e : Expr} {t t' : TE} (h : PE X e t) (k : ∀ σ H Q, t' σ H Q → t σ H Q) : PE X e t' := fun pins s σ H Q I hw => h pins s σ H Q I (k σ H Q hw)
theorem Same.upd {H H' : Hp} {l : Addr} {o : HO} (e : Same H H') (h : H l = none) : Same H (L2.upd H' l o) := fun b u q => by rw [upd_ne (ne_of_none q h)]; exact e _ _ q
theorem pe_defR {X : Cx} {k k' : Nat} {x : Str} {ps : List Str} {sp : Sp} {e : Expr} {es : List Expr} {t : TA} {p pos : Pos} (D : Def X.prog X.w X.K X.mg X.base k x ps sp) (hr : Room k' X.A) (ha : PA X (e :: es) t) (hk : k ≤ k' := by decide) (hg : Gl X x := by rfl)
    (hdb : (x == ("__debug__" : Str)) = false := by decide) (he : starEach (e :: es) X.env = (false, eval e X.env) :: starEach es X.env := by rfl) (hpl : (backTo pos (starEach es X.env)).any (·.1) = false := by rfl) :
    PE X (.Call (.Name x p) (e :: es) [] pos) (fun σ H Q => t σ H fun vs H1 => sp vs H1 Q E0) := (pe_def D (hr.mono hk) hg ha hdb he hpl).imp fun σ H Q h => by
  show t σ H fun vs H1 => sp (vs ++ []) H1 Q E0
  simp only [List.append_nil]
  exact h
structure WebC (K : PySem.W.Frag) (C : Addr) : Prop where
  cl : Cls K C
  nM : NoAttr K C "many"
  nT : NoAttr K C "ties"
  ca : PySem.W.findIn K (.ref C) "__class__" = some (some (.builtin "object.__class__"))
  cg : PySem.W.specialIn K (.builtin "object.__class__") "__get__" = some (some (.builtin "getset_descriptor.__get__"))
  ck : PySem.W.takesIn K (.builtin "object.__class__") = some true
  co : PySem.W.mroIn K C (.type "object") = some true
abbrev wFs (m : Int) (t : Addr) : List (Str × V) := [("many", .int m), ("ties", .ref t)]
theorem wFs_many (m : Int) (t : Addr) : (wFs m t).lookup ("many" : Str) = some (.int m) := rfl
theorem wFs_ties (m : Int) (t : Addr) : (wFs m t).lookup ("ties" : Str) = some (.ref t) := rfl
def WebAt (K : PySem.W.Frag) (C : Addr) (H : Hp) (a : Addr) (m : Int) (es : List (Int × Int)) : Prop := ∃ dx t xs, H a = some (.ins C dx (wFs m t)) ∧ H t = some (.tup xs) ∧ Pairs K H xs es
theorem WebAt.same {K : PySem.W.Frag} {C : Addr} {H H' : Hp} {a : Addr} {m : Int} {es : List (Int × Int)} (h : WebAt K C H a m es) (S : Same H H') : WebAt K C H' a m es := by
  obtain ⟨dx, t, xs, h1, h2, h3⟩ := h
  exact ⟨dx, t, xs, S _ _ h1, S _ _ h2, h3.same S⟩
section
variable {X : Cx} {C : Addr} {e : Expr} {ta : TE} {pos : Pos}
def tMany (K : PySem.W.Frag) (C : Addr) (ta : TE) : TE := fun σ H Q => ta σ H fun x H1 => ∃ a m es, x = .ref a ∧ WebAt K C H1 a m es ∧ Q (.int m) H1
def tTies (K : PySem.W.Frag) (C : Addr) (ta : TE) : TE := fun σ H Q => ta σ H fun x H1 => ∃ a m es, x = .ref a ∧ WebAt K C H1 a m es ∧ ∀ t xs, H1 t = some (.tup xs) → Pairs K H1 xs es → Q (.ref t) H1
theorem pe_fld2 {f : Str} {r : V → Hp → VK → Prop} (he : PE X e ta) (hb : attributeBase e f X.env (eval e X.env) = eval e X.env) (k : ∀ x H Q, r x H Q → ∃ a C dx fs v, x = .ref a ∧ H a = some (.ins C dx fs) ∧ Cls X.K C ∧ NoAttr X.K C f ∧ fs.lookup f = some v ∧ Q v H) :
    PE X (.Attribute e f pos) (fun σ H Q => ta σ H fun x H1 => r x H1 Q) := by
  intro pins s σ H Q I h
  refine attr_of hb (thn (he pins s σ H _ I h) fun u s1 ⟨x, H1, I1, rx, q⟩ => ?_)
  obtain ⟨a, C', dx, fs, v, ex, ea, c, n, l, q'⟩ := k _ _ _ q
  subst ex
  obtain rfl : u = Value.ref a := rx
  exact getattr_ok I1 ea c n l fun u' s2 I2 ru => ⟨v, H1, I2, ru, q'⟩
theorem pe_many (W : WebC X.K C) (he : PE X e ta) (hb : attributeBase e "many" X.env (eval e X.env) = eval e X.env := by rfl) : PE X (.Attribute e "many" pos) (tMany X.K C ta) :=
  pe_fld2 (r := fun x H1 Q => ∃ a m es, x = .ref a ∧ WebAt X.K C H1 a m es ∧ Q (.int m) H1) he hb fun x H Q ⟨a, m, es, ex, ⟨dx, t, xs, h1, _⟩, q⟩ => ⟨a, C, dx, _, _, ex, h1, W.cl, W.nM, wFs_many m t, q⟩
theorem pe_ties (W : WebC X.K C) (he : PE X e ta) (hb : attributeBase e "ties" X.env (eval e X.env) = eval e X.env := by rfl) : PE X (.Attribute e "ties" pos) (tTies X.K C ta) :=
  pe_fld2 (r := fun x H1 Q => ∃ a m es, x = .ref a ∧ WebAt X.K C H1 a m es ∧ ∀ t xs, H1 t = some (.tup xs) → Pairs X.K H1 xs es → Q (.ref t) H1) he hb fun x H Q ⟨a, m, es, ex, ⟨dx, t, xs, h1, h2, h3⟩, q⟩ => ⟨a, C, dx, _, _, ex, h1, W.cl, W.nT, wFs_ties m t, q t xs h2 h3⟩
end
def EndsIn (es : List (Int × Int)) (m : Int) : Prop := ∀ e ∈ es, 0 ≤ e.1 ∧ e.1 < m ∧ 0 ≤ e.2 ∧ e.2 < m
theorem EndsIn.nil {m : Int} : EndsIn [] m := fun _ h => nomatch h
theorem EndsIn.snoc {es : List (Int × Int)} {m : Int} {e : Int × Int} (h : EndsIn es m) (q : 0 ≤ e.1 ∧ e.1 < m ∧ 0 ≤ e.2 ∧ e.2 < m) : EndsIn (es ++ [e]) m := fun x hx => by
  rcases List.mem_append.mp hx with z | z
  · exact h x z
  · have e' : x = e := by simpa using z
    rw [e']; exact q
def spInit (K : PySem.W.Frag) (C : Addr) : Sp := fun vs H Q _ => ∃ (x dx p : Addr) (m : Int) (xs : List V) (es : List (Int × Int)), vs = [.ref x, .int m, .ref p] ∧ H x = some (.ins C dx []) ∧ (SqL K H p xs ∨ SqT K H p xs) ∧ Pairs K H xs es ∧
  1 ≤ m ∧ m ≤ 20 ∧ es.length ≤ 40 ∧ EndsIn es m ∧ ∀ H' t ys, SameX x H H' → H' x = some (.ins C dx (wFs m t)) → H' t = some (.tup ys) → Pairs K H' ys es → Q .non H'
def MkDef (P : Program) (w : World) (K : PySem.W.Frag) (mg : Str → Option Value) (base : Heap) (k : Nat) (x : Str) (C : Addr) (ps : List Str) (sp : Sp) : Prop :=
  ∃ f fd, Mk K C f ∧ FnOk P w K mg base CX0 k f fd ps sp ∧ Binds K fd ps [] ∧ mg x = some (.ref C)
def tWeb (K : PySem.W.Frag) (C : Addr) (t : TA) : TE := fun σ H Q => t σ H fun vs H1 => ∃ (p : Addr) (m : Int) (xs : List V) (es : List (Int × Int)), vs = [.int m, .ref p] ∧ (SqL K H1 p xs ∨ SqT K H1 p xs) ∧ Pairs K H1 xs es ∧
  1 ≤ m ∧ m ≤ 20 ∧ es.length ≤ 40 ∧ EndsIn es m ∧ ∀ x H', H1 x = none → Same H1 H' → WebAt K C H' x m es → Q (.ref x) H'
theorem pe_make' {X : Cx} {k k' : Nat} {C : Addr} {x : Str} {ps : List Str} {sp : Sp} {e : Expr} {es : List Expr} {t : TA} {p pos : Pos} {R : List V → Hp → VK → Prop} (D : MkDef X.prog X.w X.K X.mg X.base k x C ps sp) (hr : Room k' X.A) (ha : PA X (e :: es) t)
    (hR : ∀ vs H1 Q, R vs H1 Q → ∀ x dx, H1 x = none → H1 dx = none → dx ≠ x → sp (.ref x :: vs) (upd (upd H1 dx (.own x)) x (.ins C dx [])) (fun v H2 => v = .non ∧ Q (.ref x) H2) E0)
    (hk : k + 1 ≤ k' := by decide) (hg : Gl X x := by rfl)
    (hdb : (x == ("__debug__" : Str)) = false := by decide) (he : starEach (e :: es) X.env = (false, eval e X.env) :: starEach es X.env := by rfl) (hpl : (backTo pos (starEach es X.env)).any (·.1) = false := by rfl) :
    PE X (.Call (.Name x p) (e :: es) [] pos) (fun σ H Q => t σ H fun vs H1 => R vs H1 Q) := by
  obtain ⟨f, fd, M, F, b, m⟩ := D
  intro pins s σ H Q I h
  refine wpAny_Call_Name_kw (ld_glob I hg m ?_ hdb)
  refine PySem.W.callWith_K (h₀ := X.base) I.ok.mod.kin M.kp (thn (ha pos pins s σ H _ I h) fun us s1 ⟨vs, H1, I1, r, q⟩ => ⟨I1.kIn, ?_⟩) he hpl
  exact run_make (dvs := []) (ds := []) M F (hr.mono hk) b .nil pass0 I1 r fun y dy n1 n2 n3 => by
    rw [List.append_nil]
    exact hR vs H1 Q q y dy n1 n2 n3
theorem pe_web {X : Cx} {k k' : Nat} {C : Addr} {x : Str} {ps : List Str} {e : Expr} {es : List Expr} {t : TA} {p pos : Pos} (D : MkDef X.prog X.w X.K X.mg X.base k x C ps (spInit X.K C)) (hr : Room k' X.A) (ha : PA X (e :: es) t)
    (hk : k + 1 ≤ k' := by decide) (hg : Gl X x := by rfl)
    (hdb : (x == ("__debug__" : Str)) = false := by decide) (he : starEach (e :: es) X.env = (false, eval e X.env) :: starEach es X.env := by rfl) (hpl : (backTo pos (starEach es X.env)).any (·.1) = false := by rfl) :
    PE X (.Call (.Name x p) (e :: es) [] pos) (tWeb X.K C t) := by
  refine pe_make' D hr ha (fun vs H1 Q q => ?_) hk hg hdb he hpl
  obtain ⟨p', mm, xs, es', rfl, hq, hp, b1, b2, b3, b4, q⟩ := q
  intro z dz nz ndz ne
  have s1 : Same H1 (upd (upd H1 dz (.own z)) z (.ins C dz [])) := (Same.new ndz).trans (Same.new (by rw [upd_ne ne.symm]; exact nz))
  refine ⟨z, dz, p', mm, xs, es', rfl, upd_same, hq.imp (fun y => s1.seq y) (fun y => s1.tup y), hp.same s1, b1, b2, b3, b4, fun H' tt ys sx h1 h2 h3 => ⟨rfl, ?_⟩⟩
  exact q z H' nz (fun bb o eb => sx _ _ (ne_of_none eb nz) (s1 _ _ eb)) ⟨dz, tt, ys, h1, h2, h3⟩
end L2
namespace L2
open PySem PySem.Spec PyProof.Rows
theorem SameX.of {H H' : Hp} {a : Addr} (S : Same H H') : SameX a H H' := fun b o _ e => S b o e
theorem SameX.trans {H H1 H2 : Hp} {a : Addr} (S : SameX a H H1) (T : SameX a H1 H2) : SameX a H H2 := fun b o n e => T b o n (S b o n e)
end L2
namespace L2
open PySem PySem.Spec PyProof.Rows
section
variable {X : Cx} {K : PySem.W.Frag}
theorem ixL (h : X.K = K) : IxR X (rIxL K) := by subst h; exact ix_list
theorem ixT (h : X.K = K) : IxR X (rIxT K) := by subst h; exact ix_tup
theorem slL (h : X.K = K) : SlR X (rSlL K) := by subst h; exact sl_list
theorem opIn (h : X.K = K) : OpR X (compareOp .In) (rIn K false) := by subst h; exact op_in_seq
theorem opNotIn (h : X.K = K) : OpR X (compareOp .NotIn) (rIn K true) := by subst h; exact op_notIn_seq
theorem opEqD (h : X.K = K) (hu : X.A.units + 64 < cLine) : OpR X (compareOp .Eq) (rEqD K id) := by subst h; exact op_eqD hu
theorem opNeD (h : X.K = K) (hu : X.A.units + 64 < cLine) : OpR X (compareOp .NotEq) (rEqD K not) := by subst h; exact op_neD hu
def rLen (K : PySem.W.Frag) : List V → Hp → VK → Prop := fun xs H Q => ∃ p ys, xs = [.ref p] ∧ (SqL K H p ys ∨ SqT K H p ys) ∧ Q (.int ys.length) H
theorem cLen (h : X.K = K) : CallR X (.builtin "len") (rLen K) := by subst h; exact call_len_seq
def rList (K : PySem.W.Frag) : List V → Hp → VK → Prop := fun xs H Q => ∃ p ys, xs = [.ref p] ∧ (SqL K H p ys ∨ SqT K H p ys) ∧ ∀ l, H l = none → Q (.ref l) (upd H l (.lst ys))
theorem cList (h : X.K = K) : CallR X (.type "list") (rList K) := by subst h; exact call_list_of
def rTuple (K : PySem.W.Frag) : List V → Hp → VK → Prop := fun xs H Q => ∃ p ys, xs = [.ref p] ∧ ((SqL K H p ys ∧ ∀ l, H l = none → Q (.ref l) (upd H l (.tup ys))) ∨ (SqT K H p ys ∧ Q (.ref p) H))
theorem cTuple (h : X.K = K) : CallR X (.type "tuple") (rTuple K) := by subst h; exact call_tuple_of
def rSum (K : PySem.W.Frag) : List V → Hp → VK → Prop := fun xs H Q => ∃ (p : Addr) (ns : List Int), xs = [.ref p] ∧ (SqL K H p (ns.map V.int) ∨ SqT K H p (ns.map V.int)) ∧ Q (.int ns.sum) H
theorem cSum (h : X.K = K) (hc : X.calm = true) : CallR X (.builtin "sum") (rSum K) := by subst h; exact call_sum_seq hc
def rAll (K : PySem.W.Frag) : List V → Hp → VK → Prop := fun xs H Q => ∃ (p : Addr) (ys : List V), xs = [.ref p] ∧ (SqL K H p ys ∨ SqT K H p ys) ∧ ys.all isBI = true ∧ Q (.bl (ys.all tv)) H
theorem cAll (h : X.K = K) (hc : X.calm = true) : CallR X (.builtin "all") (rAll K) := by subst h; exact call_all_seq hc
def rAny (K : PySem.W.Frag) : List V → Hp → VK → Prop := fun xs H Q => ∃ (p : Addr) (ys : List V), xs = [.ref p] ∧ (SqL K H p ys ∨ SqT K H p ys) ∧ ys.all isBI = true ∧ Q (.bl (ys.any tv)) H
theorem cAny (h : X.K = K) (hc : X.calm = true) : CallR X (.builtin "any") (rAny K) := by subst h; exact call_any_seq hc
def rIs (K : PySem.W.Frag) : List V → Hp → VK → Prop := fun xs H Q => ∃ x c t cv b, xs = [x, c] ∧ RelV c cv ∧ (∀ u, RelV c u → u = cv) ∧ TyX K H x t ∧ PySem.W.kitOne K t cv = some b ∧ Q (.bl b) H
theorem cIs (h : X.K = K) : CallR X (.builtin "isinstance") (rIs K) := by subst h; exact call_isX
theorem piSeq {tg l : Expr} {tl : TE} (h : X.K = K) (hl : PE X l tl) : PI X tg l (iSeq K tl) := by subst h; exact pi_seq hl
theorem pgTup {es : List Expr} {k : Nat} {t : TGs} {n : Nat} {pos : Pos} (hK : X.K = K) (hc : X.calm = true) (h : PGs X es t) (hn : (assignEach es X.env).length = n) (hst : (assignEach es X.env).findIdx? (·.1) = none := by rfl) : PG X (.Tuple es k pos) (gTup K n t) := by
  subst hK; exact pg_tup hc h hn hst
theorem pgPair {i j : Nat} {x y : Str} {p1 p2 pos : Pos} {k : Nat} (hK : X.K = K) (hc : X.calm = true) (hN : X.N.Nodup) (hi : X.N[i]? = some x) (hj : X.N[j]? = some y) (hx : X.env.scope.names.lookup x = some .local) (hy : X.env.scope.names.lookup y = some .local) :
    PG X (.Tuple [.Name x p1, .Name y p2] k pos) (gTup K 2 (gCons (gName i) (gCons (gName j) gNil))) := by subst hK; exact pg_pair hc hN hi hj hx hy
theorem pMany {C : Addr} {e : Expr} {ta : TE} {pos : Pos} (h : X.K = K) (W : WebC K C) (he : PE X e ta) (hb : attributeBase e "many" X.env (eval e X.env) = eval e X.env := by rfl) : PE X (.Attribute e "many" pos) (tMany K C ta) := by subst h; exact pe_many W he hb
theorem pTies {C : Addr} {e : Expr} {ta : TE} {pos : Pos} (h : X.K = K) (W : WebC K C) (he : PE X e ta) (hb : attributeBase e "ties" X.env (eval e X.env) = eval e X.env := by rfl) : PE X (.Attribute e "ties" pos) (tTies K C ta) := by subst h; exact pe_ties W he hb
end
end L2
namespace L2
open PySem PySem.Spec PyProof.Rows
theorem ObjOk.live {P : Program} {w : World} {H : Hp} {h : Heap} {a : Addr} {o : HO} (x : ObjOk P w H h a o) : ∃ ob, h.get? a = some ob := by
  cases o with
  | lst xs => obtain ⟨_, _, _, _, e⟩ := x; exact ⟨_, e⟩
  | tup xs => obtain ⟨_, _, _, ob, e, _⟩ := x; exact ⟨_, e⟩
  | dK kvs => obtain ⟨_, _, _, _, ob, _, _, e, _⟩ := x; exact ⟨_, e⟩
  | dT kvs => obtain ⟨_, _, _, _, ob, _, _, e, _⟩ := x; exact ⟨_, e⟩
  | set S n => obtain ⟨ob, _, _, _, e, _⟩ := x; exact ⟨_, e⟩
  | ins C dx fs => obtain ⟨_, _, _, e, _⟩ := x; exact ⟨_, e⟩
  | own y => exact x
  | xd fs => obtain ⟨_, ⟨_, _, _, e, _⟩, _⟩ := x; exact ⟨_, e⟩
  | rng lo hi => obtain ⟨_, _, _, e⟩ := x; exact ⟨_, e⟩
  | frz ob u => obtain ⟨e, _⟩ := x; exact ⟨_, e⟩
  | tbl ps => exact ⟨_, x⟩
  | met f y => exact ⟨_, x⟩
  | ext φ => obtain ⟨_, e, _⟩ := x; exact e
theorem HOk.dead {P : Program} {w : World} {H : Hp} {h : Heap} {a : Addr} (x : HOk P w H h) (e : h.get? a = none) : H a = none := by
  cases q : H a with
  | none => rfl
  | some o =>
    obtain ⟨ob, z⟩ := (x a o q).live
    rw [e] at z; cases z
def Yg (X : Cx) (H : Hp) (b : Addr) : Prop := X.s₀.heap.get? b = none ∧ H b = none ∧ ∀ p ∈ X.pn, p.1 ≠ b
section
variable {X : Cx} {pins : List (Addr × Obj)} {σ : St} {H : Hp} {s : Shared}
theorem Inv.young (I : Inv X pins σ H s) (hex : X.ex = []) {b : Addr} (e : s.heap.get? b = none) : Yg X H b := by
  refine ⟨?_, I.hok.dead e, fun p hp z => ?_⟩
  · cases q : X.s₀.heap.get? b with
    | none => rfl
    | some o =>
      obtain ⟨o', z⟩ := I.base.there b o q (by rw [hex]; simp)
      rw [e] at z; cases z
  · have := (I.pin p (List.mem_append_left _ hp)).1
    rw [z, e] at this; cases this
theorem Inv.bareP (I : Inv X pins σ H s) : Inv X [] σ H s := I.pins_of fun _ h => nomatch h
theorem Inv.noted {h' : Heap} {ch : List Addr} (I : Inv X [] σ H s) (hch : ∀ b ∈ ch, Yg X H b ∧ ∃ o vs, s.heap.get? b = some o ∧ o.data = .fields vs)
    (keep : ∀ b o, s.heap.get? b = some o → b ∉ ch → b ∉ frs X.stack → h'.get? b = some o)
    (slot : ∀ b o, s.heap.get? b = some o → b ∈ frs X.stack → ∃ sl, h'.get? b = some { o with slots := sl }) : Inv X [] σ H { s with heap := h' } := by
  have up : ∀ b o, s.heap.get? b = some o → b ∉ ch → ∃ sl, h'.get? b = some { o with slots := sl } := fun b o e hb => by
    by_cases hf : b ∈ frs X.stack
    · exact slot b o e hf
    · exact ⟨o.slots, keep b o e hb hf⟩
  have nchF : ∀ b o, s.heap.get? b = some o → (∀ vs, o.data ≠ .fields vs) → b ∉ ch := fun b o e hd hb => by
    obtain ⟨_, o', vs, e', d⟩ := hch b hb
    rw [e] at e'; cases e'
    exact hd vs d
  have nch0 : ∀ b o, X.s₀.heap.get? b = some o → b ∉ ch := fun b o e hb => by
    have := (hch b hb).1.1
    rw [e] at this; cases this
  have nst : ∀ b o, X.s₀.heap.get? b = some o → b ∉ X.fs → b ∉ frs X.stack := fun b o e hb hs => by
    rcases List.mem_cons.mp (I.stkSub b hs) with z | z
    · exact absurd (Nat.lt_of_lt_of_le (Heap.lt_size e) I.ok.above) (by rw [z]; exact Nat.lt_irrefl _)
    · exact hb z
  obtain ⟨m, hn, hl⟩ := id I.loc
  refine ⟨I.ok, I.os, I.bare, ⟨fun b o e n hb hx => ?_, fun b o e n hb hx => ?_, I.base.free, fun b o e hx => ?_, I.base.tups, I.base.frzs, I.base.tbls⟩, ⟨m, ?_, fun i x v e1 e2 e3 => ?_⟩, fun x c e => ?_, I.free, I.freeC, fun p hp => ?_, fun b u e => ?_, I.len⟩
  · exact keep b o (I.base.keep b o e n hb hx) (nch0 b o e) (nst b o e hb)
  · obtain ⟨sl, e1⟩ := I.base.slot b o e n hb hx
    obtain ⟨sl', e2⟩ := up b _ e1 (nch0 b o e)
    exact ⟨sl', e2⟩
  · obtain ⟨o', e1⟩ := I.base.there b o e hx
    obtain ⟨sl, e2⟩ := up b o' e1 (nch0 b o e)
    exact ⟨_, e2⟩
  · obtain ⟨o, es, ep, ho, hd, r⟩ := hn
    obtain ⟨sl, e2⟩ := up _ o ho (nchF _ o ho fun vs z => by rw [hd] at z; cases z)
    exact ⟨_, es, ep, e2, hd, r⟩
  · obtain ⟨u, r, l⟩ := hl i x v e1 e2 e3
    refine ⟨u, r, ?_⟩
    rcases l with l | ⟨k, c, e, o, ho, hd⟩
    · exact .inl l
    · obtain ⟨sl, e2⟩ := up c o ho (nchF c o ho fun vs z => by rw [hd] at z; cases z)
      exact .inr ⟨k, c, e, _, e2, hd⟩
  · obtain ⟨v, o, ho, hd⟩ := I.cell x c e
    obtain ⟨sl, e2⟩ := up c o ho (nchF c o ho fun vs z => by rw [hd] at z; cases z)
    exact ⟨v, _, e2, hd⟩
  · obtain ⟨e, n, ne, nf, d⟩ := I.pin p hp
    refine ⟨keep p.1 p.2 e (fun hb => (hch _ hb).1.2.2 p (by simpa using hp) rfl) (fun hs => ?_), n, ne, nf, d⟩
    rcases List.mem_cons.mp (I.stkSub _ hs) with z | z
    · exact ne z
    · exact nf z
  · refine (I.hok b u e).stay (fun c v hc q => keep c v q (fun hb => ?_) (fun hs => ?_)) (fun _ q => q) fun _ _ q => q
    · have z := (hch c hb).1.2.1
      rcases hc with hc | hc
      · rw [hc, e] at z; cases z
      · rw [hc] at z; cases z
    · have z := I.stkFree c hs
      rcases hc with hc | hc
      · rw [hc, e] at z; cases z
      · rw [hc] at z; cases z
end
def IsX (o : Obj) : Value → Prop
  | .int d A => o.cls = .ref A ∧ o.dict = some d.toNat
  | C => o.cls = C
def FlyO (X : Cx) (H : Hp) (h : Heap) (x : Addr) (C : Value) (fl : Option Value) : Prop :=
  Yg X H x ∧ ∃ oe vs a0, h.get? x = some oe ∧ IsX oe C ∧ oe.data = .fields vs ∧ vs[0]? = some a0 ∧
    match fl with
    | none => vs[1]? = some .none
    | some v => ∃ T oT ts, vs[1]? = some (.ref T) ∧ T ≠ x ∧ Yg X H T ∧ h.get? T = some oT ∧ oT.data = .fields ts ∧ ts[3]? = some v
theorem frames_base {h base base' : Heap} : ∀ {l : List Env}, h.FunFrames base l → (∀ b ∈ frs l, base'.get? b = none) → h.FunFrames base' l
  | [], _, _ => trivial
  | env :: r, hl, hb => by
    obtain ⟨hk, ⟨L, o, hf, hn, ho, hd⟩, hr⟩ := hl
    have e : frs (env :: r) = L :: frs r := by unfold frs; rw [List.filterMap_cons, hf]
    exact ⟨hk, ⟨L, o, hf, hb L (by rw [e]; exact List.mem_cons_self), ho, hd⟩, frames_base hr fun b z => hb b (by rw [e]; exact List.mem_cons_of_mem _ z)⟩
section
variable {X : Cx} {σ : St} {H : Hp} {s : Shared} {M : Model} {A : Around} {E : Value → Shared → Prop} {x : Addr} {C : Value}
theorem flight_ok {v : Value} {fr : Option Addr} {Q : Unit → Shared → Prop} (I : Inv X [] σ H s) (F : FlyO X H s.heap x C (some v))
    (k : ∀ s', Inv X [] σ H s' → FlyO X H s'.heap x C (some (fr.elim .none fun f => rawInt f)) → Q () s') : wpAny M A (setFlight (.ref x) fr) Q E s := by
  obtain ⟨y, oe, vs, a0, e, c, d, v0, T, oT, ts, r1, r2, r3, r4, r5, r6⟩ := F
  have hz : 3 < ts.size := (Array.getElem?_eq_some_iff.mp r6).1
  unfold setFlight
  refine wpAny_bind (wpAny_field e d r1 ?_)
  rw [if_pos (show (Value.ref T != Value.none) = true from by simp)]
  have other : ∀ b, b ≠ T → ∀ z : Value, (s.heap.update T (Obj.mapFields (·.setIfInBounds 3 z))).get? b = s.heap.get? b := fun b hb z => Heap.get?_update_other _ _ (Ne.symm hb)
  have there := fun z : Value => Heap.get?_update_self (Obj.mapFields (·.setIfInBounds 3 z)) r4 (Obj.isFreed_of_fields (Obj.data_mapFields r5 _))
  refine wpAny_setField r4 r5 hz (k _ (I.noted (ch := [T]) (fun b hb => ?_) (fun b o eb hb _ => ?_) fun b o eb hb => ?_) ?_)
  · have z : b = T := by simpa using hb
    rw [z]; exact ⟨r3, oT, ts, r4, r5⟩
  · rw [other b (fun z => hb (by simp [z]))]; exact eb
  · refine ⟨o.slots, ?_⟩
    rw [other b ?_]
    · exact eb
    · intro z
      obtain ⟨_, o', eo, hd⟩ := I.stack.mem hb
      rw [z, r4] at eo; cases eo
      exact hd ts r5
  · refine ⟨y, oe, vs, a0, by rw [other x (Ne.symm r2)]; exact e, c, d, v0, T, _, _, r1, r2, r3, there _, Obj.data_mapFields r5 _, ?_⟩
    simp [hz]
def hidE (s : Shared) (l : List Addr) : Heap := PySem.W.hideAll s.heap l
theorem IsX.eqv {o o' : Obj} (hc : o'.cls = o.cls) (hd : o'.dict = o.dict) : ∀ {C : Value}, IsX o C → IsX o' C := fun {C} h => by
  cases C <;> first
    | exact ⟨hc.trans h.1, hd.trans h.2⟩
    | exact hc.trans h
structure Hung (e : Addr) (oe tb : Obj) (vs : Array Value) (h h' : Heap) : Prop where
  new : h'.get? h.objs.size = some tb
  rest : ∀ b o, b ≠ e → h.get? b = some o → h'.get? b = some o
  at_ : ∃ o', h'.get? e = some o' ∧ o'.cls = oe.cls ∧ o'.dict = oe.dict ∧ o'.data = .fields (vs.setIfInBounds 1 (.ref h.objs.size))
theorem Hung.mk' {e : Addr} {oe tb : Obj} {vs : Array Value} {h : Heap} (he : h.get? e = some oe) (hd : oe.data = .fields vs) (ht : tb.isFreed = false) : Hung e oe tb vs h ((h.push tb).update e (Obj.mapFields (·.setIfInBounds 1 (.ref h.objs.size)))) := by
  obtain ⟨c, d, x, sl⟩ := oe
  cases hd
  have ne := Nat.ne_of_lt (Heap.lt_size he)
  exact ⟨Heap.get?_update_of_ne _ ne (Heap.get?_push_size _ ht), fun b o hb q => Heap.get?_update_of_ne _ (Ne.symm hb) (Heap.get?_push_of_some _ q), _, Heap.get?_update_self _ (Heap.get?_push_of_some _ he) rfl, rfl, rfl, rfl⟩
theorem entryX {base : Heap} {env : Env} {outer : List Env} {L e : Addr} {oe : Obj} {vs : Array Value} {head a0 : Value} {hadNext : Bool} {Q : Unit → Shared → Prop} (hfr : A.frames = some (env :: outer)) (hl : s.heap.FunFrames base (env :: outer)) (hf : env.frame = some L) (he : s.heap.get? e = some oe) (hkb : base.StaysIn s.heap) (hen : base.get? e = none) (hd : oe.data = .fields vs) (hsz : 1 < vs.size) (h0 : vs[0]? = some a0)
    (h : ∀ h', Heap.NotedW base (env :: outer) e oe.cls a0 (rawInt L) s.heap h' → (∃ o', h'.get? e = some o' ∧ o'.dict = oe.dict) → Q () { s with heap := h' }) : wpAny M A (do let a ← frameOf env; let pl ← entryPlaceOf L hadNext; let b ← EntryCells.newEntry head a .none (rawInt L) .none pl; setField (.ref e) 1 b) Q E s := by
  have plain : ∀ {b : Addr} {o : Obj}, s.heap.get? b = some o → (∀ ws, o.data ≠ .fields ws) → b ≠ e := fun q n z => by cases (z ▸ q).symm.trans he; exact n vs hd
  have apart : e ∉ (env :: outer).filterMap (·.frame) := fun m => let ⟨_, _, q, n⟩ := hl.mem m; plain q n rfl
  refine wpAny_bind (wpAny_frameOf_fun hfr hl hf fun hp S => wpAny_bind (wpAny_entryPlaceOf fun pl place => wpAny_bind (wpAny_newObj_type ?_ (place.sizeOk5 _ _ _ _ _))))
  have there := (S.2.1 e apart).trans he
  have low : base.StaysIn hp := fun b o q => (S.2.1 b fun m => nomatch (hl.mem m).1.symm.trans q).trans (hkb b o q)
  refine wpAny_setField (Heap.get?_push_of_some _ there) hd hsz ?_
  have U := Hung.mk' (tb := ⟨.type "traceback", none, .fields ([head, .ref L, .none, rawInt L, .none] ++ (if pl.isEmpty then List.replicate 6 Value.none else pl)).toArray, #[]⟩) there hd rfl
  obtain ⟨o', q1, q2, q3, q4⟩ := U.at_
  have kept : ∀ b o, s.heap.get? b = some o → (∀ ws, o.data ≠ .fields ws) → ∃ sl, _ := fun b o q n => let ⟨sl, z⟩ := S.2.2 b o q; ⟨sl, U.rest b _ (plain q n) z⟩
  refine h _ ⟨fun b o q => U.rest b o (fun z => nomatch (z ▸ hen).symm.trans q) (low b o q), hl.of_keeps fun b o q n => let ⟨_, z⟩ := kept b o q n; ⟨_, z, rfl⟩, ⟨o', _, hp.objs.size, _, _, q1, ⟨q2, ?_⟩, q4, ?_, low.fresh, (Nat.ne_of_lt (Heap.lt_size there)).symm, U.new, rfl, ?_⟩, kept⟩ ⟨o', q1, q3⟩
  · rw [Array.getElem?_setIfInBounds_ne (by decide), h0]
  · rw [Array.getElem?_setIfInBounds_self_of_lt hsz]
  · rw [List.getElem?_toArray]; rfl
theorem note_end {v : Value} {h' : Heap} {l ch : List Addr} {a0 : Value} {ox : Obj} (I : Inv X [] σ H s) (hex : X.ex = []) (y : Yg X H x) (hx : x ∈ ch) (hl : l = ch ++ frs X.stack) (iX : IsX ox C)
    (hch : ∀ b ∈ ch, Yg X H b ∧ ∃ o vs, s.heap.get? b = some o ∧ o.data = .fields vs) (N : Heap.NotedW (hidE s l) X.stack x ox.cls a0 v s.heap h') (hdc : ∃ o', h'.get? x = some o' ∧ o'.dict = ox.dict) :
    Inv X [] σ H { s with heap := h' } ∧ FlyO X H h' x C (some v) := by
  obtain ⟨n1, n2, n3, n4⟩ := N
  subst hl
  have frd : ∀ b o, s.heap.get? b = some o → b ∈ frs X.stack → ∀ vs, o.data ≠ .fields vs := fun b o e hb => by
    obtain ⟨_, o', eo, hd⟩ := I.stack.mem hb
    rw [e] at eo; cases eo
    exact hd
  refine ⟨I.noted (ch := ch) hch (fun b o e hb hs => n1 b o (PySem.W.hideAll_get _ e fun z => (List.mem_append.mp z).elim hb hs)) (fun b o e hb => n4 b o e (frd b o e hb)), y, ?_⟩
  obtain ⟨oe, vs, T, oT, ts, e, ⟨c, v0⟩, d, r1, r2, r3, r4, r5, r6⟩ := n3
  obtain ⟨o', eo', dd⟩ := hdc
  rw [e] at eo'; cases eo'
  refine ⟨oe, vs, a0, e, IsX.eqv c dd iX, d, v0, T, oT, ts, r1, r3, ?_, r4, r5, r6⟩
  cases q : s.heap.get? T with
  | none => exact I.young hex q
  | some o =>
    by_cases hT : T ∈ ch
    · exact (hch T hT).1
    · by_cases hf : T ∈ frs X.stack
      · exfalso
        obtain ⟨sl, z⟩ := n4 T o q (frd T o q hf)
        rw [r4] at z; cases z
        exact frd T o q hf ts r5
      · have := PySem.W.hideAll_get (ch ++ frs X.stack) q fun z => (List.mem_append.mp z).elim hT hf
        rw [show PySem.W.hideAll s.heap (ch ++ frs X.stack) = hidE s (ch ++ frs X.stack) from rfl, r2] at this; cases this
theorem note_ok {fl : Option Value} {L : Addr} {Q : Unit → Shared → Prop} (I : Inv X [] σ H s) (hex : X.ex = []) (hfr : A.frames = some X.stack) (hst : X.stack = X.env :: X.outer) (hL : X.env.frame = some L)
    (F : FlyO X H s.heap x C fl) (hfl : fl = none ∨ fl = some .none ∨ fl = some (rawInt L))
    (k : ∀ s', Inv X [] σ H s' → FlyO X H s'.heap x C (some (rawInt L)) → Q () s') : wpAny M A (noteFrame (.ref x) X.env) Q E s := by
  have hidS : ∀ l, (hidE s l).StaysIn s.heap := fun l b o e => PySem.W.of_hideAll l e
  have hidN : ∀ l b, b ∈ l → (hidE s l).get? b = none := fun l b hb => PySem.W.hideAll_none l hb
  have hidF : ∀ ch, s.heap.FunFrames (hidE s (ch ++ frs X.stack)) X.stack := fun ch => frames_base I.stack fun b hb => hidN _ b (List.mem_append_right _ hb)
  obtain ⟨y, oe, vs, a0, e, c, d, v0, r⟩ := id F
  rcases hfl with rfl | rfl | rfl
  · have hch : ∀ b ∈ [x], Yg X H b ∧ ∃ o vs, s.heap.get? b = some o ∧ o.data = .fields vs := fun b hb => by
      have z : b = x := by simpa using hb
      rw [z]; exact ⟨y, oe, vs, e, d⟩
    have r' : vs[1]? = some Value.none := r
    unfold noteFrame
    simp only [hL]
    refine wpAny_bind (wpAny_field e d r' ?_)
    rw [if_neg (by decide)]
    refine entryX (base := hidE s ([x] ++ frs X.stack)) (outer := X.outer) (by rw [hfr, hst]) (by rw [← hst]; exact hidF [x]) hL e (hidS _) (hidN _ x (by simp)) d (Array.getElem?_eq_some_iff.mp r').1 v0 fun h' N hdc => ?_
    rw [← hst] at N
    obtain ⟨I', F'⟩ := note_end I hex y (by simp) rfl c hch N hdc
    exact k _ I' F'
  · obtain ⟨T, oT, ts, r1, r2, r3, r4, r5, r6⟩ := id r
    have hch : ∀ b ∈ [x, T], Yg X H b ∧ ∃ o vs, s.heap.get? b = some o ∧ o.data = .fields vs := fun b hb => by
      have z : b = x ∨ b = T := by simpa using hb
      rcases z with z | z
      · rw [z]; exact ⟨y, oe, vs, e, d⟩
      · rw [z]; exact ⟨r3, oT, ts, r4, r5⟩
    unfold noteFrame
    simp only [hL]
    refine wpAny_bind (wpAny_field e d r1 ?_)
    rw [if_pos (show (Value.ref T != Value.none) = true from by simp)]; refine wpAny_bind (wpAny_field r4 r5 r6 ?_)
    rw [if_neg (show ¬ ((Value.none == rawInt L) = true) from by simp [rawInt])]; refine wpAny_bind (wpAny_setField r4 r5 (Array.getElem?_eq_some_iff.mp r6).1 ?_)
    have oth : ∀ b, b ≠ T → (s.heap.update T (Obj.mapFields (·.setIfInBounds 3 Value.none))).get? b = s.heap.get? b := fun b hb => Heap.get?_update_other _ _ (Ne.symm hb)
    have nrec : ∀ b o, s.heap.get? b = some o → (∀ vs, o.data ≠ .fields vs) → b ≠ T := fun b o hb hnf q => by
      rw [q, r4] at hb; cases hb; exact hnf ts r5
    have hidT : (hidE s ([x, T] ++ frs X.stack)).get? T = none := hidN _ T (by simp)
    refine entryX (s := { s with heap := s.heap.update T (Obj.mapFields (·.setIfInBounds 3 Value.none)) }) (base := hidE s ([x, T] ++ frs X.stack)) (outer := X.outer) (by rw [hfr, hst]) (by rw [← hst]; exact (hidF [x, T]).of_keeps fun b o hb hnf => ⟨o, (oth b (nrec b o hb hnf)).trans hb, rfl⟩) hL ((oth x (Ne.symm r2)).trans e)
      (fun b o hbo => (oth b fun q => by rw [q, hidT] at hbo; cases hbo).trans (hidS _ b o hbo)) (hidN _ x (by simp)) d (Array.getElem?_eq_some_iff.mp r1).1 v0 fun h' N hdc => ?_
    rw [← hst] at N
    obtain ⟨x1, x2, x3, x4⟩ := N
    obtain ⟨I', F'⟩ := note_end I hex y (by simp) rfl c hch ⟨x1, x2, x3, fun b o hb hnf => x4 b o ((oth b (nrec b o hb hnf)).trans hb) hnf⟩ hdc
    exact k _ I' F'
  · obtain ⟨T, oT, ts, r1, r2, r3, r4, r5, r6⟩ := id r
    refine wpAny_noteFrame_againW (base := hidE s ([x, T] ++ frs X.stack)) (cls := oe.cls) (a0 := a0) hL ?_ (k s I F)
    exact ⟨oe, vs, T, oT, ts, e, ⟨rfl, v0⟩, d, r1, hidN _ T (by simp), r2, r4, r5, r6⟩
end
def FlyE (X : Cx) (Ex : St → Value → Hp → Prop) : Value → Shared → Prop := fun e s' =>
  ∃ (x : Addr) (C : Value) (fl : Option Value) (σ : St) (H : Hp), e = .ref x ∧ Inv X [] σ H s' ∧ FlyO X H s'.heap x C fl ∧ (fl = none ∨ fl = some .none ∨ fl = some (rawInt X.env.locals)) ∧ Ex σ C H
def CXE (P : Program) (w : World) : CXT := fun outer H s E e s' =>
  ∃ (x : Addr) (C : Value) (H' : Hp), e = .ref x ∧ s'.os = s.os ∧ AllBare s'.gens ∧ Un (frs outer) [] H H' s.heap s'.heap ∧ HOk P w H' s'.heap ∧ s.heap.get? x = none ∧ H' x = none ∧
    (∃ oe vs a0 T oT ts, s'.heap.get? x = some oe ∧ IsX oe C ∧ oe.data = .fields vs ∧ vs[0]? = some a0 ∧ vs[1]? = some (.ref T) ∧ T ≠ x ∧ s.heap.get? T = none ∧ H' T = none ∧ s'.heap.get? T = some oT ∧ oT.data = .fields ts ∧ ts[3]? = some .none) ∧
    E C none H'
structure Body (X : Cx) : Prop where
  ex : X.ex = []
  st : X.stack = X.env :: X.outer
  fr : X.env.frame = some X.env.locals
section
variable {X : Cx} {Ex : St → Value → Hp → Prop}
theorem fly_passes (B : Body X) {A : Around} (hfr : A.frames = some X.stack) : ∀ e s', FlyE X Ex e s' → notedBy (model X.prog X.w) A X.env (cameBackBy (model X.prog X.w) A X.env (FlyE X Ex)) e s' := by
  rintro e s' ⟨x, C, fl, σ, H, rfl, I, F, hfl, q⟩
  refine note_ok (L := X.env.locals) I B.ex hfr B.st B.fr F hfl fun s1 I1 F1 => ?_
  obtain ⟨y, oe, vs, a0, e1, c, d, v0, T, oT, ts, r1, r2, r3, r4, r5, r6⟩ := id F1
  refine wpAny_bind (wpAny_field e1 d r1 ?_)
  rw [if_neg (by simp)]
  refine flight_ok I1 F1 fun s2 I2 F2 => ⟨x, C, _, σ, H, rfl, I2, F2, .inr (.inr ?_), q⟩
  rw [B.fr]; rfl
theorem passE (B : Body X) (ok : X.A.frames = some X.stack) : PassesOwn (model (X.wish (FlyE X Ex)).prog (X.wish (FlyE X Ex)).w) (X.wish (FlyE X Ex)).A (X.wish (FlyE X Ex)).env (X.wish (FlyE X Ex)).xe := fun e s' h => fly_passes B ok e s' h
theorem PSs.more {E1 : Value → Shared → Prop} {st : List Stmt} {t : TS} (h : PSs (X.wish E1) st t) (hE : ∀ e s, E1 e s → X.xe e s) : PSs X st t := fun pins s σ H D I hw =>
  wpAny_mono (h pins s σ H D (I.wish _) hw) (fun _ _ q => q.unwish) fun e s z => hE e s z
end
theorem fly_leaves {P : Program} {w : World} {K : PySem.W.Frag} {mg : Str → Option Value} {base : Heap} {N : List Str} {qual : Str} {scope : Scope} {f : Addr} {cd : Value} {A : Around} {outer : List Env} {s : Shared} {H : Hp} {E : XK}
    (B : Body (cxOf (CXE P w) P w K mg base N qual scope f cd A outer s H E)) : ∀ e s', FlyE (cxOf (CXE P w) P w K mg base N qual scope f cd A outer s H E) (fun _ C H' => E C none H') e s' → (cxOf (CXE P w) P w K mg base N qual scope f cd A outer s H E).xe e s' := by
  rintro e s' ⟨x, C, fl, σ, H1, rfl, I, F, hfl, q⟩
  show wpAny _ _ (leaving _ _) _ _ s'
  unfold leaving
  refine wpAny_bind (note_ok I B.ex I.ok.frames B.st B.fr F hfl fun s1 I1 F1 => ?_)
  refine flight_ok I1 F1 fun s2 I2 F2 => ?_
  obtain ⟨y, oe, vs, a0, e1, c, d, v0, T, oT, ts, r1, r2, r3, r4, r5, r6⟩ := id F2
  exact ⟨x, C, H1, rfl, I2.os, I2.bare, I2.base, I2.hok, y.1, y.2.1, ⟨oe, vs, a0, T, oT, ts, e1, c, d, v0, r1, r2, r3.1, r3.2.1, r4, r5, r6⟩, q⟩
section
variable {P : Program} {w : World} {K : PySem.W.Frag} {mg : Str → Option Value} {base : Heap}
abbrev cxE (P : Program) (w : World) (K : PySem.W.Frag) (mg : Str → Option Value) (base : Heap) (N : List Str) (qual : Str) (scope : Scope) (f : Addr) (cd : Value) (A : Around) (outer : List Env) (s : Shared) (H : Hp) (E : XK) : Cx :=
  (cxOf (CXE P w) P w K mg base N qual scope f cd A outer s H E).wish (FlyE (cxOf (CXE P w) P w K mg base N qual scope f cd A outer s H E) (fun _ C H' => E C none H'))
theorem Fun.okE {x qual : Str} {st : Stmt} {f : Addr} {fd : FuncData} {N ps : List Str} {k : Nat} {sp : Sp} (F : Fun K x qual st f fd) (S : FnScope N ps (defScope st)) (len : ∀ vs H Q E, sp vs H Q E → vs.length = ps.length)
    (hbody : ∀ (cdv : Value) (A : Around) (outer : List Env) (s : Shared) (H : Hp) (vs : List V) (Q : VK) (E : XK), Room k (A.deeper (envOfC qual (defScope st) s.heap.objs.size f cdv)) → sp vs H Q E →
      ∃ t, PSs (cxE P w K mg base N qual (defScope st) f cdv A outer s H E) (defBody st) t ∧ t { nx := fun _ H' => Q .non H', rt := Q } (start N vs) H) : FnOk P w K mg base (CXE P w) (k + 1) f fd ps sp := by
  obtain ⟨oc, od, kV, doc, pm, an, cdv, ct, osl, rfl, lk, hcd⟩ := F.ex
  refine fn_of lk hcd S len fun A outer s H vs Q E hr hsp => ?_
  obtain ⟨t, h, q⟩ := hbody cdv A outer s H vs Q E hr hsp
  exact ⟨t, h.more (fly_leaves ⟨rfl, rfl, rfl⟩), q⟩
theorem bodyE {N : List Str} {qual : Str} {scope : Scope} {f : Addr} {cd : Value} {A : Around} {outer : List Env} {s : Shared} {H : Hp} {E : XK} : Body (cxOf (CXE P w) P w K mg base N qual scope f cd A outer s H E) := ⟨rfl, rfl, rfl⟩
end
section
variable {X : Cx} {Ex : St → Value → Hp → Prop}
theorem ps_forE {tg iter : Expr} {body : List Stmt} {wi : TI} {g : TG} {tb : TS} {pos : Pos} (B : Body X) (hc : X.calm = true) (hi : PI (X.wish (FlyE X Ex)) tg iter wi) (hg : PG (X.wish (FlyE X Ex)) tg g) (hb : PSs (X.wish (FlyE X Ex)) body tb)
    (hs : ∀ x, foldedSetIterable iter X.env x = pure x := by intro _; rfl) : PS (X.wish (FlyE X Ex)) (.For tg iter body [] pos) (tFor wi g tb) := fun pins s σ H D I h =>
  ps_for (X := X.wish (FlyE X Ex)) (passE B I.unwish.ok.frames) hc hi hg hb hs pins s σ H D I h
def DefE (P : Program) (w : World) (K : PySem.W.Frag) (mg : Str → Option Value) (base : Heap) (k : Nat) (x : Str) (ps : List Str) (sp : Sp) : Prop :=
  ∃ f fd, FnOk P w K mg base (CXE P w) k f fd ps sp ∧ mg x = some (.ref f) ∧ PySem.W.keepIn K (.ref f) = true ∧ Binds K fd ps []
theorem DefE.of {P : Program} {w : World} {K : PySem.W.Frag} {mg : Str → Option Value} {base : Heap} {k : Nat} {x qual : Str} {ps : List Str} {sp : Sp} {st : Stmt} {f : Addr} {fd : FuncData}
    (F : Fun K x qual st f fd) (m : mg x = some (.ref f)) (b : Binds K fd ps []) (ok : FnOk P w K mg base (CXE P w) k f fd ps sp) : DefE P w K mg base k x ps sp := ⟨f, fd, ok, m, F.kp, b⟩
theorem fly_call {pins : List (Addr × Obj)} {σ : St} {H : Hp} {s s' : Shared} {e : Value} {E : XK} (hex : X.ex = []) (I : Inv X pins σ H s) (hE : ∀ C H', E C none H' → Ex σ C H') (h : CXE X.prog X.w X.stack H s E e s') : FlyE X Ex e s' := by
  obtain ⟨x, C, H', rfl, os, bare, un, hok, nx, hx, ⟨oe, vs, a0, T, oT, ts, e1, c, d, v0, v1, nT, sT, hT, eT, dT, t3⟩, q⟩ := h
  have y := I.young hex nx
  have z := I.young hex sT
  exact ⟨x, C, some .none, σ, H', rfl, I.bareP.call' (ch := []) os un hok bare (fun b hb => nomatch hb), ⟨⟨y.1, hx, y.2.2⟩, oe, vs, a0, e1, c, d, v0, T, oT, ts, v1, nT, ⟨z.1, hT, z.2.2⟩, eT, dT, t3⟩, .inr (.inl rfl), hE _ _ q⟩
theorem run_fnE {k : Nat} {f : Addr} {fd : FuncData} {ps : List Str} {sp : Sp} {pins : List (Addr × Obj)} {σ : St} {H : Hp} {s : Shared} {Q : VK} {us : List Value} {vs : List V} (F : FnOk X.prog X.w X.K X.mg X.base (CXE X.prog X.w) k f fd ps sp) (hr : Room k X.A) (hb : Binds X.K fd ps [])
    (hex : X.ex = []) (I : Inv X pins σ H s) (r : Vals vs us) (h : sp vs H Q fun C _ H' => Ex σ C H') : wpAny (model X.prog X.w) X.A (call (.ref f) us) (EP (X.wish (FlyE X Ex)) pins σ Q) (FlyE X Ex) s := by
  have hl : (us ++ []).length = ps.length := by rw [List.append_nil, ← r.length]; exact F.len _ _ _ _ h
  have bt := hb s us I.kIn hl
  rw [List.append_nil] at bt
  refine wpAny_call (codeAny_mono (F.run X.A X.stack s H ⟨us, []⟩ us vs Q _ hr I.env0 bt r h) fun r s' hq => ?_)
  cases r with
  | error e => exact fly_call (E := fun C _ H' => Ex σ C H') hex I (fun _ _ z => z) hq
  | ok fl =>
    cases fl with
    | ret u =>
      obtain ⟨v, H', I', rv, q⟩ := I.after hq
      exact ⟨v, H', I'.wish _, rv, q⟩
    | next => exact False.elim hq
    | brk => exact False.elim hq
    | cont => exact False.elim hq
def tCallE (sp : Sp) (Ex : St → Value → Hp → Prop) (t : TA) : TE := fun σ H Q => t σ H fun vs H1 => sp vs H1 Q fun C _ H' => Ex σ C H'
theorem pe_defE {k k' : Nat} {x : Str} {ps : List Str} {sp : Sp} {e : Expr} {es : List Expr} {t : TA} {p pos : Pos} (D : DefE X.prog X.w X.K X.mg X.base k x ps sp) (hr : Room k' X.A) (hex : X.ex = []) (hg : Gl X x) (ha : PA (X.wish (FlyE X Ex)) (e :: es) t) (hk : k ≤ k' := by decide)
    (hdb : (x == ("__debug__" : Str)) = false := by decide) (he : starEach (e :: es) X.env = (false, eval e X.env) :: starEach es X.env := by rfl) (hpl : (backTo pos (starEach es X.env)).any (·.1) = false := by rfl) :
    PE (X.wish (FlyE X Ex)) (.Call (.Name x p) (e :: es) [] pos) (tCallE sp Ex t) := by
  obtain ⟨f, fd, F, m, kp, b⟩ := D
  intro pins s σ H Q I h
  refine wpAny_Call_Name_kw (ld_glob I hg m ?_ hdb)
  refine PySem.W.callWith_K (h₀ := X.base) I.ok.mod.kin kp (thn (ha pos pins s σ H _ I h) fun us s1 ⟨vs, H1, I1, r, q⟩ => ⟨I1.kIn, ?_⟩) he hpl
  exact run_fnE F (hr.mono hk) b hex I1.unwish r q
end
end L2
namespace L2
open PySem PySem.Spec PyProof.Rows
abbrev vErr : List Value := [.type "ValueError", .type "Exception", .type "BaseException", .type "object"]
def IsExc (K : PySem.W.Frag) (C : Addr) : Prop := PySem.W.excIn K C vErr "ValueError.__new__" = true
theorem IsExc.obj {K : PySem.W.Frag} {C : Addr} (q : IsExc K C) {h : Heap} (X : K.In h) : ∃ bm N nm qn bs hd sn sub ab col dd k0 k1 k2 k3 k5 mN,
    h.get? C = some (excClassObj nm qn C N bs bm hd sn sub ab col dd k0 k1 k2 k3 k5 "ValueError.__new__") ∧ h.Ns N mN ∧ mN "__init__" = none ∧ OwnTail h vErr bm ∧ PySem.W.mroIn K C = fun b => some ((Value.ref C :: bm).contains b) := by
  unfold IsExc PySem.W.excIn at q
  split at q
  · next dct cd sl look =>
    split at q
    · next C' tl s0 s1 s2 s3 nn s5 em es =>
      simp only [Bool.and_eq_true, beq_iff_eq, Bool.not_eq_true'] at q
      obtain ⟨⟨⟨⟨⟨e1, e2⟩, e3⟩, e4⟩, e5⟩, e6⟩ := q
      subst e1; subst e2
      have hc : PySem.W.clsIn K C' = some cd := by unfold PySem.W.clsIn; rw [look]
      have hm : PySem.W.mroIn K C' = fun b => some ((Value.ref C' :: tl).contains b) := by
        funext b
        unfold PySem.W.mroIn
        rw [hc, Option.bind_some, em]
        rfl
      obtain ⟨z1, z2, z3, z4, z5, z6, z7, z8, z9, z10, z11⟩ := cd
      dsimp only at em e3 e5 e6
      subst em; subst e3
      obtain ⟨ll⟩ := sl
      simp only at es
      subst es
      exact ⟨tl, _, _, _, _, _, _, _, _, _, _, _, _, _, _, _, _, X _ _ look, .of_isNs (PySem.W.isNs_of_in X e5), PySem.W.nsMap_none_of_in X e5 e6, PySem.W.tail_of_in X e4, hm⟩
    · cases q
  · cases q
def ExcO (x : Addr) (C : Value) : Heap → Prop := fun h => ∃ o vs, h.get? x = some o ∧ IsX o C ∧ o.data = .fields vs
section
variable {X : Cx} {Ex : St → Value → Hp → Prop}
def tRaise (C : Addr) (Ex : St → Value → Hp → Prop) (ta : TA) : TS := fun _ σ H => ta σ H fun vs H1 => vs.length ≤ sizeLine ∧ Ex σ (.ref C) H1
theorem ps_raise {x : Str} {C : Addr} {e : Expr} {es : List Expr} {ta : TA} {np cpos pos : Pos} (hc : X.calm = true) (hex : X.ex = []) (hg : Gl X x) (hm : X.mg x = some (.ref C)) (q : IsExc X.K C) (ha : PA (X.wish (FlyE X Ex)) (e :: es) ta)
    (hd : (x == ("__debug__" : Str)) = false := by decide) (he : starEach (e :: es) X.env = (false, eval e X.env) :: starEach es X.env := by rfl) (hpl : (backTo cpos (starEach es X.env)).any (·.1) = false := by rfl) :
    PS (X.wish (FlyE X Ex)) (.Raise (some (.Call (.Name x np) (e :: es) [] cpos)) none pos) (tRaise C Ex ta) := by
  intro pins s σ H D I h
  obtain ⟨bm, N, nm, qn, bs, hdd, sn, sub, ab, col, dd, k0, k1, k2, k3, k5, mN, hC, hN, hni, TL, _⟩ := q.obj I.ok.mod.kin
  refine wpAny_Raise_call_subU (C := C) (nm := nm) (q := qn) (N := N) (bs := bs) (bm := bm) (hdct := hdd) (sn := sn) (sub := sub) (ab := ab) (col := col) (dd := dd) (k0 := k0) (k1 := k1) (k2 := k2) (k3 := k3) (k5 := k5)
    PySem.F.excBase_ValueError (by decide +kernel) PySem.F.excBase_ValueError (mN := mN) (TL.hasType PySem.F.excBase_ValueError.hasBase) (I.ok.hd hc) ?_ hni (ld_glob I hg hm ⟨rfl, ?_⟩ hd)
  · show (backTo cpos (starEach (e :: es) X.env)).any (·.1) = false
    rw [he]
    show (false || (backTo cpos (starEach es X.env)).any (·.1)) = false
    rw [hpl]; rfl
  · have ha' := ha cpos pins s σ H _ I h
    rw [show (X.wish (FlyE X Ex)).env = X.env from rfl] at ha' ⊢
    rw [he] at ha' ⊢
    refine Calls.evalArgs_plain (thn ha' fun us s2 ⟨vs, H1, I2, r, z, qx⟩ => ⟨rfl, by rw [← r.length]; exact z, I2.bk _ _ hC, hN.keeps I2.bk, TL.keeps I2.bk, fun h' x' mk => ?_⟩)
    have I3 := I2.unwish.bareP
    obtain ⟨t, et, _, _⟩ := mk.there
    exact ⟨x', .ref C, none, σ, H1, rfl, I3.kept (t' := s2.toks) mk.keeps, ⟨I3.young hex mk.new, _, _, _, et, rfl, rfl, rfl, rfl⟩, .inl rfl, qx⟩
end
end L2
namespace L2
open PySem PySem.Spec PyProof.Rows
section
variable {X : Cx} {σ : St} {H : Hp} {s : Shared}
theorem Inv.track {pins : List (Addr × Obj)} {x : Addr} {φ : Heap → Prop} (I : Inv X pins σ H s) (y : Yg X H x) (hp : ∀ p ∈ pins, p.1 ≠ x) (ho : ∃ o vs, s.heap.get? x = some o ∧ o.data = .fields vs) (p : φ s.heap)
    (st : ∀ h1 h2 : Heap, φ h1 → (∀ o, h1.get? x = some o → h2.get? x = some o) → φ h2) : Inv X pins σ (upd H x (.ext φ)) s := by
  obtain ⟨o, vs, eo, ed⟩ := ho
  have nH : ∀ b u, H b = some u → b ≠ x := fun b u e z => by rw [z, y.2.1] at e; cases e
  have n0 : ∀ b u, X.s₀.heap.get? b = some u → b ≠ x := fun b u e z => by rw [z, y.1] at e; cases e
  refine ⟨I.ok, I.os, I.bare, ⟨I.base.keep, I.base.slot, fun b u e n hx => by rw [upd_ne (n0 b u e)]; exact I.base.free b u e n hx, I.base.there, fun b xs e => ?_, fun b u xs e => ?_, fun b ps e => ?_⟩, I.loc, I.cell, ?_, fun n c e => ?_, fun q hq => ?_, fun b u e => ?_, I.len⟩
  · have := I.base.tups b xs e; rw [upd_ne (nH b _ this)]; exact this
  · have := I.base.frzs b u xs e; rw [upd_ne (nH b _ this)]; exact this
  · obtain ⟨m, this⟩ := I.base.tbls b ps e; exact ⟨m, by rw [upd_ne (nH b _ this)]; exact this⟩
  · obtain ⟨m, ⟨ol, _, _, el, dl, _⟩, _⟩ := I.loc
    rw [upd_ne fun z => by rw [z, eo] at el; cases el; rw [ed] at dl; cases dl]; exact I.free
  · obtain ⟨v, oc, ec, dc⟩ := I.cell n c e
    rw [upd_ne fun z => by rw [z, eo] at ec; cases ec; rw [ed] at dc; cases dc]; exact I.freeC n c e
  · obtain ⟨q1, q2, q3⟩ := I.pin q hq
    have : q.1 ≠ x := (List.mem_append.mp hq).elim (y.2.2 q) (hp q)
    exact ⟨q1, by rw [upd_ne this]; exact q2, q3⟩
  · by_cases hb : b = x
    · subst hb
      rw [upd_same] at e; cases e
      exact ⟨p, ⟨o, eo⟩, st⟩
    · rw [upd_ne hb] at e
      exact (I.hok b u e).stay (fun _ _ _ q => q) (fun c q => by rw [upd_ne (nH c _ q)]; exact q) fun c xs q => by rw [upd_ne (nH c _ q)]; exact q
end
section
variable {M : Model} {A : Around} {E : Value → Shared → Prop} {nm q nm' q' : Str} {C N C' N' : Addr} {bs bm bs' bm' : List Value} {hd hd' : Bool} {sn sn' : List Str} {sub sub' : List Value} {ab ab' : Bool} {col col' : Option Bool} {dd dd' : Option Addr}
  {k0 k1 k2 k3 k5 l0 l1 l2 l3 l5 : Option Value} {newId newId' : String}
theorem matches_own {h : Heap} {g : Array GenState} {d : Drawn} {t : Nat} {os : OsState} {e : Addr} {oe : Obj} {Q : Bool → Shared → Prop} (hC : h.get? C = some (excClassObj nm q C N bs bm hd sn sub ab col dd k0 k1 k2 k3 k5 newId))
    (hF : h.get? C' = some (excClassObj nm' q' C' N' bs' bm' hd' sn' sub' ab' col' dd' l0 l1 l2 l3 l5 newId')) (he : h.get? e = some oe) (hcls : oe.cls = .ref C) (hb : bm'.contains (.type "BaseException") = true)
    (hs : (Value.ref C :: bm).contains (.ref C') = true) (hq : Q true ⟨h, g, d, t, os⟩) : wpAny M A (excMatches (.ref e) (.ref C')) Q E ⟨h, g, d, t, os⟩ := by
  have hB : (Value.ref C' :: bm').contains (.type "BaseException") = true := by rw [List.contains_cons, hb, Bool.or_true]
  have f := tc_notTuple
  unfold excMatches
  repeat (first | (with_reducible refine wpAny_loadPart_at he ?_; rw [hcls]) | with_reducible refine wpAny_loadPart_at hF ?_ | (with_reducible refine wpAny_isSubtype_exc hF ?_; rw [hB]) | (with_reducible refine wpAny_isSubtype_exc hC ?_; rw [hs]) | wp_step)
  exact hq
end
def tTry (K : PySem.W.Frag) (i : Nat) (CF : Addr) (tb : (St → Value → Hp → Prop) → TS) (ts : TS) : TS := fun D σ H => ∃ Ex : St → Value → Hp → Prop, tb Ex D σ H ∧ ∀ σ' C H', Ex σ' C H' →
  ∃ A, C = .ref A ∧ IsExc K A ∧ PySem.W.mroIn K A (.ref CF) = some true ∧ ∀ x, H' x = none → ts { D with nx := fun σ2 H2 => D.nx (σ2.set i none) H2, bk := fun σ2 H2 => D.bk (σ2.set i none) H2, ct := fun σ2 H2 => D.ct (σ2.set i none) H2 } (σ'.set i (some (.ref x))) (upd H' x (.ext (ExcO x C)))
section
variable {X : Cx}
theorem Inv.pn {pins : List (Addr × Obj)} {σ : St} {H : Hp} {s : Shared} (I : Inv X pins σ H s) : Inv { X with pn := X.pn ++ pins } [] σ H s :=
  ⟨⟨I.ok.mod, I.ok.kind, I.ok.glob, I.ok.blt, I.ok.above, I.ok.inj, I.ok.has, I.ok.cab, I.ok.hd, I.ok.frames, I.ok.stk, I.ok.exf, I.ok.bs, I.ok.bsz, I.ok.noex, I.ok.exfs, I.ok.funs, I.ok.frf⟩, I.os, I.bare, I.base, I.loc, I.cell, I.free, I.freeC, fun p hp => I.pin p (by simpa using hp), I.hok, I.len⟩
theorem Inv.unpn {pins : List (Addr × Obj)} {σ : St} {H : Hp} {s : Shared} (I : Inv { X with pn := X.pn ++ pins } [] σ H s) : Inv X pins σ H s :=
  ⟨⟨I.ok.mod, I.ok.kind, I.ok.glob, I.ok.blt, I.ok.above, I.ok.inj, I.ok.has, I.ok.cab, I.ok.hd, I.ok.frames, I.ok.stk, I.ok.exf, I.ok.bs, I.ok.bsz, I.ok.noex, I.ok.exfs, I.ok.funs, I.ok.frf⟩, I.os, I.bare, I.base, I.loc, I.cell, I.free, I.freeC, fun p hp => I.pin p (by simpa using hp), I.hok, I.len⟩
abbrev Cx.held (X : Cx) (x : Addr) : Cx := { X with A := X.A.mark (some (.ref x)), calm := false }
theorem Inv.held {pins : List (Addr × Obj)} {σ : St} {H : Hp} {s : Shared} (I : Inv X pins σ H s) (x : Addr) : Inv (X.held x) pins σ H s :=
  ⟨⟨I.ok.mod, I.ok.kind, I.ok.glob, I.ok.blt, I.ok.above, I.ok.inj, I.ok.has, I.ok.cab, fun z => (Bool.false_ne_true z).elim, I.ok.frames, I.ok.stk, I.ok.exf, I.ok.bs, I.ok.bsz, I.ok.noex, I.ok.exfs, I.ok.funs, I.ok.frf⟩, I.os, I.bare, I.base, I.loc, I.cell, I.free, I.freeC, I.pin, I.hok, I.len⟩
theorem Inv.unheld {pins : List (Addr × Obj)} {σ : St} {H : Hp} {s : Shared} {x : Addr} (hd : X.calm = true → X.A.handled = none) (hf : X.A.frames = some X.stack) (I : Inv (X.held x) pins σ H s) : Inv X pins σ H s :=
  ⟨⟨I.ok.mod, I.ok.kind, I.ok.glob, I.ok.blt, I.ok.above, I.ok.inj, I.ok.has, I.ok.cab, hd, hf, I.ok.stk, I.ok.exf, I.ok.bs, I.ok.bsz, I.ok.noex, I.ok.exfs, I.ok.funs, I.ok.frf⟩, I.os, I.bare, I.base, I.loc, I.cell, I.free, I.freeC, I.pin, I.hok, I.len⟩
theorem unbind_ok {M : Model} {A : Around} {E : Value → Shared → Prop} {pins : List (Addr × Obj)} {σ : St} {H : Hp} {s : Shared} {i : Nat} {n : Str} {pos : Pos} {Q : Unit → Shared → Prop} (I : Inv X pins σ H s) (hN : X.N.Nodup) (hi : X.N[i]? = some n) (hl : X.env.scope.names.lookup n = some .local)
    (k : ∀ s', Inv X pins (σ.set i none) H s' → Q () s') : wpAny M A (do bindName X.env n .none; unbindBehindTheSuite X.env n pos) Q E s := by
  obtain ⟨m, hn, hlk⟩ := id I.loc
  have hcls : (X.env.scope.kind == .class || (X.env.scope.kind == .module && X.env.locals != X.env.globals)) = false := by rw [I.ok.kind]; rfl
  have hiσ : i < σ.length := by rw [I.len]; exact (List.getElem?_eq_some_iff.mp hi).1
  refine wpAny_nameGoes_keeps hl hn hcls fun h' v hn' sb => k _ ?_
  have ne0 : ∀ b o, X.s₀.heap.get? b = some o → b ≠ X.env.locals := fun b o e => Nat.ne_of_lt (Nat.lt_of_lt_of_le (Heap.lt_size e) I.ok.above)
  refine ⟨I.ok, I.os, I.bare, ⟨fun b o e n hb hx => ?_, fun b o e n hb hx => ?_, I.base.free, fun b o e hx => ?_, I.base.tups, I.base.frzs, I.base.tbls⟩, ⟨_, hn', fun j y v' e1 e2 e3 => ?_⟩, fun y c e => ?_, I.free, I.freeC, fun p hp => ?_, fun b u e => ?_, by simpa using I.len⟩
  · exact (sb.2 b (ne0 b o e)).trans (I.base.keep b o e n hb hx)
  · obtain ⟨sl, e1⟩ := I.base.slot b o e n hb hx
    exact ⟨sl, (sb.2 b (ne0 b o e)).trans e1⟩
  · obtain ⟨o', e1⟩ := I.base.there b o e hx
    exact ⟨o', (sb.2 b (ne0 b o e)).trans e1⟩
  · by_cases hj : i = j
    · subst hj
      rw [List.getElem?_set_self hiσ] at e2
      cases e2
    · rw [List.getElem?_set_ne hj] at e2
      obtain ⟨u', r', q⟩ := hlk j y v' e1 e2 e3
      refine ⟨u', r', ?_⟩
      have hne : y ≠ n := fun e => hj (nodup_ix hN hi (e ▸ e1))
      rcases q with ⟨k1, e⟩ | ⟨k1, c, e, z⟩
      · exact .inl ⟨k1, by simp [hne, e]⟩
      · exact .inr ⟨k1, c, e, z.sameBut sb (I.cne y c e)⟩
  · obtain ⟨w', z⟩ := I.cell y c e
    exact ⟨w', z.sameBut sb (I.cne y c e)⟩
  · obtain ⟨e, n', ne, nf, d⟩ := I.pin p hp
    exact ⟨(sb.2 p.1 ne).trans e, n', ne, nf, d⟩
  · refine (I.hok b u e).stay (fun c v' hc q => (sb.2 c ?_).trans q) (fun _ q => q) fun _ _ q => q
    intro z
    have fr := I.free
    rcases hc with hc | hc
    · rw [← z, hc, e] at fr; cases fr
    · rw [← z, hc] at fr; cases fr
theorem ps_tryE {body : List Stmt} {xn n : Str} {b₀ : Stmt} {suite : List Stmt} {np hpos pos : Pos} {tb : (St → Value → Hp → Prop) → TS} {ts : TS} {i : Nat} {CF : Addr} (B : Body X) (hN : X.N.Nodup) (hi : X.N[i]? = some n) (hl : X.env.scope.names.lookup n = some .local)
    (hg : Gl X xn) (hm : X.mg xn = some (.ref CF)) (qF : IsExc X.K CF) (hb : ∀ pn Ex, PSs (({ X with pn := pn } : Cx).wish (FlyE { X with pn := pn } Ex)) body (tb Ex))
    (hs : ∀ x, PSs ((X.held x).nox) (b₀ :: suite) ts) (hd : (xn == ("__debug__" : Str)) = false := by decide) :
    PS X (.Try body [.ExceptHandler (some (.Name xn np)) (some n) (b₀ :: suite) hpos] [] [] pos) (tTry X.K i CF tb ts) := by
  intro pins s σ H D I h
  obtain ⟨Ex, h1, h2⟩ := h
  refine wpAny_Try_except (wpAny_mono (hb _ Ex [] s σ H D (I.pn.wish _) h1) (fun f s1 q => ?_) fun e s1 q => ?_)
  · cases f with
    | next => obtain ⟨σ', H', J, z⟩ := q; exact wpAny_execs_nil ⟨σ', H', J.unwish.unpn, z⟩
    | brk => obtain ⟨σ', H', J, z⟩ := q; exact ⟨σ', H', J.unwish.unpn, z⟩
    | cont => obtain ⟨σ', H', J, z⟩ := q; exact ⟨σ', H', J.unwish.unpn, z⟩
    | ret u => obtain ⟨v, σ', H', J, r, z⟩ := q; exact ⟨v, σ', H', J.unwish.unpn, r, z⟩
  · obtain ⟨x, C, fl, σ', H', rfl, J, F, hfl, q⟩ := q
    obtain ⟨A, rfl, qA, hsub, k⟩ := h2 σ' C H' q
    refine note_ok (X := { X with pn := X.pn ++ pins }) (L := X.env.locals) J B.ex J.ok.frames B.st B.fr F hfl fun s2 J2 F2 => flight_ok J2 F2 fun s3 J3 F3 => ?_
    obtain ⟨bm, N, nm, qn, bs, hdd, sn, sub, ab, col, dd, k0, k1, k2, k3, k5, mN, hC, hNs, hni, TL, hmro⟩ := qA.obj J3.kIn
    obtain ⟨bm', N', nm', qn', bs', hdd', sn', sub', ab', col', dd', l0, l1, l2, l3, l5, mN', hF, _, _, TF, _⟩ := qF.obj J3.kIn
    obtain ⟨y, oe, vs, a0, e1, c1, _⟩ := id F3
    have cont : (Value.ref A :: bm).contains (.ref CF) = true := by rw [hmro] at hsub; exact Option.some.inj hsub
    refine wpAny_handleBy_cons (codeAny_handlers_test (ld_glob (X := X.held x) (J3.unpn.held x) hg hm ?_ hd)) (by intro z; cases z)
    obtain ⟨hp3, g3, d3, t3, os3⟩ := s3
    refine matches_own hC hF e1 c1 (TF.hasType PySem.F.excBase_ValueError.hasBase) cont (codeAny_handlers_suite_as ?_)
    refine flight_ok J3 F3 fun s4 J4 F4 => ?_
    obtain ⟨y4, oe4, vs4, a4, e4, c4, d4, _⟩ := id F4
    refine store_ok2 (X := X.held x) (J4.unpn.held x) hN hi (.inl hl) (v := .ref x) rfl (fun s5 J5 hch => ?_) (.inr hl)
    have e5 : s5.heap.get? x = some oe4 := by
      obtain ⟨b, sb, hb'⟩ := hch
      refine (sb.2 x ?_).trans e4
      rintro rfl
      rcases hb' with z | z
      · obtain ⟨m, ⟨ol, _, _, el, dl, _⟩, _⟩ := J4.loc
        have el' : s4.heap.get? X.env.locals = some ol := el
        rw [← z, e4] at el'; cases el'; rw [d4] at dl; cases dl
      · obtain ⟨v, oc, ec, dc⟩ := J4.cell _ _ z
        rw [e4] at ec; cases ec; rw [d4] at dc; cases dc
    have J6 : Inv (X.held x) pins (σ'.set i (some (.ref x))) (upd H' x (.ext (ExcO x (.ref A)))) s5 :=
      J5.track ⟨y4.1, y4.2.1, fun p hp => y4.2.2 p (List.mem_append_left _ hp)⟩ (fun p hp => y4.2.2 p (List.mem_append_right _ hp)) ⟨oe4, vs4, e5, d4⟩ ⟨oe4, vs4, e5, c4, d4⟩ fun h1 h2 ⟨o, ws, z1, z2, z3⟩ kk => ⟨o, ws, kk _ z1, z2, z3⟩
    have un : ∀ {σ2 H2 s6}, Inv (X.held x) pins σ2 H2 s6 → Inv X pins σ2 H2 s6 := fun z => z.unheld I.ok.hd I.ok.frames
    refine wpAny_mono (hs x pins s5 _ _ _ (J6.wish _) (k x y4.2.1)) (fun f s6 z => ?_) fun _ _ z => z.elim
    cases f with
    | next => obtain ⟨σ2, H2, J7, z⟩ := z; exact unbind_ok (un J7.unwish) hN hi hl fun s7 J8 => ⟨_, H2, J8, z⟩
    | brk => obtain ⟨σ2, H2, J7, z⟩ := z; exact unbind_ok (un J7.unwish) hN hi hl fun s7 J8 => ⟨_, H2, J8, z⟩
    | cont => obtain ⟨σ2, H2, J7, z⟩ := z; exact unbind_ok (un J7.unwish) hN hi hl fun s7 J8 => ⟨_, H2, J8, z⟩
    | ret u => obtain ⟨v, σ2, H2, J7, r, z⟩ := z; exact unbind_ok (un J7.unwish) hN hi hl fun s7 J8 => ⟨v, _, H2, J8, r, z⟩
end
end L2
namespace L2
open PySem PySem.Spec PyProof.Rows PySem.W Builtin Builtin.ObjectAttr Builtin.Getset_descriptor
structure ExcC (K : Frag) (A : Addr) : Prop where
  ga : findIn K (.ref A) "__getattribute__" = some (some (.builtin "BaseException.__getattribute__"))
  gn : findIn K (.ref A) "__getattr__" = some none
  cl : findIn K (.ref A) "__class__" = some (some (.builtin "object.__class__"))
  cg : specialIn K (.builtin "object.__class__") "__get__" = some (some (.builtin "getset_descriptor.__get__"))
  ck : takesIn K (.builtin "object.__class__") = some true
  co : mroIn K A (.type "object") = some true
  cb : mroIn K A (.type "BaseException") = some true
  is : (clsIn K A).isSome = true
section
variable {prog : Program} {w : World} {B : Around} {E : Value → Shared → Prop} {K : Frag} {x A : Addr} {o : Obj}
theorem exc_ty {M : Model} {h : Heap} (hx : h.get? x = some o) (hc : o.cls = .ref A) : Looks M h (typeOf (.ref x)) (.ref A) := by rw [← hc]; exact (Looks.ld hx).andThen .now
theorem exc_isType {M : Model} {h : Heap} (X : K.In h) (q : (clsIn K A).isSome = true) : Looks M h (isType (.ref A)) true := by
  unfold clsIn at q
  split at q
  · next look =>
    intro A' Q' E' s' k z
    unfold isType loadHead
    exact wpAny_bind (wpAny_loadPart (k _ _ (X _ _ look)) (wpAny_pure z))
  · cases q
set_option maxHeartbeats 1000000 in
theorem exc_get {h : Heap} {g d t os} {R : Result → Shared → Prop} {tp : Value} (X : K.In h) (hx : h.get? x = some o) (hc : o.cls = .ref A) (hm : mroIn K A (.type "object") = some true) (z : R (.ok (.ret (.ref A))) ⟨h, g, d, t, os⟩) :
    codeAny (model prog w) B (.call (.builtin "getset_descriptor.__get__") ⟨[.builtin "object.__class__", .ref x, tp], []⟩) R ⟨h, g, d, t, os⟩ := by
  have e0 := exc_ty (M := model prog w) hx hc
  have e1 := looks_mroIn (M := model prog w) X hm
  have a1 := dga_obj (.builtin "object.__class__") tp x
  have a2 := KF.owner_class
  refine codeAny_call_builtin KF.slot_gs.plain KF.entry_gs ?_
  refine KF.slot_gs.check _ _ _ _ _ _ _ _ KF.type_class (KF.args_gs _ _ _) ?_
  have nm : ".".intercalate ("object.__class__".cutAt '.').dropLast = "object" := congrArg Prod.fst a2
  wp_walk using e0.at
  rw [nm]
  wp_walk using e1.at
  constructor
  · exact Code.quiet_builtin _ (by decide +kernel)
  · apply codeAny_builtin KF.entry_class
    wp_walk using e0.at
    exact z
theorem exc_entry {h : Heap} {g d t os} {tk : Tok} {Q : Fin → Shared → Prop} (X : K.In h) (C : ExcC K A) (hx : h.get? x = some o) (hc : o.cls = .ref A) (z : Q (.done (.ret (.ref A))) ⟨h, g, d, t, os⟩) :
    wpAny (model prog w) B (Builtin.«object.__getattribute__» ⟨[.ref x, .str "__class__" tk], []⟩) Q E ⟨h, g, d, t, os⟩ := by
  have e0 := exc_ty (M := model prog w) hx hc
  have e1 := looks_findIn (M := model prog w) X C.cl
  have e2 := looks_specialIn (M := model prog w) X C.cg
  have e3 := looks_takesIn (M := model prog w) X C.ck
  unfold Builtin.«object.__getattribute__»
  repeat lk
  refine wpAny_run (h := none) (exc_get X hx hc C.co ?_)
  exact wpAny_pure (wpAny_pure z)
theorem exc_by {h : Heap} {g d t os} {tk : Tok} {Q : Value → Shared → Prop} (X : K.In h) (C : ExcC K A) (hx : h.get? x = some o) (hc : o.cls = .ref A) (z : Q (.ref A) ⟨h, g, d, t, os⟩) :
    wpAny (model prog w) B (getAttrBy (.ref x) (.str "__class__" tk) false false) Q E ⟨h, g, d, t, os⟩ := by
  have e0 := exc_ty (M := model prog w) hx hc
  have e1 := looks_findIn (M := model prog w) X C.ga
  have e2 := looks_findIn (M := model prog w) X C.gn
  have e3 := looks_mroIn (M := model prog w) X C.cb
  have f3 := PySem.F.excAttr_ValueError.ga.bind (.ref x)
  unfold getAttrBy
  refine wpAny_holding (wpAny_bind (e0.at (wpAny_bind (e1.at ?_))))
  show wpAny _ _ (getAttrByItsOwn _ _ _ _ _ _) _ _ _
  unfold getAttrByItsOwn hookBefore
  refine wpAny_bind ?_
  rw [if_pos (show onTheHeap (Value.ref A) = true from rfl)]
  refine e2.at (wpAny_bind (wpAny_attempt (wpAny_holding ?_)))
  unfold callGetattribute boundAndCalled
  rw [if_neg (by decide), f3]
  refine wpAny_bind (wpAny_pure (wpAny_call (codeAny_call_builtin PySem.F.excAttr_ValueError.ga.plain F.entry_bexc_ga ?_)))
  have kk : builtinKind "BaseException.__getattribute__" = some .slot ∧ splitId "BaseException.__getattribute__" = some ("BaseException", "__getattribute__") := ⟨by decide +kernel, by decide +kernel⟩
  have e4 := PySem.F.args_bexc_ga (.ref x) (.str "__class__" tk)
  simp only [checkBuiltinCall, kk.1, kk.2]; unfold isInstance
  refine wpAny_bind (wpAny_bind (e0.at (e3.at ?_)))
  rw [if_neg (by decide)]
  refine wpAny_of_eq (show _ = pure () from e4) (exc_entry X C hx hc ?_)
  exact wpAny_pure z
theorem exc_class {s : Shared} {Q : Option Value → Shared → Prop} (X : K.In s.heap) (C : ExcC K A) (hx : s.heap.get? x = some o) (hc : o.cls = .ref A) (z : Q (some (.ref A)) { s with toks := s.toks + 1 }) : wpAny (model prog w) B (getAttr? (.ref x) "__class__") Q E s := by
  obtain ⟨h, g, d, t, os⟩ := s
  unfold getAttr? getAttrBy?
  refine wpAny_bind (wpAny_mkText (wpAny_bind (wpAny_attempt (exc_by X C hx hc ?_))))
  exact wpAny_pure z
theorem kitx_exc (C : ExcC K A) : KitX K (.ref x) (.ref A) (ExcO x (.ref A)) where
  ty := fun M h _ ⟨o, vs, hx, hc, _⟩ => exc_ty hx hc
  it := fun M h X _ => exc_isType X C.is
  ne := fun h tp dd its n sl X htp => by
    refine Bool.eq_false_iff.mpr fun q => ?_
    have e : A = tp := Value.ref.inj (beq_iff_eq.mp q)
    subst e
    have q := C.is
    unfold clsIn at q
    split at q
    · next look => have z := (X _ _ look).symm.trans htp; cases z
    · cases q
  ca := fun X ⟨o, vs, hx, hc, _⟩ k => exc_class X C hx hc k
end
section
variable {X : Cx}
def rIsE (K : Frag) : List V → Hp → VK → Prop := fun xs H Q => ∃ a A c cv b, xs = [.ref a, c] ∧ RelV c cv ∧ (∀ u, RelV c u → u = cv) ∧ H a = some (.ext (ExcO a (.ref A))) ∧ ExcC K A ∧ kitOne K (.ref A) cv = some b ∧ Q (.bl b) H
theorem call_isE : CallR X (.builtin "isinstance") (rIsE X.K) := by
  intro pins s σ H xs us Q I r h
  obtain ⟨a, A, c, cv, b, rfl, _, hu, ha, C, e, q⟩ := h
  obtain ⟨u, u', rfl, rx, rc⟩ := vals2 r
  obtain rfl := hu u' rc
  cases (show u = Value.ref a from rx)
  obtain ⟨p, _, _⟩ := I.hok a _ ha
  exact kia_one (kitx_exc C) I.kIn p e (fun z => nomatch z) fun tk => ⟨.bl b, H, I.tok _, rfl, q⟩
theorem cIsE {K : Frag} (h : X.K = K) : CallR X (.builtin "isinstance") (rIsE K) := by subst h; exact call_isE
end
end L2
namespace L2
open PySem PySem.Spec PyProof.Rows
section
variable {X : Cx}
theorem count_eqU {x : V} : ∀ {xs : List V} {us : List Value}, Vals xs us → xs.all flatV = true → us.countP (eqU x) = xs.countP fun y => eqV y x
  | _, _, .nil, _ => rfl
  | y :: xs, u :: us, .cons r t, h => by
    rw [List.all_cons, Bool.and_eq_true] at h
    rw [List.countP_cons, List.countP_cons, count_eqU t h.2, eqU_of r h.1]
def rCount (K : PySem.W.Frag) : V → List V → Hp → VK → Prop := fun x vs H Q => ∃ p xs y, x = .ref p ∧ vs = [y] ∧ SqL K H p xs ∧ flatV y = true ∧ xs.all flatV = true ∧ Q (.int (xs.countP fun z => eqV z y : Nat)) H
theorem mt_count : MtM X "list.count" (rCount X.K) := by
  intro pins s σ H x vs v us Q I rx rv h
  obtain ⟨p, xs, y, rfl, rfl, hq, fy, fs, q⟩ := h
  cases rx
  obtain ⟨u, rfl, ry⟩ := rv.one
  obtain ⟨its, r, ⟨ob, n, e, c, dn, d⟩, hz⟩ := I.list hq
  obtain ⟨oc, od, odt, osl⟩ := ob
  dsimp only at c dn d
  subst c dn d
  refine call_meets PySem.F.slot_list_count ⟨_, e, rfl⟩ PySem.F.entry_list_count (PySem.F.args_list_count_2 _ _) (SeqAt.list_countAt p its.toArray n _ _ u (eqU y)) ⟨e, fun w hw => mem_eqAt ry fy r fs w (by simpa using hw), ?_⟩
  exact ⟨.int _, H, I.tok _, ⟨_, rfl⟩, by rw [show its.toArray.toList = its from rfl, count_eqU r fs]; exact q⟩
theorem mCount {K : PySem.W.Frag} (h : X.K = K) : MtM X "list.count" (rCount K) := by subst h; exact mt_count
end
def Big (m : Int) (es : List (Int × Int)) : Prop := m < 1 ∨ 20 < m ∨ 40 < (es.length : Int)
instance (m : Int) (es : List (Int × Int)) : Decidable (Big m es) := by unfold Big; infer_instance
instance (es : List (Int × Int)) (m : Int) : Decidable (EndsIn es m) := by unfold EndsIn; infer_instance
end L2
namespace L2
open PySem PySem.Spec PyProof.Rows
section
variable {K : PySem.W.Frag} {H : Hp}
theorem Pairs.get : ∀ {xs : List V} {es : List (Int × Int)} {i : Nat}, Pairs K H xs es → i < es.length → ∃ r e, xs[i]? = some (.ref r) ∧ SqT K H r [.int e.1, .int e.2] ∧ es[i]? = some e ∧ e ∈ es
  | _, _, _, .nil, h => absurd h (Nat.not_lt_zero _)
  | _, _, 0, .cons ⟨r, e, q⟩ _, _ => ⟨r, _, by rw [e]; rfl, q, rfl, List.mem_cons_self⟩
  | _, _, i + 1, .cons _ t, h => by
    obtain ⟨r, e, h1, h2, h3, h4⟩ := Pairs.get (i := i) t (by simpa using h)
    exact ⟨r, e, by simpa using h1, h2, by simpa using h3, List.mem_cons_of_mem _ h4⟩
theorem ixN_nat {n : Nat} {i : Int} (h0 : 0 ≤ i) (h : i < (n : Int)) : ixN n i = some i.toNat := by
  unfold ixN; rw [if_pos h0, if_pos h]
theorem atI_int {α : Type} {xs : List α} {i : Int} {v : α} (h0 : 0 ≤ i) (h : xs[i.toNat]? = some v) : atI xs i = some v := by
  have := atI_nat h
  rwa [Int.toNat_of_nonneg h0] at this
end
end L2
namespace L2
open PySem PySem.Spec PyProof.Rows
section
variable {prog : Program} {w : World} {A : Around} {E : Value → Shared → Prop} {s : Shared}
set_option maxHeartbeats 2000000 in
theorem stepT {it l : Addr} {i : Nat} {items : Array Value} {x : Value} {c d : Option Addr} {sl sl2 : Array (Option Value)} {n : Nat} {P : Fin → Shared → Prop} (hit : s.heap.get? it = some { cls := .type "tuple_iterator", dict := c, data := .fields #[.ref l, .int i 0], slots := sl }) (hl : s.heap.get? l = some { cls := .type "tuple", dict := d, data := .seq items n, slots := sl2 }) (hx : items[i]? = some x)
    (hP : ∀ h', h'.get? it = some { cls := .type "tuple_iterator", dict := c, data := .fields #[.ref l, .int (i + 1 : Nat) 0], slots := sl } → Heap.SameBut it s.heap h' → P (.done (.ret x)) { s with heap := h' }) :
    wpAny (model prog w) A (Builtin.«tuple_iterator.__next__» ⟨[.ref it], []⟩) P E s := by
  obtain ⟨hp, g, dr, tk, os⟩ := s
  unfold Builtin.«tuple_iterator.__next__»
  wp_walk using AutoSeq1.wpAny_loadPart' hit, AutoSeq1.wpAny_loadPart' hl
  rw [Int.toNat_natCast, hx]
  wp_walk
  have up := Heap.get?_update_self (Obj.mapFields fun v => v.setIfInBounds 1 (rawInt ((i : Int) + 1))) hit rfl
  exact hP _ up (Heap.SameBut.update ..)
set_option maxHeartbeats 2000000 in
theorem stopT {it l : Addr} {i : Nat} {items : Array Value} {c d : Option Addr} {sl sl2 : Array (Option Value)} {n : Nat} {P : Fin → Shared → Prop} (hh : A.handled = none) (hit : s.heap.get? it = some { cls := .type "tuple_iterator", dict := c, data := .fields #[.ref l, .int i 0], slots := sl }) (hl : s.heap.get? l = some { cls := .type "tuple", dict := d, data := .seq items n, slots := sl2 }) (hx : items[i]? = none)
    (hE : ∀ h' e, Heap.ExtBut it s.heap h' → (∃ o, h'.get? e = some o ∧ o.cls = .type "StopIteration") → E (.ref e) { s with heap := h' }) :
    wpAny (model prog w) A (Builtin.«tuple_iterator.__next__» ⟨[.ref it], []⟩) P E s := by
  obtain ⟨hp, g, dr, tk, os⟩ := s
  unfold Builtin.«tuple_iterator.__next__»
  wp_walk using AutoSeq1.wpAny_loadPart' hit, AutoSeq1.wpAny_loadPart' hl
  rw [Int.toNat_natCast, hx]
  wp_walk
  refine wpAny_raiseNew_none hh (hE _ _ ?_ ⟨_, Heap.get?_push_size _ rfl, rfl⟩)
  have one := Heap.SameBut.update (h := hp) (a := it) (f := Obj.mapFields fun v => v.setIfInBounds 0 Value.none)
  exact (one.extBut.push _).push _
theorem nextT_item {it l : Addr} {i : Nat} {items : Array Value} {x : Value} {Q : Value → Shared → Prop} (hit : s.heap.IsTupleIter it l i) (hl : s.heap.IsTuple l items) (hx : items[i]? = some x) (hQ : ∀ h', h'.IsTupleIter it l (i + 1) → Heap.SameBut it s.heap h' → Q x { s with heap := h' }) : wpAny (model prog w) A (Builtin.SmallTypes.nextOf (.ref it)) Q E s := by
  have ty := hit.typeIs
  obtain ⟨⟨_, c, _, sl⟩, ho, rfl, rfl⟩ := hit
  obtain ⟨⟨_, d, _, sl2⟩, hol, rfl, n, rfl⟩ := hl
  have walked := wpAny_call_entry (prog := prog) (w := w) (A := A) (E := E) F.slot_tuple_iterator_next ty F.entry_tuple_iterator_next (stepT ho hol hx fun h' e sb => ⟨x, rfl, hQ h' ⟨_, e, rfl, rfl⟩ sb⟩) (F.args_tuple_iterator_next_1 _)
  unfold Builtin.SmallTypes.nextOf
  exact wpAny_bind (wpAny_callSpecial?_slot ty F.slot_tuple_iterator_next (wpAny_mono walked (fun v s' q => wpAny_pure q) fun _ _ z => z))
theorem nextT_end {it l : Addr} {i : Nat} {items : Array Value} {Q : Value → Shared → Prop} (hh : A.handled = none) (hit : s.heap.IsTupleIter it l i) (hl : s.heap.IsTuple l items) (hx : items[i]? = none) (hE : ∀ h' e, Heap.ExtBut it s.heap h' → (∃ o, h'.get? e = some o ∧ o.cls = .type "StopIteration") → E (.ref e) { s with heap := h' }) : wpAny (model prog w) A (Builtin.SmallTypes.nextOf (.ref it)) Q E s := by
  have ty := hit.typeIs
  obtain ⟨⟨_, c, _, sl⟩, ho, rfl, rfl⟩ := hit
  obtain ⟨⟨_, d, _, sl2⟩, hol, rfl, n, rfl⟩ := hl
  have walked := wpAny_call_entry (prog := prog) (w := w) (A := A) (E := E) (Q := fun v s' => Q v s') F.slot_tuple_iterator_next ty F.entry_tuple_iterator_next (stopT (show A.in1.handled = none from hh) ho hol hx hE) (F.args_tuple_iterator_next_1 _)
  unfold Builtin.SmallTypes.nextOf
  exact wpAny_bind (wpAny_callSpecial?_slot ty F.slot_tuple_iterator_next (wpAny_mono walked (fun v s' q => wpAny_pure q) fun _ _ z => z))
theorem tIter_at {h h' : Heap} {it t : Addr} {i : Nat} (x : h.IsTupleIter it t i) (k : ∀ o, h.get? it = some o → h'.get? it = some o) : h'.IsTupleIter it t i := let ⟨o, ho, r⟩ := x; ⟨o, k o ho, r⟩
end
def SIt (b : Bool) (h : Heap) (it l : Addr) (i : Nat) : Prop := match b with | false => h.IsListIter it l i | true => h.IsTupleIter it l i
def SSq (b : Bool) (h : Heap) (l : Addr) (xs : Array Value) : Prop := match b with | false => h.IsList l xs | true => h.IsTuple l xs
theorem SIt.keep {b : Bool} {h h' : Heap} {it l : Addr} {i : Nat} (x : SIt b h it l i) (k : ∀ o, h.get? it = some o → h'.get? it = some o) : SIt b h' it l i := by
  cases b
  · exact Heap.IsListIter.at x k
  · exact tIter_at x k
theorem SSq.keep {b : Bool} {h h' : Heap} {l : Addr} {xs : Array Value} (x : SSq b h l xs) (k : ∀ o, h.get? l = some o → h'.get? l = some o) : SSq b h' l xs := by
  cases b
  · exact Heap.IsList.at x k
  · exact Heap.IsTuple.at x k
theorem SIt.obj {b : Bool} {h : Heap} {it l : Addr} {i : Nat} (x : SIt b h it l i) : ∃ o, h.get? it = some o ∧ ∀ v, o.data ≠ .cell v := by
  cases b
  · obtain ⟨o, e, _, d⟩ := x; exact ⟨o, e, fun v z => by rw [d] at z; cases z⟩
  · obtain ⟨o, e, _, d⟩ := x; exact ⟨o, e, fun v z => by rw [d] at z; cases z⟩
theorem draws_src {prog : Program} {w : World} {A : Around} (hh : A.handled = none) (b : Bool) (it l : Addr) (hne : l ≠ it) (items : Array Value) : Draws prog w A it [it, l] items.size (fun i v => items[i]? = some v) (fun i h => SIt b h it l i ∧ SSq b h l items) := by
  cases b
  · exact Draws.list hh it l hne items
  · exact { live := fun _ _ st => let ⟨o, ho, _⟩ := st.1; ⟨o, ho⟩
            frame := fun _ _ _ st hk => ⟨tIter_at st.1 fun o e => hk it (by simp) o e, Heap.IsTuple.at st.2 fun o e => hk l (by simp) o e⟩
            item := fun i s Q E hi st hQ => nextT_item st.1 st.2 (x := items[i]) (by simp [hi]) fun h' hit' hs' => hQ _ h' s.toks (by simp [hi]) ⟨hit', Heap.IsTuple.extBut st.2 hs'.extBut hne⟩ hs'
            done := fun s Q E st hE => nextT_end hh st.1 st.2 (by simp) hE }
structure ZA (z TO i1 i2 : Addr) (f1 f2 : List Addr) : Prop where
  m1 : i1 ∈ f1
  m2 : i2 ∈ f2
  z1 : z ∉ f1
  z2 : z ∉ f2
  o1 : TO ∉ f1
  o2 : TO ∉ f2
  x1 : i1 ∉ f2
  x2 : i2 ∉ f1
  oz : TO ≠ z
theorem nin {a b : Addr} {l : List Addr} (h : a ∉ l) (hb : b ∈ l) : b ≠ a := fun e => h (e ▸ hb)
section
variable {prog : Program} {w : World} {A : Around} {E : Value → Shared → Prop} {s : Shared} {z TI TO i1 i2 : Addr} {f1 f2 : List Addr} {n1 n2 i : Nat} {P1 P2 : Nat → Value → Prop} {S1 S2 : Nat → Heap → Prop} {a b : Value}
set_option maxHeartbeats 4000000 in
theorem zip_itemD {Q : Value → Shared → Prop} (D1 : Draws prog w A i1 f1 n1 P1 S1) (D2 : Draws prog w A i2 f2 n2 P2 S2) (Z : ZA z TO i1 i2 f1 f2) (hz : IsZip s.heap z TI TO .none) (hTI : IsPair s.heap TI (.ref i1) (.ref i2)) (hTO : IsPair s.heap TO a b) (h1 : S1 i s.heap) (h2 : S2 i s.heap) (l1 : i < n1) (l2 : i < n2)
    (hQ : ∀ x y h' tk, P1 i x → P2 i y → IsZip h' z TI TO (rawInt s.heap.objs.size) → IsPair h' TO x y → S1 (i + 1) h' → S2 (i + 1) h' → IsPair h' s.heap.objs.size x y → h'.objs.size = s.heap.objs.size + 1 →
      (∀ c o, c ≠ z → c ≠ TO → c ≠ i1 → c ≠ i2 → s.heap.get? c = some o → h'.get? c = some o) → Q (.ref s.heap.objs.size) { s with heap := h', toks := tk }) :
    wpAny (model prog w) A (Builtin.«zip.__next__» ⟨[.ref z], []⟩) (fun fin s' => ∃ v, fin = .done (.ret v) ∧ Q v s') E s := by
  obtain ⟨hp, g, d, tk₀, os⟩ := s
  have Oz := Z.oz
  have z1 := nin Z.z1 Z.m1
  have z2 := nin Z.z2 Z.m2
  have O1 := nin Z.o1 Z.m1
  have O2 := nin Z.o2 Z.m2
  have kz := Heap.get?_update_self (Obj.mapFields fun v => v.setIfInBounds 0 Value.ellipsis) hz rfl
  unfold Builtin.«zip.__next__»
  wp_walk using AutoSeq1.wpAny_loadPart' hz, AutoSeq1.wpAny_loadPart' hTI, wpAny_onRaise, D1.item i _ _ _ l1
  · exact D1.frame _ _ _ h1 fun c hc o e => Heap.get?_update_of_ne _ (nin Z.z1 hc).symm e
  intro x h₂ t₂ px s₁ b₂
  have ez := b₂.extBut _ _ z1.symm kz
  have TO2 : IsPair h₂ TO a b := b₂.extBut _ _ O1.symm (Heap.get?_update_of_ne _ Oz.symm hTO)
  have kO := Heap.get?_update_self (Obj.mapSeq fun v => v.setIfInBounds 0 x) TO2 rfl
  wp_walk using AutoSeq1.wpAny_loadPart' TO2, wpAny_onRaise, D2.item i _ _ _ l2
  · exact D2.frame _ _ _ h2 fun c hc o e => Heap.get?_update_of_ne _ (nin Z.o2 hc).symm (b₂.extBut _ _ (nin Z.x1 hc) (Heap.get?_update_of_ne _ (nin Z.z2 hc).symm e))
  intro y h₄ t₄ py s₂ b₄
  have TO4 : IsPair h₄ TO x b := b₄.extBut _ _ O2.symm kO
  have ez4 : IsZip h₄ z TI TO .ellipsis := b₄.extBut _ _ z2.symm (Heap.get?_update_of_ne _ Oz ez)
  have n4 : h₄.objs.size = hp.objs.size := by rw [b₄.1, Heap.size_after_update, b₂.1, Heap.size_after_update]
  have kP := Heap.get?_update_self (Obj.mapSeq fun v => v.setIfInBounds 1 y) TO4 rfl
  wp_walk using AutoSeq1.wpAny_loadPart' TO4, AutoSeq1.wpAny_loadPart' kP
  have n5 : (h₄.update TO (Obj.mapSeq fun v => v.setIfInBounds 1 y)).objs.size = hp.objs.size := Heap.size_after_update .. |>.trans n4
  have zl : z < hp.objs.size := Heap.lt_size hz
  refine ⟨_, rfl, ?_⟩
  rw [n5]
  have on : ∀ {c o} (f : Obj → Obj) (k : Obj → Obj), c ≠ z → ((h₄.update TO (Obj.mapSeq fun v => v.setIfInBounds 1 y)).push { cls := .type "tuple", data := .seq #[x, y] }).get? c = some o →
      ((((h₄.update TO (Obj.mapSeq fun v => v.setIfInBounds 1 y)).push { cls := .type "tuple", data := .seq #[x, y] }).update z f).update z k).get? c = some o := fun f k q e => Heap.get?_update_of_ne _ q.symm (Heap.get?_update_of_ne _ q.symm e)
  refine hQ x y _ t₄ px py ?_ ?_ ?_ ?_ ?_ ?_ ?_
  · exact Heap.get?_update_self _ (Heap.get?_update_self _ (Heap.get?_push_of_some _ (Heap.get?_update_of_ne _ Oz ez4)) rfl) rfl
  · exact on _ _ Oz (Heap.get?_push_of_some _ kP)
  · exact D1.frame _ _ _ s₁ fun c hc o e => on _ _ (nin Z.z1 hc) (Heap.get?_push_of_some _ (Heap.get?_update_of_ne _ (nin Z.o1 hc).symm (b₄.extBut _ _ (nin Z.x2 hc) (Heap.get?_update_of_ne _ (nin Z.o1 hc).symm e))))
  · exact D2.frame _ _ _ s₂ fun c hc o e => on _ _ (nin Z.z2 hc) (Heap.get?_push_of_some _ (Heap.get?_update_of_ne _ (nin Z.o2 hc).symm e))
  · exact on _ _ (Nat.ne_of_gt zl) (Heap.get?_push_at n5.symm rfl)
  · rw [Heap.size_after_update, Heap.size_after_update, Heap.size_push, n5]
  · exact fun c o c1 c2 c3 c4 e => on _ _ c1 (Heap.get?_push_of_some _ (Heap.get?_update_of_ne _ c2.symm (b₄.extBut _ _ c4 (Heap.get?_update_of_ne _ c2.symm (b₂.extBut _ _ c3 (Heap.get?_update_of_ne _ c1.symm e))))))
set_option maxHeartbeats 4000000 in
theorem zip_endD {Q : Fin → Shared → Prop} (D1 : Draws prog w A i1 f1 n1 P1 S1) (D2 : Draws prog w A i2 f2 n2 P2 S2) (Z : ZA z TO i1 i2 f1 f2) (hz : IsZip s.heap z TI TO .none) (hTI : IsPair s.heap TI (.ref i1) (.ref i2)) (hTO : IsPair s.heap TO a b) (h1 : S1 i s.heap) (h2 : S2 i s.heap) (hend : i = n1 ∨ (i < n1 ∧ i = n2))
    (hE : ∀ h' tk e, (∀ c o, c ≠ z → c ≠ TO → c ≠ i1 → c ≠ i2 → s.heap.get? c = some o → h'.get? c = some o) → (∃ o, h'.get? e = some o ∧ o.cls = .type "StopIteration") → E (.ref e) { s with heap := h', toks := tk }) :
    wpAny (model prog w) A (Builtin.«zip.__next__» ⟨[.ref z], []⟩) Q E s := by
  obtain ⟨hp, g, d, tk₀, os⟩ := s
  have Oz := Z.oz
  have z1 := nin Z.z1 Z.m1
  have z2 := nin Z.z2 Z.m2
  have O1 := nin Z.o1 Z.m1
  have O2 := nin Z.o2 Z.m2
  have kz := Heap.get?_update_self (Obj.mapFields fun v => v.setIfInBounds 0 Value.ellipsis) hz rfl
  have first : S1 i (hp.update z (Obj.mapFields fun v => v.setIfInBounds 0 Value.ellipsis)) := D1.frame _ _ _ h1 fun c hc o e => Heap.get?_update_of_ne _ (nin Z.z1 hc).symm e
  unfold Builtin.«zip.__next__»
  rcases hend with rfl | ⟨l1, rfl⟩
  · wp_walk using AutoSeq1.wpAny_loadPart' hz, AutoSeq1.wpAny_loadPart' hTI, wpAny_onRaise, D1.done _ _ _ first
    rintro h₂ e b₂ ⟨o, ho, hc⟩
    have ez : h₂.get? z = _ := b₂ _ _ z1.symm kz
    have ne : e ≠ z := fun q => by rw [q, ez] at ho; cases ho; exact absurd (Value.type.inj hc) (by decide)
    wp_walk using wpAny_updatePart' ez
    exact hE _ _ _ (fun c o c1 c2 c3 c4 q => Heap.get?_update_of_ne _ c1.symm (b₂ _ _ c3 (Heap.get?_update_of_ne _ c1.symm q))) ⟨o, Heap.get?_update_of_ne _ ne.symm ho, hc⟩
  · wp_walk using AutoSeq1.wpAny_loadPart' hz, AutoSeq1.wpAny_loadPart' hTI, wpAny_onRaise, D1.item i _ _ _ l1 first
    intro x h₂ t₂ px s₁ b₂
    have ez : h₂.get? z = _ := b₂.extBut _ _ z1.symm kz
    have TO2 : IsPair h₂ TO a b := b₂.extBut _ _ O1.symm (Heap.get?_update_of_ne _ Oz.symm hTO)
    have last : S2 i (h₂.update TO (Obj.mapSeq fun v => v.setIfInBounds 0 x)) := D2.frame _ _ _ h2 fun c hc o e => Heap.get?_update_of_ne _ (nin Z.o2 hc).symm (b₂.extBut _ _ (nin Z.x1 hc) (Heap.get?_update_of_ne _ (nin Z.z2 hc).symm e))
    wp_walk using AutoSeq1.wpAny_loadPart' TO2, wpAny_onRaise, D2.done _ _ _ last
    rintro h₄ e b₄ ⟨o, ho, hc⟩
    have ez4 : h₄.get? z = _ := b₄ _ _ z2.symm (Heap.get?_update_of_ne _ Oz ez)
    have ne : e ≠ z := fun q => by rw [q, ez4] at ho; cases ho; exact absurd (Value.type.inj hc) (by decide)
    wp_walk using wpAny_updatePart' ez4
    exact hE _ _ _ (fun c o c1 c2 c3 c4 q => Heap.get?_update_of_ne _ c1.symm (b₄ _ _ c4 (Heap.get?_update_of_ne _ c2.symm (b₂.extBut _ _ c3 (Heap.get?_update_of_ne _ c1.symm q))))) ⟨o, Heap.get?_update_of_ne _ ne.symm ho, hc⟩
end
end L2
namespace L2
open PySem PySem.Spec PyProof.Rows
def itC (b : Bool) : String := match b with | false => "list_iterator" | true => "tuple_iterator"
def SqB (b : Bool) (K : PySem.W.Frag) (H : Hp) (a : Addr) (xs : List V) : Prop := match b with | false => SqL K H a xs | true => SqT K H a xs
theorem SqB.or {b : Bool} {K : PySem.W.Frag} {H : Hp} {a : Addr} {xs : List V} (h : SqB b K H a xs) : SqL K H a xs ∨ SqT K H a xs := by
  cases b
  · exact .inl h
  · exact .inr h
section
variable {X : Cx} {pins : List (Addr × Obj)} {σ : St} {H : Hp} {s : Shared} {b : Bool} {a c : Addr} {xs : List V}
theorem Inv.src (I : Inv X pins σ H s) (h : SqB b X.K H a xs) : ∃ its : List Value, Vals xs its ∧ SSq b s.heap a its.toArray ∧ xs.length ≤ sizeLine := by
  cases b
  · obtain ⟨its, r, p, z⟩ := I.list h; exact ⟨its, r, p.isList, z⟩
  · obtain ⟨its, r, p, z⟩ := I.tuple h; exact ⟨its, r, p, z⟩
theorem Inv.srcNe (I : Inv X pins σ H s) (h : SqB b X.K H a xs) (f : FpOk X pins H c) : a ≠ c := by
  have known : ∀ o, X.K.lookup a = some o → a ≠ c := fun o hk e => by
    have hb := I.ok.mod.kin a o hk
    subst e
    rcases f.2.2.2.1 with z | z
    · exact I.ok.noex a o hb z
    · exact absurd (Nat.lt_of_lt_of_le (Heap.lt_size hb) (Nat.le_trans I.ok.bsz z)) (Nat.lt_irrefl _)
  have free : ∀ o, H a = some o → a ≠ c := fun o e z => by rw [z, f.1] at e; cases e
  cases b
  · rcases h with (h | ⟨o, h⟩) | ⟨o, _, _, hk, _⟩
    · exact free _ h
    · exact free _ h
    · exact known o hk
  · rcases h with (h | ⟨o, h⟩) | ⟨o, _, _, hk, _⟩
    · exact free _ h
    · exact free _ h
    · exact known o hk
theorem Inv.turnedLaid {h' : Heap} {t' : Nat} {fp : List Addr} {ys : List V} {us : List Value} (I : Inv X pins σ H s) (hf : ∀ b ∈ fp, FpOk X pins H b) (k : ∀ c o, c ∉ fp → s.heap.get? c = some o → h'.get? c = some o) (r : Vals ys us) (hz : ys.length ≤ sizeLine) (hT : IsTup h' s.heap.objs.size us.toArray) :
    Inv X pins σ (upd H s.heap.objs.size (.tup ys)) { s with heap := h', toks := t' } := by
  have hn : H s.heap.objs.size = none := I.hok.fresh (Nat.le_refl _)
  refine I.call' (ch := fp) rfl ⟨fun b o e n hb hx => k b o hx e, fun b o e n hb hx => ⟨o.slots, k b o hx e⟩, fun b o e n hx => ?_, fun b o e hx => ⟨o, k b o hx e⟩, fun b zs e => ?_, fun b o u e => ?_, fun b ps e => ⟨#[], ?_⟩⟩ (fun b u e => ?_) I.bare fun b hb => ?_
  · rw [upd_ne (Nat.ne_of_lt (Heap.lt_size e))]; exact n
  · rw [upd_ne (ne_of_none e hn)]; exact e
  · rw [upd_ne (ne_of_none e hn)]; exact e
  · rw [upd_ne (ne_of_none e hn), e]; simp
  · by_cases hb : b = s.heap.objs.size
    · subst hb; rw [upd_same] at e; cases e
      exact ⟨hz, us, r, hT⟩
    · rw [upd_ne hb] at e
      refine (I.hok b u e).stay (fun c v hc q => k c v (fun z => ?_) q) (fun c q => by rw [upd_ne (ne_of_none q hn)]; exact q) fun c zs q => by rw [upd_ne (ne_of_none q hn)]; exact q
      have z' := (hf c z).1
      rcases hc with hc | hc
      · rw [hc, e] at z'; cases z'
      · rw [hc] at z'; cases z'
  · obtain ⟨f0, f1, f2, f3, f4, f5⟩ := hf b hb
    exact ⟨f3, f1, f4, f5⟩
theorem Inv.turnedAll {h' : Heap} {t' : Nat} {fp : List Addr} (I : Inv X pins σ H s) (hf : ∀ b ∈ fp, FpOk X pins H b) (k : ∀ c o, c ∉ fp → s.heap.get? c = some o → h'.get? c = some o) : Inv X pins σ H { s with heap := h', toks := t' } := by
  refine I.call' (ch := fp) rfl ⟨fun b o e n hb hx => k b o hx e, fun b o e n hb hx => ⟨o.slots, k b o hx e⟩, fun b o e n hx => n, fun b o e hx => ⟨o, k b o hx e⟩, fun b zs e => e, fun b o u e => e, fun b ps e => ⟨#[], by rw [e]; simp⟩⟩ (fun b u e => ?_) I.bare fun b hb => ?_
  · refine (I.hok b u e).stay (fun c v hc q => k c v (fun z => ?_) q) (fun c q => q) fun c zs q => q
    have z' := (hf c z).1
    rcases hc with hc | hc
    · rw [hc, e] at z'; cases z'
    · rw [hc] at z'; cases z'
  · obtain ⟨f0, f1, f2, f3, f4, f5⟩ := hf b hb
    exact ⟨f3, f1, f4, f5⟩
end
section
variable {prog : Program} {w : World} {A : Around} {E : Value → Shared → Prop} {s : Shared}
theorem iter_src {b : Bool} {l : Addr} {xs : Array Value} {Q : Value → Shared → Prop} (h : SSq b s.heap l xs) (q : Q (.ref s.heap.objs.size) { s with heap := s.heap.push { cls := .type (itC b), data := .fields #[.ref l, .int 0 0] } }) : wpAny (model prog w) A (pyIter (.ref l)) Q E s := by
  cases b
  · exact wpAny_pyIter_list h q
  · exact wpAny_pyIter_tuple h q
theorem sit_new {b : Bool} {h h' : Heap} {l a : Addr} (e : h'.get? a = some { cls := .type (itC b), data := .fields #[.ref l, .int 0 0] }) : SIt b h' a l 0 := by
  cases b <;> exact ⟨_, e, rfl, rfl⟩
end
abbrev zA1 (b : Bool) (h : Heap) (l : Addr) : Heap := h.push { cls := .type (itC b), data := .fields #[.ref l, .int 0 0] }
abbrev zA3 (b1 b2 : Bool) (h : Heap) (l1 l2 : Addr) : Heap := (zA1 b2 (zA1 b1 h l1) l2).push { cls := .type "tuple", data := .seq #[.ref h.objs.size, .ref (zA1 b1 h l1).objs.size] }
abbrev zA4 (b1 b2 : Bool) (h : Heap) (l1 l2 : Addr) : Heap := (zA3 b1 b2 h l1 l2).push { cls := .type "tuple", data := .seq #[.none, .none] }
abbrev zA5 (b1 b2 : Bool) (h : Heap) (l1 l2 : Addr) : Heap := (zA4 b1 b2 h l1 l2).push { cls := .type "zip", data := .fields #[.none, .bool false, .bool false, .ref (zA1 b2 (zA1 b1 h l1) l2).objs.size, .ref (zA3 b1 b2 h l1 l2).objs.size] }
theorem meets_zipB (b1 b2 : Bool) (l1 l2 : Addr) (xs ys : Array Value) : Meets (Builtin.«zip.__new__» ⟨[.type "zip", .ref l1, .ref l2], []⟩) (fun _ R s => SSq b1 s.heap l1 xs ∧ SSq b2 s.heap l2 ys ∧ R (.ok (.ret (.ref (zA4 b1 b2 s.heap l1 l2).objs.size))) { s with heap := zA5 b1 b2 s.heap l1 l2 }) :=
  .of_wp fun prog w A R s h => by
    obtain ⟨hp, g, d, tk, os⟩ := s; obtain ⟨hl1, hl2, h⟩ := h; have hsub := sub_zip
    have hL1 : SSq b1 (Shared.heap ⟨hp, g, d, tk, os⟩) l1 xs := hl1
    have hL2 : SSq b2 (Shared.heap ⟨hp.push { cls := .type (itC b1), data := .fields #[.ref l1, .int 0 0] }, g, d, tk, os⟩) l2 ys := SSq.keep hl2 fun o e => Heap.get?_push_of_some _ e
    wp_walk using iter_src hL1, iter_src hL2
    exact ⟨_, rfl, h⟩
section
variable {prog : Program} {w : World} {A : Around} {E : Value → Shared → Prop} {s : Shared}
theorem call_zipB {b1 b2 : Bool} {l1 l2 : Addr} {xs ys : Array Value} {Q : Value → Shared → Prop} (hl1 : SSq b1 s.heap l1 xs) (hl2 : SSq b2 s.heap l2 ys)
    (h : ∀ h', IsZip h' (s.heap.objs.size + 4) (s.heap.objs.size + 2) (s.heap.objs.size + 3) .none → IsPair h' (s.heap.objs.size + 2) (.ref s.heap.objs.size) (.ref (s.heap.objs.size + 1)) →
      IsPair h' (s.heap.objs.size + 3) .none .none → SIt b1 h' s.heap.objs.size l1 0 → SIt b2 h' (s.heap.objs.size + 1) l2 0 → (∀ c o, s.heap.get? c = some o → h'.get? c = some o) → Q (.ref (s.heap.objs.size + 4)) { s with heap := h' }) :
    wpAny (model prog w) A (call (.type "zip") [.ref l1, .ref l2]) Q E s := by
  refine callType_new F.called_zip (by decide) (F.typeCall_zip_2 _ _) (F.newCall_zip_2 _ _) (fun obj => F.args_object_init_3 obj _ _) F.entry_zip_new (meets_zipB b1 b2 l1 l2 xs ys) ⟨hl1, hl2, ?_⟩
  have z1 : (zA1 b1 s.heap l1).objs.size = s.heap.objs.size + 1 := Heap.size_push ..
  have z2 : (zA1 b2 (zA1 b1 s.heap l1) l2).objs.size = s.heap.objs.size + 2 := by rw [Heap.size_push, z1]
  have z3 : (zA3 b1 b2 s.heap l1 l2).objs.size = s.heap.objs.size + 3 := by rw [Heap.size_push, z2]
  have z4 : (zA4 b1 b2 s.heap l1 l2).objs.size = s.heap.objs.size + 4 := by rw [Heap.size_push, z3]
  have g5 : (zA5 b1 b2 s.heap l1 l2).get? (zA4 b1 b2 s.heap l1 l2).objs.size = some _ := Heap.get?_push_size _ rfl
  have g4 : (zA5 b1 b2 s.heap l1 l2).get? (zA3 b1 b2 s.heap l1 l2).objs.size = some _ := Heap.get?_push_of_some _ (Heap.get?_push_size _ rfl)
  have g3 : (zA5 b1 b2 s.heap l1 l2).get? (zA1 b2 (zA1 b1 s.heap l1) l2).objs.size = some _ := Heap.get?_push_of_some _ (Heap.get?_push_of_some _ (Heap.get?_push_size _ rfl))
  have g2 : (zA5 b1 b2 s.heap l1 l2).get? (zA1 b1 s.heap l1).objs.size = some _ := Heap.get?_push_of_some _ (Heap.get?_push_of_some _ (Heap.get?_push_of_some _ (Heap.get?_push_size _ rfl)))
  have g1 : (zA5 b1 b2 s.heap l1 l2).get? s.heap.objs.size = some _ := Heap.get?_push_of_some _ (Heap.get?_push_of_some _ (Heap.get?_push_of_some _ (Heap.get?_push_of_some _ (Heap.get?_push_size _ rfl))))
  show _ ∧ _
  rw [z2, z3, z4] at g5; rw [z1, z2] at g3; rw [z3] at g4; rw [z1] at g2; rw [z4]
  exact ⟨⟨_, g5, rfl⟩, h _ g5 g3 g4 (sit_new (h := s.heap) g1) (sit_new (h := s.heap) g2) fun c o x => Heap.get?_push_of_some _ (Heap.get?_push_of_some _ (Heap.get?_push_of_some _ (Heap.get?_push_of_some _ (Heap.get?_push_of_some _ x))))⟩
end
def Itz (K : PySem.W.Frag) (b1 b2 : Bool) (a1 a2 : Addr) (xs ys : List V) : It :=
  ⟨fun i H => SqB b1 K H a1 xs ∧ SqB b2 K H a2 ys ∧ i < xs.length ∧ i < ys.length, fun i H x H' => ∃ p, x = .ref p ∧ H p = none ∧ H' = upd H p (.tup [xs.getD i .non, ys.getD i .non]),
   fun i H => SqB b1 K H a1 xs ∧ SqB b2 K H a2 ys ∧ i = min xs.length ys.length⟩
theorem getD_val {xs : List V} {its : List Value} {i : Nat} {u : Value} (r : Vals xs its) (e : its.toArray[i]? = some u) : RelV (xs.getD i .non) u := by
  obtain ⟨x, h1, h2⟩ := r.tog (i := i) (u := u) (by simpa using e)
  rw [List.getD_eq_getElem?_getD, h1]; exact h2
theorem zip_ne (n : Nat) : n + 3 ≠ n + 4 ∧ n ≠ n + 4 ∧ n + 1 ≠ n + 4 ∧ n + 2 ≠ n + 4 ∧ n + 2 ≠ n + 3 ∧ n + 2 ≠ n ∧ n + 2 ≠ n + 1 ∧ n + 3 ≠ n ∧ n + 3 ≠ n + 1 ∧ n ≠ n + 1 := by refine ⟨?_, ?_, ?_, ?_, ?_, ?_, ?_, ?_, ?_, ?_⟩ <;> omega
theorem turn_zip {P : Program} {w : World} {K : PySem.W.Frag} {elts : List Expr} {kx} {pos : Pos} (b1 b2 : Bool) (a1 a2 z TI TO i1 i2 : Addr) (xs ys : List V) (ne : TO ≠ z ∧ i1 ≠ z ∧ i2 ≠ z ∧ TI ≠ z ∧ TI ≠ TO ∧ TI ≠ i1 ∧ TI ≠ i2 ∧ TO ≠ i1 ∧ TO ≠ i2 ∧ i1 ≠ i2) :
    Turn P w K (.Tuple elts kx pos) (Itz K b1 b2 a1 a2 xs ys) [z, TI, TO, i1, i2] z (fun i h => IsZip h z TI TO .none ∧ IsPair h TI (.ref i1) (.ref i2) ∧ (∃ a b, IsPair h TO a b) ∧ SIt b1 h i1 a1 i ∧ SIt b2 h i2 a2 i) where
  mem := by simp
  obj := fun i h st b hb => by
    obtain ⟨hz, hTI, ⟨a, b', hTO⟩, h1, h2⟩ := st
    simp only [List.mem_cons, List.not_mem_nil, or_false] at hb
    rcases hb with rfl | rfl | rfl | rfl | rfl
    · exact ⟨_, hz, fun v z => by cases z⟩
    · exact ⟨_, hTI, fun v z => by cases z⟩
    · exact ⟨_, hTO, fun v z => by cases z⟩
    · exact h1.obj
    · exact h2.obj
  keep := fun i h h' st k => by
    obtain ⟨hz, hTI, ⟨a, b', hTO⟩, h1, h2⟩ := st
    exact ⟨k z (by simp) _ hz, k TI (by simp) _ hTI, ⟨a, b', k TO (by simp) _ hTO⟩, h1.keep fun o e => k i1 (by simp) o e, h2.keep fun o e => k i2 (by simp) o e⟩
  item := by
    intro X hP hw hK hc i pins s σ H E I hf st hg
    subst hP hw hK
    obtain ⟨hz, hTI, ⟨a, b', hTO⟩, h1, h2⟩ := st
    obtain ⟨q1, q2, hx, hy⟩ := hg
    obtain ⟨its1, r1, p1, z1⟩ := I.src q1
    obtain ⟨its2, r2, p2, z2⟩ := I.src q2
    have nz1 := I.srcNe q1 (hf z (by simp)); have nz2 := I.srcNe q2 (hf z (by simp)); have no1 := I.srcNe q1 (hf TO (by simp)); have no2 := I.srcNe q2 (hf TO (by simp)); have n11 := I.srcNe q1 (hf i1 (by simp)); have n12 := I.srcNe q1 (hf i2 (by simp)); have n21 := I.srcNe q2 (hf i1 (by simp)); have n22 := I.srcNe q2 (hf i2 (by simp))
    obtain ⟨e1, e2, e3, e4, e5, e6, e7, e8, e9, e10⟩ := ne
    have hT : s.TypeIs (.ref z) "zip" := ⟨_, hz, rfl⟩
    have D1 := draws_src (prog := X.prog) (w := X.w) (A := X.A.in1) (I.ok.hd hc) b1 i1 a1 n11 its1.toArray
    have D2 := draws_src (prog := X.prog) (w := X.w) (A := X.A.in1) (I.ok.hd hc) b2 i2 a2 n22 its2.toArray
    have Z : ZA z TO i1 i2 [i1, a1] [i2, a2] := ⟨by simp, by simp, by simp [e2.symm, nz1.symm], by simp [e3.symm, nz2.symm], by simp [e8, no1.symm], by simp [e9, no2.symm], by simp [e10, n21.symm], by simp [e10.symm, n12.symm], e1⟩
    have len1 := r1.length; have len2 := r2.length
    unfold pyNext
    refine wpAny_bind (wpAny_attempt (wpAny_callSpecial?_slot (name := Str.ofString "__next__") hT F.slot_zip_next (wpAny_call_entry F.slot_zip_next hT F.entry_zip_next
      (zip_itemD D1 D2 Z hz hTI hTO ⟨h1, p1⟩ ⟨h2, p2⟩ (by simp; omega) (by simp; omega) fun x y h' tk px py hz' hTO' s1 s2 hT' hsz hk => wpAny_pure ?_) (F.args_zip_next_1 _))))
    have r : Vals [xs.getD i .non, ys.getD i .non] [x, y] := .cons (getD_val r1 px) (.cons (getD_val r2 py) .nil)
    have I1 : Inv X pins σ (upd H s.heap.objs.size (.tup [xs.getD i .non, ys.getD i .non])) { s with heap := h', toks := tk } :=
      I.turnedLaid (t' := tk) hf (fun c o hc e => hk c o (fun q => hc (by simp [q])) (fun q => hc (by simp [q])) (fun q => hc (by simp [q])) (fun q => hc (by simp [q])) e) r (by show 2 ≤ sizeLine; decide) ⟨_, hT', rfl, _, rfl⟩
    have nH : H s.heap.objs.size = none := I.hok.fresh (Nat.le_refl _)
    have fresh : ∀ b ∈ [z, TI, TO, i1, i2], (upd H s.heap.objs.size (.tup [xs.getD i .non, ys.getD i .non])) b = none := fun b hb => by
      rw [upd_ne ?_]
      · exact (hf b hb).1
      · simp only [List.mem_cons, List.not_mem_nil, or_false] at hb
        rcases hb with rfl | rfl | rfl | rfl | rfl
        · exact Nat.ne_of_lt (Heap.lt_size hz)
        · exact Nat.ne_of_lt (Heap.lt_size hTI)
        · exact Nat.ne_of_lt (Heap.lt_size hTO)
        · obtain ⟨o, e, _⟩ := h1.obj; exact Nat.ne_of_lt (Heap.lt_size e)
        · obtain ⟨o, e, _⟩ := h2.obj; exact Nat.ne_of_lt (Heap.lt_size e)
    obtain ⟨f0, f1, f2, f3, f4, f5⟩ := hf z (by simp)
    refine ⟨_, rfl, wpAny_letOwnedTupleGo_zip hz' fun h2' hz2 sb => ⟨.ref s.heap.objs.size, _, I1.turned (t' := tk) (fun b o hb e => (sb.2 b hb).trans e) (fresh z (by simp)) f1 f3 f4 f5, rfl, ⟨_, rfl, nH, rfl⟩, ⟨hz2, ?_, ⟨x, y, ?_⟩, ?_, ?_⟩, fresh⟩⟩
    · exact (sb.2 TI e4).trans (hk _ _ e4 e5 e6 e7 hTI)
    · exact (sb.2 TO e1).trans hTO'
    · exact s1.1.keep fun o e => (sb.2 i1 e2).trans e
    · exact s2.1.keep fun o e => (sb.2 i2 e3).trans e
  done := by
    intro X hP hw hK hc i pins s σ H E I hf st hg
    subst hP hw hK
    obtain ⟨hz, hTI, ⟨a, b', hTO⟩, h1, h2⟩ := st
    obtain ⟨q1, q2, hx⟩ := hg
    obtain ⟨its1, r1, p1, z1⟩ := I.src q1
    obtain ⟨its2, r2, p2, z2⟩ := I.src q2
    have nz1 := I.srcNe q1 (hf z (by simp)); have nz2 := I.srcNe q2 (hf z (by simp)); have no1 := I.srcNe q1 (hf TO (by simp)); have no2 := I.srcNe q2 (hf TO (by simp)); have n11 := I.srcNe q1 (hf i1 (by simp)); have n12 := I.srcNe q1 (hf i2 (by simp)); have n21 := I.srcNe q2 (hf i1 (by simp)); have n22 := I.srcNe q2 (hf i2 (by simp))
    obtain ⟨e1, e2, e3, e4, e5, e6, e7, e8, e9, e10⟩ := ne
    have hT : s.TypeIs (.ref z) "zip" := ⟨_, hz, rfl⟩
    have D1 := draws_src (prog := X.prog) (w := X.w) (A := X.A.in1) (I.ok.hd hc) b1 i1 a1 n11 its1.toArray
    have D2 := draws_src (prog := X.prog) (w := X.w) (A := X.A.in1) (I.ok.hd hc) b2 i2 a2 n22 its2.toArray
    have Z : ZA z TO i1 i2 [i1, a1] [i2, a2] := ⟨by simp, by simp, by simp [e2.symm, nz1.symm], by simp [e3.symm, nz2.symm], by simp [e8, no1.symm], by simp [e9, no2.symm], by simp [e10, n21.symm], by simp [e10.symm, n12.symm], e1⟩
    have len1 := r1.length; have len2 := r2.length
    unfold pyNext
    refine wpAny_bind (wpAny_attempt (wpAny_callSpecial?_slot (name := Str.ofString "__next__") hT F.slot_zip_next (wpAny_call_entry F.slot_zip_next hT F.entry_zip_next
      (zip_endD D1 D2 Z hz hTI hTO ⟨h1, p1⟩ ⟨h2, p2⟩ (by simp; omega) fun h' tk e hk he => ?_) (F.args_zip_next_1 _))))
    obtain ⟨o, ho, hcl⟩ := he
    refine wpAny_bind (wpAny_isInstance (T := "StopIteration") (b := true) ⟨o, ho, hcl⟩ isSubtype_stop ?_)
    exact wpAny_pure ⟨rfl, I.turnedAll (t' := tk) hf fun c o hc e => hk c o (fun q => hc (by simp [q])) (fun q => hc (by simp [q])) (fun q => hc (by simp [q])) (fun q => hc (by simp [q])) e⟩
  self := fun A i s Q E st h => wpAny_pyIter_zip st.1 h
structure ItP (J : It) (n : Nat) (val : Nat → List V) (C : Hp → Prop) : Prop where
  go : ∀ i H, C H → i < n → J.go i H
  yld : ∀ i H x H', C H → i < n → J.yld i H x H' → ∃ p, x = .ref p ∧ H p = none ∧ H' = upd H p (.tup (val i))
  stop : ∀ H, C H → J.stop n H
theorem itp_zip {K : PySem.W.Frag} {b1 b2 : Bool} {a1 a2 : Addr} {xs ys : List V} : ItP (Itz K b1 b2 a1 a2 xs ys) (min xs.length ys.length) (fun i => [xs.getD i .non, ys.getD i .non]) (fun H => SqB b1 K H a1 xs ∧ SqB b2 K H a2 ys) where
  go := fun i H c hi => ⟨c.1, c.2, by omega, by omega⟩
  yld := fun i H x H' c hi y => y
  stop := fun H c => ⟨c.1, c.2, rfl⟩
theorem SqB.same {b : Bool} {K : PySem.W.Frag} {H H' : Hp} {a : Addr} {xs : List V} (h : SqB b K H a xs) (S : Same H H') : SqB b K H' a xs := by
  cases b
  · exact S.seq h
  · exact S.tup h
def iZip (K : PySem.W.Frag) (ta : TA) : TI := fun σ H R => ta σ H fun vs H1 => ∃ (b1 b2 : Bool) (a1 a2 : Addr) (xs ys : List V), vs = [.ref a1, .ref a2] ∧ SqB b1 K H1 a1 xs ∧ SqB b2 K H1 a2 ys ∧
  ∀ J C, ItP J (min xs.length ys.length) (fun i => [xs.getD i .non, ys.getD i .non]) C → (∀ H2, SqB b1 K H2 a1 xs → SqB b2 K H2 a2 ys → C H2) → R J H1
section
variable {X : Cx} {K : PySem.W.Frag} {elts : List Expr} {kx : Nat} {tpos : Pos}
theorem pi_zip {a b : Expr} {ta : TA} {p pos : Pos} (hK : X.K = K) (hg : Gl X "zip") (hm : X.mg "zip" = none) (ha : PA X [a, b] ta) (hs : starEach [a, b] X.env = [(false, eval a X.env), (false, eval b X.env)] := by rfl) (hs2 : starEach [b] X.env = [(false, eval b X.env)] := by rfl) :
    PI X (.Tuple elts kx tpos) (.Call (.Name "zip" p) [a, b] [] pos) (iZip K ta) := by
  subst hK
  intro pins s σ H R I h
  refine Call_ (ld_blt I hg hm boot_zip (PyProof.Rows.callWith_type1 (thn (ha pos pins s σ H _ I h) fun us s1 ⟨vs, H1, I1, r1, q1⟩ => ?_) (by rw [hs, hs2]) (by rw [hs2]; rfl)))
  obtain ⟨b1, b2, a1, a2, xs, ys, e, q1, q2, q⟩ := q1
  subst e
  obtain ⟨u, u', rfl, rx, ry⟩ := vals2 r1
  cases rx; cases ry
  obtain ⟨its1, rv1, p1, z1⟩ := I1.src q1
  obtain ⟨its2, rv2, p2, z2⟩ := I1.src q2
  refine call_zipB p1 p2 fun h' hz hTI hTO h1 h2 hk => wpAny_pyIter_zip hz ?_
  have I2 : Inv X pins σ H1 { s1 with heap := h' } := I1.kept (t' := s1.toks) hk
  refine ⟨_, [s1.heap.objs.size + 4, s1.heap.objs.size + 2, s1.heap.objs.size + 3, s1.heap.objs.size, s1.heap.objs.size + 1], _, _, H1, rfl, I2, turn_zip b1 b2 a1 a2 _ _ _ _ _ xs ys (zip_ne s1.heap.objs.size), ⟨hz, hTI, ⟨_, _, hTO⟩, h1, h2⟩, fun b hb => ?_, q _ _ itp_zip fun H2 k1 k2 => ⟨k1, k2⟩⟩
  have : s1.heap.objs.size ≤ b := by
    simp only [List.mem_cons, List.not_mem_nil, or_false] at hb
    rcases hb with rfl | rfl | rfl | rfl | rfl <;> first | exact Nat.le_add_right _ _ | exact Nat.le_refl _
  exact I1.fpOk this (I1.hok.fresh this)
end
theorem lc_byP {J : It} {n : Nat} {val : Nat → List V} {C : Hp → Prop} {g : TG} {tt : TT} {te : TE} {σ0 : St} {Q : VK} {H : Hp} (O : ItP J n val C) (Pv : Nat → List V → Hp → Prop) (hn : n ≤ sizeLine) (h0 : Pv 0 [] H) (hl : ∀ i ys H, i ≤ n → Pv i ys H → C H ∧ ys.length ≤ i)
    (hs : ∀ i ys H p, i < n → Pv i ys H → H p = none → g (.ref p) σ0 (upd H p (.tup (val i))) fun σ2 H2 => Wk σ0 σ2 ∧ tt σ2 H2 fun k H3 => if k = true then te σ2 H3 fun v H4 => ys.length < sizeLine ∧ ∃ m', m' < n - i ∧ (m' = n - (i + 1) ∧ i + 1 ≤ n ∧ Pv (i + 1) (ys ++ [v]) H4) else ∃ m', m' < n - i ∧ (m' = n - (i + 1) ∧ i + 1 ≤ n ∧ Pv (i + 1) ys H3))
    (hd : ∀ ys H, Pv n ys H → ∀ p, H p = none → Q (.ref p) (upd H p (.lst ys))) : LcW J g tt te σ0 Q H := by
  refine ⟨fun i m ys H => m = n - i ∧ i ≤ n ∧ Pv i ys H, ⟨n, by simp, Nat.zero_le _, h0⟩, ?_⟩
  rintro i m ys H ⟨rfl, hi, p⟩
  obtain ⟨c, hy⟩ := hl i ys H hi p
  refine ⟨by omega, ?_⟩
  by_cases hlt : i < n
  · refine .inr ⟨O.go i H c hlt, fun x H' y => ?_⟩
    obtain ⟨q, rfl, hq, rfl⟩ := O.yld i H x H' c hlt y
    exact hs i ys _ q hlt p hq
  · obtain rfl : i = n := by omega
    exact .inl ⟨O.stop H c, hd ys H p⟩
theorem for_byP {J : It} {n : Nat} {val : Nat → List V} {C : Hp → Prop} {g : TG} {tb : TS} {D : Ends} {σ : St} {H : Hp} (O : ItP J n val C) (Pv : Nat → St → Hp → Prop) (h0 : Pv 0 σ H) (hl : ∀ i σ H, i ≤ n → Pv i σ H → C H)
    (hs : ∀ i σ H p, i < n → Pv i σ H → H p = none → g (.ref p) σ (upd H p (.tup (val i))) fun σ2 H2 => tb { D with nx := Pv (i + 1), ct := Pv (i + 1), bk := D.nx } σ2 H2) (hd : ∀ σ H, Pv n σ H → D.nx σ H) :
    ∃ W : Nat → Nat → St → Hp → Prop, (∃ m, W 0 m σ H) ∧ ∀ i m σ H, W i m σ H → (J.stop i H ∧ D.nx σ H) ∨ (J.go i H ∧ ∃ N : St → Hp → Prop, (∀ σ' H', N σ' H' → ∃ m', m' < m ∧ W (i + 1) m' σ' H') ∧ ∀ x H', J.yld i H x H' → g x σ H' fun σ2 H2 => tb { D with nx := N, ct := N, bk := D.nx } σ2 H2) := by
  refine ⟨fun i m σ H => m = n - i ∧ i ≤ n ∧ Pv i σ H, ⟨n, by simp, Nat.zero_le _, h0⟩, ?_⟩
  rintro i m σ H ⟨rfl, hi, p⟩
  have c := hl i σ H hi p
  by_cases hlt : i < n
  · refine .inr ⟨O.go i H c hlt, Pv (i + 1), fun σ' H' p' => ⟨n - (i + 1), by omega, rfl, hlt, p'⟩, fun x H' y => ?_⟩
    obtain ⟨q, rfl, hq, rfl⟩ := O.yld i H x H' c hlt y
    exact hs i σ _ q hlt p hq
  · obtain rfl : i = n := by omega
    exact .inl ⟨O.stop H c, hd σ H p⟩
end L2
namespace L2
open PySem PySem.Spec PyProof.Rows
section
variable {X : Cx} {K : PySem.W.Frag}
theorem get_list (hK : X.K = K) : PGet X (fun o i H Q => ∃ p xs k v, o = .ref p ∧ i = .int k ∧ 0 ≤ k ∧ SqL K H p xs ∧ xs[k.toNat]? = some v ∧ Q v H) := by
  subst hK
  intro pins s σ H o i ov iv Q I ro ri h
  obtain ⟨p, xs, k, v, rfl, rfl, h0, hq, hx, q⟩ := h
  cases ro
  obtain ⟨t, rfl⟩ := ri
  obtain ⟨its, r, pl, hz⟩ := I.list hq
  obtain ⟨u, hu, ru⟩ := r.get hx
  have hl : k.toNat < xs.length := (List.getElem?_eq_some_iff.mp hx).1
  have hn := line63
  exact wpAny_getItem_list pl.isList h0 (by omega) (by simpa using hu) ⟨v, H, I, ru, q⟩
end
theorem DefE.calm {P : Program} {w : World} {K : PySem.W.Frag} {mg : Str → Option Value} {base : Heap} {k : Nat} {x : Str} {ps : List Str} {sp : Sp} (D : DefE P w K mg base k x ps sp) : Def P w K mg base k x ps (fun vs H Q _ => sp vs H Q fun _ _ _ => False) := by
  obtain ⟨f, fd, F, m, kp, b⟩ := D
  refine ⟨f, fd, ⟨fun vs H Q E h => F.len _ _ _ _ h, fun A outer s H args us vs Q E hr he hb hv hs => codeAny_mono (F.run A outer s H args us vs Q _ hr he hb hv hs) fun r s' hq => ?_⟩, m, kp, b⟩
  cases r with
  | error e => obtain ⟨_, _, _, _, _, _, _, _, _, _, _, z⟩ := hq; exact z.elim
  | ok fl => cases fl <;> exact hq
theorem getD_ints {ns : List Int} {i : Nat} (h : i < ns.length) : (ns.map V.int).getD i .non = .int (ns.getD i 0) := by
  rw [List.getD_eq_getElem?_getD, List.getElem?_map, List.getD_eq_getElem?_getD, List.getElem?_eq_getElem h]; rfl
theorem get_ints {ns : List Int} {i : Nat} (h : i < ns.length) : (ns.map V.int)[i]? = some (.int (ns.getD i 0)) := by
  rw [List.getElem?_map, List.getD_eq_getElem?_getD, List.getElem?_eq_getElem h]; rfl
theorem set_ints {ns : List Int} {i : Nat} {v : Int} : (ns.map V.int).set i (.int v) = (ns.set i v).map V.int := by rw [List.map_set]
theorem getD_set {ns : List Int} {i p : Nat} {v : Int} (h : p < ns.length) : (ns.set i v).getD p 0 = if i = p then v else ns.getD p 0 := by
  by_cases e : i = p
  · subst e; rw [if_pos rfl, List.getD_eq_getElem?_getD, List.getElem?_set_self h]; rfl
  · rw [if_neg e, List.getD_eq_getElem?_getD, List.getElem?_set_ne e, List.getD_eq_getElem?_getD]
theorem rep_ints (n : Nat) (v : Int) : (List.replicate n [V.int v]).flatten = (List.replicate n v).map V.int := by
  induction n with
  | zero => rfl
  | succ n ih => rw [List.replicate_succ, List.flatten_cons, ih, List.replicate_succ]; rfl
end L2
namespace L2
open PySem PySem.Spec PyProof.Rows
structure RoomC (k : Nat) (A : Around) : Prop where
  dp : A.depth + 3 * k + 5 < recursionLimit
  un : A.units + 16 * k + 200 < cLine
theorem Room.held {k : Nat} {A : Around} {v : Option Value} (r : Room k A) : RoomC k (A.mark v) := ⟨r.dp, r.un⟩
theorem RoomC.mono {j k : Nat} {A : Around} (r : RoomC k A) (h : j ≤ k) : RoomC j A := ⟨by have := r.dp; omega, by have := r.un; omega⟩
abbrev cxC (P : Program) (w : World) (K : PySem.W.Frag) (mg : Str → Option Value) (base : Heap) (N : List Str) (qual : Str) (scope : Scope) (f : Addr) (cd : Value) (A : Around) (outer : List Env) (s : Shared) (H : Hp) (E : XK) : Cx := { cxOf CX0 P w K mg base N qual scope f cd A outer s H E with calm := false }
theorem inv_startC {P : Program} {w : World} {K : PySem.W.Frag} {mg : Str → Option Value} {base : Heap} {N ps : List Str} {qual : Str} {scope : Scope} {f : Addr} {cd : Value} {A : Around} {outer : List Env} {s s1 : Shared} {H : Hp} {E : XK} {us : List Value} {vs : List V}
    (S : FnScope N ps scope) (e0 : Env0 P w K mg base A outer s H) (hl : vs.length = ps.length) (r : Vals vs us) (x : InCallC s s.heap.objs.size (bindL (envOfC qual scope s.heap.objs.size f cd).kindOf (ps.zip us) fun _ => none) (cellsFrom (s.heap.objs.size + 1) scope.names []) (bindC (envOfC qual scope s.heap.objs.size f cd).kindOf (ps.zip us) fun _ => none) s1) :
    Inv (cxC P w K mg base N qual scope f cd A outer s H E) [] (start N vs) H s1 := by
  have e1 : Env0 P w K mg base { A with handled := none } outer s H := ⟨e0.frames, e0.mod, e0.bs, e0.bsz, e0.funs, e0.frf, e0.hok, e0.bare⟩
  have I := inv_start (CX := CX0) (E := E) (A := { A with handled := none }) S rfl e1 hl r x
  exact ⟨⟨I.ok.mod, I.ok.kind, I.ok.glob, I.ok.blt, I.ok.above, I.ok.inj, I.ok.has, I.ok.cab, fun z => (Bool.false_ne_true z).elim, Around.frames_deeper e0.frames, I.ok.stk, I.ok.exf, I.ok.bs, I.ok.bsz, I.ok.noex, I.ok.exfs, I.ok.funs, I.ok.frf⟩, I.os, I.bare, I.base, I.loc, I.cell, I.free, I.freeC, I.pin, I.hok, I.len⟩
structure FnOkC (P : Program) (w : World) (K : PySem.W.Frag) (mg : Str → Option Value) (base : Heap) (k : Nat) (f : Addr) (fd : FuncData) (ps : List Str) (sp : Sp) : Prop where
  len : ∀ vs H Q E, sp vs H Q E → vs.length = ps.length
  run : ∀ (A : Around) (outer : List Env) (s : Shared) (H : Hp) (args : Args) (us : List Value) (vs : List V) (Q : VK) (E : XK), RoomC k A → Env0 P w K mg base A outer s H → BindsTo s fd args (ps.zip us) → Vals vs us → sp vs H Q E → codeAny (model P w) A (.call (.ref f) args) (CR CX0 outer P w H s Q E) s
theorem Fun.okC {P : Program} {w : World} {K : PySem.W.Frag} {mg : Str → Option Value} {base : Heap} {x qual : Str} {st : Stmt} {f : Addr} {fd : FuncData} {N ps : List Str} {k : Nat} {sp : Sp} (F : Fun K x qual st f fd) (S : FnScope N ps (defScope st)) (len : ∀ vs H Q E, sp vs H Q E → vs.length = ps.length)
    (hbody : ∀ (cdv : Value) (A : Around) (outer : List Env) (s : Shared) (H : Hp) (vs : List V) (Q : VK) (E : XK), RoomC k (A.deeper (envOfC qual (defScope st) s.heap.objs.size f cdv)) → sp vs H Q E →
      ∃ t, PSs (cxC P w K mg base N qual (defScope st) f cdv A outer s H E).nox (defBody st) t ∧ t { nx := fun _ H' => Q .non H', rt := Q } (start N vs) H) : FnOkC P w K mg base (k + 1) f fd ps sp := by
  obtain ⟨oc, od, kV, doc, pm, an, cdv, ct, osl, rfl, lk, hcd⟩ := F.ex
  refine ⟨len, fun A outer s H args us vs Q E hr e0 hb r hsp => ?_⟩
  have hl := len _ _ _ _ hsp
  have KX : K.In s.heap := e0.mod.kin.keeps fun b o e => (e0.bs b o e).1
  have lim : s.heap.NoLimit := e0.mod.nolimit.keeps fun b o e => (e0.bs b o e).1
  have hkind : ∀ y ∈ ps.zip us, (defScope st).names.lookup y.1 = some .local ∨ ((defScope st).names.lookup y.1 = some .cell ∧ ((cellsFrom (s.heap.objs.size + 1) (defScope st).names []).lookup y.1).isSome = true) := fun ⟨n, v⟩ hy => by
    rcases S.par n (List.of_mem_zip hy).1 with q | q
    · exact .inl q
    · exact .inr ⟨q, PySem.W.cellsFrom_some _ _ _ (.inl q)⟩
  refine codeAny_call_function (by have := hr.dp; omega) (KX _ _ lk) rfl S.co S.gen rfl (PySem.W.codeRec_of KX hcd) (hb _ _ _ _ ?_)
  refine wpAny_newFunctionEnv_cells S.kind hkind fun env he s1 x => ?_
  subst he
  refine ⟨lim.keeps x.toInCall.keep, codeAny_func ?_⟩
  obtain ⟨t, ht', hq⟩ := hbody cdv A outer s H vs Q E ⟨by have := hr.dp; show A.depth + 1 + 3 * k + 5 < _; omega, by have := hr.un; show A.units + 3 + 16 * k + 200 < _; omega⟩ hsp
  have ht := ht'.nox
  have I : Inv (cxC P w K mg base N qual (defScope st) f cdv A outer s H E) [] (start N vs) H s1 := inv_startC S e0 hl r x
  refine wpAny_mono (ht [] s1 (start N vs) H _ I hq) (fun fl s' hs => ?_) fun e s' hs => hs
  have fin : ∀ {σ' : St} {H' : Hp} {v : V} {u : Value}, Inv (cxC P w K mg base N qual (defScope st) f cdv A outer s H E) [] σ' H' s' → RelV v u → Q v H' → CE outer P w H s Q u s' := fun {σ' H' v u} J rv q => ⟨v, H', J.os, J.bare, J.base, J.hok, rv, q⟩
  cases fl with
  | ret u => obtain ⟨v, σ', H', J, rv, q⟩ := hs; exact fin J rv q
  | next => obtain ⟨σ', H', J, q⟩ := hs; exact fin (v := V.non) (u := Value.none) J rfl q
  | brk => obtain ⟨_, _, _, q⟩ := hs; exact False.elim q
  | cont => obtain ⟨_, _, _, q⟩ := hs; exact False.elim q
def DefC (P : Program) (w : World) (K : PySem.W.Frag) (mg : Str → Option Value) (base : Heap) (k : Nat) (x : Str) (ps : List Str) (sp : Sp) : Prop :=
  ∃ f fd, FnOkC P w K mg base k f fd ps sp ∧ mg x = some (.ref f) ∧ PySem.W.keepIn K (.ref f) = true ∧ Binds K fd ps []
theorem DefC.of {P : Program} {w : World} {K : PySem.W.Frag} {mg : Str → Option Value} {base : Heap} {k : Nat} {x qual : Str} {ps : List Str} {sp : Sp} {st : Stmt} {f : Addr} {fd : FuncData}
    (F : Fun K x qual st f fd) (m : mg x = some (.ref f)) (b : Binds K fd ps []) (ok : FnOkC P w K mg base k f fd ps sp) : DefC P w K mg base k x ps sp := ⟨f, fd, ok, m, F.kp, b⟩
theorem pe_defC {X : Cx} {k k' : Nat} {x : Str} {ps : List Str} {sp : Sp} {e : Expr} {es : List Expr} {t : TA} {p pos : Pos} (D : DefC X.prog X.w X.K X.mg X.base k x ps sp) (hr : RoomC k' X.A) (ha : PA X (e :: es) t) (hk : k ≤ k' := by decide) (hg : Gl X x := by rfl)
    (hdb : (x == ("__debug__" : Str)) = false := by decide) (he : starEach (e :: es) X.env = (false, eval e X.env) :: starEach es X.env := by rfl) (hpl : (backTo pos (starEach es X.env)).any (·.1) = false := by rfl) :
    PE X (.Call (.Name x p) (e :: es) [] pos) (fun σ H Q => t σ H fun vs H1 => sp vs H1 Q E0) := by
  obtain ⟨f, fd, F, m, kp, b⟩ := D
  intro pins s σ H Q I h
  refine wpAny_Call_Name_kw (ld_glob I hg m ?_ hdb)
  refine PySem.W.callWith_K (h₀ := X.base) I.ok.mod.kin kp (thn (ha pos pins s σ H _ I h) fun us s1 ⟨vs, H1, I1, r, q⟩ => ⟨I1.kIn, ?_⟩) he hpl
  have hl : (us ++ []).length = ps.length := by rw [List.append_nil, ← r.length]; exact F.len _ _ _ _ q
  have bt := b s1 us I1.kIn hl
  rw [List.append_nil] at bt
  refine wpAny_call (codeAny_mono (F.run X.A X.stack s1 H1 ⟨us, []⟩ us vs Q E0 (hr.mono hk) I1.env0 bt r q) fun r s' hq => ?_)
  cases r with
  | error e => exact False.elim hq
  | ok fl =>
    cases fl with
    | ret u => exact I1.after hq
    | next => exact False.elim hq
    | brk => exact False.elim hq
    | cont => exact False.elim hq
def iSeqB (K : PySem.W.Frag) (tl : TE) : TI := fun σ H R => tl σ H fun x H1 => ∃ b a xs, x = .ref a ∧ SqB b K H1 a xs ∧ ∀ J C, ItOk J xs.length (fun i => xs.getD i .non) C → (∀ H2, SqB b K H2 a xs → C H2) → R J H1
theorem piSeqB {X : Cx} {K : PySem.W.Frag} {tg l : Expr} {tl : TE} (hK : X.K = K) (hl : PE X l tl) : PI X tg l (iSeqB K tl) := by
  subst hK
  intro pins s σ H R I h
  refine thn (hl pins s σ H _ I h) fun v s1 ⟨x, H1, I1, r1, q1⟩ => ?_
  obtain ⟨b, a, xs, e, hq, q⟩ := q1
  subst e
  cases r1
  have fp : ∀ b ∈ [s1.heap.objs.size], FpOk X pins H1 b := fun b hb => by
    have e : b = s1.heap.objs.size := by simpa using hb
    rw [e]; exact I1.fpOk (Nat.le_refl _) (I1.hok.fresh (Nat.le_refl _))
  cases b
  · obtain ⟨its, rv, p, hz⟩ := I1.list hq
    exact wpAny_pyIter_list p.isList ⟨s1.heap.objs.size, [s1.heap.objs.size], _, _, H1, rfl, I1.kept (t' := s1.toks) fun b o e => Heap.get?_push_of_some _ e, turn_list a _, ⟨_, Heap.get?_push_size _ rfl, rfl, rfl⟩, fp, q _ _ itok_list fun H2 S => S⟩
  · obtain ⟨its, rv, p, hz⟩ := I1.tuple hq
    exact wpAny_pyIter_tuple (show s1.heap.IsTuple a its.toArray from p) ⟨s1.heap.objs.size, [s1.heap.objs.size], _, _, H1, rfl, I1.kept (t' := s1.toks) fun b o e => Heap.get?_push_of_some _ e, turn_tuple a _, ⟨_, Heap.get?_push_size _ rfl, rfl, rfl⟩, fp, q _ _ itok_tup fun H2 S => S⟩
end L2
namespace L2
open PySem PySem.Spec PyProof.Rows
set_option maxRecDepth 100000
section
variable {prog : Program} {w : World} {A : Around} {E : Value → Shared → Prop} {s : Shared}
end
section
variable {prog : Program} {w : World} {A : Around} {E : Value → Shared → Prop} {s : Shared}
end
section
variable {X : Cx} {K : PySem.W.Frag}
end
end L2
namespace L2
open PySem PySem.Spec PyProof.Rows
section
variable {X : Cx}
theorem op_mulB : OpR X (binaryOp .Mult) (rI (fun i j => i.natAbs < 2 ^ 200 ∧ j.natAbs < 2 ^ 200) fun i j => .int (i * j)) := opI fun i j _ _ _ _ _ hc q => mul_int q (by
  have h1 := intBits_le hc.1
  have h2 := intBits_le hc.2
  unfold IntMulOk
  intro h
  rw [Bool.and_eq_true] at h
  have h3 : ((Builtin.Int.intBits i + Builtin.Int.intBits j : Nat) : Int) > bitsLine := of_decide_eq_true h.2
  have h4 : (400 : Int) ≤ bitsLine := by decide
  omega)
end
end L2
namespace L2
open PySem PySem.Spec PyProof.Rows
open AutoSeq1 (wpAny_loadPart')
set_option maxRecDepth 100000
set_option maxHeartbeats 1000000 in
theorem meets_enumT (l : Addr) (items : Array Value) (n : Nat) (dct : Option Addr) (sl : Array (Option Value)) : Meets (Builtin.«enumerate.__new__» ⟨[.type "enumerate", .ref l], []⟩) (fun _ R s => s.heap.get? l = some { cls := .type "tuple", dict := dct, data := .seq items n, slots := sl } ∧
      R (.ok (.ret (.ref (s.heap.push { cls := .type "tuple_iterator", data := .fields #[.ref l, .int 0 0] }).objs.size))) { s with heap := (s.heap.push { cls := .type "tuple_iterator", data := .fields #[.ref l, .int 0 0] }).push { cls := .type "enumerate", data := .fields #[.none, .bool false, .ref s.heap.objs.size, rawInt 0, .none, .none] } }) :=
  .of_wp fun prog w A R s h => by
    obtain ⟨at_, told⟩ := h
    obtain ⟨hp, gs, dn, tk, os⟩ := s
    have self := sub_enumerate
    have seq : Heap.IsTuple (Shared.heap ⟨hp, gs, dn, tk, os⟩) l items := ⟨_, at_, rfl, n, rfl⟩
    wp_walk using AutoSeq1.wpAny_loadPart' at_
    apply wpAny_stack_any
    intro rows
    apply wpAny_pure
    split
    rename_i cl _ _ _ _ _
    rcases Bool.eq_false_or_eq_true (cl == Value.type "enumerate") with q | q <;> rw [q]
    all_goals wp_walk using AutoSeq1.wpAny_loadPart' at_, wpAny_pyIter_tuple seq
    all_goals exact ⟨_, rfl, told⟩
section
variable {prog : Program} {w : World} {A : Around} {E : Value → Shared → Prop} {s : Shared}
theorem call_enumT {l : Addr} {items : Array Value} {Q : Value → Shared → Prop} (hL : s.heap.IsTuple l items)
    (h : ∀ h', IsEnum h' (s.heap.objs.size + 1) s.heap.objs.size 0 .none → h'.IsTupleIter s.heap.objs.size l 0 → (∀ b o, s.heap.get? b = some o → h'.get? b = some o) → Q (.ref (s.heap.objs.size + 1)) { s with heap := h' }) : wpAny (model prog w) A (call (.type "enumerate") [.ref l]) Q E s := by
  obtain ⟨⟨cc, dct, dt, sl⟩, hl, hc, n, hd⟩ := hL
  replace hc : cc = .type "tuple" := hc; replace hd : dt = .seq items n := hd; subst hc hd
  refine callType_new F.called_enumerate (by decide) (F.typeCall_enumerate_1 _) (F.newCall_enumerate_1 _) (fun obj => F.args_object_init_2 obj _) F.entry_enumerate_new (meets_enumT l items n dct sl) ⟨hl, ?_⟩
  have hz : (s.heap.push { cls := .type "tuple_iterator", data := .fields #[.ref l, .int 0 0] }).objs.size = s.heap.objs.size + 1 := Heap.size_push ..
  show _ ∧ _
  rw [hz]
  have he : IsEnum ((s.heap.push { cls := .type "tuple_iterator", data := .fields #[.ref l, .int 0 0] }).push { cls := .type "enumerate", data := .fields #[.none, .bool false, .ref s.heap.objs.size, rawInt 0, .none, .none] }) (s.heap.objs.size + 1) s.heap.objs.size 0 .none := by
    have := Heap.get?_push_size (s.heap.push { cls := .type "tuple_iterator", data := .fields #[.ref l, .int 0 0] }) (o := { cls := .type "enumerate", data := .fields #[.none, .bool false, .ref s.heap.objs.size, rawInt 0, .none, .none] }) rfl
    rw [hz] at this; exact this
  exact ⟨⟨_, he, rfl⟩, h _ he ⟨_, Heap.get?_push_of_some _ (Heap.get?_push_size _ rfl), rfl, rfl⟩ fun b o x => Heap.get?_push_of_some _ (Heap.get?_push_of_some _ x)⟩
theorem call_enumB {b : Bool} {l : Addr} {items : Array Value} {Q : Value → Shared → Prop} (hL : SSq b s.heap l items)
    (h : ∀ h', IsEnum h' (s.heap.objs.size + 1) s.heap.objs.size 0 .none → SIt b h' s.heap.objs.size l 0 → (∀ b o, s.heap.get? b = some o → h'.get? b = some o) → Q (.ref (s.heap.objs.size + 1)) { s with heap := h' }) : wpAny (model prog w) A (call (.type "enumerate") [.ref l]) Q E s := by
  cases b
  · exact call_enumerate_list hL fun h' h1 h2 _ h3 => h h' h1 h2 h3
  · exact call_enumT hL fun h' h1 h2 h3 => h h' h1 h2 h3
end
def Ite (K : PySem.W.Frag) (b : Bool) (a : Addr) (xs : List V) : It :=
  ⟨fun i H => SqB b K H a xs ∧ i < xs.length, fun i H x H' => ∃ p, x = .ref p ∧ H p = none ∧ H' = upd H p (.tup [.int (i : Nat), xs.getD i .non]), fun i H => SqB b K H a xs ∧ i = xs.length⟩
theorem turn_enum {P : Program} {w : World} {K : PySem.W.Frag} {elts : List Expr} {kx} {pos : Pos} (b : Bool) (a e it : Addr) (xs : List V) (ne : e ≠ it) :
    Turn P w K (.Tuple elts kx pos) (Ite K b a xs) [e, it] e (fun i h => (∃ old, IsEnum h e it (i : Nat) old) ∧ SIt b h it a i) where
  mem := by simp
  obj := fun i h st c hc => by
    obtain ⟨⟨old, he⟩, h1⟩ := st
    simp only [List.mem_cons, List.not_mem_nil, or_false] at hc
    rcases hc with rfl | rfl
    · exact ⟨_, he, fun v z => by cases z⟩
    · exact h1.obj
  keep := fun i h h' st k => by
    obtain ⟨⟨old, he⟩, h1⟩ := st
    exact ⟨⟨old, k e (by simp) _ he⟩, h1.keep fun o x => k it (by simp) o x⟩
  item := by
    intro X hP hw hK hc i pins s σ H E I hf st hg
    subst hP hw hK
    obtain ⟨⟨old, he⟩, h1⟩ := st
    obtain ⟨q1, hx⟩ := hg
    obtain ⟨its, r1, p1, z1⟩ := I.src q1
    have na := I.srcNe q1 (hf it (by simp)); have nb := I.srcNe q1 (hf e (by simp)); have len1 := r1.length
    have D := draws_src (prog := X.prog) (w := X.w) (A := X.A.in1) (I.ok.hd hc) b it a na its.toArray
    refine wpAny_pyNext_enum_itemD D he ⟨h1, p1⟩ (by simp; omega) ne (by simp [ne, nb.symm]) fun x h' tk hPx ho hs' hT hsz hk => ?_
    have r : Vals [V.int (i : Nat), xs.getD i .non] [Value.int (i : Nat) tk, x] := .cons ⟨tk, rfl⟩ (.cons (getD_val r1 hPx) .nil)
    have I1 : Inv X pins σ (upd H s.heap.objs.size (.tup [.int (i : Nat), xs.getD i .non])) { s with heap := h', toks := tk + 1 } :=
      I.turnedLaid (t' := tk + 1) hf (fun c o hc e' => hk c o (fun q => hc (by simp [q])) (fun q => hc (by simp [q])) e') r (by show 2 ≤ sizeLine; decide) ⟨_, hT, rfl, _, rfl⟩
    have nH : H s.heap.objs.size = none := I.hok.fresh (Nat.le_refl _)
    have fresh : ∀ c ∈ [e, it], (upd H s.heap.objs.size (.tup [.int (i : Nat), xs.getD i .non])) c = none := fun c hc => by
      rw [upd_ne ?_]
      · exact (hf c hc).1
      · simp only [List.mem_cons, List.not_mem_nil, or_false] at hc
        rcases hc with rfl | rfl
        · exact Nat.ne_of_lt (Heap.lt_size he)
        · obtain ⟨o, e', _⟩ := h1.obj; exact Nat.ne_of_lt (Heap.lt_size e')
    obtain ⟨f0, f1, f2, f3, f4, f5⟩ := hf e (by simp)
    refine ⟨_, rfl, wpAny_letOwnedTupleGo_enum ho fun h2 he2 sb => ⟨.ref s.heap.objs.size, _, I1.turned (t' := tk + 1) (fun b o hb e' => (sb.2 b hb).trans e') (fresh e (by simp)) f1 f3 f4 f5, rfl, ⟨_, rfl, nH, rfl⟩, ⟨⟨x, by simpa using he2⟩, ?_⟩, fresh⟩⟩
    exact hs'.1.keep fun o e' => (sb.2 it ne.symm).trans e'
  done := by
    intro X hP hw hK hc i pins s σ H E I hf st hg
    subst hP hw hK
    obtain ⟨⟨old, he⟩, h1⟩ := st
    obtain ⟨q1, hx⟩ := hg
    obtain ⟨its, r1, p1, z1⟩ := I.src q1
    have na := I.srcNe q1 (hf it (by simp)); have len1 := r1.length
    have D := draws_src (prog := X.prog) (w := X.w) (A := X.A.in1) (I.ok.hd hc) b it a na its.toArray
    have hs : SIt b s.heap it a its.toArray.size := by rw [List.size_toArray, ← len1, ← hx]; exact h1
    refine wpAny_pyNext_enum_endD D he ⟨hs, p1⟩ fun h' eb => ⟨rfl, I.turnedAll (t' := s.toks) hf fun c o hc e' => eb c o (fun q => hc (by simp [q])) e'⟩
  self := fun A i s Q E st h => by obtain ⟨⟨old, he⟩, _⟩ := st; exact wpAny_pyIter_enum he h
theorem itp_enum {K : PySem.W.Frag} {b : Bool} {a : Addr} {xs : List V} : ItP (Ite K b a xs) xs.length (fun i => [.int (i : Nat), xs.getD i .non]) (fun H => SqB b K H a xs) where
  go := fun i H c hi => ⟨c, hi⟩
  yld := fun i H x H' c hi y => y
  stop := fun H c => ⟨c, rfl⟩
def iEnum (K : PySem.W.Frag) (ta : TA) : TI := fun σ H R => ta σ H fun vs H1 => ∃ (b : Bool) (a : Addr) (xs : List V), vs = [.ref a] ∧ SqB b K H1 a xs ∧ ∀ J C, ItP J xs.length (fun i => [.int (i : Nat), xs.getD i .non]) C → (∀ H2, SqB b K H2 a xs → C H2) → R J H1
theorem pi_enum {X : Cx} {K : PySem.W.Frag} {elts : List Expr} {kx : Nat} {tpos : Pos} {a : Expr} {ta : TA} {p pos : Pos} (hK : X.K = K) (hg : Gl X "enumerate") (hm : X.mg "enumerate" = none) (ha : PA X [a] ta) (hs : starEach [a] X.env = [(false, eval a X.env)] := by rfl) :
    PI X (.Tuple elts kx tpos) (.Call (.Name "enumerate" p) [a] [] pos) (iEnum K ta) := by
  subst hK
  intro pins s σ H R I h
  refine Call_ (ld_blt I hg hm boot_enumerate (PyProof.Rows.callWith_type1 (thn (ha pos pins s σ H _ I h) fun us s1 ⟨vs, H1, I1, r1, q1⟩ => ?_) hs rfl))
  obtain ⟨b, a1, xs, e, q1, q⟩ := q1
  subst e
  obtain ⟨u, rfl, rx⟩ := vals1 r1
  cases rx
  obtain ⟨its, rv1, p1, z1⟩ := I1.src q1
  refine call_enumB p1 fun h' he h1 hk => wpAny_pyIter_enum he ?_
  have I2 : Inv X pins σ H1 { s1 with heap := h' } := I1.kept (t' := s1.toks) hk
  refine ⟨_, [s1.heap.objs.size + 1, s1.heap.objs.size], _, _, H1, rfl, I2, turn_enum b a1 _ _ xs (Nat.ne_of_gt (Nat.lt_succ_self _)), ⟨⟨_, he⟩, h1⟩, fun c hc => ?_, q _ _ itp_enum fun H2 k1 => k1⟩
  have : s1.heap.objs.size ≤ c := by
    simp only [List.mem_cons, List.not_mem_nil, or_false] at hc
    rcases hc with rfl | rfl <;> first | exact Nat.le_add_right _ _ | exact Nat.le_refl _
  exact I1.fpOk this (I1.hok.fresh this)
end L2
namespace L2
open PySem PySem.Spec PyProof.Rows
def Thin (H : Hp) (v : V) : Prop := ∃ r o xs, v = .ref r ∧ H r = some (.frz o (.tup xs)) ∧ o.dict = none
theorem Thin.same {H H' : Hp} {v : V} (S : Same H H') (h : Thin H v) : Thin H' v := by
  obtain ⟨r, o, xs, e, h1, h2⟩ := h
  exact ⟨r, o, xs, e, S _ _ h1, h2⟩
section
variable {X : Cx} {K : PySem.W.Frag}
def tTupD (t : TA) : TE := fun σ H Q => t σ H fun xs H1 => xs.length ≤ sizeLine ∧ ∀ p o, H1 p = none → o.dict = none → Q (.ref p) (upd H1 p (.frz o (.tup xs)))
theorem pe_tupD {es : List Expr} {t : TA} {x1} {pos : Pos} (h : PA X es t) : PE X (.Tuple es x1 pos) (tTupD t) := by
  intro pins s σ H Q I hq
  refine wpAny_Tuple_spliced (thn (h pos pins s σ H _ I hq) fun us s1 ⟨xs, H1, I1, r, z, q⟩ => ⟨by rw [← r.length]; exact z, ?_⟩)
  have hf : H1 s1.heap.objs.size = none := I1.hok.fresh (Nat.le_refl _)
  refine ⟨.ref s1.heap.objs.size, upd H1 s1.heap.objs.size (.frz { cls := .type "tuple", data := .seq us.toArray } (.tup xs)), I1.laid (t' := s1.toks) (fun b u e => Heap.get?_push_of_some _ e) (Nat.le_refl _) ?_, rfl, q _ _ hf rfl⟩
  exact ⟨Heap.get?_push_size _ rfl, z, us, r, ⟨_, Heap.get?_push_size _ rfl, rfl, _, rfl⟩⟩
def tCntT (K : PySem.W.Frag) (to : TE) (t : TA) : TE := fun σ H Q => to σ H fun x H1 => Thin H1 x ∧ t σ H1 fun vs H2 => ∃ p xs y, x = .ref p ∧ vs = [y] ∧ SqT K H2 p xs ∧ flatV y = true ∧ xs.all flatV = true ∧ Q (.int (xs.countP fun z => eqV z y : Nat)) H2
theorem pe_cntT {o e : Expr} {to : TE} {t : TA} {apos cpos : Pos} (hK : X.K = K) (ho : PE X o to) (ha : PA X [e] t) (hbase : attributeBase o "count" X.env (eval o X.env) = eval o X.env := by rfl)
    (hfew : ((backTo cpos (starEach [e] X.env)).all (fun x => !x.1) && (backToKw cpos (keywordEach [] X.env)).all (fun x => x.1.isSome) && decide ([e].length + ([] : List Keyword).length + (if ([] : List Keyword).isEmpty then 0 else 1) < 30)) = true := by rfl)
    (hline : (apos.endLine == cpos.line) = true := by rfl) (hs : starEach [e] X.env = (false, eval e X.env) :: starEach [] X.env := by rfl) (hplain : (backTo cpos (starEach [] X.env)).any (·.1) = false := by rfl) :
    PE X (.Call (.Attribute o "count" apos) [e] [] cpos) (tCntT K to t) := by
  subst hK
  intro pins s σ H Q I h
  refine wpAny_Call_method_late hbase hfew hline rfl (thn (ho pins s σ H _ I h) fun v s1 ⟨x, H1, I1, r1, ty, q1⟩ => ?_)
  obtain ⟨r, ob, xs0, rfl, hr, hd⟩ := ty
  cases r1
  obtain ⟨g1, _, its0, _, ⟨ob', e1, c1, _⟩⟩ := I1.hok r _ hr
  refine ⟨"tuple", "tuple.count", PySem.F.plainAttrs_tuple, PySem.F.slot_tuple_count, PySem.F.type_tuple_count, ⟨ob', e1, c1⟩, fun a ea => ⟨ob, by cases ea; exact g1, hd⟩, ?_⟩
  have hA := ha cpos pins s1 σ H1 _ I1 q1
  rw [hs] at hA ⊢
  refine Calls.callWith_builtin (by show (false || (backTo cpos (starEach [] X.env)).any (·.1)) = false; rw [hplain] <;> rfl) (Calls.evalArgs_plain ?_)
  refine thn hA fun us s2 ⟨vs, H2, I2, r2, q2⟩ => ?_
  obtain ⟨p, xs, y, ep, rfl, hq, fy, fs, q⟩ := q2
  cases ep
  obtain ⟨u, rfl, ry⟩ := r2.one
  obtain ⟨its, rr, ⟨o2, e2, c2, n, d2⟩, hz⟩ := I2.tuple hq
  obtain ⟨oc, od, odt, osl⟩ := o2
  dsimp only at c2 d2
  subst c2 d2
  refine call_meets PySem.F.slot_tuple_count ⟨_, e2, rfl⟩ PySem.F.entry_tuple_count (PySem.F.args_tuple_count_2 _ _) (SeqAt.tuple_countAt r its.toArray n _ _ u (eqU y)) ⟨e2, fun w hw => mem_eqAt ry fy rr fs w (by simpa using hw), ?_⟩
  exact ⟨.int _, H2, I2.tok _, ⟨_, rfl⟩, by rw [show its.toArray.toList = its from rfl, count_eqU rr fs]; exact q⟩
end
end L2
namespace L2
open PySem PySem.Spec PyProof.Rows
section
variable {prog : Program} {w : World} {A : Around} {E : Value → Shared → Prop} {s : Shared}
end
section
variable {X : Cx} {K : PySem.W.Frag}
theorem rng_acc {lo : Int} {n : Nat} {acc : Array Value} (h : ItemsOf (fun i v => ∃ t, v = .int (lo + i * 1) t) acc n) : Vals (((List.range n).map fun i => lo + ((i : Nat) : Int)).map V.int) acc.toList := by
  obtain ⟨h1, h2⟩ := h
  have key : ∀ (us : List Value) (k m : Nat), us.length = m → (∀ (j : Nat) v, us[j]? = some v → ∃ t, v = .int (lo + ((k + j : Nat) : Int)) t) → Vals (((List.range' k m).map fun i => lo + ((i : Nat) : Int)).map V.int) us := by
    intro us
    induction us with
    | nil => intro k m hm _; cases hm; exact .nil
    | cons u us ih =>
      intro k m hm hv
      cases m with
      | zero => cases hm
      | succ m =>
        rw [List.range'_succ, List.map_cons, List.map_cons]
        refine .cons ?_ (ih (k + 1) m (by simpa using hm) fun j v e => ?_)
        · obtain ⟨t, e⟩ := hv 0 u rfl
          exact ⟨t, by rw [e, Nat.add_zero]⟩
        · obtain ⟨t, e'⟩ := hv (j + 1) v (by simpa using e)
          exact ⟨t, by rw [e', show k + (j + 1) = k + 1 + j by omega]⟩
  rw [List.range_eq_range']
  refine key acc.toList 0 n (by simpa using h1) fun j v e => ?_
  obtain ⟨t, e'⟩ := h2 j v (by simpa using e)
  exact ⟨t, by rw [e', Int.mul_one, Nat.zero_add]⟩
theorem listrange_ok {pins : List (Addr × Obj)} {σ : St} {H : Hp} {s : Shared} {E : Value → Shared → Prop} {lo hi : Int} {t u v : Tok} {tk : Nat} {Q : VK} (hh : X.A.handled = none) (I : Inv X pins σ H s) (h1 : -(2 ^ 62) ≤ lo) (h2 : lo < 2 ^ 62) (h3 : -(2 ^ 62) ≤ hi) (h4 : hi < 2 ^ 62) (hn : (hi - lo).toNat ≤ 1000)
    (q : ∀ l, H l = none → Q (.ref l) (upd H l (.lst (((List.range (hi - lo).toNat).map fun i => lo + ((i : Nat) : Int)).map V.int)))) :
    wpAny (model X.prog X.w) X.A (call (.type "list") [.ref s.heap.objs.size]) (EP X pins σ Q) E { s with heap := s.heap.push { cls := .type "range", data := .fields #[.int lo t, .int hi u, .int 1 v] }, toks := tk } := by
  refine call_list_range (n := (hi - lo).toNat) hh (IsRange.new ..) (small_one h1 h2 h3 h4) (by rw [rangeSize_one]; split <;> omega) (Nat.le_trans hn (by decide)) fun h' tk' acc' c' hk hS hacc => ?_
  have fr : s.heap.objs.size ≤ (s.heap.push { cls := .type "range", data := .fields #[.int lo t, .int hi u, .int 1 v] }).objs.size := by rw [Heap.size_push]; exact Nat.le_succ _
  have ea : acc' = acc'.toList.toArray := rfl
  refine ⟨.ref _, _, I.laid (t' := tk') (fun b o e => hk b o (Heap.get?_push_of_some _ e)) fr (show ObjOk X.prog X.w _ h' _ (.lst _) from ⟨?_, acc'.toList, c', rng_acc hacc, hS⟩), rfl, q _ (I.hok.fresh fr)⟩
  rw [List.length_map, List.length_map, List.length_range]; exact Nat.le_of_lt (small1000 hn)
def tLr1 (ta : TA) : TE := fun σ H Q => ta σ H fun vs H1 => ∃ j : Int, vs = [.int j] ∧ -(2 ^ 62) ≤ j ∧ j ≤ 1000 ∧ ∀ l, H1 l = none → Q (.ref l) (upd H1 l (.lst (((List.range j.toNat).map fun i => 0 + ((i : Nat) : Int)).map V.int)))
theorem pe_listrange1 {e : Expr} {ta : TA} {p1 p2 pos1 pos2 : Pos} (hc : X.calm = true) (hg : Gl X "list") (hm : X.mg "list" = none) (hg2 : Gl X "range") (hm2 : X.mg "range" = none) (ha : PA X [e] ta)
    (hs : starEach [.Call (.Name "range" p2) [e] [] pos2] X.env = [(false, eval (.Call (.Name "range" p2) [e] [] pos2) X.env)] := by rfl) (hs2 : starEach [e] X.env = [(false, eval e X.env)] := by rfl) :
    PE X (.Call (.Name "list" p1) [.Call (.Name "range" p2) [e] [] pos2] [] pos1) (tLr1 ta) := by
  intro pins s σ H Q I h
  refine Call_ (ld_blt I hg hm boot_list (PyProof.Rows.callWith_type1 ?_ hs rfl))
  rw [hs]
  refine Calls.spliced_cons ?_
  refine Call_ (ld_blt I hg2 hm2 boot_range (PyProof.Rows.callWith_type1 (thn (ha pos2 pins s σ H _ I h) fun us s1 ⟨vs, H1, I1, r1, q1⟩ => ?_) hs2 rfl))
  obtain ⟨j, rfl, b1, b2, q⟩ := q1
  obtain ⟨u, rfl, t, rfl⟩ := vals1 r1
  refine call_range_1 (Calls.spliced_nil ?_)
  exact listrange_ok (I.ok.hd hc) I1 (by decide) (by decide) b1 (by omega) (by omega) fun l nl => by rw [Int.sub_zero]; exact q l nl
end
theorem cutV_to {xs : List V} {p : Int} (h0 : 0 ≤ p) (h1 : p < (xs.length : Int)) : cutV xs none (some p) = xs.take p.toNat := by
  have e : HT.sIx xs.length xs.length (some p) = p.toNat := by
    show (if p < 0 then (p + (xs.length : Int)).toNat else min p.toNat xs.length) = _
    rw [if_neg (by omega)]; omega
  unfold cutV
  rw [e, HT.sIx_none, List.drop_zero, Nat.sub_zero]
theorem cutV_from {xs : List V} {p : Int} (h0 : 0 ≤ p) (h1 : p < (xs.length : Int)) : cutV xs (some (p + 1)) none = xs.drop (p.toNat + 1) := by
  have e : HT.sIx xs.length 0 (some (p + 1)) = p.toNat + 1 := by
    show (if p + 1 < 0 then (p + 1 + (xs.length : Int)).toNat else min (p + 1).toNat xs.length) = _
    rw [if_neg (by omega)]; omega
  unfold cutV
  rw [e, HT.sIx_none, List.take_of_length_le (by rw [List.length_drop]; exact Nat.le_refl _)]
end L2
namespace L2
open PySem PySem.Spec PyProof.Rows
section
variable {X : Cx} {tg : Expr}
end
end L2
namespace L2
open PySem PySem.Spec PyProof.Rows
section
variable {κ : Type} [DecidableEq κ]
def valV (kvs : List (κ × V)) (k : κ) : Option V := (kvs.find? fun kv => decide (kv.1 = k)).map (·.2)
def putK (kvs : List (κ × V)) (k : κ) (v : V) : List (κ × V) :=
  if (kvs.any fun kv => decide (kv.1 = k)) = true then kvs.map (fun kv => if kv.1 = k then (kv.1, v) else kv) else kvs ++ [(k, v)]
theorem valV_pos {p : κ × V} {r : List (κ × V)} {k : κ} (e : p.1 = k) : valV (p :: r) k = some p.2 := by simp [valV, List.find?_cons, e]
theorem valV_neg {p : κ × V} {r : List (κ × V)} {k : κ} (e : ¬ p.1 = k) : valV (p :: r) k = valV r k := by simp [valV, List.find?_cons, e]
theorem valV_any (k : κ) : ∀ kvs : List (κ × V), (kvs.any fun kv => decide (kv.1 = k)) = (valV kvs k).isSome
  | [] => rfl
  | p :: r => by
    rw [List.any_cons]
    by_cases e : p.1 = k
    · simp only [valV_pos e, decide_eq_true e, Bool.true_or, Option.isSome_some]
    · rw [valV_neg e, decide_eq_false e, Bool.false_or]; exact valV_any k r
theorem length_putK (kvs : List (κ × V)) (k : κ) (v : V) : (putK kvs k v).length ≤ kvs.length + 1 := by
  unfold putK
  split
  · rw [List.length_map]; omega
  · rw [List.length_append, List.length_cons, List.length_nil]; omega
theorem putK_new {kvs : List (κ × V)} {k : κ} (v : V) (h : valV kvs k = none) : putK kvs k v = kvs ++ [(k, v)] := by
  unfold putK
  rw [valV_any, h]
  exact if_neg (by decide)
theorem RelO.isSome_eq {o : Option V} {u : Option Value} (r : RelO o u) : o.isSome = u.isSome := by
  cases o with
  | none => cases u with
    | none => rfl
    | some _ => exact (show False from r).elim
  | some _ => cases u with
    | none => exact (show False from r).elim
    | some _ => rfl
theorem RelO.getD {o : Option V} {u : Option Value} {d : V} {d' : Value} (r : RelO o u) (rd : RelV d d') : RelV (o.getD d) (u.getD d') := by
  cases o with
  | none => cases u with
    | none => exact rd
    | some _ => exact (show False from r).elim
  | some _ => cases u with
    | none => exact (show False from r).elim
    | some _ => exact r
theorem KV.val {kvs : List (κ × V)} {vs : List (κ × Value)} (r : KV kvs vs) (k : κ) : RelO (valV kvs k) (valueAt vs k) := by
  unfold KV at r
  induction r with
  | nil => exact True.intro
  | @cons p q ps qs h t ih =>
    obtain ⟨h1, h2⟩ := h
    by_cases e : p.1 = k
    · have e' : q.1 = k := h1.symm.trans e
      have b : valueAt (q :: qs) k = some q.2 := by simp [valueAt, List.find?_cons, e']
      rw [valV_pos e, b]; exact h2
    · have e' : ¬ q.1 = k := fun z => e (h1.trans z)
      have b : valueAt (q :: qs) k = valueAt qs k := by simp [valueAt, List.find?_cons, e']
      rw [valV_neg e, b]; exact ih
theorem KV.any {kvs : List (κ × V)} {vs : List (κ × Value)} (r : KV kvs vs) (k : κ) : (kvs.any fun kv => decide (kv.1 = k)) = vs.any fun kv => decide (kv.1 = k) := by
  unfold KV at r
  induction r with
  | nil => rfl
  | cons h t ih => rw [List.any_cons, List.any_cons, ih, h.1]
theorem KV.repl {kvs : List (κ × V)} {vs : List (κ × Value)} (r : KV kvs vs) (k : κ) {y : V} {u : Value} (ry : RelV y u) :
    KV (kvs.map fun kv => if kv.1 = k then (kv.1, y) else kv) (vs.map fun kv => if kv.1 = k then (kv.1, u) else kv) := by
  unfold KV at r ⊢
  induction r with
  | nil => exact .nil
  | @cons p q ps qs h t ih =>
    rw [List.map_cons, List.map_cons]
    refine .cons ?_ ih
    obtain ⟨h1, h2⟩ := h
    by_cases e : p.1 = k
    · rw [if_pos e, if_pos (h1.symm.trans e)]; exact ⟨h1, ry⟩
    · rw [if_neg e, if_neg (fun z => e (h1.trans z))]; exact ⟨h1, h2⟩
theorem KV.put {kvs : List (κ × V)} {vs : List (κ × Value)} (r : KV kvs vs) (k : κ) {y : V} {u : Value} (ry : RelV y u) : KV (putK kvs k y) (stored vs k u) := by
  unfold putK stored
  rw [r.any k]
  by_cases e : (vs.any fun kv => decide (kv.1 = k)) = true
  · rw [if_pos e, if_pos e]; exact r.repl k ry
  · rw [if_neg e, if_neg e]; exact Paired.snoc r ⟨rfl, ry⟩
theorem KV.length {kvs : List (κ × V)} {vs : List (κ × Value)} (r : KV kvs vs) : kvs.length = vs.length := Paired.length r
end
theorem kV_is {P : Program} {w : World} {k : Key} {u : Value} (r : RelV (kV k) u) : (mixKind P w).is k u = true := by
  cases k with
  | inl i => obtain ⟨t, e⟩ := (show ∃ t, u = Value.int i t from r); subst e; exact mixKind_int P w i t
  | inr x => obtain ⟨t, e⟩ := (show ∃ t, u = Value.str x t from r); subst e; exact mixKind_str P w x t
theorem items_are {P : Program} {w : World} : ∀ {ks : List Key} {us : List Value}, Vals (ks.map kV) us → ItemsAre (mixKind P w) ks us
  | [], _, r => by rw [List.map_nil] at r; cases r; exact .nil
  | k :: ks, _, r => by
    rw [List.map_cons] at r
    cases r with
    | cons h t => exact .cons (kV_is h) (items_are t)
abbrev KT (H : Hp) : List (List Key × V) → List (List Key × Addr × Value) → Prop := Paired fun p q => p.1 = q.1 ∧ H q.2.1 = some (.tup (p.1.map kV)) ∧ RelV p.2 q.2.2
theorem KT.val {H : Hp} {kvs : List (List Key × V)} {xs : List (List Key × Addr × Value)} (r : KT H kvs xs) (k : List Key) : RelO (valV kvs k) ((atKey xs k).map (·.2)) := by
  induction r with
  | nil => exact True.intro
  | @cons p q ps qs h t ih =>
    obtain ⟨h1, _, h2⟩ := h
    by_cases e : p.1 = k
    · have e' : q.1 = k := h1.symm.trans e
      have b : atKey (q :: qs) k = some q.2 := by simp [atKey, List.find?_cons, e']
      rw [valV_pos e, b]; exact h2
    · have e' : ¬ q.1 = k := fun z => e (h1.trans z)
      have b : atKey (q :: qs) k = atKey qs k := by simp [atKey, List.find?_cons, e']
      rw [valV_neg e, b]; exact ih
theorem KT.repl {H : Hp} {kvs : List (List Key × V)} {xs : List (List Key × Addr × Value)} (r : KT H kvs xs) (k : List Key) {y : V} {u : Value} (ry : RelV y u) :
    KT H (kvs.map fun kv => if kv.1 = k then (kv.1, y) else kv) (xs.map (putAt k u)) := by
  induction r with
  | nil => exact .nil
  | @cons p q ps qs h t ih =>
    rw [List.map_cons, List.map_cons]
    refine .cons ?_ ih
    obtain ⟨h1, h2, h3⟩ := h
    unfold putAt
    by_cases e : p.1 = k
    · rw [if_pos e, if_pos (h1.symm.trans e)]; exact ⟨h1, h2, ry⟩
    · rw [if_neg e, if_neg (fun z => e (h1.trans z))]; exact ⟨h1, h2, h3⟩
theorem KT.put {H : Hp} {kvs : List (List Key × V)} {xs : List (List Key × Addr × Value)} (r : KT H kvs xs) (k : List Key) {b : Addr} {y : V} {u : Value} (hb : H b = some (.tup (k.map kV))) (ry : RelV y u) :
    KT H (putK kvs k y) (storedH xs k b u) := by
  have e : (kvs.any fun kv => decide (kv.1 = k)) = (atKey xs k).isSome := by
    rw [valV_any, (r.val k).isSome_eq, Option.isSome_map]
  unfold putK storedH
  rw [e]
  by_cases q : (atKey xs k).isSome = true
  · rw [if_pos q, if_pos q]; exact r.repl k ry
  · rw [if_neg q, if_neg q]; exact Paired.snoc r ⟨rfl, hb, ry⟩
theorem KT.keeps {H H' : Hp} {kvs : List (List Key × V)} {xs : List (List Key × Addr × Value)} (r : KT H kvs xs) (ht : ∀ b ys, H b = some (.tup ys) → H' b = some (.tup ys)) : KT H' kvs xs :=
  Paired.mapP r fun _ _ z => ⟨z.1, ht _ _ z.2.1, z.2.2⟩
section
variable {P : Program} {w : World} {H : Hp} {h : Heap} {a : Addr}
theorem rd_of {u : HO} (ok : HOk P w H h) (e : Rd H a u) : ObjOk P w H h a u := e.ok ok
theorem dk_rd {kvs : List (Key × V)} (ok : HOk P w H h) (e : Rd H a (.dK kvs)) : kvs.length ≤ sizeLine ∧ (a == sysModules) = false ∧ ∃ vs, KV kvs vs ∧ h.DictOf (mixKind P w) a vs :=
  show ObjOk P w H h a (.dK kvs) from rd_of ok e
theorem dk_of {kvs : List (Key × V)} (ok : HOk P w H h) (e : H a = some (.dK kvs)) : kvs.length ≤ sizeLine ∧ (a == sysModules) = false ∧ ∃ vs, KV kvs vs ∧ h.DictOf (mixKind P w) a vs := dk_rd ok (.inl e)
theorem key_of {ks : List Key} (ok : HOk P w H h) (e : H a = some (.tup (ks.map kV))) : (tupleKind (mixKind P w)).is h ks a := by
  obtain ⟨_, its, r, o, h1, h2, n, h3⟩ := (show ObjOk P w H h a (.tup (ks.map kV)) from ok a _ e)
  exact ⟨o, its.toArray, n, h1, h2, h3, by simpa using items_are r⟩
theorem dt_rd {kvs : List (List Key × V)} (ok : HOk P w H h) (e : Rd H a (.dT kvs)) : kvs.length ≤ sizeLine ∧ (a == sysModules) = false ∧
    ∃ xs, KT H kvs xs ∧ h.DictOfH (tupleKind (mixKind P w)) a xs := by
  obtain ⟨z, y, xs, r, o, es, ep, h1, h2, h3, h4, h5⟩ := (show ObjOk P w H h a (.dT kvs) from rd_of ok e)
  refine ⟨z, y, xs, r, o, es, ep, h1, h2, h3, h4, fun x hx => ?_, h5⟩
  have all : ∀ {l : List (List Key × V)} {m : List (List Key × Addr × Value)}, KT H l m → ∀ x ∈ m, (tupleKind (mixKind P w)).is h x.1 x.2.1 := by
    intro l m q
    induction q with
    | nil => intro x hx; exact nomatch hx
    | @cons p q ps qs hq t ih =>
      intro x hx
      rcases List.mem_cons.mp hx with e | hx
      · subst e
        exact key_of ok (by rw [← hq.1]; exact hq.2.1)
      · exact ih x hx
  exact all r x hx
theorem dt_of {kvs : List (List Key × V)} (ok : HOk P w H h) (e : H a = some (.dT kvs)) : kvs.length ≤ sizeLine ∧ (a == sysModules) = false ∧
    ∃ xs, KT H kvs xs ∧ h.DictOfH (tupleKind (mixKind P w)) a xs := dt_rd ok (.inl e)
end
def DGet (H : Hp) (a : Addr) (y : V) (r : Option V) : Prop :=
  (∃ kvs k, Rd H a (.dK kvs) ∧ y = kV k ∧ r = valV kvs k) ∨ ∃ kvs k b, Rd H a (.dT kvs) ∧ y = .ref b ∧ H b = some (.tup (k.map kV)) ∧ r = valV kvs k
def DPut (H : Hp) (a : Addr) (y v : V) (H' : Hp) : Prop :=
  (∃ kvs k, H a = some (.dK kvs) ∧ y = kV k ∧ kvs.length < sizeLine ∧ H' = upd H a (.dK (putK kvs k v))) ∨
  ∃ kvs k b, H a = some (.dT kvs) ∧ y = .ref b ∧ H b = some (.tup (k.map kV)) ∧ kvs.length < sizeLine ∧ H' = upd H a (.dT (putK kvs k v))
theorem DGet.k {H : Hp} {a : Addr} {kvs : List (Key × V)} {k : Key} (e : H a = some (.dK kvs)) : DGet H a (kV k) (valV kvs k) := .inl ⟨kvs, k, .inl e, rfl, rfl⟩
theorem DPut.k {H : Hp} {a : Addr} {kvs : List (Key × V)} {k : Key} {v : V} (e : H a = some (.dK kvs)) (hl : kvs.length < sizeLine) : DPut H a (kV k) v (upd H a (.dK (putK kvs k v))) := .inl ⟨kvs, k, e, rfl, hl, rfl⟩
section
variable {X : Cx} {pins : List (Addr × Obj)} {σ : St} {H : Hp} {s : Shared} {a : Addr} {y v : V} {u r : Value} {o : Option V} {A : Around} {E : Value → Shared → Prop}
theorem Inv.big (I : Inv X pins σ H s) : sysModules < s.heap.objs.size := by
  have h : mainGlobals < s.heap.objs.size := (I.mod.glob.keeps I.bk).lt
  exact Nat.lt_trans (by decide) h
theorem d_getItem {Q : Value → Shared → Prop} (hu : A.units + 1 < cLine) (I : Inv X pins σ H s) (g : DGet H a y (some v)) (ry : RelV y u) (h : ∀ w' s', Inv X pins σ H s' → RelV v w' → Q w' s') :
    wpAny (model X.prog X.w) A (getItem (.ref a) u) Q E s := by
  rcases g with ⟨kvs, k, e, ey, l⟩ | ⟨kvs, k, b, e, ey, eb, l⟩
  · subst ey
    obtain ⟨z, hd, vs, rel, dd⟩ := dk_rd I.hok e
    obtain ⟨w', hw, rw'⟩ := RelO.some_of (v := v) (o := valueAt vs k) (by rw [l]; exact rel.val k)
    exact wpAny_getItem_of (kV_is ry) dd.mapOf hw (h w' _ (I.tok _) rw')
  · subst ey
    cases (show u = Value.ref b from ry)
    obtain ⟨z, hd, xs, rel, dd⟩ := dt_rd I.hok e
    obtain ⟨w', hw, rw'⟩ := RelO.some_of (v := v) (o := (atKey xs k).map (·.2)) (by rw [l]; exact rel.val k)
    obtain ⟨p, hp, hp2⟩ := Option.map_eq_some_iff.mp hw
    refine wpAny_getItem_heap (tupleKind_room_in1 hu) (key_of I.hok eb) dd hp ?_
    rw [hp2]
    exact h w' _ (I.tok _) rw'
theorem d_notIn {Q : Value → Shared → Prop} (hu : A.units + 1 < cLine) (I : Inv X pins σ H s) (g : DGet H a y o) (ry : RelV y u) (h : ∀ s', Inv X pins σ H s' → Q (.bool (!o.isSome)) s') :
    wpAny (model X.prog X.w) A (compareOp .NotIn u (.ref a)) Q E s := by
  rcases g with ⟨kvs, k, e, ey, l⟩ | ⟨kvs, k, b, e, ey, eb, l⟩
  · subst ey
    obtain ⟨z, hd, vs, rel, dd⟩ := dk_rd I.hok e
    refine wpAny_notIn_of (kV_is ry) hd dd.mapOf ?_
    rw [← (rel.val k).isSome_eq, ← l]
    exact h _ (I.tok _)
  · subst ey
    cases (show u = Value.ref b from ry)
    obtain ⟨z, hd, xs, rel, dd⟩ := dt_rd I.hok e
    refine wpAny_notIn_heap (tupleKind_room_in1 hu) (key_of I.hok eb) hd dd ?_
    have q := (rel.val k).isSome_eq
    rw [Option.isSome_map] at q
    rw [← q, ← l]
    exact h _ (I.tok _)
theorem d_write {h' : Heap} {t' : Nat} {ob : HO} (I : Inv X pins σ H s) (mu : Mut (H a)) (hs : Heap.SameBut a s.heap h') (he : ∃ q, h'.get? a = some q) (new : ObjOk X.prog X.w (upd H a ob) h' a ob) :
    Inv X pins σ (upd H a ob) { s with heap := h', toks := t' } :=
  I.write (x := a) (e := a) mu (.inl rfl) (fun b q hb z => (hs.2 b hb).trans z) he new
theorem dk_new {P : Program} {w : World} {H' : Hp} {h' : Heap} {kvs : List (Key × V)} {vs : List (Key × Value)} (z : kvs.length ≤ sizeLine) (hd : (a == sysModules) = false) (rel : KV kvs vs) (dd : h'.DictOf (mixKind P w) a vs) :
    ObjOk P w H' h' a (.dK kvs) := ⟨z, hd, vs, rel, dd⟩
theorem d_setItem {H' : Hp} {Q : Unit → Shared → Prop} (hu : A.units + 1 < cLine) (I : Inv X pins σ H s) (g : DPut H a y v H') (ry : RelV y u) (rv : RelV v r) (h : ∀ s', Inv X pins σ H' s' → Q () s') :
    wpAny (model X.prog X.w) A (setItem (.ref a) u r) Q E s := by
  rcases g with ⟨kvs, k, e, ey, l, eH⟩ | ⟨kvs, k, b, e, ey, eb, l, eH⟩
  · subst ey eH
    obtain ⟨z, hd, vs, rel, dd⟩ := dk_of I.hok e
    have hz : vs.length ≤ sizeLine := by rw [← rel.length]; exact z
    have hl : (putK kvs k v).length ≤ sizeLine := by have := length_putK kvs k v; omega
    refine wpAny_setItem_pairs (hsz := hz) (kV_is ry) dd fun h' dd' hs => h _ ?_
    have he : ∃ q, h'.get? a = some q := let ⟨q, _, _, hq, _⟩ := dd'; ⟨q, hq⟩
    exact d_write I (by rw [e]; exact True.intro) hs he (dk_new hl hd (rel.put k rv) dd')
  · subst ey eH
    cases (show u = Value.ref b from ry)
    obtain ⟨z, hd, xs, rel, dd⟩ := dt_of I.hok e
    have hz : xs.length ≤ sizeLine := by rw [← Paired.length rel]; exact z
    have hl : (putK kvs k v).length ≤ sizeLine := by have := length_putK kvs k v; omega
    refine wpAny_setItem_heap (hsz := hz) (tupleKind_room_in1 hu) (key_of I.hok eb) dd fun h' dd' hs => h _ ?_
    obtain ⟨q, es, ep, hq, h2, h3, h4, _, h5⟩ := dd'
    refine d_write I (by rw [e]; exact True.intro) hs ⟨q, hq⟩ ⟨hl, hd, _, (rel.put k eb rv).keeps fun c ys ec => ?_, q, es, ep, hq, h2, h3, h4, h5⟩
    rw [upd_ne (ne_of ec e (fun z => nomatch z))]
    exact ec
end
section
variable {X : Cx} {pins : List (Addr × Obj)} {σ : St} {H : Hp} {s : Shared} {a : Addr} {kvs : List (Key × V)} {k : Key} {u : Value} {A : Around} {E : Value → Shared → Prop}
end
def NoSl (i : Expr) : Prop := ∀ ov iv, subscripted i false ov iv = operate [ov, iv] (getItem ov iv)
theorem subD_of {prog : Program} {w : World} {A : Around} {E : Value → Shared → Prop} {s : Shared} {env : Env} {value slice : Expr} {pos : Pos} {T id : String} {Q : Value → Shared → Prop}
    (hl : typeLookup (.type T) "__getitem__" = pure (some (.builtin id))) (hs : NoSl slice)
    (h : wpAny (model prog w) A (eval value env) (fun o s₁ => wpAny (model prog w) A (eval slice env) (fun i s₂ => s₂.TypeIs o T ∧ wpAny (model prog w) A (getItem o i) Q E s₂) E s₁) E s) :
    wpAny (model prog w) A (eval (.Subscript value slice pos) env) Q E s := by
  refine Subscript_ (wpAny_mono h (fun o s₁ h₁ => wpAny_mono h₁ (fun i s₂ h₂ => ?_) fun _ _ x => x) fun _ _ x => x)
  obtain ⟨hT, h₂⟩ := h₂
  unfold subscriptTail
  refine wpAny_bind ?_
  rw [getitemInPython_of_ne hT.not_modules]
  refine wpAny_bind (wpAny_specialOf hT hl ?_)
  have fin : wpAny (model prog w) A (subscripted slice false o i) (fun r s₃ => wpAny (model prog w) A (letTemporaryGo value o r >>= fun _ => pure r) Q E s₃) E s₂ := by
    rw [hs o i]
    exact wpAny_operating (wpAny_mono h₂ (fun r s₃ h₃ => wpAny_bind (wpAny_letTemporaryGo (wpAny_pure h₃))) fun _ _ x => x)
  first
    | exact wpAny_pure (wpAny_bind fin)
    | exact wpAny_bind (wpAny_pure (wpAny_bind fin))
    | exact wpAny_bind fin
theorem dict_typeIs {X : Cx} {pins : List (Addr × Obj)} {σ : St} {H : Hp} {s : Shared} {a : Addr} {y : V} {o : Option V} (I : Inv X pins σ H s) (g : DGet H a y o) : s.TypeIs (.ref a) "dict" := by
  rcases g with ⟨kvs, k, e, _, _⟩ | ⟨kvs, k, b, e, _, _, _⟩
  · obtain ⟨_, _, vs, _, dd⟩ := dk_rd I.hok e
    exact dd.typeIs
  · obtain ⟨_, _, xs, _, dd⟩ := dt_rd I.hok e
    exact dd.typeIs
def tDGet (td ty : TE) : TE := fun σ H Q => td σ H fun x H1 => ty σ H1 fun y H2 => ∃ a v, x = .ref a ∧ DGet H2 a y (some v) ∧ Q v H2
def tDNotIn (ty td : TE) : TE := fun σ H Q => ty σ H fun y H1 => td σ H1 fun x H2 => ∃ a o, x = .ref a ∧ DGet H2 a y o ∧ Q (.bl (!o.isSome)) H2
def sDPut (td ty tv : TE) : TS := fun D σ H => tv σ H fun v H1 => td σ H1 fun x H2 => ty σ H2 fun y H3 => ∃ a H4, x = .ref a ∧ DPut H3 a y v H4 ∧ D.nx σ H4
section
variable {X : Cx} {o i e value : Expr} {pos pos' tpos : Pos} {td ty tv : TE}
theorem pe_dget (hu : X.A.units + 1 < cLine) (ho : PE X o td) (hi : PE X i ty) (hs : NoSl i) : PE X (.Subscript o i pos) (tDGet td ty) := by
  intro pins s σ H Q I h
  refine subD_of PySem.F.slot_dict_getitem.lookup hs (thn (ho pins s σ H _ I h) fun u s1 ⟨x, H1, I1, rx, q1⟩ => thn (hi pins s1 σ H1 _ I1 q1) fun iv s2 ⟨y, H2, I2, ry, a, v, ex, g, q2⟩ => ?_)
  subst ex
  obtain rfl : u = Value.ref a := rx
  exact ⟨dict_typeIs I2 g, d_getItem hu I2 g ry fun w' s3 I3 rw' => ⟨v, H2, I3, rw', q2⟩⟩
theorem pc_dnotin (hu : X.A.units + 1 < cLine) (hi : PE X i ty) (ho : PE X o td) : PC X .NotIn i o (tDNotIn ty td) := by
  intro pins s σ H Q I h
  refine thn (hi pins s σ H _ I h) fun iv s1 ⟨y, H1, I1, ry, q1⟩ => thn (ho pins s1 σ H1 _ I1 q1) fun u s2 ⟨x, H2, I2, rx, a, ov, ex, g, q2⟩ => ?_
  subst ex
  obtain rfl : u = Value.ref a := rx
  exact d_notIn hu I2 g ry fun s3 I3 => ⟨.bl (!ov.isSome), H2, I3, rfl, q2⟩
theorem ps_dput (hu : X.A.units + 1 < cLine) (ho : PE X o td) (hi : PE X i ty) (hv : PE X value tv) (hs : swapsWith value (some (.Subscript o i pos')) pos.line X.env = pure false) :
    PS X (.Assign [.Subscript o i pos'] value pos) (sDPut td ty tv) := by
  intro pins s σ H D I h
  refine wpAny_Assign_Subscript (thn (hv pins s σ H _ I h) fun r s1 ⟨v, H1, I1, rv, q1⟩ => thn (ho pins s1 σ H1 _ I1 q1) fun u s2 ⟨x, H2, I2, rx, q2⟩ => thn (hi pins s2 σ H2 _ I2 q2) fun iv s3 ⟨y, H3, I3, ry, a, H4, ex, g, q3⟩ => ?_) hs
  subst ex
  obtain rfl : u = Value.ref a := rx
  exact d_setItem hu I3 g ry rv fun s4 I4 => ⟨σ, H4, I4, q3⟩
end
theorem dk_empty {P : Program} {w : World} {H : Hp} (h : Heap) (hb : sysModules < h.objs.size) : ObjOk P w H (h.push { cls := .type "dict", data := .dict #[] }) h.objs.size (.dK []) :=
  ⟨Nat.zero_le _, beq_eq_false_iff_ne.mpr (Ne.symm (Nat.ne_of_lt hb)), [], .nil, Heap.DictOf.new h⟩
def tDNewK : TE := fun _ H Q => ∀ p, H p = none → Q (.ref p) (upd H p (.dK []))
section
variable {X : Cx} {pos : Pos}
theorem pe_dnewK : PE X (.Dict [] [] pos) tDNewK := fun pins s σ H Q I h =>
  wpAny_Dict_empty ⟨.ref s.heap.objs.size, _, I.laid (a := s.heap.objs.size) (o := .dK []) (t' := s.toks) (fun _ _ q => Heap.get?_push_of_some _ q) (Nat.le_refl _) (dk_empty s.heap I.big), rfl, h _ (I.hok.fresh (Nat.le_refl _))⟩
end
def tPairs : List (TE × TE) → St → Hp → (List (V × V) → Hp → Prop) → Prop
  | [], _, H, Q => Q [] H
  | (tk, tv) :: r, σ, H, Q => tk σ H fun x H1 => tv σ H1 fun y H2 => tPairs r σ H2 fun ps H3 => Q ((x, y) :: ps) H3
abbrev VV : List (V × V) → List (Value × Value) → Prop := Paired fun p q => RelV p.1 q.1 ∧ RelV p.2 q.2
def PPs (X : Cx) (pos : Pos) (keys : List (Option Expr)) (values : List Expr) (trs : List (TE × TE)) : Prop :=
  ∀ (pins : List (Addr × Obj)) (s : Shared) (σ : St) (H : Hp) (Q : List (V × V) → Hp → Prop), Inv X pins σ H s → tPairs trs σ H Q →
    wpAny (model X.prog X.w) X.A (evalPairs (pairTrees keys values X.env pos)) (fun vs s' => ∃ ps H', Inv X pins σ H' s' ∧ VV ps vs ∧ Q ps H') X.xe s
theorem pps_nil {X : Cx} {pos : Pos} : PPs X pos [] [] [] := fun pins s σ H Q I h => pairTrees_nil_walk ⟨[], H, I, .nil, h⟩
theorem pps_cons {X : Cx} {pos : Pos} {k v : Expr} {ks : List (Option Expr)} {vs : List Expr} {tk tv : TE} {trs : List (TE × TE)} (hk : PE X k tk) (hv : PE X v tv) (hr : PPs X pos ks vs trs) :
    PPs X pos (some k :: ks) (v :: vs) ((tk, tv) :: trs) := fun pins s σ H Q I h =>
  pairTrees_cons_walk (thn (hk pins s σ H _ I h) fun u s1 ⟨x, H1, I1, rx, q1⟩ => thn (hv pins s1 σ H1 _ I1 q1) fun w2 s2 ⟨y, H2, I2, ry, q2⟩ =>
    thn (hr pins s2 σ H2 _ I2 q2) fun ws s3 ⟨ps, H3, I3, rel, q3⟩ => ⟨(x, y) :: ps, H3, I3, .cons ⟨rx, ry⟩ rel, q3⟩)
def mergeK (kvs more : List (Key × V)) : List (Key × V) := more.foldl (fun acc kv => putK acc kv.1 kv.2) kvs
theorem KV.merge : ∀ {more : List (Key × V)} {rs : List (Key × Value)} {kvs : List (Key × V)} {vs : List (Key × Value)}, KV more rs → KV kvs vs → KV (mergeK kvs more) (merged vs rs) := by
  intro more rs kvs vs r
  unfold KV at r
  induction r generalizing kvs vs with
  | nil => intro q; exact q
  | @cons p q ps qs h t ih =>
    intro r0
    have e : KV (putK kvs p.1 p.2) (stored vs q.1 q.2) := by
      have := r0.put p.1 h.2
      rw [← h.1]; exact this
    exact ih e
theorem length_mergeK : ∀ (more kvs : List (Key × V)), (mergeK kvs more).length ≤ kvs.length + more.length
  | [], kvs => by show kvs.length ≤ kvs.length + 0; omega
  | p :: r, kvs => by
    have h1 := length_mergeK r (putK kvs p.1 p.2)
    have h2 := length_putK kvs p.1 p.2
    show (mergeK (putK kvs p.1 p.2) r).length ≤ _
    rw [List.length_cons]; omega
theorem carries_of {P : Program} {w : World} : ∀ {kvs : List (Key × V)} {ws : List (Value × Value)}, VV (kvs.map fun kv => (kV kv.1, kv.2)) ws → ∃ rs, Carries (mixKind P w) ws rs ∧ KV kvs rs
  | [], _, r => by rw [List.map_nil] at r; cases r; exact ⟨[], True.intro, .nil⟩
  | p :: kvs, _, r => by
    rw [List.map_cons] at r
    cases r with
    | @cons a b as bs h t =>
      obtain ⟨rs, c, q⟩ := carries_of (P := P) (w := w) t
      obtain ⟨b1, b2⟩ := b
      exact ⟨(p.1, b2) :: rs, ⟨kV_is h.1, rfl, c⟩, .cons ⟨rfl, h.2⟩ q⟩
def tDisp (trs : List (TE × TE)) : TE := fun σ H Q => ∀ p, H p = none → tPairs trs σ (upd H p (.dK [])) fun ps H2 => H2 p = some (.dK []) ∧ ∃ kvs : List (Key × V), ps = kvs.map (fun kv => (kV kv.1, kv.2)) ∧ kvs.length ≤ 15 ∧ Q (.ref p) (upd H2 p (.dK (mergeK [] kvs)))
theorem pe_disp {X : Cx} {pos : Pos} {keys : List (Option Expr)} {values : List Expr} {trs : List (TE × TE)} (h : PPs X pos keys values trs) (hall : keys.all (·.isSome) = true) (hl : keys.length = values.length) (h0 : keys ≠ [])
    (h15 : keys.length ≤ 15) : PE X (.Dict keys values pos) (tDisp trs) := by
  intro pins s σ H Q I q
  have hn := I.hok.fresh (Nat.le_refl s.heap.objs.size)
  have I1 := I.laid (a := s.heap.objs.size) (o := .dK []) (h' := s.heap.push { cls := .type "dict", data := .dict #[] }) (t' := s.toks) (fun _ _ q => Heap.get?_push_of_some _ q) (Nat.le_refl _) (dk_empty s.heap I.big)
  refine wpAny_Dict_walk (knd := mixKind X.prog X.w) hall hl h0 h15 (thn (h pins _ σ _ _ I1 (q _ hn)) fun ws s2 ⟨ps, H2, I2, rel, e, kvs, ep, lk, q2⟩ => ?_)
  subst ep
  obtain ⟨rs, c, rk⟩ := carries_of (P := X.prog) (w := X.w) rel
  obtain ⟨z, hd, vs0, r0, dd⟩ := dk_of I2.hok e
  cases r0
  refine ⟨rs, c, dd, fun h' dd' hs => ⟨.ref s.heap.objs.size, _, ?_, rfl, q2⟩⟩
  have hz : (mergeK [] kvs).length ≤ sizeLine := by
    have h1 := length_mergeK kvs []
    rw [List.length_nil] at h1
    rw [sizeLine_eq]; omega
  have he : ∃ q, h'.get? s.heap.objs.size = some q := let ⟨q, _, _, hq, _⟩ := dd'; ⟨q, hq⟩
  exact d_write I2 (by rw [e]; exact True.intro) hs he (dk_new hz hd (rk.merge .nil) dd')
structure M1 (X : Cx) (o : Expr) (m : Str) (apos : Pos) (e : Expr) (cpos : Pos) : Prop where
  base : attributeBase o m X.env (eval o X.env) = eval o X.env
  few : ((backTo cpos (starEach [e] X.env)).all (fun x => !x.1) && (backToKw cpos (keywordEach [] X.env)).all (fun x => x.1.isSome)
    && decide (([e] : List Expr).length + ([] : List Keyword).length + (if ([] : List Keyword).isEmpty then 0 else 1) < 30)) = true
  line : (apos.endLine == cpos.line) = true
  trees : backTo cpos (starEach [e] X.env) = [(false, eval e X.env)]
structure M2 (X : Cx) (o : Expr) (m : Str) (apos : Pos) (e f : Expr) (cpos : Pos) : Prop where
  base : attributeBase o m X.env (eval o X.env) = eval o X.env
  few : ((backTo cpos (starEach [e, f] X.env)).all (fun x => !x.1) && (backToKw cpos (keywordEach [] X.env)).all (fun x => x.1.isSome)
    && decide (([e, f] : List Expr).length + ([] : List Keyword).length + (if ([] : List Keyword).isEmpty then 0 else 1) < 30)) = true
  line : (apos.endLine == cpos.line) = true
  trees : backTo cpos (starEach [e, f] X.env) = [(false, eval e X.env), (false, eval f X.env)]
def IsD (H : Hp) (a : Addr) : Prop := (∃ kvs, Rd H a (.dK kvs)) ∨ ∃ kvs, Rd H a (.dT kvs)
theorem isD_at {X : Cx} {pins : List (Addr × Obj)} {σ : St} {H : Hp} {s : Shared} {a : Addr} (I : Inv X pins σ H s) (d : IsD H a) :
    s.TypeIs (.ref a) "dict" ∧ (∀ b, Value.ref a = .ref b → ∃ ob, s.heap.get? b = some ob ∧ ob.dict = none) ∧ (a == sysModules) = false := by
  rcases d with ⟨kvs, e⟩ | ⟨kvs, e⟩
  · obtain ⟨_, hd, vs, _, dd⟩ := dk_rd I.hok e
    refine ⟨dd.typeIs, fun b q => ?_, hd⟩
    cases q
    obtain ⟨ob, _, _, h1, h2, _⟩ := dd
    exact ⟨ob, h1, h2.2.1⟩
  · obtain ⟨_, hd, xs, _, dd⟩ := dt_rd I.hok e
    refine ⟨dd.typeIs, fun b q => ?_, hd⟩
    cases q
    obtain ⟨ob, _, _, h1, h2, _⟩ := dd
    exact ⟨ob, h1, h2.2.1⟩
section
variable {X : Cx} {pins : List (Addr × Obj)} {σ : St} {H : Hp} {s : Shared} {a : Addr} {y d : V} {u r : Value} {o : Option V} {A : Around} {E : Value → Shared → Prop}
theorem d_get1 {Q : Value → Shared → Prop} (hu : A.units + 1 < cLine) (I : Inv X pins σ H s) (g : DGet H a y o) (ry : RelV y u) (h : ∀ w' s', Inv X pins σ H s' → RelV (o.getD .non) w' → Q w' s') :
    wpAny (model X.prog X.w) A (call (.builtin "dict.get") [.ref a, u]) Q E s := by
  rcases g with ⟨kvs, k, e, ey, l⟩ | ⟨kvs, k, b, e, ey, eb, l⟩
  · subst ey
    obtain ⟨z, hd, vs, rel, dd⟩ := dk_rd I.hok e
    refine call_meetsIn PySem.F.slot_dict_get dd.typeIs PySem.F.entry_dict_get (PySem.F.args_dict_get_2 _ _) (meets_dict_get (mixKind X.prog X.w) a (kV_is ry) hd) ⟨_, dd.mapOf, h _ _ (I.tok _) ?_⟩
    rw [l]
    exact (rel.val k).getD rfl
  · subst ey
    cases (show u = Value.ref b from ry)
    obtain ⟨z, hd, xs, rel, dd⟩ := dt_rd I.hok e
    refine call_meetsIn PySem.F.slot_dict_get dd.typeIs PySem.F.entry_dict_get (PySem.F.args_dict_get_2 _ _) (meetsH_dict_get (tupleKind (mixKind X.prog X.w)) a b hd) ⟨tupleKind_room_in1 hu, k, xs, key_of I.hok eb, dd, h _ _ (I.tok _) ?_⟩
    rw [l]
    exact (rel.val k).getD rfl
end
def tDGet1 (td ty : TE) : TE := fun σ H Q => td σ H fun x H1 => ∃ a, x = .ref a ∧ IsD H1 a ∧ ty σ H1 fun y H2 => ∃ o, DGet H2 a y o ∧ Q (o.getD .non) H2
section
variable {X : Cx} {o e f : Expr} {apos cpos : Pos} {td ty tx : TE}
theorem pe_dget1 (hu : X.A.units + 1 < cLine) (ho : PE X o td) (he : PE X e ty) (m : M1 X o "get" apos e cpos) : PE X (.Call (.Attribute o "get" apos) [e] [] cpos) (tDGet1 td ty) := by
  intro pins s σ H Q I h
  refine wpAny_Call_method m.base m.few m.line PySem.F.plainAttrs_dict PySem.F.slot_dict_get PySem.F.type_dict_get (thn (ho pins s σ H _ I h) fun u s1 ⟨x, H1, I1, rx, a, ex, d, q1⟩ => ?_)
  subst ex
  obtain rfl : u = Value.ref a := rx
  obtain ⟨t1, t2, _⟩ := isD_at I1 d
  refine ⟨t1, t2, ?_⟩
  rw [m.trees]
  refine Calls.callWith_builtin rfl (Calls.evalArgs_plain (Calls.spliced_cons (thn (he pins s1 σ H1 _ I1 q1) fun iv s2 ⟨y, H2, I2, ry, ov, g, q2⟩ => Calls.spliced_nil ?_)))
  exact d_get1 hu I2 g ry fun w' s3 I3 rw' => ⟨_, H2, I3, rw', q2⟩
end
section
variable {X : Cx} {pins : List (Addr × Obj)} {σ : St} {H : Hp} {s : Shared} {a : Addr} {kvs : List (Key × V)} {A : Around} {E : Value → Shared → Prop}
end
section
variable {X : Cx} {pins : List (Addr × Obj)} {σ : St} {H : Hp} {s : Shared} {a : Addr} {y : V} {u : Value} {A : Around} {E : Value → Shared → Prop}
end
end L2
namespace L2
open PySem PySem.Spec PyProof.Rows
section
variable {κ : Type} [DecidableEq κ]
end
end L2
namespace L2
open PySem PySem.Spec PyProof.Rows
section
variable {X : Cx} {pins : List (Addr × Obj)} {σ : St} {H : Hp} {s : Shared} {a : Addr} {kvs : List (Key × V)} {k : Key} {u r : Value} {z : V} {A : Around} {E : Value → Shared → Prop}
theorem d_setdef {Q : Value → Shared → Prop} (I : Inv X pins σ H s) (e : H a = some (.dK kvs)) (ry : RelV (kV k) u) (rz : RelV z r) (l : kvs.length < sizeLine)
    (h1 : ∀ v, valV kvs k = some v → ∀ w' s', Inv X pins σ H s' → RelV v w' → Q w' s') (h2 : valV kvs k = none → ∀ s', Inv X pins σ (upd H a (.dK (putK kvs k z))) s' → Q r s') :
    wpAny (model X.prog X.w) A (call (.builtin "dict.setdefault") [.ref a, u, r]) Q E s := by
  obtain ⟨zz, hd, vs, rel, dd⟩ := dk_of I.hok e
  have hl : (putK kvs k z).length ≤ sizeLine := by have := length_putK kvs k z; omega
  have rv := rel.val k
  refine call_meetsIn PySem.F.slot_dict_setdefault dd.typeIs PySem.F.entry_dict_setdefault (PySem.F.args_dict_setdefault_3 _ _ _) (kt_meets_setdefault (mixKind X.prog X.w) a (kV_is ry) hd r) ⟨vs, dd, by rw [← rel.length]; exact zz, fun v hv => ?_, fun hn h' dd' hs => ?_⟩
  · rw [hv] at rv
    cases lv : valV kvs k with
    | some v0 => rw [lv] at rv; exact h1 v0 lv v _ (I.tok _) rv
    | none => rw [lv] at rv; exact (show False from rv).elim
  · rw [hn] at rv
    cases lv : valV kvs k with
    | some v0 => rw [lv] at rv; exact (show False from rv).elim
    | none => exact h2 lv _ (d_write I (by rw [e]; exact True.intro) hs (let ⟨q, _, _, hq, _⟩ := dd'; ⟨q, hq⟩) (dk_new hl hd (rel.put k rz) dd'))
end
def tDSet (td ty tx : TE) : TE := fun σ H Q => td σ H fun x H1 => ∃ a, x = .ref a ∧ IsD H1 a ∧ ty σ H1 fun y H2 => tx σ H2 fun z H3 => ∃ kvs k, H3 a = some (.dK kvs) ∧ y = kV k ∧ kvs.length < sizeLine ∧
  (∀ v, valV kvs k = some v → Q v H3) ∧ (valV kvs k = none → Q z (upd H3 a (.dK (putK kvs k z))))
def tDVals (td : TE) : TE := fun σ H Q => td σ H fun x H1 => ∃ a kvs, x = .ref a ∧ H1 a = some (.dK kvs) ∧ ∀ l, H1 l = none → Q (.ref l) (upd H1 l (.lst (kvs.map (·.2))))
theorem vals_kv {kvs : List (Key × V)} {vs : List (Key × Value)} (r : KV kvs vs) : Vals (kvs.map (·.2)) (vs.map (·.2)) := by
  induction r with
  | nil => exact .nil
  | cons h t ih => exact .cons h.2 ih
section
variable {X : Cx} {o e f : Expr} {apos cpos p1 pos1 : Pos} {td ty tx : TE}
theorem pe_dsetd (ho : PE X o td) (he : PE X e ty) (hf : PE X f tx) (m : M2 X o "setdefault" apos e f cpos) : PE X (.Call (.Attribute o "setdefault" apos) [e, f] [] cpos) (tDSet td ty tx) := by
  intro pins s σ H Q I h
  refine wpAny_Call_method m.base m.few m.line PySem.F.plainAttrs_dict PySem.F.slot_dict_setdefault PySem.F.type_dict_setdefault (thn (ho pins s σ H _ I h) fun u s1 ⟨x, H1, I1, rx, a, ex, d, q1⟩ => ?_)
  subst ex
  obtain rfl : u = Value.ref a := rx
  obtain ⟨t1, t2, _⟩ := isD_at I1 d
  refine ⟨t1, t2, ?_⟩
  rw [m.trees]
  refine Calls.callWith_builtin rfl (Calls.evalArgs_plain (Calls.spliced_cons (thn (he pins s1 σ H1 _ I1 q1) fun iv s2 ⟨y, H2, I2, ry, q2⟩ =>
    Calls.spliced_cons (thn (hf pins s2 σ H2 _ I2 q2) fun fv s3 ⟨z, H3, I3, rz, kvs, k, ea, ey, l, q3, q4⟩ => Calls.spliced_nil ?_))))
  subst ey
  exact d_setdef I3 ea ry rz l (fun v lv w' s4 I4 rw' => ⟨v, H3, I4, rw', q3 v lv⟩) fun lv s4 I4 => ⟨z, _, I4, rz, q4 lv⟩
theorem pe_listvals (hc : X.calm = true) (hg : Gl X "list") (hm : X.mg "list" = none) (ho : PE X o td) (hbase : attributeBase o "values" X.env (eval o X.env) = eval o X.env := by rfl) (hline : (apos.endLine == cpos.line) = true := by rfl)
    (hs : starEach [.Call (.Attribute o "values" apos) [] [] cpos] X.env = [(false, eval (.Call (.Attribute o "values" apos) [] [] cpos) X.env)] := by rfl) :
    PE X (.Call (.Name "list" p1) [.Call (.Attribute o "values" apos) [] [] cpos] [] pos1) (tDVals td) := by
  intro pins s σ H Q I h
  refine Call_ (ld_blt I hg hm boot_list (PyProof.Rows.callWith_type1 ?_ hs rfl))
  rw [hs]
  refine Calls.spliced_cons ?_
  refine wpAny_Call_method0_late hbase hline (thn (ho pins s σ H _ I h) fun v s1 ⟨x, H1, I1, r1, a, kvs, ex, ea, q⟩ => ?_)
  subst ex
  obtain rfl : v = Value.ref a := r1
  obtain ⟨t1, t2, _⟩ := isD_at I1 (.inl ⟨kvs, .inl ea⟩)
  obtain ⟨zz, hd, vs, rel, dd⟩ := dk_of I1.hok ea
  refine ⟨"dict", "dict.values", PySem.F.plainAttrs_dict, PySem.F.slot_dict_values, PySem.F.type_dict_values, t1, t2, Calls.callWith_builtin rfl (PySem.evalArgs_none ?_)⟩
  refine call_meetsIn PySem.F.slot_dict_values dd.typeIs PySem.F.entry_dict_values (PySem.F.args_dict_values_1 _) (meets_dict_values (mixKind X.prog X.w) a hd) ⟨⟨vs, dd⟩, Calls.spliced_nil ?_⟩
  obtain ⟨ob, es, ep, hq⟩ := id dd
  have dA : (s1.heap.push { cls := .type "dict_values", data := .fields #[.ref a] }).DictAt (mixKind X.prog X.w) a vs ep := Heap.DictAt.push ⟨ob, es, hq⟩ _
  refine PySem.W.kdl_call (PySem.W.kdl_values (knd := mixKind X.prog X.w) (kvs := vs) (ep := ep) (r := s1.heap.objs.size) (d := a)) (I.ok.hd hc) ⟨⟨_, Heap.get?_push_size _ rfl, rfl, rfl⟩, dA⟩ (by rw [← rel.length]; exact zz) fun h' tk acc' c' hk hS hacc => ?_
  have fr : s1.heap.objs.size ≤ (s1.heap.push { cls := .type "dict_values", data := .fields #[.ref a] }).objs.size := by rw [Heap.size_push]; exact Nat.le_succ _
  have ac : acc' = (vs.map (·.2)).toArray := by
    obtain ⟨h1, h2⟩ := hacc
    apply Array.ext
    · rw [h1]; simp
    · intro i hi hi2
      obtain ⟨k, e⟩ := h2 i acc'[i] (Array.getElem?_eq_getElem hi)
      have e3 : (vs.map (·.2))[i]? = some acc'[i] := by rw [List.getElem?_map, e]; rfl
      have hi3 : i < (vs.map (·.2)).length := by simpa using hi2
      rw [List.getElem?_eq_getElem hi3] at e3
      simpa using (Option.some.inj e3).symm
  subst ac
  exact ⟨.ref _, _, I1.laid (t' := tk) (fun b o e => hk b o (Heap.get?_push_of_some _ e)) fr (show ObjOk X.prog X.w _ h' _ (.lst (kvs.map (·.2))) from ⟨by rw [List.length_map]; exact zz, vs.map (·.2), c', vals_kv rel, hS⟩), rfl, q _ (I1.hok.fresh fr)⟩
end
end L2
namespace L2
inductive Cn (es : List (Int × Int)) : Int → Int → Prop
  | refl (a : Int) : Cn es a a
  | fwd {a : Int} {e : Int × Int} : Cn es a e.1 → e ∈ es → Cn es a e.2
  | bwd {a : Int} {e : Int × Int} : Cn es a e.2 → e ∈ es → Cn es a e.1
theorem Cn.trans {es : List (Int × Int)} {a b c : Int} (h : Cn es a b) (h2 : Cn es b c) : Cn es a c := by
  induction h2 with
  | refl => exact h
  | fwd _ he ih => exact .fwd ih he
  | bwd _ he ih => exact .bwd ih he
theorem Cn.tie {es : List (Int × Int)} {e : Int × Int} (h : e ∈ es) : Cn es e.1 e.2 := .fwd (.refl _) h
theorem Cn.eit {es : List (Int × Int)} {e : Int × Int} (h : e ∈ es) : Cn es e.2 e.1 := .bwd (.refl _) h
theorem Cn.symm {es : List (Int × Int)} {a b : Int} (h : Cn es a b) : Cn es b a := by
  induction h with
  | refl => exact .refl _
  | fwd _ he ih => exact (Cn.eit he).trans ih
  | bwd _ he ih => exact (Cn.tie he).trans ih
theorem Cn.map {es es' : List (Int × Int)} {g : Int → Int} (hg : ∀ e ∈ es, Cn es' (g e.1) (g e.2)) {a b : Int} (h : Cn es a b) : Cn es' (g a) (g b) := by
  induction h with
  | refl => exact .refl _
  | fwd _ he ih => exact ih.trans (hg _ he)
  | bwd _ he ih => exact ih.trans (hg _ he).symm
theorem Cn.mono {es es' : List (Int × Int)} (hs : ∀ e ∈ es, e ∈ es') {a b : Int} (h : Cn es a b) : Cn es' a b := Cn.map (g := id) (fun e he => Cn.tie (hs e he)) h
structure Lab (n : Int) (es : List (Int × Int)) (f : Int → Int) : Prop where
  conn : ∀ p, 0 ≤ p → p < n → Cn es p (f p)
  same : ∀ e ∈ es, f e.1 = f e.2
  low : ∀ p, 0 ≤ p → p < n → 0 ≤ f p ∧ f p ≤ p
theorem lab_cn {es : List (Int × Int)} {f : Int → Int} (h : ∀ e ∈ es, f e.1 = f e.2) {a b : Int} (c : Cn es a b) : f a = f b := by
  induction c with
  | refl => rfl
  | fwd _ he ih => rw [ih, h _ he]
  | bwd _ he ih => rw [ih, ← h _ he]
theorem Lab.le {n : Int} {es : List (Int × Int)} {f g : Int → Int} (F : Lab n es f) (G : Lab n es g) {p : Int} (p0 : 0 ≤ p) (p1 : p < n) : g p ≤ f p := by
  have l := F.low p p0 p1
  have e := lab_cn G.same (F.conn p p0 p1)
  have := G.low (f p) l.1 (by omega)
  omega
theorem Lab.uniq {n : Int} {es : List (Int × Int)} {f g : Int → Int} (F : Lab n es f) (G : Lab n es g) {p : Int} (p0 : 0 ≤ p) (p1 : p < n) : f p = g p := Int.le_antisymm (G.le F p0 p1) (F.le G p0 p1)
theorem Lab.idem {n : Int} {es : List (Int × Int)} {f : Int → Int} (F : Lab n es f) {p : Int} (p0 : 0 ≤ p) (p1 : p < n) : f (f p) = f p := (lab_cn F.same (F.conn p p0 p1)).symm
theorem Lab.iff {n : Int} {es : List (Int × Int)} {f : Int → Int} (F : Lab n es f) {p q : Int} (p0 : 0 ≤ p) (p1 : p < n) (q0 : 0 ≤ q) (q1 : q < n) : f p = f q ↔ Cn es p q :=
  ⟨fun e => (F.conn p p0 p1).trans (by rw [e]; exact (F.conn q q0 q1).symm), fun c => lab_cn F.same c⟩
theorem Lab.nil (n : Int) : Lab n [] (fun p => p) := ⟨fun p _ _ => .refl p, fun e he => (nomatch he), fun p h _ => ⟨h, Int.le_refl _⟩⟩
theorem Lab.congr {n : Int} {es : List (Int × Int)} {f g : Int → Int} (F : Lab n es f) (hE : ∀ e ∈ es, 0 ≤ e.1 ∧ e.1 < n ∧ 0 ≤ e.2 ∧ e.2 < n) (h : ∀ p, 0 ≤ p → p < n → f p = g p) : Lab n es g :=
  ⟨fun p p0 p1 => by rw [← h p p0 p1]; exact F.conn p p0 p1, fun e he => by
    have := hE e he
    rw [← h _ this.1 this.2.1, ← h _ this.2.2.1 this.2.2.2]; exact F.same e he, fun p p0 p1 => by rw [← h p p0 p1]; exact F.low p p0 p1⟩
def mrg (f : Int → Int) (e : Int × Int) (p : Int) : Int := if f p = max (f e.1) (f e.2) then min (f e.1) (f e.2) else f p
theorem Lab.merge {n : Int} {es : List (Int × Int)} {f : Int → Int} {e : Int × Int} (F : Lab n es f) (b : 0 ≤ e.1 ∧ e.1 < n ∧ 0 ≤ e.2 ∧ e.2 < n) : Lab n (es ++ [e]) (mrg f e) := by
  have l1 := F.low e.1 b.1 b.2.1
  have l2 := F.low e.2 b.2.2.1 b.2.2.2
  have up : ∀ {x y : Int}, Cn es x y → Cn (es ++ [e]) x y := fun c => c.mono fun a ha => List.mem_append_left _ ha
  have me : e ∈ es ++ [e] := List.mem_append_right _ (List.mem_singleton.mpr rfl)
  have c1 : Cn (es ++ [e]) (f e.1) (f e.2) := (up (F.conn e.1 b.1 b.2.1)).symm.trans ((Cn.tie me).trans (up (F.conn e.2 b.2.2.1 b.2.2.2)))
  refine ⟨fun p p0 p1 => ?_, fun a ha => ?_, fun p p0 p1 => ?_⟩
  · have cp := up (F.conn p p0 p1)
    unfold mrg
    by_cases h : f p = max (f e.1) (f e.2)
    · rw [if_pos h]
      rw [h] at cp
      by_cases g : f e.1 ≤ f e.2
      · rw [Int.max_eq_right g] at cp; rw [Int.min_eq_left g]; exact cp.trans c1.symm
      · rw [Int.max_eq_left (by omega)] at cp; rw [Int.min_eq_right (by omega)]; exact cp.trans c1
    · rw [if_neg h]; exact cp
  · rcases List.mem_append.mp ha with y | y
    · unfold mrg; rw [F.same a y]
    · have ea : a = e := List.mem_singleton.mp y
      subst ea
      unfold mrg
      have h1 : f a.1 ≤ f a.2 ∨ f a.2 < f a.1 := by omega
      rcases h1 with g | g
      · rw [Int.max_eq_right g, Int.min_eq_left g, if_pos rfl]; split <;> omega
      · rw [Int.max_eq_left (by omega), Int.min_eq_right (by omega), if_pos rfl]; split <;> omega
  · have := F.low p p0 p1
    unfold mrg
    by_cases h : f p = max (f e.1) (f e.2)
    · rw [if_pos h]; omega
    · rw [if_neg h]; exact this
def rts (n : Nat) (f : Int → Int) : List Int := ((List.range n).filter fun (m : Nat) => decide (f (m : Int) = (m : Int))).map fun (m : Nat) => (m : Int)
def grp (n : Nat) (f : Int → Int) (r : Int) : List Int := ((List.range n).filter fun (p : Nat) => decide (f (p : Int) = r)).map fun (p : Nat) => (p : Int)
def pcs (n : Nat) (f : Int → Int) : List (List Int) := (rts n f).map (grp n f)
theorem rts_succ (n : Nat) (f : Int → Int) : rts (n + 1) f = rts n f ++ (if f n = n then [(n : Int)] else []) := by
  unfold rts
  rw [List.range_succ, List.filter_append, List.map_append]
  by_cases h : f n = n
  · rw [if_pos h, List.filter_cons_of_pos (by rw [decide_eq_true h])]; rfl
  · rw [if_neg h, List.filter_cons_of_neg (by rw [decide_eq_false h]; decide)]; rfl
theorem grp_succ (n : Nat) (f : Int → Int) (r : Int) : grp (n + 1) f r = grp n f r ++ (if f n = r then [(n : Int)] else []) := by
  unfold grp
  rw [List.range_succ, List.filter_append, List.map_append]
  by_cases h : f n = r
  · rw [if_pos h, List.filter_cons_of_pos (by rw [decide_eq_true h])]; rfl
  · rw [if_neg h, List.filter_cons_of_neg (by rw [decide_eq_false h]; decide)]; rfl
theorem mem_rts {n : Nat} {f : Int → Int} {r : Int} : r ∈ rts n f ↔ 0 ≤ r ∧ r < n ∧ f r = r := by
  unfold rts
  rw [List.mem_map]
  constructor
  · rintro ⟨m, hm, rfl⟩
    rw [List.mem_filter, List.mem_range, decide_eq_true_eq] at hm
    exact ⟨by omega, by omega, hm.2⟩
  · rintro ⟨h0, h1, h2⟩
    refine ⟨r.toNat, ?_, by omega⟩
    rw [List.mem_filter, List.mem_range, decide_eq_true_eq]
    have e : ((r.toNat : Nat) : Int) = r := by omega
    rw [e]; exact ⟨by omega, h2⟩
theorem mem_grp {n : Nat} {f : Int → Int} {r p : Int} : p ∈ grp n f r ↔ 0 ≤ p ∧ p < n ∧ f p = r := by
  unfold grp
  rw [List.mem_map]
  constructor
  · rintro ⟨m, hm, rfl⟩
    rw [List.mem_filter, List.mem_range, decide_eq_true_eq] at hm
    exact ⟨by omega, by omega, hm.2⟩
  · rintro ⟨h0, h1, h2⟩
    refine ⟨p.toNat, ?_, by omega⟩
    rw [List.mem_filter, List.mem_range, decide_eq_true_eq]
    have e : ((p.toNat : Nat) : Int) = p := by omega
    rw [e]; exact ⟨by omega, h2⟩
theorem rts_len (n : Nat) (f : Int → Int) : (rts n f).length ≤ n := by
  unfold rts
  rw [List.length_map]
  exact Nat.le_trans (List.length_filter_le _ _) (by rw [List.length_range]; exact Nat.le_refl _)
theorem grp_len (n : Nat) (f : Int → Int) (r : Int) : (grp n f r).length ≤ n := by
  unfold grp
  rw [List.length_map]
  exact Nat.le_trans (List.length_filter_le _ _) (by rw [List.length_range]; exact Nat.le_refl _)
theorem rts_congr {n : Nat} {f g : Int → Int} (h : ∀ p : Int, 0 ≤ p → p < n → f p = g p) : rts n f = rts n g := by
  unfold rts
  congr 1
  refine List.filter_congr fun m hm => ?_
  rw [List.mem_range] at hm
  rw [h m (by omega) (by omega)]
theorem grp_congr {n : Nat} {f g : Int → Int} (r : Int) (h : ∀ p : Int, 0 ≤ p → p < n → f p = g p) : grp n f r = grp n g r := by
  unfold grp
  congr 1
  refine List.filter_congr fun m hm => ?_
  rw [List.mem_range] at hm
  rw [h m (by omega) (by omega)]
theorem pcs_congr {n : Nat} {f g : Int → Int} (h : ∀ p : Int, 0 ≤ p → p < n → f p = g p) : pcs n f = pcs n g := by
  unfold pcs
  rw [rts_congr h]
  exact List.map_congr_left fun r _ => grp_congr r h
end L2
namespace L2
open PySem
theorem nodup_sub {α : Type} [DecidableEq α] : ∀ {l l' : List α}, l.Nodup → (∀ a ∈ l, a ∈ l') → l.length ≤ l'.length
  | [], _, _, _ => Nat.zero_le _
  | a :: l, l', h, s => by
    rw [List.nodup_cons] at h
    have ha := s a List.mem_cons_self
    have := nodup_sub (l := l) (l' := l'.erase a) h.2 fun b hb => (List.mem_erase_of_ne (fun (z : b = a) => h.1 (z ▸ hb))).mpr (s b (List.mem_cons_of_mem _ hb))
    rw [List.length_erase_of_mem ha] at this
    have : 0 < l'.length := List.length_pos_of_mem ha
    rw [List.length_cons]; omega
theorem nodup_len {rs : List Int} {m : Int} (h : rs.Nodup) (b : ∀ p ∈ rs, 0 ≤ p ∧ p < m) : rs.length ≤ m.toNat := by
  have := nodup_sub (l' := (List.range m.toNat).map fun (i : Nat) => (i : Int)) h fun p hp => by
    have := b p hp
    exact List.mem_map.mpr ⟨p.toNat, List.mem_range.mpr (by omega), by omega⟩
  rwa [List.length_map, List.length_range] at this
theorem nodup_snoc {α : Type} {l : List α} {a : α} (h : l.Nodup) (n : ¬ a ∈ l) : (l ++ [a]).Nodup := by
  rw [List.nodup_append]
  refine ⟨h, by simp, fun x hx y hy e => ?_⟩
  rw [List.mem_singleton.mp hy] at e
  exact n (e ▸ hx)
def atP (p : Int) (e : Int × Int) : Bool := e.1 == p || e.2 == p
theorem inV_at (p a b : Int) : inV (.int p) [.int a, .int b] = atP p (a, b) := by
  have := inV_ints p [a, b]
  rw [show [V.int a, V.int b] = [a, b].map V.int from rfl, this]
  simp [atP]
theorem atP_iff {p : Int} {e : Int × Int} : atP p e = true ↔ e.1 = p ∨ e.2 = p := by
  unfold atP
  rw [Bool.or_eq_true, beq_iff_eq, beq_iff_eq]
def far (e : Int × Int) (p : Int) : Int := if e.1 = p then e.2 else e.1
def tieOf (es : List (Int × Int)) (t : Int) : Int × Int := es.getD t.toNat (0, 0)
def sub (es : List (Int × Int)) (ss : List Int) : List (Int × Int) := ss.map (tieOf es)
theorem far_end (e : Int × Int) {p : Int} (hp : e.1 = p ∨ e.2 = p) : e.1 = far e p ∨ e.2 = far e p := by
  unfold far
  by_cases c : e.1 = p
  · rw [if_pos c]; exact .inr rfl
  · rw [if_neg c]; exact .inl rfl
inductive Way (es : List (Int × Int)) (ss : List Int) (a : Int) : List Int → List Int → Int → Prop
  | nil : Way es ss a [] [] a
  | snoc {ts ps : List Int} {p t : Int} : Way es ss a ts ps p → t ∈ ss → 0 ≤ t → t < (es.length : Int) → ((tieOf es t).1 = p ∨ (tieOf es t).2 = p) → ¬ far (tieOf es t) p ∈ ps ++ [p] → Way es ss a (ts ++ [t]) (ps ++ [p]) (far (tieOf es t) p)
theorem Way.nd {es : List (Int × Int)} {ss ts ps : List Int} {a p : Int} (h : Way es ss a ts ps p) : (ps ++ [p]).Nodup := by
  induction h with
  | nil => simp
  | snoc _ _ _ _ _ hn ih => exact nodup_snoc ih hn
theorem Way.len {es : List (Int × Int)} {ss ts ps : List Int} {a p : Int} (h : Way es ss a ts ps p) : ts.length = ps.length := by
  induction h with
  | nil => rfl
  | snoc _ _ _ _ _ _ ih => rw [List.length_append, List.length_append, ih]; rfl
theorem Way.ends {es : List (Int × Int)} {ss ts ps : List Int} {a p : Int} (h : Way es ss a ts ps p) : ∀ t ∈ ts, (tieOf es t).1 ∈ ps ++ [p] ∧ (tieOf es t).2 ∈ ps ++ [p] := by
  induction h with
  | nil => exact fun t ht => nomatch ht
  | @snoc ts ps p t _ _ _ _ hp _ ih =>
    intro t' ht'
    rcases List.mem_append.mp ht' with y | y
    · exact ⟨List.mem_append_left _ (ih t' y).1, List.mem_append_left _ (ih t' y).2⟩
    · rw [List.mem_singleton.mp y]
      have mp : p ∈ (ps ++ [p]) ++ [far (tieOf es t) p] := List.mem_append_left _ (List.mem_append_right _ (List.mem_singleton.mpr rfl))
      have mf : far (tieOf es t) p ∈ (ps ++ [p]) ++ [far (tieOf es t) p] := List.mem_append_right _ (List.mem_singleton.mpr rfl)
      by_cases c : (tieOf es t).1 = p
      · have e2 : far (tieOf es t) p = (tieOf es t).2 := if_pos c
        rw [c]; exact ⟨mp, by rw [← e2]; exact mf⟩
      · have e1 : far (tieOf es t) p = (tieOf es t).1 := if_neg c
        have e2 : (tieOf es t).2 = p := hp.resolve_left c
        rw [e2]; exact ⟨by rw [← e1]; exact mf, mp⟩
theorem Way.fresh {es : List (Int × Int)} {ss ts ps : List Int} {a p t : Int} (h : Way es ss a ts ps p) (hp : (tieOf es t).1 = p ∨ (tieOf es t).2 = p) (hn : ¬ far (tieOf es t) p ∈ ps ++ [p]) : ¬ t ∈ ts := fun ht => by
  have := h.ends t ht
  rcases far_end (tieOf es t) hp with y | y
  · exact hn (y ▸ this.1)
  · exact hn (y ▸ this.2)
theorem Way.tnd {es : List (Int × Int)} {ss ts ps : List Int} {a p : Int} (h : Way es ss a ts ps p) : ts.Nodup := by
  induction h with
  | nil => simp
  | snoc h _ _ _ hp hn ih => exact nodup_snoc ih (h.fresh hp hn)
theorem Way.sub {es : List (Int × Int)} {ss ts ps : List Int} {a p : Int} (h : Way es ss a ts ps p) : ∀ t ∈ ts, t ∈ ss ∧ 0 ≤ t ∧ t < (es.length : Int) := by
  induction h with
  | nil => exact fun t ht => nomatch ht
  | snoc _ h1 h2 h3 _ _ ih =>
    intro t' ht'
    rcases List.mem_append.mp ht' with y | y
    · exact ih t' y
    · rw [List.mem_singleton.mp y]; exact ⟨h1, h2, h3⟩
theorem valV_key (ad : Int → Addr) (k : Int) : ∀ R : List Int, valV (R.map fun r => ((Sum.inl r : Key), V.ref (ad r))) (Sum.inl k) = if k ∈ R then some (V.ref (ad k)) else none
  | [] => rfl
  | r :: R => by
    rw [List.map_cons]
    by_cases e : r = k
    · subst e
      rw [valV_pos rfl, if_pos List.mem_cons_self]
    · rw [valV_neg (fun z => e (Sum.inl.inj z)), valV_key ad k R]
      by_cases h : k ∈ R
      · rw [if_pos h, if_pos (List.mem_cons_of_mem _ h)]
      · rw [if_neg h, if_neg (fun z => (List.mem_cons.mp z).elim (fun y => e y.symm) h)]
theorem cn_closed {es : List (Int × Int)} {R : List Int} {a b : Int} (ha : a ∈ R) (hc : ∀ e ∈ es, ∀ p ∈ R, (e.1 = p ∨ e.2 = p) → far e p ∈ R) (h : Cn es a b) : b ∈ R := by
  induction h with
  | refl => exact ha
  | fwd _ he ih => have := hc _ he _ ih (.inl rfl); rwa [show far _ _ = _ from if_pos rfl] at this
  | @bwd e _ he ih =>
    have := hc _ he _ ih (.inr rfl)
    unfold far at this
    by_cases c : e.1 = e.2
    · rw [if_pos c] at this; rw [c]; exact this
    · rwa [if_neg c] at this
end L2
namespace L2
structure Nam (n : Int) (es : List (Int × Int)) (f : Int → Int) : Prop where
  conn : ∀ p, 0 ≤ p → p < n → Cn es p (f p)
  same : ∀ e ∈ es, f e.1 = f e.2
  rng : ∀ p, 0 ≤ p → p < n → 0 ≤ f p ∧ f p < n
theorem Nam.iff {n : Int} {es : List (Int × Int)} {f : Int → Int} (F : Nam n es f) {p q : Int} (p0 : 0 ≤ p) (p1 : p < n) (q0 : 0 ≤ q) (q1 : q < n) : f p = f q ↔ Cn es p q :=
  ⟨fun e => (F.conn p p0 p1).trans (by rw [e]; exact (F.conn q q0 q1).symm), fun c => lab_cn F.same c⟩
theorem Nam.nil (n : Int) : Nam n [] (fun p => p) := ⟨fun p _ _ => .refl p, fun e he => (nomatch he), fun p h h' => ⟨h, h'⟩⟩
theorem Nam.congr {n : Int} {es : List (Int × Int)} {f g : Int → Int} (F : Nam n es f) (hE : ∀ e ∈ es, 0 ≤ e.1 ∧ e.1 < n ∧ 0 ≤ e.2 ∧ e.2 < n) (h : ∀ p, 0 ≤ p → p < n → f p = g p) : Nam n es g :=
  ⟨fun p p0 p1 => by rw [← h p p0 p1]; exact F.conn p p0 p1, fun e he => by
    have := hE e he
    rw [← h _ this.1 this.2.1, ← h _ this.2.2.1 this.2.2.2]; exact F.same e he, fun p p0 p1 => by rw [← h p p0 p1]; exact F.rng p p0 p1⟩
theorem Nam.put {n : Int} {es : List (Int × Int)} {f : Int → Int} {e : Int × Int} (F : Nam n es f) (b : 0 ≤ e.1 ∧ e.1 < n ∧ 0 ≤ e.2 ∧ e.2 < n) : Nam n (es ++ [e]) (fun p => if f p = f e.2 then f e.1 else f p) := by
  have up : ∀ {x y : Int}, Cn es x y → Cn (es ++ [e]) x y := fun c => c.mono fun a ha => List.mem_append_left _ ha
  have me : e ∈ es ++ [e] := List.mem_append_right _ (List.mem_singleton.mpr rfl)
  refine ⟨fun p p0 p1 => ?_, fun a ha => ?_, fun p p0 p1 => ?_⟩
  · have cp := up (F.conn p p0 p1)
    by_cases h : f p = f e.2
    · try dsimp only
      rw [if_pos h]
      rw [h] at cp
      exact cp.trans ((up (F.conn e.2 b.2.2.1 b.2.2.2)).symm.trans ((Cn.eit me).trans (up (F.conn e.1 b.1 b.2.1))))
    · try dsimp only
      rw [if_neg h]; exact cp
  · rcases List.mem_append.mp ha with y | y
    · try dsimp only
      rw [F.same a y]
    · have ea : a = e := List.mem_singleton.mp y
      subst ea
      try dsimp only
      rw [if_pos rfl]; split
      · rfl
      · rfl
  · try dsimp only
    split
    · exact F.rng _ b.1 b.2.1
    · exact F.rng p p0 p1
theorem Nam.skip {n : Int} {es : List (Int × Int)} {f : Int → Int} {e : Int × Int} (F : Nam n es f) (h : f e.1 = f e.2) : Nam n (es ++ [e]) f :=
  ⟨fun p p0 p1 => (F.conn p p0 p1).mono fun a ha => List.mem_append_left _ ha, fun a ha => by
    rcases List.mem_append.mp ha with y | y
    · exact F.same a y
    · rw [List.mem_singleton.mp y]; exact h, F.rng⟩
theorem Lab.skip {n : Int} {es : List (Int × Int)} {f : Int → Int} {e : Int × Int} (F : Lab n es f) (h : f e.1 = f e.2) : Lab n (es ++ [e]) f :=
  ⟨fun p p0 p1 => (F.conn p p0 p1).mono fun a ha => List.mem_append_left _ ha, fun a ha => by
    rcases List.mem_append.mp ha with y | y
    · exact F.same a y
    · rw [List.mem_singleton.mp y]; exact h, F.low⟩
noncomputable def inF (es : List (Int × Int)) (i : Nat) : Bool := @decide (¬ Cn (es.take i) (es.getD i (0, 0)).1 (es.getD i (0, 0)).2) (Classical.propDecidable _)
theorem inF_iff {es : List (Int × Int)} {i : Nat} : inF es i = true ↔ ¬ Cn (es.take i) (es.getD i (0, 0)).1 (es.getD i (0, 0)).2 := by
  unfold inF; exact @decide_eq_true_iff _ (Classical.propDecidable _)
noncomputable def frN (es : List (Int × Int)) (n : Nat) : List Int := ((List.range n).filter fun i => inF es i).map fun (i : Nat) => (i : Int)
noncomputable def frst (es : List (Int × Int)) : List Int := frN es es.length
theorem frN_succ (es : List (Int × Int)) (n : Nat) : frN es (n + 1) = frN es n ++ (if inF es n = true then [(n : Int)] else []) := by
  unfold frN
  rw [List.range_succ, List.filter_append, List.map_append]
  by_cases h : inF es n = true
  · rw [if_pos h, List.filter_cons_of_pos h]; rfl
  · rw [if_neg h, List.filter_cons_of_neg h]; rfl
theorem mem_frN {es : List (Int × Int)} {n : Nat} {t : Int} : t ∈ frN es n ↔ 0 ≤ t ∧ t < n ∧ inF es t.toNat = true := by
  unfold frN
  rw [List.mem_map]
  constructor
  · rintro ⟨m, hm, rfl⟩
    rw [List.mem_filter, List.mem_range] at hm
    exact ⟨by omega, by omega, hm.2⟩
  · rintro ⟨h0, h1, h2⟩
    exact ⟨t.toNat, List.mem_filter.mpr ⟨List.mem_range.mpr (by omega), h2⟩, by omega⟩
theorem frN_len (es : List (Int × Int)) (n : Nat) : (frN es n).length ≤ n := by
  unfold frN
  rw [List.length_map]
  exact Nat.le_trans (List.length_filter_le _ _) (by rw [List.length_range]; exact Nat.le_refl _)
def upto (n : Nat) : List Int := (List.range n).map fun (i : Nat) => (i : Int)
def oth (n : Nat) (t : Int) : List Int := (upto n).filter fun z => decide (z ≠ t)
theorem upto_succ (n : Nat) : upto (n + 1) = upto n ++ [(n : Int)] := by unfold upto; rw [List.range_succ, List.map_append]; rfl
theorem upto_len (n : Nat) : (upto n).length = n := by unfold upto; rw [List.length_map, List.length_range]
theorem upto_get {n i : Nat} (h : i < n) : (upto n)[i]? = some (i : Int) := by unfold upto; rw [List.getElem?_map, List.getElem?_range h]; rfl
theorem mem_upto {n : Nat} {t : Int} : t ∈ upto n ↔ 0 ≤ t ∧ t < n := by
  unfold upto
  rw [List.mem_map]
  constructor
  · rintro ⟨m, hm, rfl⟩
    rw [List.mem_range] at hm
    omega
  · rintro ⟨h0, h1⟩
    exact ⟨t.toNat, List.mem_range.mpr (by omega), by omega⟩
noncomputable def fre (es : List (Int × Int)) : List Int := (upto es.length).filter fun z => !((frst es).any (· == z))
end L2
namespace L2
open PySem PySem.Spec PyProof.Rows
theorem Vals.intsAre : ∀ {ns : List Int} {us : List Value}, Vals (ns.map V.int) us → IntsAre us ns
  | [], _, .nil => .nil
  | _ :: _, _, .cons r t => by obtain ⟨k, rfl⟩ := r; exact .cons _ _ (Vals.intsAre t)
theorem IntsAre.vals : ∀ {ns : List Int} {us : List Value}, IntsAre us ns → Vals (ns.map V.int) us
  | _, _, .nil => .nil
  | _, _, .cons _ _ t => .cons ⟨_, rfl⟩ (IntsAre.vals t)
section
variable {X : Cx} {K : PySem.W.Frag}
theorem cSorted (hK : X.K = K) : CallR X (.builtin "sorted") (fun xs H Q => ∃ (p : Addr) (ns : List Int), xs = [.ref p] ∧ SqL K H p (ns.map V.int) ∧ ns.length < 64 ∧ ∀ (l : Addr) (ns' : List Int), H l = none → ns'.Perm ns → ns'.Pairwise (· ≤ ·) → Q (.ref l) (upd H l (.lst (ns'.map V.int)))) := by
  subst hK
  intro pins s σ H xs us Q I r h
  obtain ⟨p, ns, rfl, hq, hz, q⟩ := h
  obtain ⟨u, rfl, rx⟩ := vals1 r
  cases rx
  obtain ⟨its, rv, pl, hzz⟩ := I.list hq
  have hlen := rv.length
  rw [List.length_map] at hlen
  refine sorted_ints pl.isList (Vals.intsAre rv) (by omega) fun out ns' a1 a2 a3 => ?_
  obtain ⟨e, he⟩ := sortedAll_at s.heap its out
  have hl' := a2.length_eq
  exact ⟨.ref _, _, I.laid (t' := s.toks) (fun _ _ => sortedAll_old) (Nat.le_succ _) (show ObjOk X.prog X.w _ (sortedAll s.heap its out) _ (.lst (ns'.map V.int)) from ⟨by rw [List.length_map]; exact Nat.le_of_lt (small1000 (by omega)), out.toList, e, IntsAre.vals a1, he⟩), rfl, q _ ns' (I.hok.fresh (Nat.le_succ _)) a2 a3⟩
end
theorem sorted_uniq : ∀ {a b : List Int}, a.Perm b → a.Pairwise (· ≤ ·) → b.Pairwise (· ≤ ·) → a = b := fun h ha hb => h.eq_of_pairwise (le := (· ≤ ·)) (fun _ _ _ _ x y => Int.le_antisymm x y) ha hb
end L2
namespace L2
open PySem PySem.Spec PyProof.Rows
def lf (ls : List Int) (p : Int) : Int := ls.getD p.toNat 0
theorem lf_range (n : Nat) (p : Int) (p0 : 0 ≤ p) (p1 : p < n) : lf ((List.range n).map fun i => 0 + ((i : Nat) : Int)) p = p := by
  unfold lf
  rw [List.getD_eq_getElem?_getD, List.getElem?_map, List.getElem?_range (by omega)]
  show 0 + ((p.toNat : Nat) : Int) = p
  omega
theorem lf_map (ls : List Int) (g : Int → Int) (p : Int) (p0 : 0 ≤ p) (p1 : p < ls.length) : lf (ls.map g) p = g (lf ls p) := by
  unfold lf
  rw [List.getD_eq_getElem?_getD, List.getElem?_map, List.getD_eq_getElem?_getD, List.getElem?_eq_getElem (show p.toNat < ls.length by omega)]; rfl
theorem none_back {H0 H' : Hp} {l : Addr} (s : Same H0 H') (n : H' l = none) : H0 l = none := by
  cases e : H0 l with
  | none => rfl
  | some o => have := s _ _ e; rw [n] at this; cases this
theorem tie_get {K : PySem.W.Frag} {H : Hp} {ys : List V} {es : List (Int × Int)} {t : Int} (hp : Pairs K H ys es) (h0 : 0 ≤ t) (h1 : t < (es.length : Int)) : ∃ r, atI ys t = some (.ref r) ∧ SqT K H r [.int (tieOf es t).1, .int (tieOf es t).2] ∧ tieOf es t ∈ es := by
  have hi : t.toNat < es.length := by omega
  obtain ⟨r, e, er, hr, ei, he⟩ := hp.get hi
  have e0 : tieOf es t = e := by unfold tieOf; rw [List.getD_eq_getElem?_getD, ei]; rfl
  rw [e0]
  exact ⟨r, atI_int h0 er, hr, he⟩
theorem Nam.start (n : Nat) (m : Int) (h : m.toNat = n) : Nam m [] (lf ((List.range n).map fun i => 0 + ((i : Nat) : Int))) := (Nam.nil m).congr (fun e he => (nomatch he)) fun p p0 p1 => (lf_range n p p0 (by omega)).symm
def dT (es : List (Int × Int)) : PyData := .tuple (es.map dP)
end L2
namespace L2
open PySem
def dp (p : Int) (es : List (Int × Int)) (fs : List Int) : Nat → Int
  | 0 => 0
  | i + 1 => dp p es fs i + (if (es.getD i (0, 0)).2 = p then fs.getD i 0 else 0) - (if (es.getD i (0, 0)).1 = p then fs.getD i 0 else 0)
theorem dp_step {es : List (Int × Int)} {fs zs : List Int} {n i : Nat} {e : Int × Int} (hz : zs.length = n) (hi : es[i]? = some e) (b1 : 0 ≤ e.1) (b2 : e.1 < (n : Int)) (b3 : 0 ≤ e.2) (b4 : e.2 < (n : Int)) (h : ∀ p : Nat, p < n → zs.getD p 0 = dp p es fs i) (p : Nat) (hp : p < n) :
    ((zs.set e.1.toNat (zs.getD e.1.toNat 0 - fs.getD i 0)).set e.2.toNat ((zs.set e.1.toNat (zs.getD e.1.toNat 0 - fs.getD i 0)).getD e.2.toNat 0 + fs.getD i 0)).getD p 0 = dp p es fs (i + 1) := by
  have hE : es.getD i (0, 0) = e := by rw [List.getD_eq_getElem?_getD, hi]; rfl
  have h0 := h p hp
  rw [getD_set (by rw [List.length_set]; omega), getD_set (by omega), getD_set (by omega)]
  show _ = dp p es fs i + _ - _
  rw [hE, ← h0]
  generalize fs.getD i 0 = a
  have t1 : e.1.toNat = p ↔ e.1 = (p : Int) := by omega
  have t2 : e.2.toNat = p ↔ e.2 = (p : Int) := by omega
  by_cases c2 : e.2 = (p : Int)
  · rw [if_pos (t2.mpr c2), if_pos c2, t2.mpr c2]
    by_cases c1 : e.1 = (p : Int)
    · rw [if_pos (t1.mpr c1), if_pos c1, t1.mpr c1]; omega
    · rw [if_neg (fun z => c1 (t1.mp z)), if_neg c1]; omega
  · rw [if_neg (fun z => c2 (t2.mp z)), if_neg c2]
    by_cases c1 : e.1 = (p : Int)
    · rw [if_pos (t1.mpr c1), if_pos c1, t1.mpr c1]; omega
    · rw [if_neg (fun z => c1 (t1.mp z)), if_neg c1]; omega
def memI (ps : List Int) (z : Int) : Bool := ps.any (· == z)
def ac (ps : List Int) (es : List (Int × Int)) (fs : List Int) : Nat → Int
  | 0 => 0
  | i + 1 => ac ps es fs i + (if (memI ps (es.getD i (0, 0)).1 && !memI ps (es.getD i (0, 0)).2) = true then fs.getD i 0 else 0) - (if (memI ps (es.getD i (0, 0)).2 && !memI ps (es.getD i (0, 0)).1) = true then fs.getD i 0 else 0)
theorem getD_zip (fs gs : List Int) (h : fs.length = gs.length) (n : Nat) : (List.zipWith (· + ·) fs gs).getD n 0 = fs.getD n 0 + gs.getD n 0 := by
  rw [List.getD_eq_getElem?_getD, List.getElem?_zipWith, List.getD_eq_getElem?_getD, List.getD_eq_getElem?_getD]
  by_cases hn : n < fs.length
  · rw [List.getElem?_eq_getElem hn, List.getElem?_eq_getElem (show n < gs.length by omega)]; rfl
  · rw [List.getElem?_eq_none (by omega), List.getElem?_eq_none (show gs.length ≤ n by omega)]; rfl
theorem dp_zip (p : Int) (es : List (Int × Int)) (fs gs : List Int) (h : fs.length = gs.length) : ∀ n, dp p es (List.zipWith (· + ·) fs gs) n = dp p es fs n + dp p es gs n
  | 0 => rfl
  | n + 1 => by
    show dp p es (List.zipWith (· + ·) fs gs) n + _ - _ = (dp p es fs n + _ - _) + (dp p es gs n + _ - _)
    rw [dp_zip p es fs gs h n, getD_zip fs gs h]
    by_cases c1 : (es.getD n (0, 0)).2 = p <;> by_cases c2 : (es.getD n (0, 0)).1 = p <;> simp only [c1, c2, if_true, if_false] <;> omega
theorem getDi_set (fs : List Int) (i n : Nat) (v : Int) (h : i < fs.length) : (fs.set i v).getD n 0 = if i = n then v else fs.getD n 0 := by
  rw [List.getD_eq_getElem?_getD, List.getElem?_set, List.getD_eq_getElem?_getD]
  by_cases c : i = n
  · rw [if_pos c, if_pos c, if_pos h]; rfl
  · rw [if_neg c, if_neg c]
theorem dp_set (p : Int) (es : List (Int × Int)) (fs : List Int) (k : Nat) (v : Int) (hk : k < fs.length) : ∀ n, dp p es (fs.set k v) n = dp p es fs n + (if k < n then (if (es.getD k (0, 0)).2 = p then v - fs.getD k 0 else 0) - (if (es.getD k (0, 0)).1 = p then v - fs.getD k 0 else 0) else 0)
  | 0 => by show (0 : Int) = 0 + _; rw [if_neg (Nat.not_lt_zero _)]; rfl
  | n + 1 => by
    show dp p es (fs.set k v) n + _ - _ = dp p es fs n + _ - _ + _
    rw [dp_set p es fs k v hk n, getDi_set fs k n v hk]
    by_cases c : k = n
    · subst c
      rw [if_neg (Nat.lt_irrefl _), if_pos rfl, if_pos (Nat.lt_succ_self _)]
      by_cases c1 : (es.getD k (0, 0)).2 = p <;> by_cases c2 : (es.getD k (0, 0)).1 = p <;> simp only [c1, c2, if_true, if_false] <;> omega
    · rw [if_neg c]
      by_cases c3 : k < n
      · rw [if_pos c3, if_pos (show k < n + 1 by omega)]; omega
      · rw [if_neg c3, if_neg (show ¬ k < n + 1 by omega)]; omega
theorem dp_nil (p : Int) (es : List (Int × Int)) (k : Nat) : ∀ n, dp p es (List.replicate k 0) n = 0
  | 0 => rfl
  | n + 1 => by
    show dp p es (List.replicate k 0) n + _ - _ = 0
    have e : (List.replicate k (0 : Int)).getD n 0 = 0 := by
      rw [List.getD_eq_getElem?_getD, List.getElem?_replicate]; split <;> rfl
    rw [dp_nil p es k n, e]; simp
theorem frst_cn (es : List (Int × Int)) : ∀ n, n ≤ es.length → ∀ {a b : Int}, Cn (es.take n) a b → Cn (sub es (frN es n)) a b
  | 0, _, _, _, h => h.mono fun e he => (by simp at he)
  | n + 1, hn, a, b, h => by
    have ih : ∀ {a b : Int}, Cn (es.take n) a b → Cn (sub es (frN es (n + 1))) a b := fun h => (frst_cn es n (by omega) h).mono fun e he => by
      rw [frN_succ]; unfold sub at *; rw [List.map_append]; exact List.mem_append_left _ he
    have hg : es[n]? = some (es.getD n (0, 0)) := by rw [List.getD_eq_getElem?_getD, List.getElem?_eq_getElem (show n < es.length by omega)]; rfl
    refine Cn.map (g := id) (fun e he => ?_) h
    rw [List.take_add_one, hg] at he
    rcases List.mem_append.mp he with y | y
    · exact ih (Cn.tie y)
    · have ee : e = es.getD n (0, 0) := by simpa using y
      subst ee
      by_cases c : inF es n = true
      · refine Cn.tie ?_
        rw [frN_succ, if_pos c]
        unfold sub
        rw [List.map_append]
        exact List.mem_append_right _ (List.mem_singleton.mpr rfl)
      · exact ih (Classical.byContradiction fun z => c (inF_iff.mpr z))
end L2
namespace L2
open PySem PySem.Spec PyProof.Rows
section
variable {X : Cx}
end
end L2
namespace L2
open PySem PySem.Spec PyProof.Rows
section
variable {X : Cx}
end
end L2
namespace L2
theorem filter_one {α : Type} {P : α → Bool} {t : α} : ∀ {L : List α}, L.Nodup → t ∈ L → (∀ s ∈ L, P s = true ↔ s = t) → L.filter P = [t]
  | [], _, h, _ => nomatch h
  | s :: L, hn, hm, hp => by
    rw [List.nodup_cons] at hn
    by_cases e : s = t
    · subst e
      rw [List.filter_cons_of_pos ((hp s List.mem_cons_self).mpr rfl)]
      congr 1
      rw [List.filter_eq_nil_iff]
      intro r hr z
      exact hn.1 ((hp r (List.mem_cons_of_mem _ hr)).mp z ▸ hr)
    · rw [List.filter_cons_of_neg (fun z => e ((hp s List.mem_cons_self).mp z))]
      exact filter_one hn.2 ((List.mem_cons.mp hm).resolve_left fun z => e z.symm) fun r hr => hp r (List.mem_cons_of_mem _ hr)
theorem max_mem : ∀ {L : List Int}, L ≠ [] → ∃ t ∈ L, ∀ s ∈ L, s ≤ t
  | [], h => absurd rfl h
  | [a], _ => ⟨a, List.mem_cons_self, fun s hs => by rw [List.mem_singleton.mp hs]; exact Int.le_refl _⟩
  | a :: b :: L, _ => by
    obtain ⟨t, ht, hm⟩ := max_mem (L := b :: L) (by simp)
    by_cases h : a ≤ t
    · exact ⟨t, List.mem_cons_of_mem _ ht, fun s hs => by
        rcases List.mem_cons.mp hs with y | y
        · rw [y]; exact h
        · exact hm s y⟩
    · exact ⟨a, List.mem_cons_self, fun s hs => by
        rcases List.mem_cons.mp hs with y | y
        · rw [y]; exact Int.le_refl _
        · have := hm s y; omega⟩
theorem cn_touch {es : List (Int × Int)} {L : List Int} {a x : Int} {s : Int} (hs : s ∈ L) (hx : (tieOf es s).1 = x ∨ (tieOf es s).2 = x) (h : Cn (sub es L) a x) : Cn (sub es L) a (tieOf es s).1 := by
  rcases hx with y | y
  · rw [y]; exact h
  · exact Cn.bwd (e := tieOf es s) (by rw [y]; exact h) (List.mem_map.mpr ⟨s, hs, rfl⟩)
theorem cn_end {es : List (Int × Int)} {L : List Int} {a x : Int} {s : Int} (hs : s ∈ L) (hx : (tieOf es s).1 = x ∨ (tieOf es s).2 = x) (h : Cn (sub es L) a (tieOf es s).1) : Cn (sub es L) a x := by
  rcases hx with y | y
  · rw [← y]; exact h
  · rw [← y]; exact Cn.fwd h (List.mem_map.mpr ⟨s, hs, rfl⟩)
end L2
namespace L2
open PySem PySem.Spec PyProof.Rows
theorem erase_map {α β : Type} (f : α → β) : ∀ (l : List α) (i : Nat), (l.map f).eraseIdx i = (l.eraseIdx i).map f
  | [], _ => rfl
  | _ :: _, 0 => rfl
  | a :: l, i + 1 => by rw [List.map_cons, List.eraseIdx_cons_succ, erase_map f l i, List.eraseIdx_cons_succ, List.map_cons]
section
variable {X : Cx}
def rRem : V → List V → Hp → VK → Prop := fun x vs H Q => ∃ (p : Addr) (ns : List Int) (z : Int) (j : Nat), x = .ref p ∧ vs = [.int z] ∧ H p = some (.lst (ns.map V.int)) ∧ j < ns.length ∧ ns.getD j 0 = z ∧ (∀ i, i < j → ns.getD i 0 ≠ z) ∧ Q .non (upd H p (.lst ((ns.eraseIdx j).map V.int)))
theorem op_isnot_bl : OpR X (compareOp .IsNot) (fun x y H Q => ∃ a b, x = .bl a ∧ y = .bl b ∧ Q (.bl (a != b)) H) := by
  intro pins s σ H x y v u Q I rx ry h
  obtain ⟨a, b, rfl, rfl, q⟩ := h
  cases rx
  cases ry
  exact isnot_bool ⟨.bl (a != b), H, I, rfl, q⟩
def isI (z : Int) : Value → Bool
  | .int a _ => a == z
  | _ => false
theorem mt_remI : MtM X "list.remove" rRem := by
  intro pins s σ H x vs v us Q I rx rv h
  obtain ⟨p, ns, z, j, rfl, rfl, hH, hj, hz, hno, q⟩ := h
  cases rx
  obtain ⟨u, rfl, ⟨tu, rfl⟩⟩ := rv.one
  obtain ⟨zz, its, n, r, hl, e⟩ := I.lstM hH
  have hlen := r.length
  rw [List.length_map] at hlen
  have key : ∀ i (hi : i < its.toArray.size), ∃ t, its.toArray[i] = .int (ns.getD i 0) t := fun i hi => r.ints_at (i := i) (u := its.toArray[i]) (Array.getElem?_eq_getElem hi)
  have hsz : its.toArray.size = ns.length := by rw [List.size_toArray]; omega
  refine call_meets F.slot_list_remove ⟨_, e, rfl⟩ F.entry_list_remove (F.args_list_remove_2 _ _) (PySem.MeetsSeq.list_remove p its.toArray n _ (isI z) (fun y hy => ?_) j (by omega) ?_ (fun i hi hij => ?_) (by rw [hsz]; rw [List.length_map] at zz; exact zz)) ⟨e, ?_⟩
  · obtain ⟨i, hi, rfl⟩ := Array.mem_iff_getElem.mp hy
    obtain ⟨t, et⟩ := key i hi
    rw [et]
    exact PySem.MeetsSeq.EqGives.int _ _ _ _
  · obtain ⟨t, et⟩ := key j (by omega)
    rw [et, hz]
    exact beq_self_eq_true z
  · obtain ⟨t, et⟩ := key i hi
    rw [et]
    exact beq_eq_false_iff_ne.mpr (hno i hij)
  · refine ⟨.non, _, I.lset (its' := its.eraseIdx j) hH e (by simp) ?_ ?_, rfl, q⟩
    · rw [← erase_map]; exact Vals.eraseIdx j r
    · rw [List.length_map]
      have h1 := List.length_eraseIdx_le (l := ns) (i := j)
      rw [List.length_map] at zz
      omega
end
end L2
namespace L2
open PySem PySem.Spec PyProof.Rows
end L2
namespace L2
open PySem PySem.Spec PyProof.Rows
def en (p : Int) (e : Int × Int) : Int := (if e.1 = p then 1 else 0) + (if e.2 = p then 1 else 0)
end L2
namespace L2
open PySem PySem.Spec PyProof.Rows
section
variable {X : Cx}
end
def isR (m : Int) (es : List (Int × Int)) (fs : List Int) (k : Int) : Bool := (fs.all fun r => decide (0 ≤ r) && decide (r < k)) && decide (∀ p : Nat, p < m.toNat → dp p es fs es.length % k = 0)
theorem gD_at {xs : List Int} {i : Nat} (h : i < xs.length) : xs.getD i 0 = xs[i] := by rw [List.getD_eq_getElem?_getD, List.getElem?_eq_getElem h]; rfl
end L2
namespace L2
open PySem PySem.Spec PyProof.Rows PySem.W Builtin Builtin.ObjectAttr
section
variable {prog : Program} {w : World} {B : Around} {E : Value → Shared → Prop} {K : Frag} {A F f : Addr} {h : Heap} {g : Array GenState} {d : Drawn} {t : Nat} {os : OsState}
end
section
variable {prog : Program} {w : World} {M : Model} {B : Around} {E : Value → Shared → Prop} {env : Env}
variable {nm q : Str} {C N : Addr} {bs bm : List Value} {hdct : Bool} {sn : List Str} {sub : List Value} {ab : Bool} {col : Option Bool} {dd : Option Addr} {k0 k1 k2 k3 k5 : Option Value} {newId : String}
end
end L2
namespace L2
open PySem PySem.Spec PyProof.Rows PySem.W Builtin Builtin.ObjectAttr
section
variable {prog : Program} {w : World} {B : Around} {E : Value → Shared → Prop} {K : Frag} {A F f x : Addr} {s : Shared}
end
section
variable {X : Cx} {σ : St} {H : Hp} {s : Shared} {A F f x : Addr}
end
section
variable {X : Cx} {Ex : St → Value → Hp → Prop}
end
section
variable {X : Cx}
end
section
variable {prog : Program} {w : World} {B : Around} {E : Value → Shared → Prop} {K : Frag} {A x : Addr} {s : Shared}
end
section
variable {X : Cx}
end
end L2
namespace L2
open PySem PySem.Spec PyProof.Rows PySem.W
section
variable {X : Cx}
end
end L2
namespace L2
open PySem PySem.Spec PyProof.Rows PySem.W
section
variable {X : Cx}
end
end L2
namespace L2
open PySem
end L2
namespace L2
open PySem PySem.Spec PyProof.Rows
section
variable {prog : Program} {w : World} {A : Around} {E : Value → Shared → Prop} {s : Shared} {z TI TO i1 i2 i3 : Addr} {f1 f2 f3 : List Addr} {n1 n2 n3 i : Nat} {P1 P2 P3 : Nat → Value → Prop} {S1 S2 S3 : Nat → Heap → Prop} {a b c : Value}
end
end L2
namespace L2
open PySem PySem.Spec PyProof.Rows
section
variable {prog : Program} {w : World} {A : Around} {E : Value → Shared → Prop} {s : Shared}
end
section
variable {X : Cx} {K : PySem.W.Frag} {elts : List Expr} {kx : Nat} {tpos : Pos}
end
end L2
namespace L2
open PySem
def stE (es : List (Int × Int)) (s : Int × Int) : Int := if s.2 = 1 then (tieOf es s.1).2 else (tieOf es s.1).1
def stB (es : List (Int × Int)) (s : Int × Int) : Int := if s.2 = 1 then (tieOf es s.1).1 else (tieOf es s.1).2
def StV (es : List (Int × Int)) (s : Int × Int) : Prop := 0 ≤ s.1 ∧ s.1 < (es.length : Int) ∧ (s.2 = 1 ∨ s.2 = -1)
def rmN (as lo hi : List Int) : List (Int × Int) := (List.range as.length).map fun i => (hi.getD i 0 - as.getD i 0, as.getD i 0 - lo.getD i 0)
def rmA (rm : List (Int × Int)) (s : Int × Int) : Int := if s.2 = 1 then (rm.getD s.1.toNat (0, 0)).1 else (rm.getD s.1.toNat (0, 0)).2
def stN (es rm : List (Int × Int)) (p : Int) : Nat → List (Int × Int)
  | 0 => []
  | i + 1 => (stN es rm p i ++ if (es.getD i (0, 0)).1 = p ∧ 0 < (rm.getD i (0, 0)).1 then [((i : Int), (1 : Int))] else []) ++ if (es.getD i (0, 0)).2 = p ∧ 0 < (rm.getD i (0, 0)).2 then [((i : Int), (-1 : Int))] else []
def stpS (es : List (Int × Int)) (p : Int) (S : List Int × (Int → List (Int × Int))) (s : Int × Int) : List Int × (Int → List (Int × Int)) :=
  if stE es s ∈ S.1 then S else (S.1 ++ [stE es s], fun z => if z = stE es s then S.2 p ++ [s] else S.2 z)
def rndS (es rm : List (Int × Int)) (S : List Int × (Int → List (Int × Int))) (k : Nat) : List Int × (Int → List (Int × Int)) := (stN es rm (S.1.getD k 0) es.length).foldl (stpS es (S.1.getD k 0)) S
def runS (es rm : List (Int × Int)) : Nat → List Int × (Int → List (Int × Int)) → Nat → List Int × (Int → List (Int × Int))
  | 0, S, _ => S
  | n + 1, S, k => if k < S.1.length then runS es rm n (rndS es rm S k) (k + 1) else S
def wwr (es rm : List (Int × Int)) (a : Int) (m : Nat) : List Int × (Int → List (Int × Int)) := runS es rm m ([a], fun _ => []) 0
inductive WayS (es rm : List (Int × Int)) (a : Int) : List (Int × Int) → List Int → Int → Prop
  | nil : WayS es rm a [] [] a
  | snoc {ss : List (Int × Int)} {ps : List Int} {p : Int} {s : Int × Int} : WayS es rm a ss ps p → StV es s → stB es s = p → 0 < rmA rm s → ¬ stE es s ∈ ps ++ [p] → WayS es rm a (ss ++ [s]) (ps ++ [p]) (stE es s)
section
variable {es rm : List (Int × Int)} {a p : Int} {ss : List (Int × Int)} {ps : List Int}
end
def psh (as : List Int) (ss : List (Int × Int)) (z : Int) : List Int := ss.foldl (fun as s => as.set s.1.toNat (as.getD s.1.toNat 0 + s.2 * z)) as
def dueI (a l h : Int) : Int := if a < l then l - a else if a > h then h - a else 0
def dueN (as lo hi : List Int) (i : Nat) : Int := dueI (as.getD i 0) (lo.getD i 0) (hi.getD i 0)
def stpD (i : Nat) (d : Int) : Int × Int := ((i : Int), if d > 0 then 1 else -1)
def rst (m : Nat) (R : List Int) : List Int := ((List.range m).map fun (j : Nat) => (j : Int)).filter fun p => !decide (p ∈ R)
inductive WhR (es : List (Int × Int)) (lo hi : List Int) (m i : Nat) : List Int → Bool × List Int → Prop
  | done {as : List Int} : dueN as lo hi i = 0 → WhR es lo hi m i as (true, as)
  | shut {as : List Int} : dueN as lo hi i ≠ 0 → ¬ stB es (stpD i (dueN as lo hi i)) ∈ (wwr es (rmN as lo hi) (stE es (stpD i (dueN as lo hi i))) m).1 → WhR es lo hi m i as (false, rst m (wwr es (rmN as lo hi) (stE es (stpD i (dueN as lo hi i))) m).1)
  | next {as ws : List Int} {z : Int} {ss : List (Int × Int)} {r : Bool × List Int} : dueN as lo hi i ≠ 0 → stB es (stpD i (dueN as lo hi i)) ∈ (wwr es (rmN as lo hi) (stE es (stpD i (dueN as lo hi i))) m).1 →
      ss = (wwr es (rmN as lo hi) (stE es (stpD i (dueN as lo hi i))) m).2 (stB es (stpD i (dueN as lo hi i))) → z ∈ (if dueN as lo hi i < 0 then -dueN as lo hi i else dueN as lo hi i) :: ss.map (rmA (rmN as lo hi)) → (∀ y ∈ (if dueN as lo hi i < 0 then -dueN as lo hi i else dueN as lo hi i) :: ss.map (rmA (rmN as lo hi)), z ≤ y) →
      ws = psh as (ss ++ [stpD i (dueN as lo hi i)]) z → WhR es lo hi m i ws r → WhR es lo hi m i as r
inductive BtR (es : List (Int × Int)) (lo hi : List Int) (m : Nat) : Nat → Bool × List Int → Prop
  | nil : BtR es lo hi m 0 (true, List.replicate es.length 0)
  | next {i : Nat} {as : List Int} {r : Bool × List Int} : BtR es lo hi m i (true, as) → WhR es lo hi m i as r → BtR es lo hi m (i + 1) r
  | stop {i : Nat} {x : List Int} : BtR es lo hi m i (false, x) → BtR es lo hi m (i + 1) (false, x)
end L2
namespace L2
open PySem
end L2
namespace L2
open PySem PySem.Spec PyProof.Rows
section
variable {X : Cx}
def rIns : V → List V → Hp → VK → Prop := fun x vs H Q => ∃ (l : Addr) (xs : List V) (i : Int) (y : V), x = .ref l ∧ vs = [.int i, y] ∧ H l = some (.lst xs) ∧ 0 ≤ i ∧ i ≤ xs.length ∧ xs.length < 1000 ∧ Q .non (upd H l (.lst (xs.take i.toNat ++ y :: xs.drop i.toNat)))
theorem vals_take {xs : List V} {us : List Value} (r : Vals xs us) : ∀ j, Vals (xs.take j) (us.take j) := by
  induction r with
  | nil => intro j; rw [List.take_nil, List.take_nil]; exact .nil
  | cons h t ih =>
    intro j
    cases j with
    | zero => exact .nil
    | succ j => exact .cons h (ih j)
theorem vals_drop {xs : List V} {us : List Value} (r : Vals xs us) : ∀ j, Vals (xs.drop j) (us.drop j) := by
  induction r with
  | nil => intro j; rw [List.drop_nil, List.drop_nil]; exact .nil
  | cons h t ih =>
    intro j
    cases j with
    | zero => exact .cons h t
    | succ j => exact ih j
theorem mt_insI : MtM X "list.insert" rIns := by
  intro pins s σ H x vs v us Q I rx rv h
  obtain ⟨l, xs, i, y, rfl, rfl, hH, i0, i1, hz, q⟩ := h
  cases rx
  obtain ⟨u, u', rfl, ⟨t, rfl⟩, ry⟩ := vals2 rv
  obtain ⟨z, its, n, r, hl, e⟩ := I.lstM hH
  have hlen := r.length
  have big : (1000 : Nat) ≤ sizeLine := by decide
  have fit : ¬ (!Builtin.List.listFitsIndex i) = true := by
    have : Builtin.List.listFitsIndex i = true := by unfold Builtin.List.listFitsIndex; simp; omega
    rw [this]; decide
  refine call_meets F.slot_list_insert ⟨_, e, rfl⟩ F.entry_list_insert (F.args_list_insert_3 _ _ _) (AutoSeq1.list_insert_list_int_val_1 l its.toArray n i t u' fit (by rw [List.size_toArray]; omega)) ⟨e, ?_⟩
  refine ⟨.non, _, I.lset (its' := its.take i.toNat ++ u' :: its.drop i.toNat) hH e ?_ ((vals_take r i.toNat).append (.cons ry (vals_drop r i.toNat))) ?_, rfl, q⟩
  · dsimp only
    rw [if_neg (by omega), List.size_toArray, Nat.min_eq_left (by omega)]
    apply Array.ext'
    simp
    exact List.take_of_length_le (by rw [List.length_drop]; exact Nat.le_refl _)
  · rw [List.length_append, List.length_cons, List.length_take, List.length_drop]
    omega
end
end L2
namespace L2
open PySem PySem.Spec PyProof.Rows
section
variable {prog : Program} {w : World} {A : Around} {E : Value → Shared → Prop} {s : Shared}
end
section
variable {X : Cx}
end
end L2
namespace L2
open PySem
def mkS (n : Nat) (ss : List Int) : List Int := (List.range n).map fun (i : Nat) => if (i : Int) ∈ ss then 1 else 0
theorem mkS_len (n : Nat) (ss : List Int) : (mkS n ss).length = n := by unfold mkS; rw [List.length_map, List.length_range]
theorem mkS_get {n i : Nat} {ss : List Int} (h : i < n) : (mkS n ss)[i]? = some (if (i : Int) ∈ ss then 1 else 0) := by
  unfold mkS; rw [List.getElem?_map, List.getElem?_range h]; rfl
theorem mkS_at {n i : Nat} {ss : List Int} (h : i < n) : (mkS n ss).getD i 0 = if (i : Int) ∈ ss then 1 else 0 := by
  rw [List.getD_eq_getElem?_getD, mkS_get h]; rfl
theorem mkS_two {n : Nat} {ss : List Int} : ∀ r ∈ mkS n ss, 0 ≤ r ∧ r < 2 := fun r hr => by
  obtain ⟨i, _, rfl⟩ := List.mem_map.mp hr
  split <;> decide
structure SetOk (n : Nat) (ss : List Int) : Prop where
  rng : ∀ t ∈ ss, 0 ≤ t ∧ t < (n : Int)
  up : ss.Pairwise (· < ·)
theorem SetOk.nd {n : Nat} {ss : List Int} (h : SetOk n ss) : ss.Nodup := by
  rw [List.nodup_iff_pairwise_ne]
  exact h.up.imp fun h e => by omega
theorem SetOk.len {n : Nat} {ss : List Int} (h : SetOk n ss) : ss.length ≤ n := by
  have := nodup_len (m := (n : Int)) h.nd h.rng
  omega
theorem up_of : ∀ {ss : List Int}, (∀ i, i + 1 < ss.length → ss.getD i 0 < ss.getD (i + 1) 0) → ss.Pairwise (· < ·)
  | [], _ => .nil
  | [_], _ => List.pairwise_singleton ..
  | a :: b :: l, h => by
    have ih := up_of (ss := b :: l) fun i hi => h (i + 1) (Nat.succ_lt_succ hi)
    refine List.Pairwise.cons (fun z hz => ?_) ih
    have h0 : a < b := h 0 (by simp)
    rcases List.mem_cons.mp hz with y | y
    · rw [y]; exact h0
    · have := (List.pairwise_cons.mp ih).1 z y; omega
theorem up_get {ss : List Int} (h : ss.Pairwise (· < ·)) {i : Nat} (hi : i + 1 < ss.length) : ss.getD i 0 < ss.getD (i + 1) 0 := by
  rw [gD_at (by omega), gD_at hi]
  exact List.pairwise_iff_getElem.mp h i (i + 1) (by omega) hi (by omega)
theorem dp_cong {k p : Int} {es : List (Int × Int)} {fs gs : List Int} : ∀ n, (∀ t, t < n → k ∣ fs.getD t 0 - gs.getD t 0) → k ∣ dp p es fs n - dp p es gs n
  | 0, _ => ⟨0, by rw [Int.mul_zero]; rfl⟩
  | n + 1, h => by
    obtain ⟨u, hu⟩ := dp_cong (p := p) (es := es) n fun t ht => h t (by omega)
    obtain ⟨v, hv⟩ := h n (by omega)
    show k ∣ (dp p es fs n + _ - _) - (dp p es gs n + _ - _)
    by_cases c1 : (es.getD n (0, 0)).2 = p <;> by_cases c2 : (es.getD n (0, 0)).1 = p
    · exact ⟨u, by rw [if_pos c1, if_pos c1, if_pos c2, if_pos c2]; omega⟩
    · exact ⟨u + v, by rw [if_pos c1, if_pos c1, if_neg c2, if_neg c2, Int.mul_add]; omega⟩
    · exact ⟨u - v, by rw [if_neg c1, if_neg c1, if_pos c2, if_pos c2, Int.mul_sub]; omega⟩
    · exact ⟨u, by rw [if_neg c1, if_neg c1, if_neg c2, if_neg c2]; omega⟩
theorem isR_iff {m k : Int} {es : List (Int × Int)} {fs : List Int} : isR m es fs k = true ↔ (∀ r ∈ fs, 0 ≤ r ∧ r < k) ∧ ∀ p : Nat, p < m.toNat → dp p es fs es.length % k = 0 := by
  unfold isR
  rw [Bool.and_eq_true, decide_eq_true_iff, List.all_eq_true]
  exact ⟨fun h => ⟨fun r hr => by simpa using h.1 r hr, h.2⟩, fun h => ⟨fun r hr => by simpa using h.1 r hr, h.2⟩⟩
def EvS (es : List (Int × Int)) (ss : List Int) : Prop := ∀ p : Int, 2 ∣ dp p es (mkS es.length ss) es.length
theorem EvS.isR {m : Int} {es : List (Int × Int)} {ss : List Int} (h : EvS es ss) : isR m es (mkS es.length ss) 2 = true := isR_iff.mpr ⟨mkS_two, fun p _ => by
  obtain ⟨u, hu⟩ := h p
  rw [hu]; exact Int.mul_emod_right ..⟩
theorem EvS.nil (es : List (Int × Int)) : EvS es [] := fun p => by
  have e : mkS es.length [] = List.replicate es.length 0 := by
    refine List.ext_getElem (by rw [mkS_len, List.length_replicate]) fun i h1 h2 => ?_
    rw [List.getElem_replicate, ← gD_at h1, mkS_at (by rw [mkS_len] at h1; exact h1), if_neg (fun z => nomatch z)]
  rw [e, dp_nil]
  exact ⟨0, rfl⟩
theorem up_le {a : List Int} (h : a.Pairwise (· ≤ ·)) (n : a.Nodup) : a.Pairwise (· < ·) := by
  rw [List.nodup_iff_pairwise_ne] at n
  exact (h.and n).imp fun h => by omega
end L2
namespace L2
open PySem PySem.Spec PyProof.Rows
section
variable {prog : Program} {w : World} {A : Around} {E : Value → Shared → Prop} {s : Shared}
set_option maxHeartbeats 4000000 in
theorem setSlice {l sl q : Addr} {xs ys : Array Value} {n n' : Nat} {ta tb : Tok} {a b : Nat} {Q : Unit → Shared → Prop} (hl : s.heap.get? l = some (PySem.W.listOf xs n)) (hq : s.heap.get? q = some (PySem.W.listOf ys n')) (hlq : l ≠ q) (hs : s.heap.IsSliceOf sl (.int a ta) (.int b tb) .none) (hab : a ≤ b) (hb : b ≤ xs.size) (hz : xs.size + ys.size ≤ 1000)
    (k : Q () { s with heap := s.heap.update l (Obj.mapSeq fun zs => zs.extract 0 a ++ ys ++ zs.extract b zs.size) }) : wpAny (model prog w) A (setItem (.ref l) (.ref sl) (.ref q)) Q E s := by
  have isl : s.heap.IsList l xs := PySem.IsL.isList (n := n) hl
  obtain ⟨so, hso, hsc, hsd⟩ := hs
  have tys : s.TypeIs (.ref sl) "slice" := ⟨so, hso, hsc⟩
  have hparts : ∀ {Q' : Value × Value × Value → Shared → Prop}, Q' (rawPart (some (a : Int)), rawPart (some (b : Int)), rawPart none) s → wpAny (model prog w) A.in1 (Builtin.List.listSliceParts (.ref sl)) Q' E s := fun {Q'} h => by
    rw [listSliceParts_eq]
    refine wpAny_bind (wpAny_field hso hsd (x := .none) rfl ?_)
    refine wpAny_bind (wpAny_listPart (k := none) .none ?_)
    rw [if_neg (by decide)]
    refine wpAny_bind (wpAny_field hso hsd (x := .int a ta) rfl ?_)
    refine wpAny_bind (wpAny_listPart (k := some (a : Int)) (.int ..) ?_)
    refine wpAny_bind (wpAny_field hso hsd (x := .int b tb) rfl ?_)
    exact wpAny_bind (wpAny_listPart (k := some (b : Int)) (.int ..) (wpAny_pure h))
  have body : wpAny (model prog w) A.in1 (Builtin.«list.__setitem__» ⟨[.ref l, .ref sl, .ref q], []⟩) (fun fin s' => ∃ v, fin = .done (.ret v) ∧ Q () s') E s := by
    unfold Builtin.«list.__setitem__» Builtin.List.listSubscript?
    wp_walk using wpAny_specialOf tys slice_no_index, wpAny_typeOf tys, hparts
    have same : Builtin.List.listSameRef (.ref l) (.ref q) = false := by
      unfold Builtin.List.listSameRef
      simp [hlq]
    have bnd := slice_bounds (some (a : Int)) (some (b : Int)) xs.size
    have ba : HT.sIx xs.size 0 (some (a : Int)) = a := by
      show (if (a : Int) < 0 then ((a : Int) + (xs.size : Int)).toNat else min (a : Int).toNat xs.size) = a
      rw [if_neg (by omega), Int.toNat_natCast]; omega
    have bb : HT.sIx xs.size xs.size (some (b : Int)) = b := by
      show (if (b : Int) < 0 then ((b : Int) + (xs.size : Int)).toNat else min (b : Int).toNat xs.size) = b
      rw [if_neg (by omega), Int.toNat_natCast]; omega
    rw [ba, bb] at bnd
    have tyq : s.TypeIs (.ref q) "list" := ⟨_, hq, rfl⟩
    rw [same, if_neg (by decide)]
    unfold Builtin.List.listAllItems
    refine wpAny_bind (wpAny_bind (wpAny_typeOf tyq ?_))
    rw [if_pos (by decide)]
    have eS : sliceBounds (some (a : Int)) (some (b : Int)) none xs.size = ((a : Int), (b : Int), 1) := Prod.ext bnd.1 (Prod.ext bnd.2.1 bnd.2.2)
    have short : Builtin.List.listTooLong (xs.size + ys.size) = false := by
      unfold Builtin.List.listTooLong
      rw [sizeLine_eq]
      exact decide_eq_false (by omega)
    refine listItems_at hq rfl (wpAny_bind (listItems_at hl rfl (wpAny_bind (wpAny_of_eq (sliceIndices_raw _ _ none _ (by simp)) ?_))))
    rw [eS]
    dsimp only
    rw [if_pos (by decide)]
    refine wpAny_bind (wpAny_rule ?_)
    rw [short, if_neg (by decide), show (max (a : Int) (b : Int)).toNat = b by omega, Int.toNat_natCast]
    refine wpAny_bind (listUpdate_at hl rfl (wpAny_bind (wpAny_letGo (wpAny_pure ⟨.none, rfl, k⟩))) (by rw [sizeLine_eq]; omega) ?_)
    rw [sizeLine_eq]
    simp only [Array.size_append, Array.size_extract]
    omega
  unfold setItem
  refine wpAny_holding (wpAny_bind (wpAny_sequenceKey isl.typeIs (by decide) (wpAny_bind (wpAny_callSpecial?_slot (name := Str.ofString "__setitem__") isl.typeIs slot_list_setitem (wpAny_mono (wpAny_call_entry slot_list_setitem isl.typeIs entry_list_setitem body (args_list_setitem _ _ _)) (fun v s' h => wpAny_pure h) fun _ _ z => z)))))
end
def rSlS : V → Option Int → Option Int → V → Hp → (Hp → Prop) → Prop := fun o l u v H Q => ∃ (p q : Addr) (xs ys : List V) (a b : Nat), o = .ref p ∧ l = some (a : Int) ∧ u = some (b : Int) ∧ v = .ref q ∧ p ≠ q ∧ H p = some (.lst xs) ∧ H q = some (.lst ys) ∧ a ≤ b ∧ b ≤ xs.length ∧ xs.length + ys.length ≤ 1000 ∧ Q (upd H p (.lst (xs.take a ++ ys ++ xs.drop b)))
def gSlS (to : TE) (tl th : TO) : TG := fun v σ H Q => to σ H fun o H1 => tl σ H1 fun l H2 => th σ H2 fun u H3 => rSlS o l u v H3 fun H4 => Q σ H4
theorem mapSeq_cut (its us : List Value) (n a b : Nat) : ∃ n', Obj.mapSeq (fun zs => zs.extract 0 a ++ us.toArray ++ zs.extract b zs.size) { cls := .type "list", data := .seq its.toArray n } = { cls := .type "list", data := .seq (its.take a ++ us ++ its.drop b).toArray n' } := by
  have e : its.toArray.extract 0 a ++ us.toArray ++ its.toArray.extract b its.toArray.size = (its.take a ++ us ++ its.drop b).toArray := by
    apply Array.ext'
    simp
    exact List.take_of_length_le (by rw [List.length_drop]; exact Nat.le_refl _)
  exact ⟨if (its.take a ++ us ++ its.drop b).toArray.size == its.toArray.size then n else n + 1, by rw [← e]; rfl⟩
section
variable {X : Cx} {pos p2 : Pos} {o : Expr} {lo hi : Option Expr} {to : TE} {tl th : TO}
theorem pg_slS (ho : PE X o to) (hl : PO X lo tl) (hu : PO X hi th)
    (ha : ∀ v, assign (.Subscript o (.Slice lo hi none p2) pos) X.env v = (do
      let ov ← holding [v] (eval o X.env)
      let iv ← holding [v, ov] (eval (.Slice lo hi none p2) X.env)
      standAt pos
      holding [v, ov, iv] (setItem ov iv v)
      release [iv, v, ov] []) := by intro _; rfl) : PG X (.Subscript o (.Slice lo hi none p2) pos) (gSlS to tl th) := by
  intro pins s σ H v u Q I r h
  rw [ha]
  refine wpAny_bind (wpAny_holding (thn (ho pins s σ H _ I h) fun ov s1 ⟨x, H1, I1, r1, q1⟩ => ?_))
  refine wpAny_bind (wpAny_holding (wpAny_Slice (thn (hl pins s1 σ H1 _ I1 q1) fun vl s2 ⟨l, H2, I2, pl, q2⟩ => thn (hu pins s2 σ H2 _ I2 q2) fun vu s3 ⟨u', H3, I3, pu, q3⟩ => ?_)))
  rw [evalPart_none]
  refine wpAny_pure (wpAny_bind (wpAny_standAt (wpAny_bind (wpAny_holding ?_))))
  have I4 : Inv X pins σ H3 { s3 with heap := s3.heap.push { cls := .type "slice", data := .fields #[vl, vu, .none] } } := I3.kept (t' := s3.toks) fun b ob q => Heap.get?_push_of_some _ q
  obtain ⟨p, q, xs, ys, a, b, rfl, rfl, rfl, rfl, hpq, hp, hq, hab, hb, hz, k⟩ := q3
  cases r1; cases r
  obtain ⟨_, ta⟩ := pl
  obtain ⟨_, tb⟩ := pu
  obtain ⟨its, n, rv, hp', _⟩ := I4.lst hp
  obtain ⟨jts, n', rw', hq', _⟩ := I4.lst hq
  have l1 := rv.length
  have l2 := rw'.length
  obtain ⟨n2, hm⟩ := mapSeq_cut its jts n a b
  refine setSlice hp' hq' hpq (Heap.IsSliceOf.new ..) hab (by rw [List.size_toArray]; omega) (by rw [List.size_toArray, List.size_toArray]; omega) (wpAny_release ⟨σ, _, I4.lstUpd (ys := xs.take a ++ ys ++ xs.drop b) hp hp' hm (((rv.take a).append rw').append (rv.drop b)) ?_ _, k⟩)
  rw [List.length_append, List.length_append, List.length_take, List.length_drop]
  exact Nat.le_of_lt (small1000 (by omega))
end
end L2
namespace L2
open PySem PySem.Spec PyProof.Rows
section
variable {X : Cx} {K : PySem.W.Frag} {a : Expr} {ta : TE} {pos : Pos}
def tNotL (K : PySem.W.Frag) (ta : TE) : TE := fun σ H Q => ta σ H fun x H1 => ∃ k, TruV K x H1 k ∧ Q (.bl (!k)) H1
theorem pe_notL (hK : X.K = K) (ha : PE X a ta) : PE X (.UnaryOp .Not a pos) (tNotL K ta) := by
  subst hK
  intro pins s σ H Q I h
  refine UnaryOp_ (thn (ha pins s σ H _ I h) fun v s1 ⟨x, H1, I1, r1, q1⟩ => ?_)
  exact not_of (thn (tru_ok pins s1 σ H1 x v (fun k H2 => Q (.bl (!k)) H2) I1 r1 q1) fun c s2 ⟨H2, I2, q2⟩ => ⟨.bl (!c), H2, I2, rfl, q2⟩)
end
theorem asc_nd {l : List Int} (h : l.Pairwise (· < ·)) : l.Nodup := by
  rw [List.nodup_iff_pairwise_ne]
  exact h.imp fun h e => by omega
theorem rts_asc (n : Nat) (f : Int → Int) : (rts n f).Pairwise (· < ·) := by
  unfold rts
  rw [List.pairwise_map]
  exact (List.Pairwise.filter _ List.pairwise_lt_range).imp fun h => by omega
theorem rts_mrg {m : Int} {es : List (Int × Int)} {f : Int → Int} {e : Int × Int} (F : Lab m es f) (b : 0 ≤ e.1 ∧ e.1 < m ∧ 0 ≤ e.2 ∧ e.2 < m) (h : f e.1 ≠ f e.2) : (rts m.toNat (mrg f e)).length + 1 = (rts m.toNat f).length := by
  have l1 := F.low e.1 b.1 b.2.1
  have l2 := F.low e.2 b.2.2.1 b.2.2.2
  have i1 := F.idem b.1 b.2.1
  have i2 := F.idem b.2.2.1 b.2.2.2
  obtain ⟨M, eM⟩ : ∃ M, M = max (f e.1) (f e.2) := ⟨_, rfl⟩
  have fM : f M = M := by
    rw [eM]
    by_cases g : f e.1 ≤ f e.2
    · rw [Int.max_eq_right g]; exact i2
    · rw [Int.max_eq_left (by omega)]; exact i1
  have hM : M ∈ rts m.toNat f := mem_rts.mpr ⟨by omega, by omega, fM⟩
  have e1 : rts m.toNat (mrg f e) = (rts m.toNat f).filter (· != M) := by
    unfold rts
    rw [List.filter_map, List.filter_filter]
    congr 1
    refine List.filter_congr fun p hp => ?_
    rw [List.mem_range] at hp
    have lp := F.low p (by omega) (by omega)
    rw [Bool.eq_iff_iff]
    simp only [Function.comp, Bool.and_eq_true, decide_eq_true_eq, bne_iff_ne, ne_eq]
    unfold mrg
    rw [← eM]
    by_cases c : f (p : Int) = M
    · rw [if_pos c]
      constructor
      · intro z; omega
      · rintro ⟨z1, z2⟩
        exact absurd (z2.symm.trans c) z1
    · rw [if_neg c]
      exact ⟨fun z => ⟨fun y => c (by rw [y]; exact fM), z⟩, fun z => z.2⟩
  have nd := asc_nd (rts_asc m.toNat f)
  rw [e1, ← nd.erase_eq_filter, List.length_erase_of_mem hM]
  have := List.length_pos_of_mem hM
  omega
theorem rts_id (n : Nat) : (rts n fun p => p).length = n := by
  unfold rts
  rw [List.filter_eq_self.mpr fun a _ => by simp, List.length_map, List.length_range]
theorem rank_lab {m : Int} {es : List (Int × Int)} (hE : ∀ e ∈ es, 0 ≤ e.1 ∧ e.1 < m ∧ 0 ≤ e.2 ∧ e.2 < m) : ∀ n, n ≤ es.length → ∃ f, Lab m (es.take n) f ∧ (rts m.toNat f).length + (frN es n).length = m.toNat
  | 0, _ => ⟨fun p => p, by rw [List.take_zero]; exact Lab.nil m, by rw [rts_id]; rfl⟩
  | n + 1, hn => by
    obtain ⟨f, F, hf⟩ := rank_lab hE n (by omega)
    have hg : es[n]? = some (es.getD n (0, 0)) := by rw [List.getD_eq_getElem?_getD, List.getElem?_eq_getElem (show n < es.length by omega)]; rfl
    have b := hE _ (List.mem_of_getElem? hg)
    rw [List.take_add_one, hg, frN_succ]
    by_cases c : inF es n = true
    · have h := inF_iff.mp c
      have hne : f (es.getD n (0, 0)).1 ≠ f (es.getD n (0, 0)).2 := fun z => h ((F.iff b.1 b.2.1 b.2.2.1 b.2.2.2).mp z)
      refine ⟨mrg f (es.getD n (0, 0)), F.merge b, ?_⟩
      have := rts_mrg F b hne
      rw [if_pos c, List.length_append, List.length_singleton]
      omega
    · have h : Cn (es.take n) (es.getD n (0, 0)).1 (es.getD n (0, 0)).2 := Classical.byContradiction fun z => c (inF_iff.mpr z)
      refine ⟨f, F.skip ((F.iff b.1 b.2.1 b.2.2.1 b.2.2.2).mpr h), ?_⟩
      rw [if_neg c, List.append_nil]
      exact hf
theorem lab_of {m : Int} {es : List (Int × Int)} (hE : ∀ e ∈ es, 0 ≤ e.1 ∧ e.1 < m ∧ 0 ≤ e.2 ∧ e.2 < m) : ∃ f, Lab m es f := by
  obtain ⟨f, F, _⟩ := rank_lab hE es.length (Nat.le_refl _)
  rw [List.take_length] at F
  exact ⟨f, F⟩
theorem rank {m : Int} {es : List (Int × Int)} {f : Int → Int} (hE : ∀ e ∈ es, 0 ≤ e.1 ∧ e.1 < m ∧ 0 ≤ e.2 ∧ e.2 < m) (F : Lab m es f) : (rts m.toNat f).length + (frst es).length = m.toNat := by
  obtain ⟨g, G, hg⟩ := rank_lab hE es.length (Nat.le_refl _)
  rw [List.take_length] at G
  rw [rts_congr (g := g) fun p p0 p1 => F.uniq G p0 (by omega)]
  exact hg
theorem lab_fine {m : Int} {es es' : List (Int × Int)} {f f' : Int → Int} (hs : ∀ {a b : Int}, Cn es' a b → Cn es a b) (F : Lab m es f) (F' : Lab m es' f') (h : (rts m.toNat f').length ≤ (rts m.toNat f).length) : ∀ p : Int, 0 ≤ p → p < m → f' p = f p := by
  have s1 : ∀ r ∈ rts m.toNat f, r ∈ rts m.toNat f' := fun r hr => by
    obtain ⟨r0, r1, r2⟩ := mem_rts.mp hr
    have l' := F'.low r r0 (by omega)
    have e := lab_cn F.same (hs (F'.conn r r0 (by omega)))
    have l := F.low (f' r) l'.1 (by omega)
    exact mem_rts.mpr ⟨r0, r1, by omega⟩
  have s2 : ∀ r ∈ rts m.toNat f', r ∈ rts m.toNat f := fun r hr => Classical.byContradiction fun hn => by
    have := nodup_sub (l := r :: rts m.toNat f) (l' := rts m.toNat f') (List.nodup_cons.mpr ⟨hn, asc_nd (rts_asc _ _)⟩) fun a ha => (List.mem_cons.mp ha).elim (fun y => y ▸ hr) (s1 a)
    rw [List.length_cons] at this
    omega
  intro p p0 p1
  have l := F'.low p p0 p1
  have hr := s2 (f' p) (mem_rts.mpr ⟨l.1, by omega, F'.idem p0 p1⟩)
  have e := lab_cn F.same (hs (F'.conn p p0 p1))
  rw [e, (mem_rts.mp hr).2.2]
theorem sub_mem {es : List (Int × Int)} {ss : List Int} (hr : ∀ t ∈ ss, 0 ≤ t ∧ t < (es.length : Int)) : ∀ e ∈ sub es ss, e ∈ es := fun e he => by
  obtain ⟨t, ht, rfl⟩ := List.mem_map.mp he
  have := hr t ht
  unfold tieOf
  rw [List.getD_eq_getElem?_getD, List.getElem?_eq_getElem (show t.toNat < es.length by omega)]
  exact List.getElem_mem _
theorem mem_sub {es : List (Int × Int)} {ss : List Int} (h : ∀ t : Int, 0 ≤ t → t < (es.length : Int) → t ∈ ss) : ∀ e ∈ es, e ∈ sub es ss := fun e he => by
  obtain ⟨i, hi, rfl⟩ := List.mem_iff_getElem.mp he
  refine List.mem_map.mpr ⟨(i : Int), h i (by omega) (by omega), ?_⟩
  unfold tieOf
  rw [Int.toNat_natCast, List.getD_eq_getElem?_getD, List.getElem?_eq_getElem hi]; rfl
theorem sub_len (es : List (Int × Int)) (ss : List Int) : (sub es ss).length = ss.length := List.length_map ..
theorem rank_eq {m : Int} {es es' : List (Int × Int)} (hE : ∀ e ∈ es, 0 ≤ e.1 ∧ e.1 < m ∧ 0 ≤ e.2 ∧ e.2 < m) (hE' : ∀ e ∈ es', 0 ≤ e.1 ∧ e.1 < m ∧ 0 ≤ e.2 ∧ e.2 < m) (h1 : ∀ {a b : Int}, Cn es' a b → Cn es a b) (h2 : ∀ {a b : Int}, Cn es a b → Cn es' a b) : (frst es').length = (frst es).length := by
  obtain ⟨f, F⟩ := lab_of hE
  have F' : Lab m es' f := ⟨fun p p0 p1 => h2 (F.conn p p0 p1), fun e he => lab_cn F.same (h1 (Cn.tie he)), F.low⟩
  have r1 := rank hE F
  have r2 := rank hE' F'
  omega
structure Spn (es : List (Int × Int)) (ss : List Int) : Prop where
  ok : SetOk es.length ss
  acy : (frst (sub es ss)).length = ss.length
  all : ss.length = (frst es).length
theorem ends_sub {m : Int} {es : List (Int × Int)} {ss : List Int} (hE : ∀ e ∈ es, 0 ≤ e.1 ∧ e.1 < m ∧ 0 ≤ e.2 ∧ e.2 < m) (hr : ∀ t ∈ ss, 0 ≤ t ∧ t < (es.length : Int)) : ∀ e ∈ sub es ss, 0 ≤ e.1 ∧ e.1 < m ∧ 0 ≤ e.2 ∧ e.2 < m := fun e he => hE e (sub_mem hr e he)
theorem lab_sub {m : Int} {es : List (Int × Int)} {ss : List Int} {f f' : Int → Int} (hE : ∀ e ∈ es, 0 ≤ e.1 ∧ e.1 < m ∧ 0 ≤ e.2 ∧ e.2 < m) (hr : ∀ t ∈ ss, 0 ≤ t ∧ t < (es.length : Int)) (F : Lab m es f) (F' : Lab m (sub es ss) f') (h : (frst (sub es ss)).length = (frst es).length) : ∀ p : Int, 0 ≤ p → p < m → f' p = f p := by
  have r1 := rank hE F
  have r2 := rank (ends_sub hE hr) F'
  exact lab_fine (fun c => c.mono (sub_mem hr)) F F' (by omega)
theorem Spn.cn {m : Int} {es : List (Int × Int)} {ss : List Int} (S : Spn es ss) (hE : ∀ e ∈ es, 0 ≤ e.1 ∧ e.1 < m ∧ 0 ≤ e.2 ∧ e.2 < m) {a b : Int} (h : Cn es a b) (a0 : 0 ≤ a) (a1 : a < m) (b0 : 0 ≤ b) (b1 : b < m) : Cn (sub es ss) a b := by
  obtain ⟨f, F⟩ := lab_of hE
  obtain ⟨f', F'⟩ := lab_of (ends_sub hE S.ok.rng)
  have e := lab_sub hE S.ok.rng F F' (by rw [S.acy, S.all])
  refine (F'.iff a0 a1 b0 b1).mp ?_
  rw [e a a0 a1, e b b0 b1]
  exact (F.iff a0 a1 b0 b1).mpr h
theorem all_inF {es : List (Int × Int)} (h : (frst es).length = es.length) : ∀ i, i < es.length → inF es i = true := fun i hi => by
  unfold frst frN at h
  rw [List.length_map] at h
  have := List.filter_eq_self.mp (List.Sublist.eq_of_length (List.filter_sublist (l := List.range es.length) (p := fun i => inF es i)) (by rw [h, List.length_range]))
  exact this i (List.mem_range.mpr hi)
theorem take_filter : ∀ {ss : List Int} {i : Nat}, ss.Pairwise (· < ·) → i < ss.length → ∀ s ∈ ss, s < ss.getD i 0 → s ∈ ss.take i
  | [], i, _, h, _, _, _ => absurd h (Nat.not_lt_zero _)
  | a :: l, 0, hp, _, s, hs, hlt => by
    have e : (a :: l).getD 0 0 = a := rfl
    rw [e] at hlt
    rcases List.mem_cons.mp hs with y | y
    · omega
    · have := (List.pairwise_cons.mp hp).1 s y; omega
  | a :: l, i + 1, hp, hi, s, hs, hlt => by
    rw [List.take_succ_cons]
    rcases List.mem_cons.mp hs with y | y
    · exact List.mem_cons.mpr (.inl y)
    · exact List.mem_cons_of_mem _ (take_filter (List.pairwise_cons.mp hp).2 (by simpa using hi) s y hlt)
def Acy (es : List (Int × Int)) (L : List Int) : Prop := ∀ t ∈ L, ∀ {M : List Int}, (∀ s ∈ M, s ∈ L ∧ s < t) → ¬ Cn (sub es M) (tieOf es t).1 (tieOf es t).2
theorem Acy.sub {es : List (Int × Int)} {L L' : List Int} (A : Acy es L) (h : ∀ t ∈ L', t ∈ L) : Acy es L' := fun t ht _ hM => A t (h t ht) fun s hs => ⟨h s (hM s hs).1, (hM s hs).2⟩
theorem Spn.free {es : List (Int × Int)} {ss : List Int} (S : Spn es ss) : Acy es ss := fun t ht M hM c => by
  obtain ⟨i, hi, rfl⟩ := List.mem_iff_getElem.mp ht
  have h := inF_iff.mp (all_inF (es := L2.sub es ss) (by rw [S.acy, sub_len]) i (by rw [sub_len]; exact hi))
  have e : (L2.sub es ss).getD i (0, 0) = tieOf es ss[i] := by
    unfold L2.sub
    rw [List.getD_eq_getElem?_getD, List.getElem?_map, List.getElem?_eq_getElem hi]; rfl
  rw [e] at h
  refine h (c.mono fun x hx => ?_)
  obtain ⟨s, hs, rfl⟩ := List.mem_map.mp hx
  have h1 := hM s hs
  unfold L2.sub
  rw [← List.map_take]
  exact List.mem_map.mpr ⟨s, take_filter S.ok.up hi s h1.1 (by rw [gD_at hi]; exact h1.2), rfl⟩
theorem Acy.loop {es : List (Int × Int)} {L : List Int} (A : Acy es L) {t : Int} (ht : t ∈ L) : (tieOf es t).1 ≠ (tieOf es t).2 := fun z => A t ht (M := []) (fun s hs => nomatch hs) (by rw [z]; exact .refl _)
theorem leaf_exA {es : List (Int × Int)} : ∀ (n : Nat) (L : List Int), L.length ≤ n → L ≠ [] → L.Nodup → Acy es L → ∀ w : Int, ∃ x : Int, x ≠ w ∧ ∃ t ∈ L, L.filter (fun s => atP x (tieOf es s)) = [t]
  | 0, L, hn, h0, _, _, _ => absurd (List.length_eq_zero_iff.mp (by omega)) h0
  | n + 1, L, hn, h0, hnd, hF, w => by
    obtain ⟨t, ht, hmax⟩ := max_mem h0
    have hsub : ∀ s ∈ L.erase t, s ∈ L ∧ s ≠ t := fun s hs => ⟨List.mem_of_mem_erase hs, fun z => by
      rw [z] at hs
      exact (List.Nodup.not_mem_erase hnd) hs⟩
    have hback : ∀ s ∈ L, s ≠ t → s ∈ L.erase t := fun s hs z => (List.mem_erase_of_ne z).mpr hs
    have hnc : ¬ Cn (sub es (L.erase t)) (tieOf es t).1 (tieOf es t).2 := hF t ht fun s hs => by
      have h1 := hsub s hs
      have h3 := hmax s h1.1
      exact ⟨h1.1, by have := h1.2; omega⟩
    have main : ∀ a b : Int, ((tieOf es t).1 = a ∧ (tieOf es t).2 = b ∨ (tieOf es t).1 = b ∧ (tieOf es t).2 = a) → ¬ Cn (sub es (L.erase t)) a b → ¬ Cn (sub es (L.erase t)) a w → ∃ x : Int, x ≠ w ∧ ∃ t ∈ L, L.filter (fun s => atP x (tieOf es s)) = [t] := by
      intro a b hab nab naw
      have hta : (tieOf es t).1 = a ∨ (tieOf es t).2 = a := hab.elim (fun h => .inl h.1) fun h => .inr h.2
      have htx : ∀ x, ((tieOf es t).1 = x ∨ (tieOf es t).2 = x) → x = a ∨ x = b := fun x hx => by
        rcases hab with ⟨h1, h2⟩ | ⟨h1, h2⟩ <;> rw [h1, h2] at hx <;> rcases hx with y | y
        · exact .inl y.symm
        · exact .inr y.symm
        · exact .inr y.symm
        · exact .inl y.symm
      let P : Int → Bool := fun s => @decide (Cn (sub es (L.erase t)) a (tieOf es s).1) (Classical.propDecidable _)
      have hP : ∀ s, P s = true ↔ Cn (sub es (L.erase t)) a (tieOf es s).1 := fun s => @decide_eq_true_iff _ (Classical.propDecidable _)
      by_cases hE : (L.erase t).filter P = []
      · refine ⟨a, fun z => naw (z ▸ Cn.refl _), t, ht, filter_one hnd ht fun s hs => ⟨fun z => ?_, fun z => by rw [z]; exact atP_iff.mpr hta⟩⟩
        refine Classical.byContradiction fun y => ?_
        have h1 := hback s hs y
        have h2 := (hP s).mpr (cn_touch h1 (atP_iff.mp z) (Cn.refl _))
        have h3 : s ∈ (L.erase t).filter P := List.mem_filter.mpr ⟨h1, h2⟩
        rw [hE] at h3
        cases h3
      · have hl : (L.erase t).length < L.length := by
          rw [List.length_erase_of_mem ht]
          have := List.length_pos_of_mem ht
          omega
        have hl2 := List.length_filter_le P (L.erase t)
        obtain ⟨x, hxa, s, hs, hfs⟩ := leaf_exA n ((L.erase t).filter P) (by omega) hE ((hnd.erase t).filter _) (hF.sub fun r hr => (hsub r (List.mem_filter.mp hr).1).1) a
        have hs1 := List.mem_filter.mp hs
        have hsx : atP x (tieOf es s) = true := by
          have : s ∈ ((L.erase t).filter P).filter (fun r => atP x (tieOf es r)) := by rw [hfs]; exact List.mem_singleton.mpr rfl
          exact (List.mem_filter.mp this).2
        have hax : Cn (sub es (L.erase t)) a x := cn_end hs1.1 (atP_iff.mp hsx) ((hP s).mp hs1.2)
        refine ⟨x, fun z => naw (z ▸ hax), s, (hsub s hs1.1).1, filter_one hnd (hsub s hs1.1).1 fun r hr => ⟨fun z => ?_, fun z => by rw [z]; exact hsx⟩⟩
        by_cases hrt : r = t
        · exfalso
          rw [hrt] at z
          rcases htx x (atP_iff.mp z) with y | y
          · exact hxa y
          · exact nab (y ▸ hax)
        · have h1 := hback r hr hrt
          have h2 : r ∈ ((L.erase t).filter P).filter (fun r => atP x (tieOf es r)) := List.mem_filter.mpr ⟨List.mem_filter.mpr ⟨h1, (hP r).mpr (cn_touch h1 (atP_iff.mp z) hax)⟩, z⟩
          rw [hfs] at h2
          exact List.mem_singleton.mp h2
    by_cases h1 : Cn (sub es (L.erase t)) (tieOf es t).1 w
    · exact main (tieOf es t).2 (tieOf es t).1 (.inr ⟨rfl, rfl⟩) (fun z => hnc z.symm) fun z => hnc (h1.trans z.symm)
    · exact main (tieOf es t).1 (tieOf es t).2 (.inl ⟨rfl, rfl⟩) hnc h1
theorem leaf_of {es : List (Int × Int)} {L : List Int} (h0 : L ≠ []) (hn : L.Nodup) (A : Acy es L) : ∃ x : Int, ∃ t ∈ L, L.filter (fun s => atP x (tieOf es s)) = [t] := by
  obtain ⟨x, _, t, ht, h⟩ := leaf_exA L.length L (Nat.le_refl _) h0 hn A (-1)
  exact ⟨x, t, ht, h⟩
noncomputable def gF (es : List (Int × Int)) (os : List Int) (n : Nat) : List Int := (frN (sub es os) n).map fun i => os.getD i.toNat 0
theorem gF_len (es : List (Int × Int)) (os : List Int) : (gF es os os.length).length = (frst (sub es os)).length := by
  unfold gF frst; rw [List.length_map, sub_len]
theorem getD_all (os : List Int) : ((List.range os.length).map fun i => os.getD i 0) = os := by
  refine List.ext_getElem (by rw [List.length_map, List.length_range]) fun i h1 h2 => ?_
  rw [List.getElem_map, List.getElem_range, gD_at h2]
theorem gF_sub (es : List (Int × Int)) (os : List Int) : (gF es os os.length).Sublist os := by
  have e : gF es os os.length = ((List.range os.length).filter fun i => inF (sub es os) i).map fun i => os.getD i 0 := by
    unfold gF frN
    rw [List.map_map]
    exact List.map_congr_left fun i _ => rfl
  rw [e]
  have := (List.filter_sublist (l := List.range os.length) (p := fun i => inF (sub es os) i)).map fun i => os.getD i 0
  rwa [getD_all] at this
theorem gF_cn {es : List (Int × Int)} {os : List Int} {a b : Int} (h : Cn (sub es os) a b) : Cn (sub es (gF es os os.length)) a b := by
  have h1 := frst_cn (sub es os) (sub es os).length (Nat.le_refl _) (by rw [List.take_length]; exact h)
  rw [sub_len] at h1
  refine h1.mono fun e he => ?_
  obtain ⟨t, ht, rfl⟩ := List.mem_map.mp he
  refine List.mem_map.mpr ⟨os.getD t.toNat 0, List.mem_map.mpr ⟨t, ht, rfl⟩, ?_⟩
  have := mem_frN.mp ht
  unfold sub
  show tieOf es (os.getD t.toNat 0) = (os.map (tieOf es)).getD t.toNat (0, 0)
  rw [List.getD_eq_getElem?_getD, List.getD_eq_getElem?_getD, List.getElem?_map, List.getElem?_eq_getElem (show t.toNat < os.length by omega)]; rfl
theorem Spn.greedy {m : Int} {es : List (Int × Int)} {os cs : List Int} (hE : ∀ e ∈ es, 0 ≤ e.1 ∧ e.1 < m ∧ 0 ≤ e.2 ∧ e.2 < m) (hn : os.Nodup) (hr : ∀ t ∈ os, 0 ≤ t ∧ t < (es.length : Int)) (ha : ∀ t : Int, 0 ≤ t → t < (es.length : Int) → t ∈ os) (hp : cs.Perm (gF es os os.length)) (hs : cs.Pairwise (· ≤ ·)) : Spn es cs := by
  have hg := gF_sub es os
  have rc : ∀ t ∈ cs, 0 ≤ t ∧ t < (es.length : Int) := fun t ht => hr t (hg.mem (hp.mem_iff.mp ht))
  have c1 : ∀ {a b : Int}, Cn es a b → Cn (sub es os) a b := fun c => c.mono (mem_sub ha)
  have r1 : (frst (sub es os)).length = (frst es).length := rank_eq hE (ends_sub hE hr) (fun c => c.mono (sub_mem hr)) c1
  have hl : cs.length = (frst es).length := by rw [hp.length_eq, gF_len, r1]
  refine ⟨⟨rc, up_le hs (hp.nodup_iff.mpr (hg.nodup hn))⟩, ?_, hl⟩
  rw [hl]
  refine rank_eq hE (ends_sub hE rc) (fun c => c.mono (sub_mem rc)) fun c => (gF_cn (c1 c)).mono fun e he => ?_
  obtain ⟨t, ht, rfl⟩ := List.mem_map.mp he
  exact List.mem_map.mpr ⟨t, hp.mem_iff.mpr ht, rfl⟩
theorem acy_nd {es : List (Int × Int)} {zs : List Int} (h : (frst (sub es zs)).length = zs.length) : zs.Nodup := by
  rw [List.nodup_iff_pairwise_ne, List.pairwise_iff_getElem]
  intro i j hi hj hij e
  have h1 := inF_iff.mp (all_inF (es := sub es zs) (by rw [h, sub_len]) j (by rw [sub_len]; exact hj))
  have ej : (sub es zs).getD j (0, 0) = tieOf es zs[i] := by
    unfold sub
    rw [List.getD_eq_getElem?_getD, List.getElem?_map, List.getElem?_eq_getElem hj, e]; rfl
  rw [ej] at h1
  refine h1 (Cn.tie ?_)
  unfold sub
  rw [← List.map_take]
  exact List.mem_map.mpr ⟨zs[i], List.mem_take_iff_getElem.mpr ⟨i, by omega, rfl⟩, rfl⟩
theorem Spn.test {es : List (Int × Int)} {zs cs : List Int} {n : Nat} (hn : n = (frst es).length) (hr : ∀ t ∈ zs, 0 ≤ t ∧ t < (es.length : Int)) (hs : zs.Pairwise (· ≤ ·)) (hl : zs.length = n) (hp : cs.Perm (gF es zs zs.length)) (hc : cs.Pairwise (· ≤ ·)) : cs = zs ↔ Spn es zs := by
  constructor
  · intro z
    rw [z] at hp
    have h1 : (frst (sub es zs)).length = zs.length := by rw [← gF_len]; exact hp.length_eq.symm
    exact ⟨⟨hr, up_le hs (acy_nd h1)⟩, h1, by omega⟩
  · intro S
    have h1 : gF es zs zs.length = zs := (gF_sub es zs).eq_of_length (by rw [gF_len]; exact S.acy)
    rw [h1] at hp
    exact sorted_uniq hp hc hs
theorem fre_nil {es : List (Int × Int)} : fre es = [] ↔ (frst es).length = es.length := by
  have hl := frN_len es es.length
  unfold fre
  rw [List.filter_eq_nil_iff]
  constructor
  · intro h
    have := nodup_sub (l := upto es.length) (l' := frst es) (asc_nd (by unfold upto; rw [List.pairwise_map]; exact List.pairwise_lt_range.imp fun h => by omega)) fun t ht => by
      have := h t ht
      simp only [Bool.not_eq_true', Bool.not_eq_false, List.any_eq_true, beq_iff_eq] at this
      obtain ⟨x, hx, e⟩ := this
      exact e ▸ hx
    rw [upto_len] at this
    unfold frst at *
    omega
  · intro h t ht
    have h1 := mem_upto.mp ht
    have h2 : t ∈ frst es := mem_frN.mpr ⟨h1.1, h1.2, all_inF h t.toNat (by omega)⟩
    simp only [Bool.not_eq_true', Bool.not_eq_false, List.any_eq_true, beq_iff_eq]
    exact ⟨t, h2, rfl⟩
def bmp (cs : List Int) (t : Int) : List Int := cs.set t.toNat (cs.getD t.toNat 0 + 1)
def tg (p : Int) (es : List (Int × Int)) (t : Int) : Int := (if (tieOf es t).2 = p then 1 else 0) - (if (tieOf es t).1 = p then 1 else 0)
theorem bmp_len (cs : List Int) (t : Int) : (bmp cs t).length = cs.length := List.length_set ..
theorem bmp_at {cs : List Int} {t : Int} (ht : t.toNat < cs.length) (k : Nat) : (bmp cs t).getD k 0 = cs.getD k 0 + if k = t.toNat then 1 else 0 := by
  unfold bmp
  rw [List.getD_eq_getElem?_getD, List.getElem?_set]
  by_cases c : t.toNat = k
  · rw [if_pos c, if_pos ht, if_pos c.symm, c]; rfl
  · rw [if_neg c, if_neg (fun z => c z.symm), List.getD_eq_getElem?_getD, Int.add_zero]
theorem dp_bmp {p : Int} {es : List (Int × Int)} {cs : List Int} {t : Int} (hl : cs.length = es.length) (ht : t.toNat < es.length) : dp p es (bmp cs t) es.length = dp p es cs es.length + tg p es t := by
  unfold bmp tg tieOf
  rw [dp_set p es _ _ _ (by omega), if_pos ht]
  have e : cs.getD t.toNat 0 + 1 - cs.getD t.toNat 0 = 1 := by omega
  rw [e]
theorem Way.two {es : List (Int × Int)} {ss ts ps : List Int} {a b : Int} (p : Int) (W : Way es ss a ts ps b) : (2 : Int) ∣ (ts.map (tg p es)).sum + (if a = p then 1 else 0) + (if b = p then 1 else 0) := by
  induction W with
  | nil =>
    by_cases c : a = p
    · rw [if_pos c]; exact ⟨1, rfl⟩
    · rw [if_neg c]; exact ⟨0, rfl⟩
  | @snoc ts ps q t _ _ _ _ hq _ ih =>
    obtain ⟨u, hu⟩ := ih
    rw [List.map_append, List.sum_append]
    simp only [List.map_cons, List.map_nil, List.sum_cons, List.sum_nil]
    have key : ∃ v, tg p es t + (if q = p then 1 else 0) + (if far (tieOf es t) q = p then (1 : Int) else 0) = 2 * v := by
      unfold tg far
      by_cases c : (tieOf es t).1 = q
      · rw [if_pos c, c]
        by_cases c1 : q = p
        · rw [if_pos c1]; exact ⟨if (tieOf es t).2 = p then 1 else 0, by omega⟩
        · rw [if_neg c1]; exact ⟨if (tieOf es t).2 = p then 1 else 0, by omega⟩
      · rw [if_neg c, hq.resolve_left c]
        by_cases c1 : q = p
        · rw [if_pos c1]; exact ⟨1, by omega⟩
        · rw [if_neg c1]; exact ⟨0, by omega⟩
    obtain ⟨v, hv⟩ := key
    exact ⟨u + v - (if q = p then 1 else 0), by omega⟩
theorem Way.ring {es : List (Int × Int)} {ss ts ps : List Int} {t : Int} (p : Int) (W : Way es ss (tieOf es t).2 ts ps (tieOf es t).1) : (2 : Int) ∣ ((t :: ts).map (tg p es)).sum := by
  obtain ⟨u, hu⟩ := W.two p
  rw [List.map_cons, List.sum_cons]
  unfold tg at *
  exact ⟨u - (if (tieOf es t).1 = p then 1 else 0), by omega⟩
def odd (cs : List Int) : List Int := (upto cs.length).filter fun t => decide (cs.getD t.toNat 0 % 2 = 1)
theorem mem_odd {cs : List Int} {t : Int} : t ∈ odd cs ↔ 0 ≤ t ∧ t < (cs.length : Int) ∧ cs.getD t.toNat 0 % 2 = 1 := by
  unfold odd
  rw [List.mem_filter, mem_upto, decide_eq_true_eq, and_assoc]
theorem odd_ok (cs : List Int) : SetOk cs.length (odd cs) := by
  refine ⟨fun t ht => ⟨(mem_odd.mp ht).1, (mem_odd.mp ht).2.1⟩, List.Pairwise.filter _ ?_⟩
  unfold upto
  rw [List.pairwise_map]
  exact List.pairwise_lt_range.imp fun h => by omega
theorem odd_even {es : List (Int × Int)} {cs : List Int} (hl : cs.length = es.length) (h : ∀ p : Int, (2 : Int) ∣ dp p es cs es.length) : EvS es (odd cs) := fun p => by
  obtain ⟨u, hu⟩ := dp_cong (k := 2) (p := p) (es := es) (fs := mkS es.length (odd cs)) (gs := cs) es.length fun t ht => by
    rw [mkS_at ht]
    by_cases c : (t : Int) ∈ odd cs
    · rw [if_pos c]
      have := (mem_odd.mp c).2.2
      rw [Int.toNat_natCast] at this
      exact ⟨-(cs.getD t 0 / 2), by omega⟩
    · rw [if_neg c]
      have : ¬ cs.getD t 0 % 2 = 1 := fun z => c (mem_odd.mpr ⟨by omega, by omega, by rw [Int.toNat_natCast]; exact z⟩)
      exact ⟨-(cs.getD t 0 / 2), by omega⟩
  obtain ⟨v, hv⟩ := h p
  exact ⟨u + v, by omega⟩
theorem cn_diff {u : Int} {es : List (Int × Int)} {t : Nat} {xs ys : List Int} (h : ∀ k : Nat, k < es.length → k ≠ t → atP u (es.getD k (0, 0)) = true → xs.getD k 0 = ys.getD k 0) : ∀ n, n ≤ es.length → dp u es xs n - dp u es ys n = if t < n then (xs.getD t 0 - ys.getD t 0) * ((if (es.getD t (0, 0)).2 = u then 1 else 0) - (if (es.getD t (0, 0)).1 = u then 1 else 0)) else 0
  | 0, _ => by rw [if_neg (Nat.not_lt_zero _)]; rfl
  | n + 1, hn => by
    have ih := cn_diff h n (by omega)
    show (dp u es xs n + (if (es.getD n (0, 0)).2 = u then xs.getD n 0 else 0) - (if (es.getD n (0, 0)).1 = u then xs.getD n 0 else 0)) - (dp u es ys n + (if (es.getD n (0, 0)).2 = u then ys.getD n 0 else 0) - (if (es.getD n (0, 0)).1 = u then ys.getD n 0 else 0)) = _
    by_cases c : t = n
    · subst c
      rw [if_neg (Nat.lt_irrefl _)] at ih
      rw [if_pos (Nat.lt_succ_self _)]
      by_cases c1 : (es.getD t (0, 0)).2 = u <;> by_cases c2 : (es.getD t (0, 0)).1 = u
      · rw [if_pos c1, if_pos c1, if_pos c1, if_pos c2, if_pos c2, if_pos c2]; simp; omega
      · rw [if_pos c1, if_pos c1, if_pos c1, if_neg c2, if_neg c2, if_neg c2]; simp; omega
      · rw [if_neg c1, if_neg c1, if_neg c1, if_pos c2, if_pos c2, if_pos c2]; simp; omega
      · rw [if_neg c1, if_neg c1, if_neg c1, if_neg c2, if_neg c2, if_neg c2]; simp; omega
    · have hk : atP u (es.getD n (0, 0)) = true → xs.getD n 0 = ys.getD n 0 := h n (by omega) fun z => c z.symm
      have e1 : (if (es.getD n (0, 0)).2 = u then xs.getD n 0 else 0) = (if (es.getD n (0, 0)).2 = u then ys.getD n 0 else 0) := by
        by_cases c1 : (es.getD n (0, 0)).2 = u
        · rw [if_pos c1, if_pos c1]; exact hk (atP_iff.mpr (.inr c1))
        · rw [if_neg c1, if_neg c1]
      have e2 : (if (es.getD n (0, 0)).1 = u then xs.getD n 0 else 0) = (if (es.getD n (0, 0)).1 = u then ys.getD n 0 else 0) := by
        by_cases c1 : (es.getD n (0, 0)).1 = u
        · rw [if_pos c1, if_pos c1]; exact hk (atP_iff.mpr (.inl c1))
        · rw [if_neg c1, if_neg c1]
      rw [e1, e2]
      by_cases c3 : t < n
      · rw [if_pos c3] at ih; rw [if_pos (show t < n + 1 by omega)]; omega
      · rw [if_neg c3] at ih; rw [if_neg (show ¬ t < n + 1 by omega)]; omega
def cnE (p : Int) (es : List (Int × Int)) (ss : List Int) : Int := (ss.map fun t => (if (tieOf es t).1 = p then 1 else 0) + (if (tieOf es t).2 = p then (1 : Int) else 0)).sum
theorem dp_one (p : Int) (es : List (Int × Int)) (t : Nat) : ∀ n, t < n → dp p es (mkS n [(t : Int)]) n = (if (es.getD t (0, 0)).2 = p then 1 else 0) - (if (es.getD t (0, 0)).1 = p then 1 else 0) := fun n hn => by
  have e : mkS n [(t : Int)] = (List.replicate n (0 : Int)).set t 1 := by
    refine List.ext_getElem (by rw [mkS_len, List.length_set, List.length_replicate]) fun i h1 h2 => ?_
    rw [mkS_len] at h1
    rw [← gD_at (by rw [mkS_len]; exact h1), mkS_at h1, List.getElem_set, List.getElem_replicate]
    by_cases c : t = i
    · rw [if_pos c, if_pos (List.mem_singleton.mpr (by omega))]
    · rw [if_neg c, if_neg (fun z => c (by have := List.mem_singleton.mp z; omega))]
  rw [e, dp_set p es _ _ _ (by rw [List.length_replicate]; exact hn), dp_nil, if_pos hn]
  have z : (List.replicate n (0 : Int)).getD t 0 = 0 := by rw [List.getD_eq_getElem?_getD, List.getElem?_replicate]; split <;> rfl
  rw [z, Int.sub_zero]; omega
theorem dp_cnE {es : List (Int × Int)} (p : Int) : ∀ {ss : List Int}, ss.Nodup → (∀ t ∈ ss, 0 ≤ t ∧ t < (es.length : Int)) → (2 : Int) ∣ dp p es (mkS es.length ss) es.length - cnE p es ss := by
  intro ss
  induction ss with
  | nil =>
    intro _ _
    obtain ⟨u, hu⟩ := EvS.nil es p
    exact ⟨u, by rw [hu]; show 2 * u - 0 = _; omega⟩
  | cons t ss ih =>
    intro hn hr
    rw [List.nodup_cons] at hn
    obtain ⟨u, hu⟩ := ih hn.2 fun z hz => hr z (List.mem_cons_of_mem _ hz)
    have ht := hr t List.mem_cons_self
    have h1 := dp_one p es t.toNat es.length (by omega)
    rw [show ((t.toNat : Nat) : Int) = t by omega] at h1
    have hl : (mkS es.length ss).length = (mkS es.length [t]).length := by rw [mkS_len, mkS_len]
    have e : mkS es.length (t :: ss) = List.zipWith (· + ·) (mkS es.length ss) (mkS es.length [t]) := by
      refine List.ext_getElem (by rw [mkS_len, List.length_zipWith, ← hl, mkS_len, Nat.min_self]) fun i h2 h3 => ?_
      rw [mkS_len] at h2
      rw [← gD_at (by rw [mkS_len]; exact h2), ← gD_at h3, getD_zip _ _ hl, mkS_at h2, mkS_at h2, mkS_at h2]
      by_cases c : (i : Int) = t
      · rw [if_pos (List.mem_cons.mpr (.inl c)), if_neg (show ¬ (i : Int) ∈ ss from fun z => hn.1 (c ▸ z)), if_pos (List.mem_singleton.mpr c)]; rfl
      · rw [if_neg (show ¬ (i : Int) ∈ [t] from fun z => c (List.mem_singleton.mp z))]
        by_cases c2 : (i : Int) ∈ ss
        · rw [if_pos (List.mem_cons_of_mem _ c2), if_pos c2]; rfl
        · rw [if_neg (fun z => (List.mem_cons.mp z).elim c c2), if_neg c2]; rfl
    have ec : cnE p es (t :: ss) = ((if (tieOf es t).1 = p then 1 else 0) + (if (tieOf es t).2 = p then (1 : Int) else 0)) + cnE p es ss := by
      unfold cnE; rw [List.map_cons, List.sum_cons]
    rw [e, dp_zip p es _ _ hl, h1, ec]
    unfold tieOf
    by_cases c1 : (es.getD t.toNat (0, 0)).1 = p
    · rw [if_pos c1]
      exact ⟨u - 1, by omega⟩
    · rw [if_neg c1]
      exact ⟨u, by omega⟩
theorem leaf_odd {es : List (Int × Int)} {fs S : List Int} {u t : Int} (hn : fs.Nodup) (hr : ∀ s ∈ fs, 0 ≤ s ∧ s < (es.length : Int)) (hS : SetOk es.length S) (hV : EvS es S) (t0 : 0 ≤ t) (t1 : t < (es.length : Int)) (hl : (tieOf es t).1 ≠ (tieOf es t).2) (hu : atP u (tieOf es t) = true) (htf : ¬ t ∈ fs) (h : ∀ s : Int, 0 ≤ s → s < (es.length : Int) → s ≠ t → atP u (tieOf es s) = true → (s ∈ fs ↔ s ∈ S)) : cnE u es fs % 2 = 1 ↔ t ∈ S := by
  obtain ⟨a, ha⟩ := dp_cnE (es := es) u hn hr
  obtain ⟨b, hb⟩ := hV u
  have hd := cn_diff (u := u) (es := es) (t := t.toNat) (xs := mkS es.length fs) (ys := mkS es.length S) (fun k hk hkt hku => by
    rw [mkS_at hk, mkS_at hk]
    have e := h (k : Int) (by omega) (by omega) (by omega) hku
    by_cases c : (k : Int) ∈ fs
    · rw [if_pos c, if_pos (e.mp c)]
    · rw [if_neg c, if_neg (fun z => c (e.mpr z))]) es.length (Nat.le_refl _)
  rw [if_pos (by omega), mkS_at (by omega), mkS_at (by omega), show ((t.toNat : Nat) : Int) = t by omega, if_neg htf] at hd
  unfold tieOf at hl hu
  by_cases c : t ∈ S
  · rw [if_pos c] at hd
    rcases atP_iff.mp hu with y | y
    · rw [if_pos y, if_neg (fun z => hl (y.trans z.symm))] at hd
      exact ⟨fun _ => c, fun _ => by omega⟩
    · rw [if_pos y, if_neg (fun z => hl (z.trans y.symm))] at hd
      exact ⟨fun _ => c, fun _ => by omega⟩
  · rw [if_neg c] at hd
    rw [Int.sub_self, Int.zero_mul] at hd
    exact ⟨fun z => by omega, fun z => absurd z c⟩
end L2
namespace Pk
open PySem L2 PyProof.Rows
def top (i : Nat) : Stmt := PySem.Challenge.pw_busyweb_k38_completed.main.body.getD i (.Pass ⟨0, 0, 0, 0⟩)
abbrev sN : Stmt := inClass (top 16) 0
abbrev sMe : Stmt := top 17
abbrev sPc : Stmt := top 18
abbrev sAm : Stmt := top 20
abbrev sGs : Stmt := top 21
abbrev sFr : Stmt := top 23
abbrev sFt : Stmt := top 24
abbrev sFe : Stmt := top 25
abbrev sFw : Stmt := top 26
abbrev sWb : Stmt := top 27
abbrev sCr : Stmt := top 29
abbrev sRs : Stmt := top 30
abbrev sIr : Stmt := top 31
abbrev sCk : Stmt := top 33
abbrev sMr : Stmt := top 34
abbrev sEv : Stmt := top 35
abbrev sSg : Stmt := top 36
abbrev sCg : Stmt := top 37
abbrev sCo : Stmt := top 38
abbrev sC : Stmt := top 40
abbrev sH : Stmt := top 41
abbrev sX : Stmt := top 42
abbrev sE : Stmt := top 43
abbrev sD : Stmt := top 44
abbrev sFo : Stmt := top 45
abbrev sCh : Stmt := top 46
abbrev sCm : Stmt := top 47
abbrev sLi : Stmt := top 48
abbrev sBs : Stmt := top 49
abbrev sOr : Stmt := top 50
abbrev sRf : Stmt := top 51
abbrev sR : Stmt := top 52
abbrev sL : Stmt := top 53
structure Cs where
  FlowError : Addr
  BadWeb : Addr
  TooMany : Addr
  BadPlace : Addr
  BadTie : Addr
  BadFlow : Addr
  BadRest : Addr
  NoFlow : Addr
  BadSet : Addr
  BadPaper : Addr
  BadText : Addr
  BadDeed : Addr
  Web : Addr
structure Alone (K : PySem.W.Frag) (c : Cs) (A : Addr) : Prop where
  ex : ExcC K A
  ks : ∃ b1 b2 b3 b4 b5 b6 b7 b8 b9 b10 b11 : Bool, PySem.W.kitOne K (.ref A) (.ref c.BadWeb) = some b1 ∧ PySem.W.kitOne K (.ref A) (.ref c.TooMany) = some b2 ∧ PySem.W.kitOne K (.ref A) (.ref c.BadPlace) = some b3 ∧ PySem.W.kitOne K (.ref A) (.ref c.BadTie) = some b4 ∧
    PySem.W.kitOne K (.ref A) (.ref c.BadFlow) = some b5 ∧ PySem.W.kitOne K (.ref A) (.ref c.BadRest) = some b6 ∧ PySem.W.kitOne K (.ref A) (.ref c.NoFlow) = some b7 ∧ PySem.W.kitOne K (.ref A) (.ref c.BadSet) = some b8 ∧
    PySem.W.kitOne K (.ref A) (.ref c.BadPaper) = some b9 ∧ PySem.W.kitOne K (.ref A) (.ref c.BadText) = some b10 ∧ PySem.W.kitOne K (.ref A) (.ref c.BadDeed) = some b11 ∧
    ([V.bl b1, .bl b2, .bl b3, .bl b4, .bl b5, .bl b6, .bl b7, .bl b8, .bl b9, .bl b10, .bl b11].countP fun z => eqV z (.bl true)) = 1
  fe : PySem.W.kitOne K (.ref A) (.ref c.FlowError) = some true
  ve : PySem.W.kitOne K (.ref A) (.type "ValueError") = some true
structure Txt (K : PySem.W.Frag) (mg : Str → Option Value) (c : Cs) : Prop where
  ValueError : mg "ValueError" = none
  abs : mg "abs" = none
  all : mg "all" = none
  any : mg "any" = none
  bool : mg "bool" = none
  enumerate : mg "enumerate" = none
  int : mg "int" = none
  isinstance : mg "isinstance" = none
  len : mg "len" = none
  list : mg "list" = none
  max : mg "max" = none
  min : mg "min" = none
  range : mg "range" = none
  sorted : mg "sorted" = none
  sum : mg "sum" = none
  tuple : mg "tuple" = none
  zip : mg "zip" = none
  mFlowError : mg "FlowError" = some (.ref c.FlowError)
  mBadWeb : mg "BadWeb" = some (.ref c.BadWeb)
  mTooMany : mg "TooMany" = some (.ref c.TooMany)
  mBadPlace : mg "BadPlace" = some (.ref c.BadPlace)
  mBadTie : mg "BadTie" = some (.ref c.BadTie)
  mBadFlow : mg "BadFlow" = some (.ref c.BadFlow)
  mBadRest : mg "BadRest" = some (.ref c.BadRest)
  mNoFlow : mg "NoFlow" = some (.ref c.NoFlow)
  mBadSet : mg "BadSet" = some (.ref c.BadSet)
  mBadPaper : mg "BadPaper" = some (.ref c.BadPaper)
  mBadText : mg "BadText" = some (.ref c.BadText)
  mBadDeed : mg "BadDeed" = some (.ref c.BadDeed)
  mWeb : mg "Web" = some (.ref c.Web)
  web : WebC K c.Web
  most_places : ∃ t, mg "MOST_PLACES" = some (.int 20 t)
  most_ties : ∃ t, mg "MOST_TIES" = some (.int 40 t)
  xFlowError : IsExc K c.FlowError
  xBadFlow : IsExc K c.BadFlow
  rBadFlow : PySem.W.mroIn K c.BadFlow (.ref c.FlowError) = some true
  alBadFlow : Alone K c c.BadFlow
  xBadRest : IsExc K c.BadRest
  rBadRest : PySem.W.mroIn K c.BadRest (.ref c.FlowError) = some true
  alBadRest : Alone K c c.BadRest
  xBadSet : IsExc K c.BadSet
  rBadSet : PySem.W.mroIn K c.BadSet (.ref c.FlowError) = some true
  alBadSet : Alone K c c.BadSet
def spLaw (K : PySem.W.Frag) : Sp := fun vs H Q _ => ∃ (a : Addr) (ns : List Int), vs = [.ref a] ∧ SqL K H a (ns.map V.int) ∧ ns.length ≤ 63 ∧ ∀ H', Q (.bl true) H'
section
variable {P : Program} {w : World} {K : PySem.W.Frag} {mg : Str → Option Value} {base : Heap} {c : Cs}
theorem scN : FnScope ["self", "many", "ties", "start", "end"] ["self", "many", "ties"] (defScope sN) := ⟨rfl, rfl, rfl, by decide +kernel, rfl, by decide +kernel, by decide +kernel⟩
theorem putF2 (m : Int) (t : Addr) : putF "ties" (.ref t) (putF "many" (.int m) []) = wFs m t := rfl
theorem ok_N {f : Addr} {fd : FuncData} (F : Fun K "__init__" "Web.__init__" sN f fd) (T : Txt K mg c) : FnOk P w K mg base CX0 1 f fd ["self", "many", "ties"] (spInit K c.Web) := by
  refine F.ok scN (fun vs H Q E h => ?_) (fun cdv A outer s H vs Q E hr h => ?_)
  · obtain ⟨x, dx, p, m, xs, es, rfl, _⟩ := h
    rfl
  · obtain ⟨x, dx, p, m, xs, es, rfl, hx, hS, hp, m1, m2, hz, hE, k⟩ := h
    have hlen := hp.len
    refine ⟨_, pss_cons (ps_if (PW.pt (pw_or (pt_cmpR op_lt (pv 1) (pe_int) (nomark _)) (pw_or (pt_cmpR op_gt (pv 1) (pe_glob (v := .int 20) (by rfl) T.most_places.choose_spec ⟨_, rfl⟩) (nomark _)) (pw_or1 (pt_cmpR op_gt (pe_callB (cLen (K := K) rfl) (by rfl) T.len PySem.boot_len (pa_cons (pv 2) pa_nil)) (pe_glob (v := .int 40) (by rfl) T.most_ties.choose_spec ⟨_, rfl⟩) (nomark _))))))
        (pss_one (ps_never)) (pss_nil))
      (pss_cons (ps_for PassesOwn.never rfl (piSeq (K := K) rfl (pv 2)) (pgTup (K := K) (n := 2) rfl rfl (pgs_cons (pg_name (i := 3) scN.nd rfl (Or.inl rfl)) (pgs_cons (pg_name (i := 4) scN.nd rfl (Or.inl rfl)) (pgs_nil))) rfl)
        (pss_one (ps_if (pt_not (PW.pt (pw_and (pt_chain op_le op_lt (pe_int) (pv 3) (pv 1)) (pw_and1 (pt_chain op_le op_lt (pe_int) (pv 4) (pv 1))))))
        (pss_one (ps_never)) (pss_nil))))
      (pss_cons (ps_fld (pv 0) (pv 1) rfl)
      (pss_one (ps_fld (pv 0) (pe_callTy (cTuple (K := K) rfl) (by rfl) T.tuple PyProof.Rows.boot_tuple (pa_cons (pe_lc (N' := ["start", "end"]) (nl := 2) (js := []) rfl (.of (osc := defScope sN) (N := ["self", "many", "ties", "start", "end"]) (by decide +kernel) rfl rfl) (piSeq (K := K) rfl (pv 2))
        (fun _ _ _ _ => pgPair (K := K) (i := 0) (j := 1) rfl rfl (show (["start", "end"] : List Str).Nodup by decide +kernel) rfl rfl rfl rfl) (fun _ _ _ _ => pif_nil)
        (fun _ _ _ _ => pe_tup (pa_cons (pv 0) (pa_cons (pv 1) pa_nil)))) pa_nil)) rfl)))), ?_⟩
    refine ⟨_, rfl, _, _, rfl, rfl, _, rfl, ?_⟩
    rw [decide_eq_false (by omega)]
    refine iteF ⟨_, rfl, _, _, rfl, rfl, _, rfl, ?_⟩
    rw [decide_eq_false (by omega)]
    refine iteF ⟨_, rfl, p, xs, rfl, hS, _, _, rfl, rfl, _, rfl, ?_⟩
    rw [decide_eq_false (by omega)]
    refine iteF ⟨_, rfl, p, xs, rfl, hS, fun J C O hC => for_by O (fun i σ H2 => H2 = H ∧ ∃ v3 v4, σ = [some (.ref x), some (.int m), some (.ref p), v3, v4]) ⟨rfl, _, _, rfl⟩ (fun i σ H2 _ h => by rw [h.1]; exact hC _ (Same.refl _)) ?_ ?_⟩
    · rintro i σ H2 hi ⟨rfl, v3, v4, rfl⟩
      obtain ⟨r, e, er, hr2, _, he⟩ := hp.at hi
      obtain ⟨b1, b2, b3, b4⟩ := hE e he
      dsimp only
      rw [er]
      refine ⟨r, _, rfl, hr2, rfl, _, _, rfl, _, _, rfl, rfl, ?_⟩
      refine ⟨_, rfl, _, _, rfl, rfl, _, rfl, ?_⟩
      rw [decide_eq_true b1]
      refine iteT ⟨_, rfl, _, _, rfl, rfl, _, rfl, ?_⟩
      rw [decide_eq_true b2]
      refine iteT ⟨_, rfl, _, _, rfl, rfl, _, rfl, ?_⟩
      rw [decide_eq_true b3]
      refine iteT ⟨_, rfl, _, _, rfl, rfl, _, rfl, ?_⟩
      rw [decide_eq_true b4]
      exact iteF ⟨rfl, _, _, rfl⟩
    · rintro σ H2 ⟨rfl, v3, v4, rfl⟩
      refine ⟨_, rfl, _, rfl, x, c.Web, dx, _, rfl, hx, T.web.cl, T.web.nM, (by show 0 < 1000; decide), ?_⟩
      have sx : SameX x H2 (upd H2 x (.ins c.Web dx (putF "many" (.int m) []))) := sameX_upd
      have hS' := hS.imp (fun y => sx.seqI hx y) (fun y => sx.tupI hx y)
      have hp' := hp.sameI sx hx
      have hx' : (upd H2 x (.ins c.Web dx (putF "many" (.int m) []))) x = some (.ins c.Web dx (putF "many" (.int m) [])) := upd_same
      generalize upd H2 x (.ins c.Web dx (putF "many" (.int m) [])) = H3 at sx hS' hp' hx'
      refine ⟨_, rfl, p, xs, rfl, hS', fun J C O hC => lc_by O (fun i ys H4 => Same H3 H4 ∧ Pairs K H4 ys (es.take i)) (Nat.le_of_lt (small1000 (by omega))) ⟨Same.refl _, .nil⟩ ?_ ?_ ?_⟩
      · rintro i ys H4 hi ⟨s4, h4⟩
        have := h4.len
        rw [List.length_take] at this
        exact ⟨hC _ s4, by omega⟩
      · rintro i ys H4 hi ⟨s4, h4⟩
        obtain ⟨r, e, er, hr2, he, _⟩ := (hp'.same s4).at hi
        have hl4 := h4.len
        rw [List.length_take] at hl4
        try dsimp only
        rw [er]
        refine ⟨r, _, rfl, hr2, rfl, _, _, rfl, _, _, rfl, rfl, wk_set2 rfl rfl, iteT ?_⟩
        refine ⟨_, rfl, _, rfl, (by show 2 ≤ sizeLine; decide), fun t ht => ⟨small1000 (by omega), _, by omega, rfl, hi, s4.next ht, ?_⟩⟩
        rw [take_snoc he]
        exact (h4.same (Same.new ht)).snoc (SqT.of upd_same)
      · rintro ys H4 ⟨s4, h4⟩ l hl
        rw [show es.take xs.length = es from List.take_of_length_le (by omega)] at h4
        refine ⟨l, ys, rfl, .inl ⟨SqL.of upd_same, fun t ht => ?_⟩⟩
        have s5 : Same H3 (upd (upd H4 l (.lst ys)) t (.tup ys)) := (s4.next hl).next ht
        refine ⟨_, rfl, x, c.Web, dx, _, rfl, s5 _ _ hx', T.web.cl, T.web.nT, (by show 1 < 1000; decide), ?_⟩
        rw [putF2]
        have hxt : t ≠ x := (ne_of_none (((s4.next hl)) _ _ hx') ht).symm
        refine k _ t ys ((sx.trans (.of s5)).trans sameX_upd) upd_same (by rw [upd_ne hxt]; exact upd_same) ?_
        exact Pairs.sameI sameX_upd (s5 _ _ hx') ((h4.same (Same.new hl)).same (Same.new ht))
def spMe (K : PySem.W.Frag) : Sp := fun vs H Q _ => ∃ (l : Addr) (a b : Int) (ls : List Int), vs = [.ref l, .int a, .int b] ∧ SqL K H l (ls.map V.int) ∧ ls.length ≤ 900 ∧ 0 ≤ a ∧ a < ls.length ∧ 0 ≤ b ∧ b < ls.length ∧
  ∀ l2 H', H l2 = none → Same H H' → H' l2 = some (.lst ((ls.map fun x => if x = max (lf ls a) (lf ls b) then min (lf ls a) (lf ls b) else x).map V.int)) → Q (.ref l2) H'
theorem imin (i j : Int) : (if j < i then j else i) = min i j := by split <;> omega
theorem imax (i j : Int) : (if j > i then j else i) = max i j := by split <;> omega
theorem scMe : FnScope ["labels", "one", "two", "low", "high"] ["labels", "one", "two"] (defScope sMe) := ⟨rfl, rfl, rfl, by decide +kernel, rfl, by decide +kernel, by decide +kernel⟩
set_option maxHeartbeats 4000000 in
theorem ok_Me {f : Addr} {fd : FuncData} (F : Fun K "merged" "merged" sMe f fd) (T : Txt K mg c) : FnOk P w K mg base CX0 1 f fd ["labels", "one", "two"] (spMe K) := by
  refine F.ok scMe (fun vs H Q E h => ?_) (fun cdv A outer s H vs Q E hr h => ?_)
  · obtain ⟨l, a, b, ls, rfl, _⟩ := h
    rfl
  · obtain ⟨l, a, b, ls, rfl, hl, hz, a0, a1, b0, b1, k⟩ := h
    refine ⟨_, pss_cons (ps_set (i := 3) scMe.nd rfl (Or.inr rfl) (pe_callB (call_min2 rfl) (by rfl) T.min PyProof.Rows.boot_min (pa_cons (pe_ix (ixL (K := K) rfl) (pv 0) (pv 1) (fun _ _ => rfl)) (pa_cons (pe_ix (ixL (K := K) rfl) (pv 0) (pv 2) (fun _ _ => rfl)) pa_nil))))
      (pss_cons (ps_set (i := 4) scMe.nd rfl (Or.inr rfl) (pe_callB (call_max2 rfl) (by rfl) T.max PyProof.Rows.boot_max (pa_cons (pe_ix (ixL (K := K) rfl) (pv 0) (pv 1) (fun _ _ => rfl)) (pa_cons (pe_ix (ixL (K := K) rfl) (pv 0) (pv 2) (fun _ _ => rfl)) pa_nil))))
      (pss_one (ps_ret (pe_lc (N' := ["label", "low", "high"]) (nl := 1) (js := [3, 4]) rfl (.of (osc := defScope sMe) (N := ["labels", "one", "two", "low", "high"]) (by decide +kernel) rfl rfl) (piSeq (K := K) rfl (pv 0))
        (fun _ _ _ _ => pg_name (i := 0) (show (["label", "low", "high"] : List Str).Nodup by decide +kernel) rfl (Or.inl rfl)) (fun _ _ _ _ => pif_nil)
        (fun _ _ _ _ => pe_ifExp (pt_cmpR op_eq (pv 0) (pv 2) (nomark _)) (pv 1) (pv 0)))))), ?_⟩
    refine ⟨_, rfl, _, rfl, l, _, _, _, rfl, rfl, hl, at_int a0 a1, _, rfl, _, rfl, l, _, _, _, rfl, rfl, hl, at_int b0 b1, _, _, rfl, ?_⟩
    refine ⟨_, rfl, _, rfl, l, _, _, _, rfl, rfl, hl, at_int a0 a1, _, rfl, _, rfl, l, _, _, _, rfl, rfl, hl, at_int b0 b1, _, _, rfl, ?_⟩
    have hf : ∀ x : Int, (if x = max (lf ls a) (lf ls b) then min (lf ls a) (lf ls b) else x) = (if x = (if ls.getD b.toNat 0 > ls.getD a.toNat 0 then ls.getD b.toNat 0 else ls.getD a.toNat 0) then (if ls.getD b.toNat 0 < ls.getD a.toNat 0 then ls.getD b.toNat 0 else ls.getD a.toNat 0) else x) := fun x => by
      rw [imin, imax]; rfl
    refine ⟨_, rfl, l, _, rfl, .inl hl, fun J C O hC => lc_by O (fun i ys H2 => H2 = H ∧ ys = ((ls.map fun x => if x = max (lf ls a) (lf ls b) then min (lf ls a) (lf ls b) else x).take i).map V.int) (by rw [List.length_map]; exact Nat.le_of_lt (small1000 (by omega))) ⟨rfl, rfl⟩ ?_ ?_ ?_⟩
    · rintro i ys H2 hi ⟨rfl, rfl⟩
      exact ⟨hC _ (Same.refl _), by rw [List.length_map, List.length_take]; omega⟩
    · rintro i ys H hi ⟨rfl, rfl⟩
      obtain ⟨v, ev, gv⟩ := getD_map_int hi
      rw [List.length_map] at hi
      dsimp only
      rw [ev]
      have fin : ∀ u, u = (if v = max (lf ls a) (lf ls b) then min (lf ls a) (lf ls b) else v) → ((ls.map fun x => if x = max (lf ls a) (lf ls b) then min (lf ls a) (lf ls b) else x).take i).map V.int ++ [V.int u] = ((ls.map fun x => if x = max (lf ls a) (lf ls b) then min (lf ls a) (lf ls b) else x).take (i + 1)).map V.int := fun u e => by
        have hv : (ls.map fun x => if x = max (lf ls a) (lf ls b) then min (lf ls a) (lf ls b) else x)[i]? = some u := by rw [List.getElem?_map, gv, e]; rfl
        rw [take_snoc hv, List.map_append]; rfl
      have hl2 : (((ls.map fun x => if x = max (lf ls a) (lf ls b) then min (lf ls a) (lf ls b) else x).take i).map V.int).length < sizeLine := small1000 (by rw [List.length_map, List.length_take]; omega)
      refine ⟨wk_set rfl, iteT ?_⟩
      refine ⟨_, rfl, _, rfl, rfl, _, rfl, ite2 (fun c1 => ?_) (fun c1 => ?_)⟩
      · refine ⟨_, rfl, hl2, _, by rw [List.length_map]; omega, rfl, by rw [List.length_map]; omega, rfl, fin _ ?_⟩
        have c1' := of_decide_eq_true c1
        injection c1' with c1'
        rw [hf, if_pos c1']
      · refine ⟨_, rfl, hl2, _, by rw [List.length_map]; omega, rfl, by rw [List.length_map]; omega, rfl, fin _ ?_⟩
        rw [hf, if_neg (fun z => c1 (decide_eq_true (by rw [z])))]
    · rintro ys H ⟨rfl, rfl⟩ l2 nl
      rw [List.length_map, List.take_of_length_le (by rw [List.length_map]; omega)]
      exact k l2 _ nl (Same.new nl) upd_same
def PcR (K : PySem.W.Frag) (H : Hp) (n : Nat) (f : Int → Int) (l : Addr) (H' : Hp) : Prop := Same H H' ∧ H l = none ∧ ∃ ad : Int → Addr, H' l = some (.lst ((rts n f).map fun r => V.ref (ad r))) ∧
  (∀ r ∈ rts n f, H (ad r) = none ∧ ad r ≠ l ∧ H' (ad r) = some (.lst ((grp n f r).map V.int))) ∧ ∀ r ∈ rts n f, ∀ r' ∈ rts n f, ad r = ad r' → r = r'
def spPc (K : PySem.W.Frag) (c : Cs) : Sp := fun vs H Q _ => ∃ (x : Addr) (m : Int) (es : List (Int × Int)), vs = [.ref x] ∧ WebAt K c.Web H x m es ∧ 1 ≤ m ∧ m ≤ 20 ∧ es.length ≤ 40 ∧ EndsIn es m ∧
  ∀ (l : Addr) (f : Int → Int) (H' : Hp), Lab m es f → PcR K H m.toNat f l H' → Q (.ref l) H'
theorem scPc : FnScope ["web", "labels", "start", "end", "groups", "place", "label"] ["web"] (defScope sPc) := ⟨rfl, rfl, rfl, by decide +kernel, rfl, by decide +kernel, by decide +kernel⟩
set_option maxHeartbeats 4000000 in
theorem ok_Pc {f : Addr} {fd : FuncData} (F : Fun K "pieces" "pieces" sPc f fd) (T : Txt K mg c) (D_Me : Def P w K mg base 1 "merged" ["labels", "one", "two"] (spMe K)) : FnOk P w K mg base CX0 2 f fd ["web"] (spPc K c) := by
  refine F.ok scPc (fun vs H Q E h => ?_) (fun cdv A outer s H vs Q E hr h => ?_)
  · obtain ⟨x, m, es, rfl, _⟩ := h
    rfl
  · obtain ⟨x, m, es, rfl, hw, m1, m2, hz, hE, k⟩ := h
    refine ⟨_, pss_cons (ps_set (i := 1) scPc.nd rfl (Or.inl rfl) (pe_listrange1 rfl rfl T.list rfl T.range (pa_cons (pMany (K := K) rfl T.web (pv 0)) pa_nil)))
      (pss_cons (ps_for PassesOwn.never rfl (piSeq (K := K) rfl (pTies (K := K) rfl T.web (pv 0))) (pgTup (K := K) (n := 2) rfl rfl (pgs_cons (pg_name (i := 2) scPc.nd rfl (Or.inl rfl)) (pgs_cons (pg_name (i := 3) scPc.nd rfl (Or.inl rfl)) (pgs_nil))) rfl)
        (pss_one (ps_set (i := 1) scPc.nd rfl (Or.inl rfl) (pe_defR D_Me hr (pa_cons (pv 1) (pa_cons (pv 2) (pa_cons (pv 3) pa_nil)))))))
      (pss_cons (ps_set (i := 4) scPc.nd rfl (Or.inl rfl) (pe_dnewK))
      (pss_cons (ps_for PassesOwn.never rfl (pi_enum (K := K) rfl rfl T.enumerate (pa_cons (pv 1) pa_nil)) (pgTup (K := K) (n := 2) rfl rfl (pgs_cons (pg_name (i := 5) scPc.nd rfl (Or.inl rfl)) (pgs_cons (pg_name (i := 6) scPc.nd rfl (Or.inl rfl)) (pgs_nil))) rfl)
        (pss_one (ps_expr (pe_bm PySem.F.plainAttrs_list PySem.F.slot_list_append PySem.F.type_list_append mt_append (pe_dsetd (pv 4) (pv 6) (pe_lst pa_nil) ⟨rfl, rfl, rfl, rfl⟩) (pa_cons (pv 5) pa_nil)))))
      (pss_one (ps_ret (pe_listvals rfl rfl T.list (pv 4))))))), ?_⟩
    refine ⟨_, rfl, x, m, es, rfl, hw, m, rfl, by omega, by omega, fun l0 nl0 => ?_⟩
    have s0 : Same H (upd H l0 (.lst (((List.range m.toNat).map fun i => 0 + ((i : Nat) : Int)).map V.int))) := Same.new nl0
    have e0 : (upd H l0 (.lst (((List.range m.toNat).map fun i => 0 + ((i : Nat) : Int)).map V.int))) l0 = some (.lst (((List.range m.toNat).map fun i => 0 + ((i : Nat) : Int)).map V.int)) := upd_same
    generalize upd H l0 (.lst (((List.range m.toNat).map fun i => 0 + ((i : Nat) : Int)).map V.int)) = H0 at s0 e0
    refine ⟨_, rfl, x, m, es, rfl, hw.same s0, fun t ys ht hp => ⟨t, ys, rfl, .inr (SqT.of ht), fun J C O hC => ?_⟩⟩
    have hpl := hp.len
    refine for_by O (fun i σ H2 => ∃ (lb : Addr) (ls : List Int) (v2 v3 : Option V), σ = [some (.ref x), some (.ref lb), v2, v3, none, none, none] ∧ Same H0 H2 ∧ H2 lb = some (.lst (ls.map V.int)) ∧ ls.length = m.toNat ∧ Lab m (es.take i) (lf ls)) ⟨l0, _, none, none, rfl, Same.refl _, e0, by rw [List.length_map, List.length_range], (Lab.nil m).congr (fun e he => (nomatch he)) fun p p0 p1 => (lf_range m.toNat p p0 (by omega)).symm⟩ (fun i σ H2 _ h => ?_) ?_ ?_
    · obtain ⟨lb, ls, v2, v3, _, s2, _⟩ := h
      exact hC _ s2
    · rintro i σ H2 hi ⟨lb, ls, v2, v3, rfl, s2, hl2, hll, hL⟩
      obtain ⟨r, e, er, hr2, ei, he⟩ := hp.at hi
      obtain ⟨b1, b2, b3, b4⟩ := hE e he
      dsimp only
      rw [er]
      refine ⟨r, _, rfl, s2.tup hr2, rfl, _, _, rfl, _, _, rfl, rfl, ?_⟩
      refine ⟨_, rfl, _, rfl, _, rfl, lb, e.1, e.2, ls, rfl, SqL.of hl2, by omega, b1, by omega, b3, by omega, fun l3 H3 nl3 s3 e3 => ?_⟩
      refine ⟨l3, _, _, _, rfl, s2.trans s3, e3, by rw [List.length_map]; exact hll, ?_⟩
      rw [take_snoc ei]
      refine (hL.merge ⟨b1, b2, b3, b4⟩).congr (fun a ha => ?_) fun p p0 p1 => (lf_map ls (fun x => if x = max (lf ls e.1) (lf ls e.2) then min (lf ls e.1) (lf ls e.2) else x) p p0 (by omega)).symm
      rcases List.mem_append.mp ha with y | y
      · exact hE a (List.mem_of_mem_take y)
      · rw [List.mem_singleton.mp y]; exact ⟨b1, b2, b3, b4⟩
    · rintro σ H2 ⟨lb, ls, v2, v3, rfl, s2, hl2, hll, hL⟩
      rw [hpl, List.take_length] at hL
      have s02 := s0.trans s2
      clear s2 s0 e0 hC O ht hp hpl
      intro d nd
      have sd : Same H (upd H2 d (.dK [])) := s02.next nd
      have hd : (upd H2 d (.dK [])) d = some (.dK []) := upd_same
      have ld : (upd H2 d (.dK [])) lb = some (.lst (ls.map V.int)) := Same.new nd _ _ hl2
      have ndH : H d = none := by
        cases e : H d with
        | none => rfl
        | some o => have := s02 _ _ e; rw [nd] at this; cases this
      generalize upd H2 d (.dK []) = H3 at sd hd ld
      have Lf : ∀ p : Int, 0 ≤ p → p < m → 0 ≤ lf ls p ∧ lf ls p ≤ p := hL.low
      have Li : ∀ p : Int, 0 ≤ p → p < m → lf ls (lf ls p) = lf ls p := fun p p0 p1 => hL.idem p0 p1
      have hlm : (ls.map V.int).length = ls.length := List.length_map ..
      refine ⟨_, rfl, false, lb, _, rfl, SqL.of ld, fun J C O hC => ?_⟩
      refine for_byP O (fun i σ H4 => ∃ (ad : Int → Addr) (v5 v6 : Option V), σ = [some (.ref x), some (.ref lb), v2, v3, some (.ref d), v5, v6] ∧ Same H H4 ∧ SameX d H3 H4 ∧ H4 d = some (.dK ((rts i (lf ls)).map fun r => ((Sum.inl r : Key), V.ref (ad r)))) ∧
        (∀ r ∈ rts i (lf ls), H3 (ad r) = none ∧ H4 (ad r) = some (.lst ((grp i (lf ls) r).map V.int))) ∧ ∀ r ∈ rts i (lf ls), ∀ r' ∈ rts i (lf ls), ad r = ad r' → r = r') ⟨fun _ => 0, none, none, rfl, sd, fun _ _ _ z => z, hd, (fun r hr => nomatch hr), (fun r hr => nomatch hr)⟩ (fun i σ H4 _ h => ?_) ?_ ?_
      · obtain ⟨ad, v5, v6, _, _, sx, _⟩ := h
        exact hC _ (SqL.of (sx _ _ (ne_of ld hd (by intro z; cases z)) ld))
      · rintro i σ H4 p hi ⟨ad, v5, v6, rfl, s4, sx4, d4, g4, inj⟩ hp4
        have hi' : i < ls.length := by omega
        dsimp only
        rw [getD_ints hi']
        have ei : ls.getD i 0 = lf ls (i : Int) := rfl
        rw [ei]
        have lo := Lf i (by omega) (by omega)
        have id1 := Li i (by omega) (by omega)
        have s5 := Same.new (o := .tup [.int (i : Nat), .int (lf ls (i : Int))]) hp4
        have t5 : (upd H4 p (.tup [.int (i : Nat), .int (lf ls (i : Int))])) p = some (.tup [.int (i : Nat), .int (lf ls (i : Int))]) := upd_same
        refine ⟨p, _, rfl, SqT.of t5, rfl, _, _, rfl, _, _, rfl, rfl, ?_⟩
        generalize upd H4 p (.tup [.int (i : Nat), .int (lf ls (i : Int))]) = H5 at s5 t5
        have d5 := s5 _ _ d4
        refine ⟨_, rfl, d, rfl, .inl ⟨_, .inl d5⟩, _, rfl, by decide, fun q nq => ?_⟩
        have s6 := Same.new (o := .lst []) nq
        have q6 : (upd H5 q (.lst [])) q = some (.lst []) := upd_same
        generalize upd H5 q (.lst []) = H6 at s6 q6
        have d6 := s6 _ _ d5
        have s46 := s5.trans s6
        have hzr := rts_len i (lf ls)
        refine ⟨_, Sum.inl (lf ls (i : Int)), d6, rfl, small1000 (by rw [List.length_map]; omega), fun v hv => ?_, fun hv => ?_⟩
        · rw [valV_key] at hv
          by_cases hm : lf ls (i : Int) ∈ rts i (lf ls)
          · rw [if_pos hm] at hv
            cases hv
            obtain ⟨n1, c1⟩ := g4 _ hm
            have c6 := s46 _ _ c1
            have hgl := grp_len i (lf ls) (lf ls (i : Int))
            have hne : ¬ lf ls (i : Int) = (i : Int) := fun z => by
              have := (mem_rts.mp hm).2.1
              omega
            have rs : rts (i + 1) (lf ls) = rts i (lf ls) := by rw [rts_succ, if_neg hne, List.append_nil]
            refine ⟨.inl ⟨rfl, _, SqL.of c6⟩, _, rfl, _, _, _, rfl, rfl, c6, small1000 (by rw [List.length_map]; omega), ?_⟩
            rw [show ((grp i (lf ls) (lf ls (i : Int))).map V.int ++ [V.int (i : Int)]) = (grp (i + 1) (lf ls) (lf ls (i : Int))).map V.int by rw [grp_succ, if_pos rfl, List.map_append]; rfl]
            have nd2 : d ≠ ad (lf ls (i : Int)) := ne_of_none hd n1
            refine ⟨ad, _, _, rfl, (s4.trans s46).upd (none_back sd n1), ?_, ?_, ?_, ?_⟩
            · intro b o hb e
              rw [upd_ne (fun z => by rw [z, n1] at e; cases e)]
              exact s46 _ _ (sx4 b o hb e)
            · rw [upd_ne nd2, rs]; exact d6
            · intro r hr
              rw [rs] at hr
              obtain ⟨n2, c2⟩ := g4 r hr
              refine ⟨n2, ?_⟩
              by_cases e : r = lf ls (i : Int)
              · rw [e]; exact upd_same
              · rw [upd_ne (fun z => e (inj _ hr _ hm z)), grp_succ, if_neg (fun z => e z.symm), List.append_nil]
                exact s46 _ _ c2
            · rw [rs]; exact inj
          · rw [if_neg hm] at hv; cases hv
        · rw [valV_key] at hv
          have hm : ¬ lf ls (i : Int) ∈ rts i (lf ls) := fun z => by rw [if_pos z] at hv; cases hv
          have hei : lf ls (i : Int) = (i : Int) := by
            by_cases z : lf ls (i : Int) < (i : Int)
            · exact absurd (mem_rts.mpr ⟨lo.1, z, id1⟩) hm
            · omega
          have rs : rts (i + 1) (lf ls) = rts i (lf ls) ++ [(i : Int)] := by rw [rts_succ, if_pos hei]
          have g0 : grp i (lf ls) (i : Int) = [] := by
            rw [List.eq_nil_iff_forall_not_mem]
            intro p' hp'
            have := mem_grp.mp hp'
            have := Lf p' this.1 (by omega)
            omega
          have pk : putK ((rts i (lf ls)).map fun r => ((Sum.inl r : Key), V.ref (ad r))) (Sum.inl (lf ls (i : Int))) (V.ref q) = (rts (i + 1) (lf ls)).map fun r => ((Sum.inl r : Key), V.ref (if r = (i : Int) then q else ad r)) := by
            rw [putK_new _ (by rw [valV_key, if_neg hm]), rs, List.map_append, hei]
            congr 1
            · refine List.map_congr_left fun r hr => ?_
              rw [if_neg (show ¬ r = (i : Int) from fun z => by have := (mem_rts.mp hr).2.1; omega)]
            · rw [List.map_cons, List.map_nil, if_pos rfl]
          rw [pk]
          have nqd : q ≠ d := (ne_of_none d5 nq).symm
          have q7 : (upd H6 d (.dK ((rts (i + 1) (lf ls)).map fun r => ((Sum.inl r : Key), V.ref (if r = (i : Int) then q else ad r))))) q = some (.lst []) := by rw [upd_ne nqd]; exact q6
          have nq3 : H3 q = none := by
            cases e : H3 q with
            | none => rfl
            | some o => have := s5 _ _ (sx4 _ _ nqd e); rw [nq] at this; cases this
          refine ⟨.inl ⟨rfl, _, SqL.of q7⟩, _, rfl, q, _, _, rfl, rfl, q7, small1000 (by decide), ?_⟩
          refine ⟨fun r => if r = (i : Int) then q else ad r, _, _, rfl, ((s4.trans s46).upd ndH).upd (none_back sd nq3), ?_, ?_, ?_, ?_⟩
          · intro b o hb e
            rw [upd_ne (fun z => by rw [z, nq3] at e; cases e), upd_ne hb]
            exact s46 _ _ (sx4 b o hb e)
          · rw [upd_ne nqd.symm]; exact upd_same
          · intro r hr
            rw [rs] at hr
            rcases List.mem_append.mp hr with y | y
            · obtain ⟨n2, c2⟩ := g4 r y
              have hne : ¬ r = (i : Int) := fun z => by have := (mem_rts.mp y).2.1; omega
              dsimp only
              rw [if_neg hne]
              refine ⟨n2, ?_⟩
              rw [upd_ne (ne_of_none (s5 _ _ c2) nq), upd_ne (fun z => by rw [z, hd] at n2; cases n2), grp_succ, if_neg (by rw [hei]; exact fun z => hne z.symm), List.append_nil]
              exact s46 _ _ c2
            · have e : r = (i : Int) := List.mem_singleton.mp y
              dsimp only
              rw [if_pos e]
              refine ⟨nq3, ?_⟩
              rw [e, grp_succ, if_pos hei, g0]
              exact upd_same
          · intro r hr r' hr' e
            rw [rs] at hr hr'
            have key : ∀ r ∈ rts i (lf ls), ad r ≠ q := fun r y z => by
              have := s5 _ _ (g4 r y).2
              rw [z, nq] at this; cases this
            dsimp only at e
            rcases List.mem_append.mp hr with y | y <;> rcases List.mem_append.mp hr' with y' | y'
            · rw [if_neg (fun z => by have := (mem_rts.mp y).2.1; omega), if_neg (fun z => by have := (mem_rts.mp y').2.1; omega)] at e
              exact inj r y r' y' e
            · rw [if_neg (fun z => by have := (mem_rts.mp y).2.1; omega), if_pos (List.mem_singleton.mp y')] at e
              exact absurd e (key r y)
            · rw [if_pos (List.mem_singleton.mp y), if_neg (fun z => by have := (mem_rts.mp y').2.1; omega)] at e
              exact absurd e.symm (key r' y')
            · rw [List.mem_singleton.mp y, List.mem_singleton.mp y']
      · rintro σ H4 ⟨ad, v5, v6, rfl, s4, sx4, d4, g4, inj⟩
        rw [hlm, hll] at d4 g4 inj
        refine ⟨_, rfl, d, _, rfl, d4, fun l nl => ?_⟩
        rw [List.map_map]
        refine k l (lf ls) _ hL ⟨s4.next nl, none_back s4 nl, ad, upd_same, fun r hr => ?_, inj⟩
        obtain ⟨n2, c2⟩ := g4 r hr
        have hne : ad r ≠ l := ne_of_none c2 nl
        exact ⟨none_back sd n2, hne, by rw [upd_ne hne]; exact c2⟩
def spAm (K : PySem.W.Frag) (C cF : Addr) : Sp := fun vs H Q E => ∃ (x f : Addr) (m : Int) (es : List (Int × Int)) (xs : List V), vs = [.ref x, .ref f] ∧ WebAt K C H x m es ∧ (SqL K H f xs ∨ SqT K H f xs) ∧ (xs.length = es.length → Q .non H) ∧ (xs.length ≠ es.length → E (.ref cF) none H)
theorem scAm : FnScope ["web", "flow"] ["web", "flow"] (defScope sAm) := ⟨rfl, rfl, rfl, by decide +kernel, rfl, by decide +kernel, by decide +kernel⟩
theorem ok_Am {f : Addr} {fd : FuncData} (F : Fun K "check_amounts" "check_amounts" sAm f fd) (T : Txt K mg c) : FnOk P w K mg base (CXE P w) 1 f fd ["web", "flow"] (spAm K c.Web c.BadFlow) := by
  refine F.okE scAm (fun vs H Q E h => ?_) (fun cdv A outer s H vs Q E hr h => ?_)
  · obtain ⟨x, f, m, es, xs, rfl, _⟩ := h
    rfl
  · obtain ⟨x, f, m, es, xs, rfl, hw, hS, k1, k2⟩ := h
    refine ⟨_, pss_one (ps_if (pt_cmpR op_ne (pe_callB (cLen (K := K) rfl) (by rfl) T.len PySem.boot_len (pa_cons (pv 1) pa_nil)) (pe_callB (cLen (K := K) rfl) (by rfl) T.len PySem.boot_len (pa_cons (pTies (K := K) rfl T.web (pv 0)) pa_nil)) (nomark _))
        (pss_one (ps_raise rfl rfl (by rfl) T.mBadFlow T.xBadFlow (pa_cons pe_str pa_nil))) (pss_nil)), ?_⟩
    refine ⟨_, rfl, f, xs, rfl, hS, _, rfl, x, m, es, rfl, hw, fun t ys ht hp => ⟨t, ys, rfl, .inr (SqT.of ht), rfl, _, rfl, ?_⟩⟩
    have hl := hp.len
    by_cases e : xs.length = es.length
    · rw [decide_eq_true (show V.int (xs.length : Int) = V.int (ys.length : Int) by rw [hl, e])]
      exact iteF (k1 e)
    · rw [decide_eq_false (show ¬ V.int (xs.length : Int) = V.int (ys.length : Int) by rw [hl]; intro z; injection z with z; omega)]
      exact iteT ⟨(by show 1 ≤ sizeLine; decide), k2 e⟩
theorem upd_none {H : Hp} {q l : Addr} {o : HO} (h : upd H q o l = none) : H l = none := by
  by_cases e : l = q
  · subst e; rw [upd_same] at h; cases h
  · rwa [upd_ne e] at h
def spGs (K : PySem.W.Frag) (C : Addr) : Sp := fun vs H Q _ => ∃ (x f : Addr) (b : Bool) (m : Int) (es : List (Int × Int)) (fs : List Int), vs = [.ref x, .ref f] ∧ WebAt K C H x m es ∧ SqB b K H f (fs.map V.int) ∧ fs.length = es.length ∧ 1 ≤ m ∧ m ≤ 20 ∧ es.length ≤ 40 ∧ EndsIn es m ∧
  ∀ (l : Addr) (H' : Hp) (zs : List Int), H' l = some (.lst (zs.map V.int)) → zs.length = m.toNat → (∀ p : Nat, p < m.toNat → zs.getD p 0 = dp p es fs es.length) → Same H H' → Q (.ref l) H'
theorem scGs : FnScope ["web", "flow", "told", "ends", "amount"] ["web", "flow"] (defScope sGs) := ⟨rfl, rfl, rfl, by decide +kernel, rfl, by decide +kernel, by decide +kernel⟩
set_option maxHeartbeats 4000000 in
theorem ok_Gs {f : Addr} {fd : FuncData} (F : Fun K "gains" "gains" sGs f fd) (T : Txt K mg c) : FnOk P w K mg base CX0 1 f fd ["web", "flow"] (spGs K c.Web) := by
  refine F.ok scGs (fun vs H Q E h => ?_) (fun cdv A outer s H vs Q E hr h => ?_)
  · obtain ⟨x, f, b, m, es, fs, rfl, _⟩ := h
    rfl
  · obtain ⟨x, f, b, m, es, fs, rfl, hw, hf, hlen, m1, m2, hz, hE, k⟩ := h
    refine ⟨_, pss_cons (ps_set (i := 2) scGs.nd rfl (Or.inl rfl) (pe_op op_rep (pe_lst (pa_cons (pe_int) pa_nil)) (pMany (K := K) rfl T.web (pv 0))))
      (pss_cons (ps_for PassesOwn.never rfl (pi_zip (K := K) rfl rfl T.zip (pa_cons (pTies (K := K) rfl T.web (pv 0)) (pa_cons (pv 1) pa_nil))) (pgTup (K := K) (n := 2) rfl rfl (pgs_cons (pg_name (i := 3) scGs.nd rfl (Or.inl rfl)) (pgs_cons (pg_name (i := 4) scGs.nd rfl (Or.inl rfl)) (pgs_nil))) rfl)
        (pss_cons (ps_augS (pv 2) (pe_ix (ixT (K := K) rfl) (pv 3) (pe_int) (fun _ _ => rfl)) (get_list (K := K) rfl) (pv 4) ip_sub set_list)
      (pss_one (ps_augS (pv 2) (pe_ix (ixT (K := K) rfl) (pv 3) (pe_int) (fun _ _ => rfl)) (get_list (K := K) rfl) (pv 4) ip_add set_list))))
      (pss_one (ps_ret (pv 2)))), ?_⟩
    refine ⟨(by show 1 ≤ sizeLine; decide), fun q hq => ?_⟩
    refine ⟨_, rfl, x, m, es, rfl, hw.same (Same.new hq), q, m, _, rfl, rfl, upd_same, by omega, by omega, Nat.le_of_lt (small1000 (by show 1 * m.toNat ≤ 1000; omega)), fun l hl => ?_⟩
    rw [rep_ints]
    have hlH : H l = none := upd_none hl
    have s1 : Same H (upd (upd H q (.lst [.int 0])) l (.lst ((List.replicate m.toNat 0).map V.int))) := (Same.new hq).next hl
    have e1 : (upd (upd H q (.lst [.int 0])) l (.lst ((List.replicate m.toNat 0).map V.int))) l = some (.lst ((List.replicate m.toNat 0).map V.int)) := upd_same
    generalize upd (upd H q (.lst [.int 0])) l (.lst ((List.replicate m.toNat 0).map V.int)) = H1 at s1 e1
    refine ⟨_, rfl, x, m, es, rfl, hw.same s1, fun t ys ht hp => ⟨_, rfl, true, b, t, f, ys, fs.map V.int, rfl, SqT.of ht, hf.same s1, fun J C O hC => ?_⟩⟩
    have hpl := hp.len
    have sXH : ∀ {H2 : Hp}, SameX l H1 H2 → Same H H2 := fun sX b o e => sX b o (ne_of_none e hlH) (s1 b o e)
    have hn : min ys.length (fs.map V.int).length = es.length := by rw [List.length_map, hlen, hpl]; exact Nat.min_self _
    refine for_byP O (fun i σ H2 => ∃ zs v3 v4, σ = [some (.ref x), some (.ref f), some (.ref l), v3, v4] ∧ H2 l = some (.lst (zs.map V.int)) ∧ zs.length = m.toNat ∧ (∀ p : Nat, p < m.toNat → zs.getD p 0 = dp p es fs i) ∧ SameX l H1 H2) ⟨List.replicate m.toNat 0, none, none, rfl, e1, List.length_replicate .., fun p hp => ?_, .of (Same.refl _)⟩ ?_ ?_ ?_
    · rw [List.getD_eq_getElem?_getD, List.getElem?_replicate, if_pos hp]; rfl
    · rintro i σ H2 _ ⟨zs, v3, v4, rfl, e2, hzl, hd, sX⟩
      exact hC H2 (SameX.tup sX e1 (SqT.of ht)) (hf.same (sXH sX))
    · rintro i σ H2 p hi ⟨zs, v3, v4, rfl, e2, hzl, hd, sX⟩ hp2
      rw [hn] at hi
      obtain ⟨r, e, er, hr2, ei, he⟩ := hp.at (i := i) (by omega)
      obtain ⟨b1, b2, b3, b4⟩ := hE e he
      dsimp only
      rw [er, getD_ints (by omega)]
      refine ⟨p, _, rfl, SqT.of upd_same, rfl, _, _, rfl, _, _, rfl, rfl, ?_⟩
      have s3 : Same H2 (upd H2 p (.tup [.ref r, .int (fs.getD i 0)])) := Same.new hp2
      have e3 := s3 _ _ e2
      have r3 : SqT K (upd H2 p (.tup [.ref r, .int (fs.getD i 0)])) r [.int e.1, .int e.2] := s3.tup (SameX.tup sX e1 hr2)
      generalize upd H2 p (.tup [.ref r, .int (fs.getD i 0)]) = H3 at s3 e3 r3
      refine ⟨_, rfl, _, rfl, r, _, 0, _, rfl, rfl, r3, rfl, l, _, e.1, _, rfl, rfl, b1, SqL.of e3, get_ints (by omega), _, rfl, _, _, rfl, rfl, l, _, e.1, _, rfl, rfl, e3, ixN_nat b1 (by rw [List.length_map]; omega), ?_⟩
      rw [set_ints]
      have x4 : SameX l H3 (upd H3 l (.lst ((zs.set e.1.toNat (zs.getD e.1.toNat 0 - fs.getD i 0)).map V.int))) := sameX_upd
      have e4 : (upd H3 l (.lst ((zs.set e.1.toNat (zs.getD e.1.toNat 0 - fs.getD i 0)).map V.int))) l = some (.lst ((zs.set e.1.toNat (zs.getD e.1.toNat 0 - fs.getD i 0)).map V.int)) := upd_same
      have r4 := SameX.tup x4 e3 r3
      generalize upd H3 l (.lst ((zs.set e.1.toNat (zs.getD e.1.toNat 0 - fs.getD i 0)).map V.int)) = H4 at x4 e4 r4
      refine ⟨_, rfl, _, rfl, r, _, 1, _, rfl, rfl, r4, rfl, l, _, e.2, _, rfl, rfl, b3, SqL.of e4, get_ints (by rw [List.length_set]; omega), _, rfl, _, _, rfl, rfl, l, _, e.2, _, rfl, rfl, e4, ixN_nat b3 (by rw [List.length_map, List.length_set]; omega), ?_⟩
      rw [set_ints]
      exact ⟨_, _, _, rfl, upd_same, by rw [List.length_set, List.length_set]; exact hzl, fun p hp => dp_step hzl ei b1 (by omega) b3 (by omega) hd p hp, ((sX.trans (.of s3)).trans x4).trans sameX_upd⟩
    · rintro σ H2 ⟨zs, v3, v4, rfl, e2, hzl, hd, sX⟩
      rw [hn] at hd
      exact ⟨_, rfl, k l H2 zs e2 hzl hd (sXH sX)⟩
def spFr (K : PySem.W.Frag) (c : Cs) : Sp := fun vs H Q _ => ∃ (x : Addr) (m : Int) (es : List (Int × Int)), vs = [.ref x] ∧ WebAt K c.Web H x m es ∧ 1 ≤ m ∧ m ≤ 20 ∧ es.length ≤ 40 ∧ EndsIn es m ∧ ∀ l H', H l = none → Same H H' → H' l = some (.lst ((frst es).map V.int)) → Q (.ref l) H'
theorem scFr : FnScope ["web", "labels", "taken", "tie", "ends"] ["web"] (defScope sFr) := ⟨rfl, rfl, rfl, by decide +kernel, rfl, by decide +kernel, by decide +kernel⟩
set_option maxHeartbeats 4000000 in
theorem ok_Fr {f : Addr} {fd : FuncData} (F : Fun K "forest" "forest" sFr f fd) (T : Txt K mg c) (D_Me : Def P w K mg base 1 "merged" ["labels", "one", "two"] (spMe K)) : FnOk P w K mg base CX0 2 f fd ["web"] (spFr K c) := by
  refine F.ok scFr (fun vs H Q E h => ?_) (fun cdv A outer s H vs Q E hr h => ?_)
  · obtain ⟨x, m, es, rfl, _⟩ := h
    rfl
  · obtain ⟨x, m, es, rfl, hw, m1, m2, hz, hE, k⟩ := h
    refine ⟨_, pss_cons (ps_set (i := 1) scFr.nd rfl (Or.inl rfl) (pe_listrange1 rfl rfl T.list rfl T.range (pa_cons (pMany (K := K) rfl T.web (pv 0)) pa_nil)))
      (pss_cons (ps_set (i := 2) scFr.nd rfl (Or.inl rfl) (pe_lst pa_nil))
      (pss_cons (ps_for PassesOwn.never rfl (pi_enum (K := K) rfl rfl T.enumerate (pa_cons (pTies (K := K) rfl T.web (pv 0)) pa_nil)) (pgTup (K := K) (n := 2) rfl rfl (pgs_cons (pg_name (i := 3) scFr.nd rfl (Or.inl rfl)) (pgs_cons (pg_name (i := 4) scFr.nd rfl (Or.inl rfl)) (pgs_nil))) rfl)
        (pss_one (ps_cut (ps_if (pt_cmpR op_ne (pe_ix (ixL (K := K) rfl) (pv 1) (pe_ix (ixT (K := K) rfl) (pv 4) (pe_int) (fun _ _ => rfl)) (fun _ _ => rfl)) (pe_ix (ixL (K := K) rfl) (pv 1) (pe_ix (ixT (K := K) rfl) (pv 4) (pe_int) (fun _ _ => rfl)) (fun _ _ => rfl)) (nomark _))
        (pss_cons (ps_expr (pe_bm PySem.F.plainAttrs_list PySem.F.slot_list_append PySem.F.type_list_append mt_append (pv 2) (pa_cons (pv 3) pa_nil)))
      (pss_one (ps_set (i := 1) scFr.nd rfl (Or.inl rfl) (pe_defR D_Me hr (pa_cons (pv 1) (pa_cons (pe_ix (ixT (K := K) rfl) (pv 4) (pe_int) (fun _ _ => rfl)) (pa_cons (pe_ix (ixT (K := K) rfl) (pv 4) (pe_int) (fun _ _ => rfl)) pa_nil))))))) (pss_nil)))))
      (pss_one (ps_ret (pv 2))))), ?_⟩
    refine ⟨_, rfl, x, m, es, rfl, hw, m, rfl, by omega, by omega, fun l0 nl0 => ?_⟩
    have s0 : Same H (upd H l0 (.lst (((List.range m.toNat).map fun i => 0 + ((i : Nat) : Int)).map V.int))) := Same.new nl0
    have e0 : (upd H l0 (.lst (((List.range m.toNat).map fun i => 0 + ((i : Nat) : Int)).map V.int))) l0 = some (.lst (((List.range m.toNat).map fun i => 0 + ((i : Nat) : Int)).map V.int)) := upd_same
    generalize upd H l0 (.lst (((List.range m.toNat).map fun i => 0 + ((i : Nat) : Int)).map V.int)) = H0 at s0 e0
    refine ⟨by decide, fun tk ntk => ?_⟩
    have s1 := s0.next (o := .lst []) ntk
    have e1 := Same.new (o := .lst []) ntk _ _ e0
    have k1 : (upd H0 tk (.lst [])) tk = some (.lst []) := upd_same
    have tkH : H tk = none := none_back s0 ntk
    generalize upd H0 tk (.lst []) = H1 at s1 e1 k1
    have nlt : l0 ≠ tk := ne_of_none e0 ntk
    refine ⟨_, rfl, x, m, es, rfl, hw.same s1, fun t ys ht hp => ⟨true, t, ys, rfl, SqT.of ht, fun J C O hC => ?_⟩⟩
    have hpl := hp.len
    have ntt : t ≠ tk := ne_of ht k1 (by intro z; cases z)
    refine for_byP O (fun i σ H2 => ∃ (lb : Addr) (ls : List Int) (v3 v4 : Option V), σ = [some (.ref x), some (.ref lb), some (.ref tk), v3, v4] ∧ Same H H2 ∧ SameX tk H1 H2 ∧ lb ≠ tk ∧ H2 lb = some (.lst (ls.map V.int)) ∧ H2 tk = some (.lst ((frN es i).map V.int)) ∧ ls.length = m.toNat ∧ Lab m (es.take i) (lf ls)) ⟨l0, _, none, none, rfl, s1, fun _ _ _ z => z, nlt, e1, k1, by rw [List.length_map, List.length_range], (Lab.nil m).congr (fun e he => (nomatch he)) fun p p0 p1 => (lf_range m.toNat p p0 (by omega)).symm⟩ (fun i σ H2 _ h => ?_) ?_ ?_
    · obtain ⟨lb, ls, v3, v4, _, _, sx, _⟩ := h
      exact hC _ (SqT.of (sx _ _ ntt ht))
    · rintro i σ H2 p hi ⟨lb, ls, v3, v4, rfl, s2, sx2, hlt, hl2, ht2, hll, hL⟩ hp2
      obtain ⟨r, e, er, hr2, ei, he⟩ := hp.at hi
      obtain ⟨b1, b2, b3, b4⟩ := hE e he
      have hr1 : SqT K H2 r [.int e.1, .int e.2] := by
        exact sx2.tup k1 hr2
      have hE1 : es.getD i (0, 0) = e := by rw [List.getD_eq_getElem?_getD, ei]; rfl
      have hfl := frN_len es i
      dsimp only
      rw [er]
      have s3 := Same.new (o := .tup [.int (i : Nat), .ref r]) hp2
      have t3 : (upd H2 p (.tup [.int (i : Nat), .ref r])) p = some (.tup [.int (i : Nat), .ref r]) := upd_same
      refine ⟨p, _, rfl, SqT.of t3, rfl, _, _, rfl, _, _, rfl, rfl, ?_⟩
      generalize upd H2 p (.tup [.int (i : Nat), .ref r]) = H3 at s3 t3
      have hl3 := s3 _ _ hl2
      have ht3 := s3 _ _ ht2
      have hr3 := s3.tup hr1
      have a1 : atI (ls.map V.int) e.1 = some (.int (lf ls e.1)) := at_int (ns := ls) b1 (by omega)
      have a2 : atI (ls.map V.int) e.2 = some (.int (lf ls e.2)) := at_int (ns := ls) b3 (by omega)
      refine ⟨fun σ' H' => ∃ (lb : Addr) (ls : List Int), σ' = [some (.ref x), some (.ref lb), some (.ref tk), some (.int (i : Nat)), some (.ref r)] ∧ Same H H' ∧ SameX tk H1 H' ∧ lb ≠ tk ∧ H' lb = some (.lst (ls.map V.int)) ∧ H' tk = some (.lst ((frN es (i + 1)).map V.int)) ∧ ls.length = m.toNat ∧ Lab m (es.take (i + 1)) (lf ls), ?_, ?_⟩
      · refine ⟨_, rfl, _, rfl, r, _, 0, _, rfl, rfl, hr3, rfl, lb, _, _, _, rfl, rfl, SqL.of hl3, a1, _, rfl, _, rfl, r, _, 1, _, rfl, rfl, hr3, rfl, lb, _, _, _, rfl, rfl, SqL.of hl3, a2, rfl, _, rfl, ?_⟩
        have hiff := (hL.iff b1 b2 b3 b4)
        rw [take_snoc ei, frN_succ]
        by_cases c1 : lf ls e.1 = lf ls e.2
        · rw [decide_eq_true (show V.int (lf ls e.1) = V.int (lf ls e.2) by rw [c1])]
          have hn : ¬ inF es i = true := fun z => (inF_iff.mp z) (by rw [hE1]; exact hiff.mp c1)
          rw [if_neg hn, List.append_nil]
          exact iteF ⟨lb, ls, rfl, s2.trans s3, fun b o hb z => s3 _ _ (sx2 b o hb z), hlt, hl3, ht3, hll, hL.skip c1⟩
        · rw [decide_eq_false (show ¬ V.int (lf ls e.1) = V.int (lf ls e.2) by intro z; injection z with z; exact c1 z)]
          have hn : inF es i = true := inF_iff.mpr (by rw [hE1]; exact fun z => c1 (hiff.mpr z))
          rw [if_pos hn]
          refine iteT ⟨_, rfl, .inl ⟨rfl, _, SqL.of ht3⟩, _, rfl, tk, _, _, rfl, rfl, ht3, small1000 (by rw [List.length_map]; omega), ?_⟩
          have x4 : SameX tk H3 (upd H3 tk (.lst ((frN es i).map V.int ++ [V.int (i : Int)]))) := sameX_upd
          have t4 : (upd H3 tk (.lst ((frN es i).map V.int ++ [V.int (i : Int)]))) tk = some (.lst ((frN es i ++ [(i : Int)]).map V.int)) := by rw [List.map_append]; exact upd_same
          have s4 : Same H (upd H3 tk (.lst ((frN es i).map V.int ++ [V.int (i : Int)]))) := (s2.trans s3).upd tkH
          generalize upd H3 tk (.lst ((frN es i).map V.int ++ [V.int (i : Int)])) = H4 at x4 t4 s4
          have hl4 := x4 _ _ hlt hl3
          have hr4 : SqT K H4 r [.int e.1, .int e.2] := x4.tup ht3 hr3
          refine ⟨_, rfl, _, rfl, r, _, 0, _, rfl, rfl, hr4, rfl, _, rfl, r, _, 1, _, rfl, rfl, hr4, rfl, lb, e.1, e.2, ls, rfl, SqL.of hl4, by omega, b1, by omega, b3, by omega, fun l5 H5 nl5 s5 e5 => ?_⟩
          refine ⟨l5, _, rfl, s4.trans s5, fun b o hb z => s5 _ _ (x4 _ _ hb (s3 _ _ (sx2 b o hb z))), (ne_of_none t4 nl5).symm, e5, s5 _ _ t4, by rw [List.length_map]; exact hll, ?_⟩
          refine (hL.merge ⟨b1, b2, b3, b4⟩).congr (fun a ha => ?_) fun p p0 p1 => (lf_map ls (fun x => if x = max (lf ls e.1) (lf ls e.2) then min (lf ls e.1) (lf ls e.2) else x) p p0 (by omega)).symm
          rcases List.mem_append.mp ha with y | y
          · exact hE a (List.mem_of_mem_take y)
          · rw [List.mem_singleton.mp y]; exact ⟨b1, b2, b3, b4⟩
      · rintro σ' H' ⟨lb, ls, rfl, h'⟩
        exact ⟨lb, ls, _, _, rfl, h'⟩
    · rintro σ H2 ⟨lb, ls, v3, v4, rfl, s2, sx2, hlt, hl2, ht2, hll, hL⟩
      rw [hpl] at ht2
      exact ⟨_, rfl, k tk H2 tkH s2 ht2⟩
def spFt (K : PySem.W.Frag) (c : Cs) : Sp := fun vs H Q _ => ∃ (x : Addr) (m : Int) (es : List (Int × Int)), vs = [.ref x] ∧ WebAt K c.Web H x m es ∧ 1 ≤ m ∧ m ≤ 20 ∧ es.length ≤ 40 ∧ EndsIn es m ∧ ∀ l H', H l = none → Same H H' → H' l = some (.lst ((fre es).map V.int)) → Q (.ref l) H'
theorem scFt : FnScope ["web", "taken"] ["web"] (defScope sFt) := ⟨rfl, rfl, rfl, by decide +kernel, rfl, by decide +kernel, by decide +kernel⟩
theorem flt_len (g : Int → Bool) (n i : Nat) : (((upto n).take i).filter g).length ≤ i := Nat.le_trans (List.length_filter_le _ _) (by rw [List.length_take]; omega)
set_option maxHeartbeats 4000000 in
theorem ok_Ft {f : Addr} {fd : FuncData} (F : Fun K "free_ties" "free_ties" sFt f fd) (T : Txt K mg c) (D_Fr : Def P w K mg base 2 "forest" ["web"] (spFr K c)) : FnOk P w K mg base CX0 3 f fd ["web"] (spFt K c) := by
  refine F.ok scFt (fun vs H Q E h => ?_) (fun cdv A outer s H vs Q E hr h => ?_)
  · obtain ⟨x, m, es, rfl, _⟩ := h
    rfl
  · obtain ⟨x, m, es, rfl, hw, m1, m2, hz, hE, k⟩ := h
    refine ⟨_, pss_cons (ps_set (i := 1) scFt.nd rfl (Or.inr rfl) (pe_defR D_Fr hr (pa_cons (pv 0) pa_nil)))
      (pss_one (ps_ret (pe_lc (N' := ["tie", "taken"]) (nl := 1) (js := [1]) rfl (.of (osc := defScope sFt) (N := ["web", "taken"]) (by decide +kernel) rfl rfl) (pi_range1 rfl T.range (pa_cons (pe_callB (cLen (K := K) rfl) (by rfl) T.len PySem.boot_len (pa_cons (pTies (K := K) rfl T.web (pv 0)) pa_nil)) pa_nil))
        (fun _ _ _ _ => pg_name (i := 0) (show (["tie", "taken"] : List Str).Nodup by decide +kernel) rfl (Or.inl rfl)) (fun _ _ _ _ => pif_one (pt_cmpR (opNotIn (K := K) rfl) (pv 0) (pv 1) (by with_unfolding_all rfl)))
        (fun _ _ _ _ => pv 0)))), ?_⟩
    refine ⟨_, rfl, x, m, es, rfl, hw, m1, m2, hz, hE, fun tk H1 ntk s1 e1 => ?_⟩
    refine ⟨_, rfl, x, m, es, rfl, hw.same s1, fun t ys ht hp => ⟨t, ys, rfl, .inr (SqT.of ht), (ys.length : Int), rfl, by omega, ?_, ?_⟩⟩
    · have := hp.len; omega
    have hpl := hp.len
    rw [show ((ys.length : Int)).toNat = es.length from hpl]
    refine lc_by itok_range (fun i zs H2 => H2 = H1 ∧ zs = (((upto es.length).take i).filter fun z => !((frst es).any (· == z))).map V.int) (Nat.le_of_lt (small1000 (by omega))) ⟨rfl, rfl⟩ ?_ ?_ ?_
    · rintro i zs H2 hi ⟨rfl, rfl⟩
      exact ⟨trivial, by rw [List.length_map]; exact flt_len _ _ _⟩
    · rintro i zs H2 hi ⟨rfl, rfl⟩
      have hg := upto_get hi
      have hl2 := flt_len (fun z => !((frst es).any (· == z))) es.length i
      try dsimp only
      refine ⟨wk_set rfl, _, rfl, _, rfl, tk, _, rfl, .inl (SqL.of e1), rfl, flat_ints _, _, rfl, ?_⟩
      rw [if_pos rfl, inV_ints, Int.zero_add]
      refine ite2 (fun c1 => ?_) (fun c1 => ?_)
      · refine ⟨_, rfl, small1000 (by rw [List.length_map]; omega), _, by omega, rfl, by omega, rfl, ?_⟩
        rw [take_snoc hg, List.filter_append, List.map_append, List.filter_cons_of_pos (p := fun z => !((frst es).any (· == z))) c1]; rfl
      · refine ⟨_, by omega, rfl, by omega, rfl, ?_⟩
        rw [take_snoc hg, List.filter_append, List.map_append, List.filter_cons_of_neg (p := fun z => !((frst es).any (· == z))) c1]; exact (List.append_nil _).symm
    · rintro zs H2 ⟨rfl, rfl⟩ l nl
      rw [List.take_of_length_le (by rw [upto_len]; exact Nat.le_refl _)]
      exact k l _ (none_back s1 nl) (s1.next nl) upd_same
def spFe (K : PySem.W.Frag) (c : Cs) : Sp := fun vs H Q _ => ∃ (x : Addr) (t p m : Int) (es : List (Int × Int)), vs = [.ref x, .int t, .int p] ∧ WebAt K c.Web H x m es ∧ 0 ≤ t ∧ t < (es.length : Int) ∧ Q (.int (far (tieOf es t) p)) H
theorem scFe : FnScope ["web", "tie", "place", "ends"] ["web", "tie", "place"] (defScope sFe) := ⟨rfl, rfl, rfl, by decide +kernel, rfl, by decide +kernel, by decide +kernel⟩
set_option maxHeartbeats 4000000 in
theorem ok_Fe {f : Addr} {fd : FuncData} (F : Fun K "far_end" "far_end" sFe f fd) (T : Txt K mg c) : FnOk P w K mg base CX0 1 f fd ["web", "tie", "place"] (spFe K c) := by
  refine F.ok scFe (fun vs H Q E h => ?_) (fun cdv A outer s H vs Q E hr h => ?_)
  · obtain ⟨x, t, p, m, es, rfl, _⟩ := h
    rfl
  · obtain ⟨x, t, p, m, es, rfl, hw, t0, t1, k⟩ := h
    refine ⟨_, pss_cons (ps_set (i := 3) scFe.nd rfl (Or.inl rfl) (pe_ix (ixT (K := K) rfl) (pTies (K := K) rfl T.web (pv 0)) (pv 1) (fun _ _ => rfl)))
      (pss_one (ps_ret (pe_ifExp (pt_cmpR op_eq (pe_ix (ixT (K := K) rfl) (pv 3) (pe_int) (fun _ _ => rfl)) (pv 2) (nomark _)) (pe_ix (ixT (K := K) rfl) (pv 3) (pe_int) (fun _ _ => rfl)) (pe_ix (ixT (K := K) rfl) (pv 3) (pe_int) (fun _ _ => rfl))))), ?_⟩
    refine ⟨_, rfl, x, m, es, rfl, hw, fun tt ys ht hp => ?_⟩
    obtain ⟨r, ar, hr2, _⟩ := tie_get hp t0 t1
    unfold far at k
    refine ⟨_, rfl, tt, ys, t, .ref r, rfl, rfl, SqT.of ht, ar, ?_⟩
    refine ⟨_, rfl, r, _, 0, _, rfl, rfl, hr2, rfl, _, rfl, rfl, _, rfl, ite2 (fun c1 => ?_) (fun c1 => ?_)⟩
    · have c1' := of_decide_eq_true c1
      injection c1' with c1'
      rw [if_pos c1'] at k
      exact ⟨_, rfl, r, _, 1, _, rfl, rfl, hr2, rfl, k⟩
    · rw [if_neg (fun z => c1 (decide_eq_true (by rw [z])))] at k
      exact ⟨_, rfl, r, _, 0, _, rfl, rfl, hr2, rfl, k⟩
structure FwI (H : Hp) (m : Int) (es : List (Int × Int)) (ss : List Int) (a : Int) (d r : Addr) (H2 : Hp) (rs : List Int) (ad : Int → Addr) (wy pl : Int → List Int) : Prop where
  same : Same H H2
  dd : H2 d = some (.dK (rs.map fun p => ((Sum.inl p : Key), V.ref (ad p))))
  rr : H2 r = some (.lst (rs.map V.int))
  nd : rs.Nodup
  rng : ∀ p ∈ rs, 0 ≤ p ∧ p < m
  a0 : a ∈ rs
  cell : ∀ p ∈ rs, H (ad p) = none ∧ ad p ≠ r ∧ H2 (ad p) = some (.lst ((wy p).map V.int))
  way : ∀ p ∈ rs, Way es ss a (wy p) (pl p) p ∧ ∀ q ∈ pl p, q ∈ rs
def spFw (K : PySem.W.Frag) (c : Cs) : Sp := fun vs H Q _ => ∃ (x q : Addr) (a b m : Int) (es : List (Int × Int)) (ss : List Int), vs = [.ref x, .ref q, .int a, .int b] ∧ WebAt K c.Web H x m es ∧ SqL K H q (ss.map V.int) ∧ (∀ t ∈ ss, 0 ≤ t ∧ t < (es.length : Int)) ∧ ss.length ≤ 900 ∧ 0 ≤ a ∧ a < m ∧ m ≤ 20 ∧ EndsIn es m ∧
  (¬ Cn (sub es ss) a b → ∀ H', Same H H' → Q .non H') ∧ (∀ l ts ps H', Same H H' → H l = none → H' l = some (.lst (ts.map V.int)) → Way es ss a ts ps b → Q (.ref l) H')
theorem scFw : FnScope ["web", "some", "start", "goal", "ways", "reached", "step", "place", "tie", "other"] ["web", "some", "start", "goal"] (defScope sFw) := ⟨rfl, rfl, rfl, by decide +kernel, rfl, by decide +kernel, by decide +kernel⟩
set_option maxHeartbeats 8000000 in
theorem ok_Fw {f : Addr} {fd : FuncData} (F : Fun K "find_way" "find_way" sFw f fd) (T : Txt K mg c) (D_Fe : Def P w K mg base 1 "far_end" ["web", "tie", "place"] (spFe K c)) : FnOk P w K mg base CX0 2 f fd ["web", "some", "start", "goal"] (spFw K c) := by
  refine F.ok scFw (fun vs H Q E h => ?_) (fun cdv A outer s H vs Q E hr h => ?_)
  · obtain ⟨x, q, a, b, m, es, ss, rfl, _⟩ := h
    rfl
  · obtain ⟨x, q, a, b, m, es, ss, rfl, hw, hq, hss, hsl, a0, a1, m2, hE, k1, k2⟩ := h
    refine ⟨_, pss_cons (ps_set (i := 4) scFw.nd rfl (Or.inl rfl) (pe_disp (pps_cons (pv 2) (pe_lst pa_nil) (pps_nil)) rfl rfl (by simp) (by decide)))
      (pss_cons (ps_set (i := 5) scFw.nd rfl (Or.inl rfl) (pe_lst (pa_cons (pv 2) pa_nil)))
      (pss_cons (ps_set (i := 6) scFw.nd rfl (Or.inl rfl) (pe_int))
      (pss_cons (ps_while PassesOwn.never (PW.pt (pw_and (pt_cmp (pc_dnotin (hu_of hr) (pv 3) (pv 4))) (pw_and1 (pt_cmpR op_lt (pv 6) (pe_callB (cLen (K := K) rfl) (by rfl) T.len PySem.boot_len (pa_cons (pv 5) pa_nil)) (nomark _)))))
        (pss_cons (ps_set (i := 7) scFw.nd rfl (Or.inr rfl) (pe_ix (ixL (K := K) rfl) (pv 5) (pv 6) (fun _ _ => rfl)))
      (pss_cons (ps_for PassesOwn.never rfl (piSeqB (K := K) rfl (pe_lc (N' := ["one", "web", "place"]) (nl := 1) (js := [0, 7]) rfl (.of (osc := defScope sFw) (N := ["web", "some", "start", "goal", "ways", "reached", "step", "place", "tie", "other"]) (by decide +kernel) rfl rfl) (piSeq (K := K) rfl (pv 1))
        (fun _ _ _ _ => pg_name (i := 0) (show (["one", "web", "place"] : List Str).Nodup by decide +kernel) rfl (Or.inl rfl)) (fun _ _ _ _ => pif_one (pt_cmpR (opIn (K := K) rfl) (pv 2) (pe_ix (ixT (K := K) rfl) (pTies (K := K) rfl T.web (pv 1)) (pv 0) (fun _ _ => rfl)) (by with_unfolding_all rfl)))
        (fun _ _ _ _ => pv 0))) (pg_name (i := 8) scFw.nd rfl (Or.inl rfl))
        (pss_cons (ps_set (i := 9) scFw.nd rfl (Or.inl rfl) (pe_defR D_Fe hr (pa_cons (pv 0) (pa_cons (pv 8) (pa_cons (pv 7) pa_nil)))))
      (pss_one (ps_cut (ps_if (pt_cmp (pc_dnotin (hu_of hr) (pv 9) (pv 4)))
        (pss_cons (ps_dput (hu_of hr) (pv 4) (pv 9) (pe_op op_cat (pe_dget (hu_of hr) (pv 4) (pv 7) (fun _ _ => rfl)) (pe_lst (pa_cons (pv 8) pa_nil))) rfl)
      (pss_one (ps_expr (pe_bm PySem.F.plainAttrs_list PySem.F.slot_list_append PySem.F.type_list_append mt_append (pv 5) (pa_cons (pv 9) pa_nil))))) (pss_nil))))))
      (pss_one (ps_aug (i := 6) scFw.nd rfl (Or.inl rfl) (pe_int) ip_add)))))
      (pss_one (ps_ret (pe_dget1 (hu_of hr) (pv 4) (pv 3) ⟨rfl, rfl, rfl, rfl⟩)))))), ?_⟩
    intro d nd
    have s1 : Same H (upd H d (.dK [])) := Same.new nd
    have d1 : (upd H d (.dK [])) d = some (.dK []) := upd_same
    generalize upd H d (.dK []) = H1 at s1 d1
    refine ⟨_, rfl, by decide, fun l0 nl0 => ?_⟩
    have s2 := s1.next (o := .lst []) nl0
    have d2 := Same.new (o := .lst []) nl0 _ _ d1
    have e2 : (upd H1 l0 (.lst [])) l0 = some (.lst []) := upd_same
    have l0H : H l0 = none := none_back s1 nl0
    generalize upd H1 l0 (.lst []) = H2 at s2 d2 e2
    refine ⟨d2, [(Sum.inl a, .ref l0)], rfl, (by show 1 ≤ 15; decide), ?_⟩
    have d3 : (upd H2 d (.dK (mergeK [] [((Sum.inl a : Key), V.ref l0)]))) d = some (.dK ([a].map fun p => ((Sum.inl p : Key), V.ref l0))) := upd_same
    have s3 : Same H (upd H2 d (.dK (mergeK [] [((Sum.inl a : Key), V.ref l0)]))) := s2.upd nd
    have e3 : (upd H2 d (.dK (mergeK [] [((Sum.inl a : Key), V.ref l0)]))) l0 = some (.lst []) := by rw [upd_ne (ne_of_none d1 nl0).symm]; exact e2
    generalize upd H2 d (.dK (mergeK [] [((Sum.inl a : Key), V.ref l0)])) = H3 at d3 s3 e3
    refine ⟨_, rfl, (by show 1 ≤ sizeLine; decide), fun r nr => ?_⟩
    have s4 := s3.next (o := .lst [V.int a]) nr
    have d4 := Same.new (o := .lst [V.int a]) nr _ _ d3
    have e4 := Same.new (o := .lst [V.int a]) nr _ _ e3
    have r4 : (upd H3 r (.lst [V.int a])) r = some (.lst ([a].map V.int)) := upd_same
    have rH : H r = none := none_back s3 nr
    have lr : l0 ≠ r := ne_of_none e3 nr
    generalize upd H3 r (.lst [V.int a]) = H4 at s4 d4 e4 r4
    clear s3 d3 e3 s2 d2 e2 nl0 s1 d1 nr
    have drn : d ≠ r := ne_of d4 r4 (by intro z; cases z)
    refine ⟨fun n σ H2 => ∃ (rs : List Int) (st : Nat) (ad : Int → Addr) (wy pl : Int → List Int) (v7 v8 v9 : Option V), n = m.toNat - st ∧ σ = [some (.ref x), some (.ref q), some (.int a), some (.int b), some (.ref d), some (.ref r), some (.int st), v7, v8, v9] ∧ FwI H m es ss a d r H2 rs ad wy pl ∧ st ≤ rs.length ∧
      (∀ j, j < st → ∀ t ∈ ss, ((tieOf es t).1 = rs.getD j 0 ∨ (tieOf es t).2 = rs.getD j 0) → far (tieOf es t) (rs.getD j 0) ∈ rs), ⟨m.toNat - 0, [a], 0, fun _ => l0, fun _ => [], fun _ => [], none, none, none, rfl, rfl, ?_, Nat.zero_le _, fun j hj => absurd hj (Nat.not_lt_zero _)⟩, ?_⟩
    · refine ⟨s4, d4, r4, by simp, fun p hp => ?_, List.mem_singleton.mpr rfl, fun p hp => ⟨l0H, lr, e4⟩, fun p hp => ?_⟩
      · rw [List.mem_singleton.mp hp]; exact ⟨a0, a1⟩
      · rw [List.mem_singleton.mp hp]; exact ⟨.nil, fun q hq => nomatch hq⟩
    rintro n σ H5 ⟨rs, st, ad, wy, pl, v7, v8, v9, rfl, rfl, I, hst, clo⟩
    have hrl := nodup_len I.nd I.rng
    refine ⟨_, rfl, _, rfl, d, _, rfl, DGet.k (k := Sum.inl b) I.dd, _, rfl, ?_⟩
    rw [valV_key]
    by_cases hb : b ∈ rs
    · rw [if_pos hb]
      refine iteF (iteF ?_)
      obtain ⟨n1, _, c1⟩ := I.cell b hb
      refine ⟨_, rfl, d, rfl, .inl ⟨_, .inl I.dd⟩, _, rfl, _, DGet.k (k := Sum.inl b) I.dd, ?_⟩
      rw [valV_key, if_pos hb]
      exact k2 (ad b) (wy b) (pl b) H5 I.same n1 c1 (I.way b hb).1
    · rw [if_neg hb]
      refine iteT ⟨_, rfl, _, rfl, r, _, rfl, .inl (SqL.of I.rr), _, _, rfl, rfl, _, rfl, ?_⟩
      have hlm : (rs.map V.int).length = rs.length := List.length_map ..
      by_cases hlt : st < rs.length
      · rw [decide_eq_true (show (st : Int) < ((rs.map V.int).length : Int) by omega)]
        refine iteT ⟨_, fun σ' H' h => h, ?_⟩
        have hpm : rs.getD st 0 ∈ rs := by rw [List.getD_eq_getElem?_getD, List.getElem?_eq_getElem hlt]; exact List.getElem_mem hlt
        have hat : atI (rs.map V.int) (st : Int) = some (.int (rs.getD st 0)) := at_int (ns := rs) (k := (st : Int)) (by omega) (by omega)
        refine ⟨_, rfl, _, rfl, r, _, _, _, rfl, rfl, SqL.of I.rr, hat, ?_⟩
        obtain ⟨p, ep⟩ : ∃ p, p = rs.getD st 0 := ⟨_, rfl⟩
        rw [← ep] at hpm
        have hw5 := hw.same I.same
        refine ⟨_, rfl, q, _, rfl, .inl (I.same.seq hq), fun J C O hC => lc_by O (fun i ys H6 => H6 = H5 ∧ ys = ((ss.take i).filter fun t => atP (rs.getD st 0) (tieOf es t)).map V.int) (by rw [List.length_map]; exact Nat.le_of_lt (small1000 (by omega))) ⟨rfl, rfl⟩ ?_ ?_ ?_⟩
        · rintro i ys H6 hi ⟨rfl, rfl⟩
          refine ⟨hC _ (Same.refl _), ?_⟩
          rw [List.length_map]
          exact Nat.le_trans (List.length_filter_le _ _) (by rw [List.length_take]; omega)
        · rintro i ys H6 hi ⟨rfl, rfl⟩
          obtain ⟨v, ev, gv⟩ := getD_map_int hi
          rw [List.length_map] at hi
          have hv := hss v (List.mem_of_getElem? gv)
          have hyl : (((ss.take i).filter fun t => atP (rs.getD st 0) (tieOf es t)).map V.int).length < sizeLine := small1000 (by
            rw [List.length_map]
            have := List.length_filter_le (fun t => atP (rs.getD st 0) (tieOf es t)) (ss.take i)
            rw [List.length_take] at this; omega)
          try dsimp only
          rw [ev]
          refine ⟨wk_set rfl, _, rfl, _, rfl, x, m, es, rfl, hw5, fun tt ys ht hp => ?_⟩
          obtain ⟨r2, ar, hr2, _⟩ := tie_get hp hv.1 hv.2
          refine ⟨_, rfl, tt, ys, v, .ref r2, rfl, rfl, SqT.of ht, ar, r2, _, rfl, .inr hr2, rfl, rfl, _, rfl, ?_⟩
          rw [if_neg Bool.false_ne_true, show inV (V.int (rs.getD st 0)) [V.int (tieOf es v).1, V.int (tieOf es v).2] = atP (rs.getD st 0) (tieOf es v) from inV_at ..]
          refine ite2 (fun c1 => ?_) (fun c1 => ?_)
          · refine ⟨_, rfl, hyl, _, by rw [List.length_map]; omega, rfl, by rw [List.length_map]; omega, rfl, ?_⟩
            rw [take_snoc gv, List.filter_append, List.map_append, List.filter_cons_of_pos (p := fun t => atP (rs.getD st 0) (tieOf es t)) c1]; rfl
          · refine ⟨_, by rw [List.length_map]; omega, rfl, by rw [List.length_map]; omega, rfl, ?_⟩
            rw [take_snoc gv, List.filter_append, List.map_append, List.filter_cons_of_neg (p := fun t => atP (rs.getD st 0) (tieOf es t)) c1]; exact (List.append_nil _).symm
        · rintro ys H6 ⟨rfl, rfl⟩ l nl
          rw [List.length_map, List.take_length, ← ep]
          have sN := Same.new (o := .lst ((ss.filter fun t => atP p (tieOf es t)).map V.int)) nl
          have eN : (upd H6 l (.lst ((ss.filter fun t => atP p (tieOf es t)).map V.int))) l = some (.lst ((ss.filter fun t => atP p (tieOf es t)).map V.int)) := upd_same
          generalize upd H6 l (.lst ((ss.filter fun t => atP p (tieOf es t)).map V.int)) = H7 at sN eN
          have I7 : FwI H m es ss a d r H7 rs ad wy pl := ⟨I.same.trans sN, sN _ _ I.dd, sN _ _ I.rr, I.nd, I.rng, I.a0, fun p hp => ⟨(I.cell p hp).1, (I.cell p hp).2.1, sN _ _ (I.cell p hp).2.2⟩, I.way⟩
          have nlr : l ≠ r := (ne_of_none I.rr nl).symm
          have nld : l ≠ d := (ne_of_none I.dd nl).symm
          have nlH : H l = none := none_back I.same nl
          refine ⟨false, l, _, rfl, SqL.of eN, fun J C O hC => for_by O (fun i σ H8 => ∃ (rs' : List Int) (ad : Int → Addr) (wy pl : Int → List Int) (v8 v9 : Option V), σ = [some (.ref x), some (.ref q), some (.int a), some (.int b), some (.ref d), some (.ref r), some (.int st), some (.int p), v8, v9] ∧ FwI H m es ss a d r H8 rs' ad wy pl ∧ (∃ more, rs' = rs ++ more) ∧
            H8 l = some (.lst ((ss.filter fun t => atP p (tieOf es t)).map V.int)) ∧ ∀ t ∈ (ss.filter fun t => atP p (tieOf es t)).take i, far (tieOf es t) p ∈ rs') ⟨rs, ad, wy, pl, _, _, rfl, I7, ⟨[], (List.append_nil _).symm⟩, eN, fun t ht => (by simp at ht)⟩ (fun i σ H8 _ h => ?_) ?_ ?_⟩
          · obtain ⟨rs', ad, wy, pl, v8, v9, _, _, _, l8, _⟩ := h
            exact hC _ (SqL.of l8)
          · rintro i σ H8 hi ⟨rs', ad, wy, pl, v8, v9, rfl, I8, ⟨more, em⟩, l8, hdone⟩
            obtain ⟨v, ev, gv⟩ := getD_map_int hi
            have hvF := List.mem_filter.mp (List.mem_of_getElem? gv)
            have hv := hss v hvF.1
            have hva := atP_iff.mp hvF.2
            have hp8 : p ∈ rs' := by rw [em]; exact List.mem_append_left _ hpm
            have hw8 := hw.same I8.same
            obtain ⟨_, _, _, hte⟩ : ∃ dx t xs, tieOf es v ∈ es := ⟨0, 0, 0, by
              unfold tieOf
              rw [List.getD_eq_getElem?_getD, List.getElem?_eq_getElem (show v.toNat < es.length by omega)]; exact List.getElem_mem _⟩
            have hb4 := hE _ hte
            have hor : 0 ≤ far (tieOf es v) p ∧ far (tieOf es v) p < m := by
              unfold far; split
              · exact ⟨hb4.2.2.1, hb4.2.2.2⟩
              · exact ⟨hb4.1, hb4.2.1⟩
            try dsimp only
            rw [ev]
            refine ⟨_, rfl, _, rfl, _, rfl, x, v, p, m, es, rfl, hw8, hv.1, hv.2, ?_⟩
            obtain ⟨o, eo⟩ : ∃ o, o = far (tieOf es v) p := ⟨_, rfl⟩
            refine ⟨fun σ' H' => ∃ (rs' : List Int) (ad : Int → Addr) (wy pl : Int → List Int), σ' = [some (.ref x), some (.ref q), some (.int a), some (.int b), some (.ref d), some (.ref r), some (.int st), some (.int p), some (.int v), some (.int (far (tieOf es v) p))] ∧ FwI H m es ss a d r H' rs' ad wy pl ∧ (∃ more, rs' = rs ++ more) ∧
              H' l = some (.lst ((ss.filter fun t => atP p (tieOf es t)).map V.int)) ∧ ∀ t ∈ (ss.filter fun t => atP p (tieOf es t)).take (i + 1), far (tieOf es t) p ∈ rs', ?_, ?_⟩
            · refine ⟨_, rfl, _, rfl, d, _, rfl, DGet.k (k := Sum.inl (far (tieOf es v) p)) I8.dd, _, rfl, ?_⟩
              rw [valV_key, ← eo]
              rw [← eo] at hor
              by_cases ho : o ∈ rs'
              · rw [if_pos ho]
                refine iteF ⟨rs', ad, wy, pl, rfl, I8, ⟨more, em⟩, l8, fun t ht => ?_⟩
                rw [take_snoc gv] at ht
                rcases List.mem_append.mp ht with y | y
                · exact hdone t y
                · rw [List.mem_singleton.mp y, ← eo]; exact ho
              · rw [if_neg ho]
                refine iteT ?_
                obtain ⟨n1, nr1, c1⟩ := I8.cell p hp8
                obtain ⟨wp, wq⟩ := I8.way p hp8
                have hwl : (wy p).length ≤ 20 := by
                  rw [wp.len]
                  have := nodup_len (m := m) wp.nd fun z hz => by
                    rcases List.mem_append.mp hz with y | y
                    · exact I8.rng z (wq z y)
                    · rw [List.mem_singleton.mp y]; exact I8.rng p hp8
                  rw [List.length_append] at this
                  omega
                have hrl8 := nodup_len I8.nd I8.rng
                refine ⟨_, rfl, _, rfl, d, .ref (ad p), rfl, ?_, _, rfl, (by show 1 ≤ sizeLine; decide), fun q1 nq1 => ?_⟩
                · have := DGet.k (k := Sum.inl p) I8.dd
                  rw [valV_key, if_pos hp8] at this
                  exact this
                have s9 := Same.new (o := .lst [V.int v]) nq1
                have e9 : (upd H8 q1 (.lst [V.int v])) q1 = some (.lst [V.int v]) := upd_same
                generalize upd H8 q1 (.lst [V.int v]) = H9 at s9 e9
                refine ⟨ad p, q1, _, _, rfl, rfl, s9 _ _ c1, e9, Nat.le_of_lt (small1000 (by rw [List.length_map]; show (wy p).length + 1 ≤ 1000; omega)), fun q2 nq2 => ?_⟩
                rw [show (wy p).map V.int ++ [V.int v] = (wy p ++ [v]).map V.int by rw [List.map_append]; rfl]
                have s10 := s9.next (o := .lst ((wy p ++ [v]).map V.int)) nq2
                have e10 : (upd H9 q2 (.lst ((wy p ++ [v]).map V.int))) q2 = some (.lst ((wy p ++ [v]).map V.int)) := upd_same
                generalize upd H9 q2 (.lst ((wy p ++ [v]).map V.int)) = H10 at s10 e10
                have q2H8 : H8 q2 = none := none_back s9 nq2
                have d10 := s10 _ _ I8.dd
                have r10 := s10 _ _ I8.rr
                have pk : putK (rs'.map fun p => ((Sum.inl p : Key), V.ref (ad p))) (Sum.inl o) (V.ref q2) = (rs' ++ [o]).map fun z => ((Sum.inl z : Key), V.ref (if z = o then q2 else ad z)) := by
                  rw [putK_new _ (by rw [valV_key, if_neg ho]), List.map_append]
                  congr 1
                  · refine List.map_congr_left fun z hz => ?_
                    rw [if_neg (show ¬ z = o from fun y => ho (y ▸ hz))]
                  · rw [List.map_cons, List.map_nil, if_pos rfl]
                refine ⟨_, rfl, _, rfl, d, _, rfl, DPut.k (k := Sum.inl o) d10 (small1000 (by rw [List.length_map]; omega)), ?_⟩
                rw [pk]
                have r11 : (upd H10 d (.dK ((rs' ++ [o]).map fun z => ((Sum.inl z : Key), V.ref (if z = o then q2 else ad z))))) r = some (.lst (rs'.map V.int)) := by rw [upd_ne drn.symm]; exact r10
                refine ⟨_, rfl, .inl ⟨rfl, _, SqL.of r11⟩, _, rfl, r, _, _, rfl, rfl, r11, small1000 (by rw [List.length_map]; omega), ?_⟩
                have q2r : q2 ≠ r := (ne_of_none I8.rr q2H8).symm
                have q2d : q2 ≠ d := (ne_of_none I8.dd q2H8).symm
                have lq : ∀ z ∈ rs', ad z ≠ d := fun z hz => ne_of (I8.cell z hz).2.2 I8.dd (by intro y; cases y)
                refine ⟨rs' ++ [o], fun z => if z = o then q2 else ad z, fun z => if z = o then wy p ++ [v] else wy z, fun z => if z = o then pl p ++ [p] else pl z, rfl, ⟨((I8.same.trans s10).upd nd).upd rH, ?_, ?_, nodup_snoc I8.nd ho, fun z hz => ?_, List.mem_append_left _ I8.a0, fun z hz => ?_, fun z hz => ?_⟩, ⟨more ++ [o], by rw [em, List.append_assoc]⟩, ?_, fun t ht => ?_⟩
                · rw [upd_ne drn]; exact upd_same
                · rw [show (rs' ++ [o]).map V.int = rs'.map V.int ++ [V.int o] by rw [List.map_append]; rfl]; exact upd_same
                · rcases List.mem_append.mp hz with y | y
                  · exact I8.rng z y
                  · rw [List.mem_singleton.mp y]; exact hor
                · try dsimp only
                  rcases List.mem_append.mp hz with y | y
                  · have hne : ¬ z = o := fun w => ho (w ▸ y)
                    obtain ⟨n2, nr2, c2⟩ := I8.cell z y
                    rw [if_neg hne, if_neg hne]
                    exact ⟨n2, nr2, by rw [upd_ne nr2, upd_ne (lq z y)]; exact s10 _ _ c2⟩
                  · rw [if_pos (List.mem_singleton.mp y), if_pos (List.mem_singleton.mp y)]
                    exact ⟨none_back I8.same q2H8, q2r, by rw [upd_ne q2r, upd_ne q2d]; exact e10⟩
                · try dsimp only
                  rcases List.mem_append.mp hz with y | y
                  · have hne : ¬ z = o := fun w => ho (w ▸ y)
                    rw [if_neg hne, if_neg hne]
                    exact ⟨(I8.way z y).1, fun w hw => List.mem_append_left _ ((I8.way z y).2 w hw)⟩
                  · have hzo := List.mem_singleton.mp y
                    rw [if_pos hzo, if_pos hzo, hzo, eo]
                    refine ⟨.snoc wp hvF.1 hv.1 hv.2 hva fun w => ?_, fun w hw => ?_⟩
                    · rw [← eo] at w
                      rcases List.mem_append.mp w with y | y
                      · exact ho (wq _ y)
                      · exact ho (List.mem_singleton.mp y ▸ hp8)
                    · rcases List.mem_append.mp hw with y | y
                      · exact List.mem_append_left _ (wq _ y)
                      · rw [List.mem_singleton.mp y]; exact List.mem_append_left _ hp8
                · rw [upd_ne nlr, upd_ne nld]; exact s10 _ _ l8
                · rw [take_snoc gv] at ht
                  rcases List.mem_append.mp ht with y | y
                  · exact List.mem_append_left _ (hdone t y)
                  · rw [List.mem_singleton.mp y, ← eo]; exact List.mem_append_right _ (List.mem_singleton.mpr rfl)
            · rintro σ' H' ⟨rs', ad, wy, pl, rfl, I', ext, l', hdone'⟩
              exact ⟨rs', ad, wy, pl, _, _, rfl, I', ext, l', hdone'⟩
          · rintro σ H8 ⟨rs', ad, wy, pl, v8, v9, rfl, I8, ⟨more, em⟩, l8, hdone⟩
            rw [List.length_map, List.take_length] at hdone
            have hrl8 := nodup_len I8.nd I8.rng
            refine ⟨_, rfl, _, _, rfl, rfl, m.toNat - (st + 1), by omega, rs', st + 1, ad, wy, pl, _, _, _, rfl, rfl, I8, by rw [em, List.length_append]; omega, fun j hj t ht hta => ?_⟩
            by_cases hjs : j < st
            · have ej : rs'.getD j 0 = rs.getD j 0 := by rw [em, List.getD_eq_getElem?_getD, List.getElem?_append_left (by omega), List.getD_eq_getElem?_getD]
              rw [ej] at hta ⊢
              rw [em]
              exact List.mem_append_left _ (clo j hjs t ht hta)
            · have hje : j = st := by omega
              have ej : rs'.getD j 0 = p := by rw [hje, ep, em, List.getD_eq_getElem?_getD, List.getElem?_append_left hlt, List.getD_eq_getElem?_getD]
              rw [ej] at hta ⊢
              exact hdone t (List.mem_filter.mpr ⟨ht, atP_iff.mpr hta⟩)
      · rw [decide_eq_false (show ¬ (st : Int) < ((rs.map V.int).length : Int) by omega)]
        refine iteF ?_
        refine ⟨_, rfl, d, rfl, .inl ⟨_, .inl I.dd⟩, _, rfl, _, DGet.k (k := Sum.inl b) I.dd, ?_⟩
        rw [valV_key, if_neg hb]
        refine k1 (fun h => hb (cn_closed I.a0 (fun e he p hp hep => ?_) h)) H5 I.same
        obtain ⟨t, ht, rfl⟩ := List.mem_map.mp he
        obtain ⟨j, hj, rfl⟩ := List.mem_iff_getElem.mp hp
        have ej : rs.getD j 0 = rs[j] := by rw [List.getD_eq_getElem?_getD, List.getElem?_eq_getElem hj]; rfl
        have := clo j (by omega) t ht (by rw [ej]; exact hep)
        rwa [ej] at this
def spWb (K : PySem.W.Frag) (c : Cs) : Sp := fun vs H Q _ => ∃ (x q : Addr) (t m : Int) (es : List (Int × Int)) (ss : List Int), vs = [.ref x, .int t, .ref q] ∧ WebAt K c.Web H x m es ∧ 0 ≤ t ∧ t < (es.length : Int) ∧ SqL K H q (ss.map V.int) ∧ (∀ t ∈ ss, 0 ≤ t ∧ t < (es.length : Int)) ∧ ss.length ≤ 900 ∧ m ≤ 20 ∧ EndsIn es m ∧
  (¬ Cn (sub es ss) (tieOf es t).2 (tieOf es t).1 → ∀ H', Same H H' → Q .non H') ∧ (∀ l ts ps H', Same H H' → H l = none → H' l = some (.lst (ts.map V.int)) → Way es ss (tieOf es t).2 ts ps (tieOf es t).1 → Q (.ref l) H')
theorem scWb : FnScope ["web", "tie", "some", "ends"] ["web", "tie", "some"] (defScope sWb) := ⟨rfl, rfl, rfl, by decide +kernel, rfl, by decide +kernel, by decide +kernel⟩
set_option maxHeartbeats 4000000 in
theorem ok_Wb {f : Addr} {fd : FuncData} (F : Fun K "way_back" "way_back" sWb f fd) (T : Txt K mg c) (D_Fw : Def P w K mg base 2 "find_way" ["web", "some", "start", "goal"] (spFw K c)) : FnOk P w K mg base CX0 3 f fd ["web", "tie", "some"] (spWb K c) := by
  refine F.ok scWb (fun vs H Q E h => ?_) (fun cdv A outer s H vs Q E hr h => ?_)
  · obtain ⟨x, q, t, m, es, ss, rfl, _⟩ := h
    rfl
  · obtain ⟨x, q, t, m, es, ss, rfl, hw, t0, t1, hq, hss, hsl, m2, hE, k1, k2⟩ := h
    refine ⟨_, pss_cons (ps_set (i := 3) scWb.nd rfl (Or.inl rfl) (pe_ix (ixT (K := K) rfl) (pTies (K := K) rfl T.web (pv 0)) (pv 1) (fun _ _ => rfl)))
      (pss_one (ps_ret (pe_defR D_Fw hr (pa_cons (pv 0) (pa_cons (pv 2) (pa_cons (pe_ix (ixT (K := K) rfl) (pv 3) (pe_int) (fun _ _ => rfl)) (pa_cons (pe_ix (ixT (K := K) rfl) (pv 3) (pe_int) (fun _ _ => rfl)) pa_nil))))))), ?_⟩
    refine ⟨_, rfl, x, m, es, rfl, hw, fun tt ys ht hp => ?_⟩
    obtain ⟨r, ar, hr2, hm⟩ := tie_get hp t0 t1
    obtain ⟨b1, b2, b3, b4⟩ := hE _ hm
    refine ⟨_, rfl, tt, ys, t, .ref r, rfl, rfl, SqT.of ht, ar, ?_⟩
    exact ⟨_, rfl, _, rfl, _, rfl, r, _, 1, _, rfl, rfl, hr2, rfl, _, rfl, r, _, 0, _, rfl, rfl, hr2, rfl, x, q, _, _, m, es, ss, rfl, hw, hq, hss, hsl, b3, b4, m2, hE, k1, k2⟩
def spCr (K : PySem.W.Frag) (cR : Addr) : Sp := fun vs H Q E => ∃ k : Int, vs = [.int k] ∧ (2 ≤ k → k ≤ 10 ^ 20 → Q .non H) ∧ (¬ (2 ≤ k ∧ k ≤ 10 ^ 20) → E (.ref cR) none H)
theorem scCr : FnScope ["k"] ["k"] (defScope sCr) := ⟨rfl, rfl, rfl, by decide +kernel, rfl, by decide +kernel, by decide +kernel⟩
theorem ok_Cr {f : Addr} {fd : FuncData} (F : Fun K "check_rest" "check_rest" sCr f fd) (T : Txt K mg c) : FnOk P w K mg base (CXE P w) 1 f fd ["k"] (spCr K c.BadRest) := by
  refine F.okE scCr (fun vs H Q E h => ?_) (fun cdv A outer s H vs Q E hr h => ?_)
  · obtain ⟨k, rfl, _⟩ := h
    rfl
  · obtain ⟨k, rfl, k1, k2⟩ := h
    refine ⟨_, pss_one (ps_if (PW.pt (pw_or (pt_cmpR op_lt (pv 0) (pe_int) (nomark _)) (pw_or1 (pt_cmpR op_gt (pv 0) (pe_op op_pow (pe_int) (pe_int)) (nomark _)))))
        (pss_one (ps_raise rfl rfl (by rfl) T.mBadRest T.xBadRest (pa_cons pe_str pa_nil))) (pss_nil)), ?_⟩
    refine ⟨_, rfl, _, _, rfl, rfl, _, rfl, ?_⟩
    by_cases c1 : k < 2
    · rw [decide_eq_true c1]
      exact iteT (iteT ⟨(by show 1 ≤ sizeLine; decide), k2 (by omega)⟩)
    · rw [decide_eq_false c1]
      refine iteF ⟨_, rfl, _, _, rfl, rfl, ⟨by decide, by decide, by decide⟩, _, _, rfl, rfl, _, rfl, ?_⟩
      have e : (10 : Int) ^ (20 : Int).toNat = 10 ^ 20 := rfl
      by_cases c2 : k > (10 : Int) ^ (20 : Int).toNat
      · rw [decide_eq_true c2]
        rw [e] at c2
        exact iteT ⟨(by show 1 ≤ sizeLine; decide), k2 (by omega)⟩
      · rw [decide_eq_false c2]
        rw [e] at c2
        exact iteF (k1 (by omega) (by omega))
def spRs (K : PySem.W.Frag) (cR : Addr) : Sp := fun vs H Q E => ∃ (f : Addr) (b : Bool) (k : Int) (fs : List Int), vs = [.ref f, .int k] ∧ SqB b K H f (fs.map V.int) ∧ fs.length ≤ 900 ∧ (¬ (2 ≤ k ∧ k ≤ 10 ^ 20) → E (.ref cR) none H) ∧
  (2 ≤ k → k ≤ 10 ^ 20 → ∀ l H', H l = none → Same H H' → H' l = some (.lst ((fs.map (· % k)).map V.int)) → Q (.ref l) H')
theorem scRs : FnScope ["amounts", "k"] ["amounts", "k"] (defScope sRs) := ⟨rfl, rfl, rfl, by decide +kernel, rfl, by decide +kernel, by decide +kernel⟩
set_option maxHeartbeats 4000000 in
theorem ok_Rs {f : Addr} {fd : FuncData} (F : Fun K "rests_of" "rests_of" sRs f fd) (T : Txt K mg c) (D_Cr : DefE P w K mg base 1 "check_rest" ["k"] (spCr K c.BadRest)) : FnOk P w K mg base (CXE P w) 2 f fd ["amounts", "k"] (spRs K c.BadRest) := by
  refine F.okE scRs (fun vs H Q E h => ?_) (fun cdv A outer s H vs Q E hr h => ?_)
  · obtain ⟨f, b, k, fs, rfl, _⟩ := h
    rfl
  · obtain ⟨f, b, k, fs, rfl, hf, hz, k1, k2⟩ := h
    refine ⟨_, pss_cons (ps_expr (pe_defE D_Cr hr rfl rfl (pa_cons (pv 1) pa_nil)))
      (pss_one (ps_ret (pe_lc (N' := ["amount", "k"]) (nl := 1) (js := [1]) rfl (.of (osc := defScope sRs) (N := ["amounts", "k"]) (by decide +kernel) rfl rfl) (piSeq (K := K) rfl (pv 0))
        (fun _ _ _ _ => pg_name (i := 0) (show (["amount", "k"] : List Str).Nodup by decide +kernel) rfl (Or.inl rfl)) (fun _ _ _ _ => pif_nil)
        (fun _ _ _ _ => pe_op op_mod (pv 0) (pv 1))))), ?_⟩
    refine ⟨_, rfl, k, rfl, fun h0 h1 => ?_, fun z => k1 z⟩
    refine ⟨_, rfl, f, _, rfl, hf.or, fun J C O hC => lc_by O (fun i ys H2 => H2 = H ∧ ys = ((fs.map (· % k)).take i).map V.int) (by rw [List.length_map]; exact Nat.le_of_lt (small1000 (by omega))) ⟨rfl, rfl⟩ ?_ ?_ ?_⟩
    · rintro i ys H2 hi ⟨rfl, rfl⟩
      exact ⟨hC _ (Same.refl _), by rw [List.length_map, List.length_take]; omega⟩
    · rintro i ys H hi ⟨rfl, rfl⟩
      obtain ⟨v, ev, gv⟩ := getD_map_int hi
      rw [List.length_map] at hi
      have hv : (fs.map (· % k))[i]? = some (v % k) := by rw [List.getElem?_map, gv]; rfl
      try dsimp only
      rw [ev]
      refine ⟨wk_set rfl, iteT ⟨_, rfl, _, rfl, _, _, rfl, rfl, (by show 0 < k; omega), small1000 (by rw [List.length_map, List.length_take]; omega), _, by rw [List.length_map]; omega, rfl, by rw [List.length_map]; omega, rfl, ?_⟩⟩
      rw [take_snoc hv, List.map_append]; rfl
    · rintro ys H ⟨rfl, rfl⟩ l nl
      rw [List.length_map, List.take_of_length_le (by rw [List.length_map]; omega)]
      exact k2 h0 h1 l _ nl (Same.new nl) upd_same
theorem any_isR {m k : Int} {es : List (Int × Int)} {fs zs : List Int} (hz : zs.length = m.toNat) (hd : ∀ p : Nat, p < m.toNat → zs.getD p 0 = dp p es fs es.length) (ha : (fs.all fun r => decide (0 ≤ r) && decide (r < k)) = true) : (!((zs.map (· % k)).map V.int).any tv) = isR m es fs k := by
  unfold isR
  rw [ha, Bool.true_and, Bool.eq_iff_iff, decide_eq_true_iff, Bool.not_eq_true', List.any_eq_false]
  constructor
  · intro h p hp
    rw [← hd p hp, gD_at (by omega)]
    have := h (.int (zs[p] % k)) (List.mem_map_of_mem (List.mem_map_of_mem (f := (· % k)) (List.getElem_mem (by omega))))
    simpa [tv] using this
  · intro h x hx
    obtain ⟨z, hzz, rfl⟩ := List.mem_map.mp hx
    obtain ⟨y, hy, rfl⟩ := List.mem_map.mp hzz
    obtain ⟨i, hi, rfl⟩ := List.mem_iff_getElem.mp hy
    have e := hd i (by omega)
    rw [gD_at hi] at e
    have e' : zs[i] % k = 0 := by rw [e]; exact h i (by omega)
    simp [tv, e']
def spIr (K : PySem.W.Frag) (c : Cs) : Sp := fun vs H Q E => ∃ (x f : Addr) (b : Bool) (m k : Int) (es : List (Int × Int)) (fs : List Int), vs = [.ref x, .ref f, .int k] ∧ WebAt K c.Web H x m es ∧ SqB b K H f (fs.map V.int) ∧ fs.length ≤ 900 ∧ 1 ≤ m ∧ m ≤ 20 ∧ es.length ≤ 40 ∧ EndsIn es m ∧
  (¬ (2 ≤ k ∧ k ≤ 10 ^ 20) → E (.ref c.BadRest) none H) ∧ (2 ≤ k → k ≤ 10 ^ 20 → fs.length ≠ es.length → E (.ref c.BadFlow) none H) ∧ (2 ≤ k → k ≤ 10 ^ 20 → fs.length = es.length → ∀ H', Same H H' → Q (.bl (isR m es fs k)) H')
theorem scIr : FnScope ["web", "rests", "k"] ["web", "rests", "k"] (defScope sIr) := ⟨rfl, rfl, rfl, by decide +kernel, rfl, by decide +kernel, by decide +kernel⟩
theorem all_blR {α : Type} (g : α → Bool) : ∀ l : List α, (l.map fun a => V.bl (g a)).all isBI = true ∧ (l.map fun a => V.bl (g a)).all tv = l.all g
  | [] => ⟨rfl, rfl⟩
  | a :: l => by
    rw [List.map_cons, List.all_cons, List.all_cons, List.all_cons, (all_blR g l).1, (all_blR g l).2]
    exact ⟨rfl, rfl⟩
set_option maxHeartbeats 4000000 in
theorem ok_Ir {f : Addr} {fd : FuncData} (F : Fun K "is_rest_flow" "is_rest_flow" sIr f fd) (T : Txt K mg c) (D_Cr : DefE P w K mg base 1 "check_rest" ["k"] (spCr K c.BadRest)) (D_Am : DefE P w K mg base 1 "check_amounts" ["web", "flow"] (spAm K c.Web c.BadFlow)) (D_Rs : DefE P w K mg base 2 "rests_of" ["amounts", "k"] (spRs K c.BadRest)) (D_Gs : Def P w K mg base 1 "gains" ["web", "flow"] (spGs K c.Web)) : FnOk P w K mg base (CXE P w) 3 f fd ["web", "rests", "k"] (spIr K c) := by
  refine F.okE scIr (fun vs H Q E h => ?_) (fun cdv A outer s H vs Q E hr h => ?_)
  · obtain ⟨x, f, b, m, k, es, fs, rfl, _⟩ := h
    rfl
  · obtain ⟨x, f, b, m, k, es, fs, rfl, hw, hf, hfz, m1, m2, hz, hE, k1, k2, k3⟩ := h
    refine ⟨_, pss_cons (ps_expr (pe_defE D_Cr hr rfl rfl (pa_cons (pv 2) pa_nil)))
      (pss_cons (ps_expr (pe_defE D_Am hr rfl rfl (pa_cons (pv 0) (pa_cons (pv 1) pa_nil))))
      (pss_cons (ps_if (pt_not (pt_val (pe_callB (cAll (K := K) rfl rfl) (by rfl) T.all PyProof.Rows.boot_all (pa_cons (pe_lc (N' := ["rest", "k"]) (nl := 1) (js := [2]) rfl (.of (osc := defScope sIr) (N := ["web", "rests", "k"]) (by decide +kernel) rfl rfl) (piSeq (K := K) rfl (pv 1))
        (fun _ _ _ _ => pg_name (i := 0) (show (["rest", "k"] : List Str).Nodup by decide +kernel) rfl (Or.inl rfl)) (fun _ _ _ _ => pif_nil)
        (fun _ _ _ _ => pe_chain op_le op_lt (pe_int) (pv 0) (pv 1))) pa_nil))))
        (pss_one (ps_ret (pe_bl))) (pss_nil))
      (pss_one (ps_ret (pe_not (pe_callB (cAny (K := K) rfl rfl) (by rfl) T.any PyProof.Rows.boot_any (pa_cons (pe_defE D_Rs hr rfl rfl (pa_cons (pe_defR D_Gs hr (pa_cons (pv 0) (pa_cons (pv 1) pa_nil))) (pa_cons (pv 2) pa_nil))) pa_nil))))))), ?_⟩
    refine ⟨_, rfl, k, rfl, fun h0 h1 => ?_, fun z => k1 z⟩
    refine ⟨_, rfl, _, rfl, x, f, m, es, _, rfl, hw, hf.or, fun e => ?_, fun z => k2 h0 h1 (by rwa [List.length_map] at z)⟩
    rw [List.length_map] at e
    refine ⟨_, rfl, f, _, rfl, hf.or, fun J C O hC => lc_by O (fun i ys H2 => H2 = H ∧ ys = (fs.take i).map fun r => V.bl (decide (0 ≤ r) && decide (r < k))) (by rw [List.length_map]; exact Nat.le_of_lt (small1000 (by omega))) ⟨rfl, rfl⟩ ?_ ?_ ?_⟩
    · rintro i ys H2 hi ⟨rfl, rfl⟩
      exact ⟨hC _ (Same.refl _), by rw [List.length_map, List.length_take]; omega⟩
    · rintro i ys H hi ⟨rfl, rfl⟩
      obtain ⟨v, ev, gv⟩ := getD_map_int hi
      rw [List.length_map] at hi
      try dsimp only
      rw [ev]
      have hl2 : ((fs.take i).map fun r => V.bl (decide (0 ≤ r) && decide (r < k))).length < sizeLine := small1000 (by rw [List.length_map, List.length_take]; omega)
      have fin : ∀ b, b = (decide (0 ≤ v) && decide (v < k)) → ((fs.take i).map fun r => V.bl (decide (0 ≤ r) && decide (r < k))) ++ [V.bl b] = (fs.take (i + 1)).map fun r => V.bl (decide (0 ≤ r) && decide (r < k)) := fun b e => by
        rw [take_snoc gv, List.map_append, e]; rfl
      refine ⟨wk_set rfl, iteT ?_⟩
      refine ⟨_, rfl, _, _, rfl, rfl, _, rfl, ite2 (fun c => ?_) (fun c => ?_)⟩
      · refine ⟨_, rfl, _, _, rfl, rfl, hl2, _, by rw [List.length_map]; omega, rfl, by rw [List.length_map]; omega, rfl, fin _ ?_⟩
        rw [c, Bool.true_and]
      · refine ⟨hl2, _, by rw [List.length_map]; omega, rfl, by rw [List.length_map]; omega, rfl, fin _ ?_⟩
        rw [Bool.eq_false_iff.mpr c, Bool.false_and]
    · rintro ys H ⟨rfl, rfl⟩ l nl
      rw [List.length_map, List.take_length]
      refine ⟨l, _, rfl, .inl (SqL.of upd_same), (all_blR _ _).1, _, rfl, ?_⟩
      rw [(all_blR _ _).2]
      have s1 := Same.new (o := .lst (fs.map fun r => V.bl (decide (0 ≤ r) && decide (r < k)))) nl
      generalize upd H l (.lst (fs.map fun r => V.bl (decide (0 ≤ r) && decide (r < k)))) = H1 at s1
      cases ha : fs.all fun r => decide (0 ≤ r) && decide (r < k) with
      | false =>
        have e0 : isR m es fs k = false := by unfold isR; rw [ha, Bool.false_and]
        have := k3 h0 h1 e H1 s1
        rw [e0] at this
        exact iteT this
      | true =>
        refine iteF ?_
        refine ⟨_, rfl, _, rfl, x, f, b, m, es, fs, rfl, hw.same s1, hf.same s1, e, m1, m2, hz, hE, fun lg H2 zs e2 hzl hd s2 => ?_⟩
        refine ⟨_, rfl, lg, false, k, zs, rfl, SqL.of e2, by omega, fun z => absurd ⟨h0, h1⟩ z, fun _ _ l3 H3 nl3 s3 e3 => ⟨l3, _, rfl, .inl (SqL.of e3), ?_, _, rfl, ?_⟩⟩
        · rw [List.all_eq_true]
          intro y hy
          obtain ⟨z, _, rfl⟩ := List.mem_map.mp hy
          rfl
        · rw [any_isR hzl hd ha]
          exact k3 h0 h1 e H3 ((s1.trans s2).trans s3)
def spCk (K : PySem.W.Frag) (c : Cs) : Sp := fun vs H Q E => ∃ (x q : Addr) (m : Int) (es : List (Int × Int)) (ss : List Int), vs = [.ref x, .ref q] ∧ WebAt K c.Web H x m es ∧ SqL K H q (ss.map V.int) ∧ ss.length ≤ 900 ∧ es.length ≤ 40 ∧
  (¬ SetOk es.length ss → ∀ H', Same H H' → E (.ref c.BadSet) none H') ∧ (SetOk es.length ss → ∀ H', Same H H' → Q .non H')
theorem scCk : FnScope ["web", "some"] ["web", "some"] (defScope sCk) := ⟨rfl, rfl, rfl, by decide +kernel, rfl, by decide +kernel, by decide +kernel⟩
theorem anyB {α : Type} (g : α → Bool) : ∀ l : List α, (l.map fun a => V.bl (g a)).all isBI = true ∧ (l.map fun a => V.bl (g a)).any tv = l.any g
  | [] => ⟨rfl, rfl⟩
  | a :: l => by
    rw [List.map_cons, List.all_cons, List.any_cons, List.any_cons, (anyB g l).1, (anyB g l).2]
    exact ⟨rfl, rfl⟩
set_option maxHeartbeats 4000000 in
theorem ok_Ck {f : Addr} {fd : FuncData} (F : Fun K "check_set" "check_set" sCk f fd) (T : Txt K mg c) : FnOk P w K mg base (CXE P w) 1 f fd ["web", "some"] (spCk K c) := by
  refine F.okE scCk (fun vs H Q E h => ?_) (fun cdv A outer s H vs Q E hr h => ?_)
  · obtain ⟨x, q, m, es, ss, rfl, _⟩ := h
    rfl
  · obtain ⟨x, q, m, es, ss, rfl, hw, hq, hz, he, k1, k2⟩ := h
    refine ⟨_, pss_cons (ps_if (pt_val (pe_callB (cAny (K := K) rfl rfl) (by rfl) T.any PyProof.Rows.boot_any (pa_cons (pe_lc (N' := ["tie", "web"]) (nl := 1) (js := [0]) rfl (.of (osc := defScope sCk) (N := ["web", "some"]) (by decide +kernel) rfl rfl) (piSeq (K := K) rfl (pv 1))
        (fun _ _ _ _ => pg_name (i := 0) (show (["tie", "web"] : List Str).Nodup by decide +kernel) rfl (Or.inl rfl)) (fun _ _ _ _ => pif_nil)
        (fun _ _ _ _ => pe_not (pe_chain op_le op_lt (pe_int) (pv 0) (pe_callB (cLen (K := K) rfl) (by rfl) T.len PySem.boot_len (pa_cons (pTies (K := K) rfl T.web (pv 1)) pa_nil))))) pa_nil)))
        (pss_one (ps_raise rfl rfl (by rfl) T.mBadSet T.xBadSet (pa_cons pe_str pa_nil))) (pss_nil))
      (pss_one (ps_if (pt_val (pe_callB (cAny (K := K) rfl rfl) (by rfl) T.any PyProof.Rows.boot_any (pa_cons (pe_lc (N' := ["one", "two"]) (nl := 2) (js := []) rfl (.of (osc := defScope sCk) (N := ["web", "some"]) (by decide +kernel) rfl rfl) (pi_zip (K := K) rfl rfl T.zip (pa_cons (pv 1) (pa_cons (pe_slice (slL (K := K) rfl) (pv 1) (po_some (pe_int)) (po_none)) pa_nil)))
        (fun _ _ _ _ => pgPair (K := K) (i := 0) (j := 1) rfl rfl (show (["one", "two"] : List Str).Nodup by decide +kernel) rfl rfl rfl rfl) (fun _ _ _ _ => pif_nil)
        (fun _ _ _ _ => pe_cmpR op_ge (pv 0) (pv 1) (nomark _))) pa_nil)))
        (pss_one (ps_raise rfl rfl (by rfl) T.mBadSet T.xBadSet (pa_cons pe_str pa_nil))) (pss_nil))), ?_⟩
    have hsm : (ss.map V.int).length = ss.length := List.length_map ..
    refine ⟨_, rfl, q, _, rfl, .inl hq, fun J C O hC => lc_by O (fun i ys H2 => H2 = H ∧ ys = (ss.take i).map fun t => V.bl (!(decide (0 ≤ t) && decide (t < (es.length : Int))))) (by rw [hsm]; exact Nat.le_of_lt (small1000 (by omega))) ⟨rfl, rfl⟩ ?_ ?_ ?_⟩
    · rintro i ys H2 hi ⟨rfl, rfl⟩
      exact ⟨hC _ (Same.refl _), by rw [List.length_map, List.length_take]; omega⟩
    · rintro i ys H2 hi ⟨rfl, rfl⟩
      obtain ⟨v, ev, gv⟩ := getD_map_int hi
      rw [hsm] at hi
      try dsimp only
      rw [ev]
      have hl2 : ((ss.take i).map fun t => V.bl (!(decide (0 ≤ t) && decide (t < (es.length : Int))))).length < sizeLine := small1000 (by rw [List.length_map, List.length_take]; omega)
      have fin : ∀ b, b = (!(decide (0 ≤ v) && decide (v < (es.length : Int)))) → ((ss.take i).map fun t => V.bl (!(decide (0 ≤ t) && decide (t < (es.length : Int))))) ++ [V.bl b] = (ss.take (i + 1)).map fun t => V.bl (!(decide (0 ≤ t) && decide (t < (es.length : Int)))) := fun b e => by
        rw [take_snoc gv, List.map_append, e]; rfl
      refine ⟨wk_set rfl, iteT ?_⟩
      refine ⟨_, rfl, _, _, rfl, rfl, _, rfl, ite2 (fun c => ?_) (fun c => ?_)⟩
      · refine ⟨_, rfl, x, m, es, rfl, hw, fun tt zs ht hp => ?_⟩
        refine ⟨tt, zs, rfl, .inr (SqT.of ht), _, _, rfl, rfl, _, rfl, hl2, _, by omega, rfl, by omega, rfl, fin _ ?_⟩
        rw [c, Bool.true_and, hp.len]
      · refine ⟨_, rfl, hl2, _, by omega, rfl, by omega, rfl, fin _ ?_⟩
        rw [Bool.eq_false_iff.mpr c, Bool.false_and]
    rintro ys H2 ⟨rfl, rfl⟩ l1 n1
    rw [hsm, List.take_length]
    refine ⟨l1, _, rfl, .inl (SqL.of upd_same), (anyB _ _).1, _, rfl, ?_⟩
    rw [(anyB _ _).2]
    have s1 := Same.new (o := .lst (ss.map fun t => V.bl (!(decide (0 ≤ t) && decide (t < (es.length : Int)))))) n1
    generalize upd H2 l1 (.lst (ss.map fun t => V.bl (!(decide (0 ≤ t) && decide (t < (es.length : Int)))))) = H1 at s1
    refine ite2 (fun c1 => ?_) (fun c1 => ?_)
    · refine ⟨(by show 1 ≤ sizeLine; decide), k1 (fun z => ?_) _ s1⟩
      obtain ⟨t, ht, hb⟩ := List.any_eq_true.mp c1
      have := z.rng t ht
      rw [decide_eq_true this.1, decide_eq_true this.2] at hb
      cases hb
    have hrng : ∀ t ∈ ss, 0 ≤ t ∧ t < (es.length : Int) := fun t ht => Classical.byContradiction fun z => c1 (List.any_eq_true.mpr ⟨t, ht, by
      by_cases y : 0 ≤ t
      · rw [decide_eq_false (show ¬ t < (es.length : Int) from fun w => z ⟨y, w⟩), Bool.and_false]; rfl
      · rw [decide_eq_false y, Bool.false_and]; rfl⟩)
    refine ⟨_, rfl, _, rfl, 1, rfl, q, _, rfl, s1.seq hq, fun pc npc => ?_⟩
    have ecut : cutV (ss.map V.int) (some 1) none = (ss.drop 1).map V.int := by
      cases ss with
      | nil => rfl
      | cons a l => rw [show (1 : Int) = 0 + 1 from rfl, cutV_from (by decide) (by rw [List.length_map, List.length_cons]; omega), ← List.map_drop]; rfl
    rw [ecut]
    have s2 := s1.next (o := .lst ((ss.drop 1).map V.int)) npc
    have e2 : (upd H1 pc (.lst ((ss.drop 1).map V.int))) pc = some (.lst ((ss.drop 1).map V.int)) := upd_same
    generalize upd H1 pc (.lst ((ss.drop 1).map V.int)) = H3 at s2 e2
    have hn : min (ss.map V.int).length ((ss.drop 1).map V.int).length = ss.length - 1 := by rw [hsm, List.length_map, List.length_drop]; omega
    have hdr : ∀ i, (ss.drop 1).getD i 0 = ss.getD (i + 1) 0 := fun i => by rw [List.getD_eq_getElem?_getD, List.getElem?_drop, List.getD_eq_getElem?_getD, Nat.add_comm]
    refine ⟨false, false, q, pc, _, _, rfl, s2.seq hq, SqL.of e2, fun J C O hC => lc_byP O (fun i ys H4 => Same H3 H4 ∧ ys = (List.range i).map fun j => V.bl (decide (ss.getD (j + 1) 0 ≤ ss.getD j 0))) (by rw [hn]; exact Nat.le_of_lt (small1000 (by omega))) ⟨Same.refl _, rfl⟩ ?_ ?_ ?_⟩
    · rintro i ys H4 hi ⟨s4, rfl⟩
      exact ⟨hC _ ((s2.trans s4).seq hq) (SqL.of (s4 _ _ e2)), by rw [List.length_map, List.length_range]; exact Nat.le_refl _⟩
    · rintro i ys H4 r hi ⟨s4, rfl⟩ nr
      rw [hn] at hi
      dsimp only
      rw [getD_ints (show i < ss.length by omega), getD_ints (show i < (ss.drop 1).length by rw [List.length_drop]; omega), hdr]
      refine ⟨r, _, rfl, SqT.of upd_same, rfl, _, _, rfl, _, _, rfl, rfl, wk_set2 rfl rfl, iteT ?_⟩
      refine ⟨_, rfl, _, rfl, _, _, rfl, rfl, small1000 (by rw [List.length_map, List.length_range]; omega), _, by rw [hn]; omega, rfl, by rw [hn]; omega, s4.next nr, ?_⟩
      rw [List.range_succ, List.map_append]; rfl
    · rintro ys H4 ⟨s4, rfl⟩ l2 n2
      rw [hn]
      refine ⟨l2, _, rfl, .inl (SqL.of upd_same), (anyB _ _).1, _, rfl, ?_⟩
      rw [(anyB _ _).2]
      have s5 := (s2.trans s4).next (o := .lst ((List.range (ss.length - 1)).map fun j => V.bl (decide (ss.getD (j + 1) 0 ≤ ss.getD j 0)))) n2
      generalize upd H4 l2 (.lst ((List.range (ss.length - 1)).map fun j => V.bl (decide (ss.getD (j + 1) 0 ≤ ss.getD j 0)))) = H5 at s5
      refine ite2 (fun c2 => ?_) (fun c2 => ?_)
      · refine ⟨(by show 1 ≤ sizeLine; decide), k1 (fun z => ?_) _ s5⟩
        obtain ⟨j, hj, hb⟩ := List.any_eq_true.mp c2
        have h1 := of_decide_eq_true hb
        have h2 := up_get z.up (i := j) (by have := List.mem_range.mp hj; omega)
        omega
      · refine k2 ⟨hrng, up_of fun i hi => Classical.byContradiction fun z => c2 (List.any_eq_true.mpr ⟨i, List.mem_range.mpr (by omega), decide_eq_true (by omega)⟩)⟩ _ s5
def spMr (K : PySem.W.Frag) (c : Cs) : Sp := fun vs H Q _ => ∃ (x q : Addr) (m : Int) (es : List (Int × Int)) (ss : List Int), vs = [.ref x, .ref q] ∧ WebAt K c.Web H x m es ∧ SqL K H q (ss.map V.int) ∧ es.length ≤ 40 ∧
  ∀ l H', H l = none → Same H H' → H' l = some (.lst ((mkS es.length ss).map V.int)) → Q (.ref l) H'
theorem scMr : FnScope ["web", "some"] ["web", "some"] (defScope sMr) := ⟨rfl, rfl, rfl, by decide +kernel, rfl, by decide +kernel, by decide +kernel⟩
set_option maxHeartbeats 4000000 in
theorem ok_Mr {f : Addr} {fd : FuncData} (F : Fun K "marks" "marks" sMr f fd) (T : Txt K mg c) : FnOk P w K mg base CX0 1 f fd ["web", "some"] (spMr K c) := by
  refine F.ok scMr (fun vs H Q E h => ?_) (fun cdv A outer s H vs Q E hr h => ?_)
  · obtain ⟨x, q, m, es, ss, rfl, _⟩ := h
    rfl
  · obtain ⟨x, q, m, es, ss, rfl, hw, hq, he, k⟩ := h
    refine ⟨_, pss_one (ps_ret (pe_lc (N' := ["tie", "some"]) (nl := 1) (js := [1]) rfl (.of (osc := defScope sMr) (N := ["web", "some"]) (by decide +kernel) rfl rfl) (pi_range1 rfl T.range (pa_cons (pe_callB (cLen (K := K) rfl) (by rfl) T.len PySem.boot_len (pa_cons (pTies (K := K) rfl T.web (pv 0)) pa_nil)) pa_nil))
        (fun _ _ _ _ => pg_name (i := 0) (show (["tie", "some"] : List Str).Nodup by decide +kernel) rfl (Or.inl rfl)) (fun _ _ _ _ => pif_nil)
        (fun _ _ _ _ => pe_ifExp (pt_cmpR (opIn (K := K) rfl) (pv 0) (pv 1) (by with_unfolding_all rfl)) (pe_int) (pe_int)))), ?_⟩
    refine ⟨_, rfl, x, m, es, rfl, hw, fun tt zs ht hp => ?_⟩
    have hzl := hp.len
    have eun : ((zs.length : Int)).toNat = es.length := hzl
    refine ⟨tt, zs, rfl, .inr (SqT.of ht), (zs.length : Int), rfl, by omega, by omega, ?_⟩
    rw [eun]
    refine lc_by itok_range (fun i ys H2 => H2 = H ∧ ys = ((mkS es.length ss).take i).map V.int) (Nat.le_of_lt (small1000 (by omega))) ⟨rfl, rfl⟩ ?_ ?_ ?_
    · rintro i ys H2 hi ⟨rfl, rfl⟩
      exact ⟨trivial, by rw [List.length_map, List.length_take]; omega⟩
    · rintro i ys H2 hi ⟨rfl, rfl⟩
      have hl2 : (((mkS es.length ss).take i).map V.int).length < sizeLine := small1000 (by rw [List.length_map, List.length_take]; omega)
      have hg := mkS_get (ss := ss) (show i < es.length from hi)
      try dsimp only
      rw [Int.zero_add]
      refine ⟨wk_set rfl, iteT ⟨_, rfl, _, rfl, q, _, rfl, .inl hq, rfl, flat_ints _, _, rfl, ?_⟩⟩
      rw [if_neg Bool.false_ne_true, inV_ints]
      have hm : (ss.any (· == (i : Int))) = decide ((i : Int) ∈ ss) := by
        rw [Bool.eq_iff_iff, decide_eq_true_iff, List.any_eq_true]
        exact ⟨fun ⟨y, h1, h2⟩ => by rw [← beq_iff_eq.mp h2]; exact h1, fun h => ⟨_, h, beq_self_eq_true _⟩⟩
      rw [hm]
      by_cases c1 : (i : Int) ∈ ss
      · rw [decide_eq_true c1]
        refine iteT ⟨hl2, _, by omega, rfl, by omega, rfl, ?_⟩
        rw [take_snoc hg, List.map_append, if_pos c1]; rfl
      · rw [decide_eq_false c1]
        refine iteF ⟨hl2, _, by omega, rfl, by omega, rfl, ?_⟩
        rw [take_snoc hg, List.map_append, if_neg c1]; rfl
    · rintro ys H2 ⟨rfl, rfl⟩ l nl
      rw [List.take_of_length_le (by rw [mkS_len]; exact Nat.le_refl _)]
      exact k l _ nl (Same.new nl) upd_same
def spEv (K : PySem.W.Frag) (c : Cs) : Sp := fun vs H Q E => ∃ (x q : Addr) (m : Int) (es : List (Int × Int)) (ss : List Int), vs = [.ref x, .ref q] ∧ WebAt K c.Web H x m es ∧ SqL K H q (ss.map V.int) ∧ ss.length ≤ 900 ∧ 1 ≤ m ∧ m ≤ 20 ∧ es.length ≤ 40 ∧ EndsIn es m ∧
  (¬ SetOk es.length ss → ∀ H', Same H H' → E (.ref c.BadSet) none H') ∧ (SetOk es.length ss → ∀ H', Same H H' → Q (.bl (isR m es (mkS es.length ss) 2)) H')
theorem scEv : FnScope ["web", "some"] ["web", "some"] (defScope sEv) := ⟨rfl, rfl, rfl, by decide +kernel, rfl, by decide +kernel, by decide +kernel⟩
set_option maxHeartbeats 4000000 in
theorem ok_Ev {f : Addr} {fd : FuncData} (F : Fun K "is_even" "is_even" sEv f fd) (T : Txt K mg c) (D_Ck : DefE P w K mg base 1 "check_set" ["web", "some"] (spCk K c)) (D_Mr : Def P w K mg base 1 "marks" ["web", "some"] (spMr K c)) (D_Ir : DefE P w K mg base 3 "is_rest_flow" ["web", "rests", "k"] (spIr K c)) : FnOk P w K mg base (CXE P w) 4 f fd ["web", "some"] (spEv K c) := by
  refine F.okE scEv (fun vs H Q E h => ?_) (fun cdv A outer s H vs Q E hr h => ?_)
  · obtain ⟨x, q, m, es, ss, rfl, _⟩ := h
    rfl
  · obtain ⟨x, q, m, es, ss, rfl, hw, hq, hz, m1, m2, he, hE, k1, k2⟩ := h
    refine ⟨_, pss_cons (ps_expr (pe_defE D_Ck hr rfl rfl (pa_cons (pv 0) (pa_cons (pv 1) pa_nil))))
      (pss_one (ps_ret (pe_defE D_Ir hr rfl rfl (pa_cons (pv 0) (pa_cons (pe_defR D_Mr hr (pa_cons (pv 0) (pa_cons (pv 1) pa_nil))) (pa_cons (pe_int) pa_nil)))))), ?_⟩
    refine ⟨_, rfl, _, rfl, x, q, m, es, ss, rfl, hw, hq, hz, he, fun z H1 s1 => k1 z H1 s1, fun ok H1 s1 => ?_⟩
    refine ⟨_, rfl, _, rfl, _, rfl, x, q, m, es, ss, rfl, hw.same s1, s1.seq hq, he, fun l H2 nl s2 e2 => ?_⟩
    have s02 := s1.trans s2
    exact ⟨x, l, false, m, 2, es, mkS es.length ss, rfl, hw.same s02, SqL.of e2, by rw [mkS_len]; omega, m1, m2, he, hE, fun z => absurd ⟨by decide, by decide⟩ z, fun _ _ z => absurd (mkS_len ..) z, fun _ _ _ H3 s3 => k2 ok H3 (s02.trans s3)⟩
def spSg (K : PySem.W.Frag) (c : Cs) : Sp := fun vs H Q _ => ∃ (x q : Addr) (m : Int) (es : List (Int × Int)) (ss : List Int), vs = [.ref x, .ref q] ∧ WebAt K c.Web H x m es ∧ SqL K H q (ss.map V.int) ∧ SetOk es.length ss ∧ 1 ≤ m ∧ m ≤ 20 ∧ es.length ≤ 40 ∧ EndsIn es m ∧
  ∀ b H', Same H H' → (b = true ↔ Spn es ss) → Q (.bl b) H'
theorem scSg : FnScope ["web", "some", "part"] ["web", "some"] (defScope sSg) := ⟨rfl, rfl, rfl, by decide +kernel, rfl, by decide +kernel, by decide +kernel⟩
def dLl (lss : List (List Int)) : PyData := .list (lss.map dI)
theorem dLl_lay : ∀ es : List (List Int), PyData.canLayAll0 (es.map dI) = true ∧ PyData.depthAll (es.map dI) ≤ 1
  | [] => ⟨rfl, Nat.zero_le _⟩
  | n :: r => by
    obtain ⟨h1, h2⟩ := dLl_lay r
    obtain ⟨h3, h4⟩ := dI_lay n
    simp only [List.map_cons, dI, PyData.canLayAll0, PyData.canLay0, PyData.depthAll, PyData.depth, h1, h3, h4]
    exact ⟨rfl, Nat.max_le.mpr ⟨by simp, h2⟩⟩
theorem shaped_dLl (es : List (List Int)) : SeqAt.shaped (dLl es) = true := by
  obtain ⟨h1, h2⟩ := dLl_lay es
  unfold SeqAt.shaped dLl
  simp only [PyData.canLay0, PyData.depth, h1, Bool.true_and]
  exact decide_eq_true (by omega)
theorem eqvAll_dLl : ∀ ns ms : List (List Int), PyData.eqvAll (ns.map dI) (ms.map dI) = decide (ns = ms)
  | [], [] => rfl
  | [], _ :: _ => rfl
  | _ :: _, [] => rfl
  | a :: r, b :: t => by
    simp only [List.map_cons, PyData.eqvAll]
    rw [eqv_dI, eqvAll_dLl r t]
    simp only [List.cons.injEq, Bool.decide_and]
theorem eqv_dLl (ns ms : List (List Int)) : PyData.eqv (dLl ns) (dLl ms) = decide (ns = ms) := eqvAll_dLl ns ms
theorem pcs_dat {K : PySem.W.Frag} {H : Hp} {ad : Int → Addr} {g : Int → List Int} : ∀ {rs : List Int}, (∀ r ∈ rs, H (ad r) = some (.lst ((g r).map V.int))) → DatVs K H (rs.map fun r => V.ref (ad r)) ((rs.map g).map dI)
  | [], _ => .nil
  | r :: rs, h => .cons (dat_ints (SqL.of (h r List.mem_cons_self))) (pcs_dat fun s hs => h s (List.mem_cons_of_mem _ hs))
theorem span_b {m : Int} {es : List (Int × Int)} {ss : List Int} {f f' : Int → Int} (hE : EndsIn es m) (ok : SetOk es.length ss) (F : Lab m es f) (F' : Lab m (sub es ss) f') (ha : (frst (sub es ss)).length = ss.length) : pcs m.toNat f' = pcs m.toNat f ↔ Spn es ss := by
  have r1 := rank hE F
  have r2 := rank (ends_sub hE ok.rng) F'
  constructor
  · intro z
    have h : (rts m.toNat f').length = (rts m.toNat f).length := by
      have := congrArg List.length z
      unfold pcs at this
      rwa [List.length_map, List.length_map] at this
    exact ⟨ok, ha, by omega⟩
  · intro S
    exact pcs_congr fun p p0 p1 => lab_sub hE ok.rng F F' (by rw [S.acy, S.all]) p p0 (by omega)
set_option maxHeartbeats 8000000 in
theorem ok_Sg {f : Addr} {fd : FuncData} (F : Fun K "is_spanning_forest" "is_spanning_forest" sSg f fd) (T : Txt K mg c) (D_Ft : Def P w K mg base 3 "free_ties" ["web"] (spFt K c)) (D_Pc : Def P w K mg base 2 "pieces" ["web"] (spPc K c)) (D_N : MkDef P w K mg base 1 "Web" c.Web ["self", "many", "ties"] (spInit K c.Web)) : FnOk P w K mg base CX0 4 f fd ["web", "some"] (spSg K c) := by
  refine F.ok scSg (fun vs H Q E h => ?_) (fun cdv A outer s H vs Q E hr h => ?_)
  · obtain ⟨x, q, m, es, ss, rfl, _⟩ := h
    rfl
  · obtain ⟨x, q, m, es, ss, rfl, hw, hq, ok, m1, m2, he, hE, k⟩ := h
    have hu : A.units + 3 + 64 < cLine := hr.units
    refine ⟨_, pss_cons (ps_set (i := 2) scSg.nd rfl (Or.inl rfl) (pe_web D_N hr (pa_cons (pMany (K := K) rfl T.web (pv 0)) (pa_cons (pe_lc (N' := ["tie", "web"]) (nl := 1) (js := [0]) rfl (.of (osc := defScope sSg) (N := ["web", "some", "part"]) (by decide +kernel) rfl rfl) (piSeq (K := K) rfl (pv 1))
        (fun _ _ _ _ => pg_name (i := 0) (show (["tie", "web"] : List Str).Nodup by decide +kernel) rfl (Or.inl rfl)) (fun _ _ _ _ => pif_nil)
        (fun _ _ _ _ => pe_ix (ixT (K := K) rfl) (pTies (K := K) rfl T.web (pv 1)) (pv 0) (fun _ _ => rfl))) pa_nil))))
      (pss_one (ps_ret (pe_and (pe_notL (K := K) rfl (pe_defR D_Ft hr (pa_cons (pv 2) pa_nil))) (pe_one (pe_cmpR (opEqD (K := K) rfl hu) (pe_defR D_Pc hr (pa_cons (pv 2) pa_nil)) (pe_defR D_Pc hr (pa_cons (pv 0) pa_nil)) (nomark _)))))), ?_⟩
    have hsl := ok.len
    have hsm : (ss.map V.int).length = ss.length := List.length_map ..
    refine ⟨_, rfl, x, m, es, rfl, hw, _, rfl, q, _, rfl, .inl hq, fun J C O hC => lc_by O (fun i ys H2 => Same H H2 ∧ Pairs K H2 ys (sub es (ss.take i))) (by rw [hsm]; exact Nat.le_of_lt (small1000 (by omega))) ⟨Same.refl _, .nil⟩ ?_ ?_ ?_⟩
    · rintro i ys H2 hi ⟨s2, p2⟩
      exact ⟨hC _ s2, by rw [p2.len, sub_len, List.length_take]; omega⟩
    · rintro i ys H2 hi ⟨s2, p2⟩
      obtain ⟨v, ev, gv⟩ := getD_map_int hi
      rw [hsm] at hi
      have hv := ok.rng v (List.mem_of_getElem? gv)
      have hpl := p2.len
      rw [sub_len, List.length_take] at hpl
      try dsimp only
      rw [ev]
      refine ⟨wk_set rfl, iteT ⟨_, rfl, x, m, es, rfl, hw.same s2, fun tt zs ht hp => ?_⟩⟩
      obtain ⟨r, ar, hr2, _⟩ := tie_get hp hv.1 hv.2
      refine ⟨_, rfl, tt, zs, v, .ref r, rfl, rfl, SqT.of ht, ar, small1000 (by omega), _, by omega, rfl, by omega, s2, ?_⟩
      rw [take_snoc gv]
      unfold sub
      rw [List.map_append]
      exact p2.snoc hr2
    rintro ys H2 ⟨s2, p2⟩ lp nlp
    rw [hsm, List.take_length] at p2
    have s3 := s2.next (o := .lst ys) nlp
    have e3 : (upd H2 lp (.lst ys)) lp = some (.lst ys) := upd_same
    have p3 := p2.same (Same.new (o := .lst ys) nlp)
    generalize upd H2 lp (.lst ys) = H3 at s3 e3 p3
    have hE' : EndsIn (sub es ss) m := ends_sub hE ok.rng
    have hl' : (sub es ss).length ≤ 40 := by rw [sub_len]; omega
    refine ⟨lp, m, ys, sub es ss, rfl, .inl (SqL.of e3), p3, m1, m2, hl', hE', fun y HW ny sW hwy => ?_⟩
    have s0W := s3.trans sW
    refine ⟨_, rfl, y, m, sub es ss, rfl, hwy, m1, m2, hl', hE', fun l5 H5 n5 s5 e5 => ?_⟩
    refine ⟨_, .inl ⟨_, SqL.of e5, rfl⟩, ?_⟩
    have eb : (!!((fre (sub es ss)).map V.int).isEmpty) = true ↔ (frst (sub es ss)).length = ss.length := by
      rw [Bool.not_not, List.isEmpty_iff, List.map_eq_nil_iff, fre_nil, sub_len]
    by_cases ha : (frst (sub es ss)).length = ss.length
    · refine ⟨_, rfl, ?_⟩
      rw [if_pos (eb.mpr ha)]
      have s05 := s0W.trans s5
      refine ⟨_, rfl, y, m, sub es ss, rfl, hwy.same s5, m1, m2, hl', hE', fun l6 f6 H6 L6 P6 => ?_⟩
      obtain ⟨s6, n6, ad6, a6, b6, _⟩ := P6
      refine ⟨_, rfl, x, m, es, rfl, hw.same (s05.trans s6), m1, m2, he, hE, fun l7 f7 H7 L7 P7 => ?_⟩
      obtain ⟨s7, n7, ad7, a7, b7, _⟩ := P7
      refine ⟨dLl (pcs m.toNat f6), dLl (pcs m.toNat f7), .lst (SqL.of (s7 _ _ a6)) (pcs_dat fun r hr => s7 _ _ (b6 r hr).2.2), .lst (SqL.of a7) (pcs_dat fun r hr => (b7 r hr).2.2), shaped_dLl _, shaped_dLl _, ?_⟩
      rw [eqv_dLl]
      exact k _ _ ((s05.trans s6).trans s7) (by show decide _ = true ↔ _; rw [decide_eq_true_iff]; exact span_b hE ok L7 L6 ha)
    · refine ⟨_, rfl, ?_⟩
      rw [if_neg (fun z => ha (eb.mp z))]
      exact k _ _ (s0W.trans s5) ⟨fun z => (by cases z), fun z => absurd z.acy ha⟩
def spCg (K : PySem.W.Frag) (c : Cs) : Sp := fun vs H Q E => ∃ (x q : Addr) (m : Int) (es : List (Int × Int)) (ss : List Int), vs = [.ref x, .ref q] ∧ WebAt K c.Web H x m es ∧ SqL K H q (ss.map V.int) ∧ ss.length ≤ 900 ∧ 1 ≤ m ∧ m ≤ 20 ∧ es.length ≤ 40 ∧ EndsIn es m ∧
  (¬ Spn es ss → ∀ H', Same H H' → E (.ref c.BadSet) none H') ∧ (Spn es ss → ∀ H', Same H H' → Q .non H')
theorem scCg : FnScope ["web", "some"] ["web", "some"] (defScope sCg) := ⟨rfl, rfl, rfl, by decide +kernel, rfl, by decide +kernel, by decide +kernel⟩
set_option maxHeartbeats 4000000 in
theorem ok_Cg {f : Addr} {fd : FuncData} (F : Fun K "check_spanning_forest" "check_spanning_forest" sCg f fd) (T : Txt K mg c) (D_Ck : DefE P w K mg base 1 "check_set" ["web", "some"] (spCk K c)) (D_Sg : Def P w K mg base 4 "is_spanning_forest" ["web", "some"] (spSg K c)) : FnOk P w K mg base (CXE P w) 5 f fd ["web", "some"] (spCg K c) := by
  refine F.okE scCg (fun vs H Q E h => ?_) (fun cdv A outer s H vs Q E hr h => ?_)
  · obtain ⟨x, q, m, es, ss, rfl, _⟩ := h
    rfl
  · obtain ⟨x, q, m, es, ss, rfl, hw, hq, hz, m1, m2, he, hE, k1, k2⟩ := h
    refine ⟨_, pss_cons (ps_expr (pe_defE D_Ck hr rfl rfl (pa_cons (pv 0) (pa_cons (pv 1) pa_nil))))
      (pss_one (ps_if (pt_not (pt_val (pe_defR D_Sg hr (pa_cons (pv 0) (pa_cons (pv 1) pa_nil)))))
        (pss_one (ps_raise rfl rfl (by rfl) T.mBadSet T.xBadSet (pa_cons pe_str pa_nil))) (pss_nil))), ?_⟩
    refine ⟨_, rfl, _, rfl, x, q, m, es, ss, rfl, hw, hq, hz, he, fun z H1 s1 => k1 (fun y => z y.ok) H1 s1, fun ok H1 s1 => ?_⟩
    refine ⟨_, rfl, _, rfl, x, q, m, es, ss, rfl, hw.same s1, s1.seq hq, ok, m1, m2, he, hE, fun b H2 s2 hb => ?_⟩
    have s02 := s1.trans s2
    cases b with
    | true => exact ⟨_, rfl, iteF (k2 (hb.mp rfl) _ s02)⟩
    | false => exact ⟨_, rfl, iteT ⟨(by show 1 ≤ sizeLine; decide), k1 (fun z => by cases hb.mpr z) _ s02⟩⟩
def Cmp2 (es : List (Int × Int)) (ss cs : List Int) : Prop := SetOk es.length cs ∧ EvS es cs ∧ ∀ t : Int, 0 ≤ t → t < (es.length : Int) → ¬ t ∈ ss → t ∈ cs
def spCo (K : PySem.W.Frag) (c : Cs) : Sp := fun vs H Q E => ∃ (x q : Addr) (m : Int) (es : List (Int × Int)) (ss : List Int), vs = [.ref x, .ref q] ∧ WebAt K c.Web H x m es ∧ SqL K H q (ss.map V.int) ∧ ss.length ≤ 900 ∧ 1 ≤ m ∧ m ≤ 20 ∧ es.length ≤ 40 ∧ EndsIn es m ∧
  (¬ Spn es ss → ∀ H', Same H H' → E (.ref c.BadSet) none H') ∧ (Spn es ss → ∀ l cs H', H l = none → Same H H' → H' l = some (.lst (cs.map V.int)) → Cmp2 es ss cs → Q (.ref l) H')
theorem scCo : FnScope ["web", "some", "outside", "counts", "tie", "one"] ["web", "some"] (defScope sCo) := ⟨rfl, rfl, rfl, by decide +kernel, rfl, by decide +kernel, by decide +kernel⟩
set_option maxHeartbeats 8000000 in
theorem ok_Co {f : Addr} {fd : FuncData} (F : Fun K "completed" "completed" sCo f fd) (T : Txt K mg c) (D_Cg : DefE P w K mg base 5 "check_spanning_forest" ["web", "some"] (spCg K c)) (D_Wb : Def P w K mg base 3 "way_back" ["web", "tie", "some"] (spWb K c)) : FnOk P w K mg base (CXE P w) 6 f fd ["web", "some"] (spCo K c) := by
  refine F.okE scCo (fun vs H Q E h => ?_) (fun cdv A outer s H vs Q E hr h => ?_)
  · obtain ⟨x, q, m, es, ss, rfl, _⟩ := h
    rfl
  · obtain ⟨x, q, m, es, ss, rfl, hw, hq, hz, m1, m2, he, hE, k1, k2⟩ := h
    have hu : A.units + 3 + 64 < cLine := hr.units
    refine ⟨_, pss_cons (ps_expr (pe_defE D_Cg hr rfl rfl (pa_cons (pv 0) (pa_cons (pv 1) pa_nil))))
      (pss_cons (ps_setlc (i := 2) (N' := ["tie", "some"]) (nl := 1) (js := [1]) rfl (.of (osc := defScope sCo) (N := ["web", "some", "outside", "counts", "tie", "one"]) (by decide +kernel) rfl rfl) (pi_range1 rfl T.range (pa_cons (pe_callB (cLen (K := K) rfl) (by rfl) T.len PySem.boot_len (pa_cons (pTies (K := K) rfl T.web (pv 0)) pa_nil)) pa_nil))
        (fun _ _ _ _ => pg_name (i := 0) (show (["tie", "some"] : List Str).Nodup by decide +kernel) rfl (Or.inl rfl)) (fun _ _ _ _ => pif_one (pt_cmpR (opNotIn (K := K) rfl) (pv 0) (pv 1) (by with_unfolding_all rfl)))
        (fun _ _ _ _ => pv 0) scCo.nd rfl rfl)
      (pss_cons (ps_set (i := 3) scCo.nd rfl (Or.inl rfl) (pe_op op_rep (pe_lst (pa_cons (pe_int) pa_nil)) (pe_callB (cLen (K := K) rfl) (by rfl) T.len PySem.boot_len (pa_cons (pTies (K := K) rfl T.web (pv 0)) pa_nil))))
      (pss_cons (ps_forE bodyE rfl (piSeqB (K := K) rfl (pv 2)) (pg_name (i := 4) scCo.nd rfl (Or.inl rfl))
        (pss_one (ps_forE bodyE rfl (piSeqB (K := K) rfl (pe_op op_cat (pe_lst (pa_cons (pv 4) pa_nil)) (pe_defR D_Wb hr (pa_cons (pv 0) (pa_cons (pv 4) (pa_cons (pv 1) pa_nil)))))) (pg_name (i := 5) scCo.nd rfl (Or.inl rfl))
        (pss_one (ps_augS (pv 3) (pv 5) (get_list (K := K) rfl) (pe_int) ip_add set_list)))))
      (pss_one (ps_ret (pe_lc (N' := ["tie", "number"]) (nl := 2) (js := []) rfl (.of (osc := defScope sCo) (N := ["web", "some", "outside", "counts", "tie", "one"]) (by decide +kernel) rfl rfl) (pi_enum (K := K) rfl rfl T.enumerate (pa_cons (pv 3) pa_nil))
        (fun _ _ _ _ => pgPair (K := K) (i := 0) (j := 1) rfl rfl (show (["tie", "number"] : List Str).Nodup by decide +kernel) rfl rfl rfl rfl) (fun _ _ _ _ => pif_one (pt_cmpR op_eq (pe_op op_mod (pv 1) (pe_int)) (pe_int) (nomark _)))
        (fun _ _ _ _ => pv 0))))))), ?_⟩
    refine ⟨_, rfl, _, rfl, x, q, m, es, ss, rfl, hw, hq, hz, m1, m2, he, hE, k1, fun S H1 s1 => ?_⟩
    refine ⟨_, rfl, x, m, es, rfl, hw.same s1, fun t0 ys0 ht0 hp0 => ⟨t0, ys0, rfl, .inr (SqT.of ht0), (ys0.length : Int), rfl, ?_, ?_, ?_⟩⟩
    · have := hp0.len; omega
    · have := hp0.len; omega
    have hyl := hp0.len
    rw [show ((ys0.length : Int)).toNat = es.length from hyl]
    have flen : ∀ j, (((upto es.length).take j).filter fun t => !ss.any (· == t)).length ≤ j := fun j => Nat.le_trans (List.length_filter_le _ _) (by rw [List.length_take]; omega)
    refine lc_by itok_range (fun j zs H3 => H3 = H1 ∧ zs = (((upto es.length).take j).filter fun t => !ss.any (· == t)).map V.int) (Nat.le_of_lt (small1000 (by omega))) ⟨rfl, rfl⟩ ?_ ?_ ?_
    · rintro j zs H3 hj ⟨rfl, rfl⟩
      exact ⟨trivial, by rw [List.length_map]; exact flen j⟩
    · rintro j zs H3 hj ⟨rfl, rfl⟩
      have hj' : j < es.length := hj
      have fl := flen j
      try dsimp only
      rw [Int.zero_add]
      refine ⟨wk_set rfl, _, rfl, _, rfl, q, _, rfl, .inl (s1.seq hq), rfl, flat_ints _, _, rfl, ?_⟩
      rw [if_pos rfl, inV_ints]
      refine ite2 (fun c1 => ?_) (fun c1 => ?_)
      · refine ⟨_, rfl, small1000 (by rw [List.length_map]; omega), _, by omega, rfl, by omega, rfl, ?_⟩
        rw [take_snoc (upto_get hj'), List.filter_append, List.map_append, List.filter_cons_of_pos (p := fun t => !ss.any (· == t)) c1]; rfl
      · refine ⟨_, by omega, rfl, by omega, rfl, ?_⟩
        rw [take_snoc (upto_get hj'), List.filter_append, List.map_append, List.filter_cons_of_neg (p := fun t => !ss.any (· == t)) c1]; exact (List.append_nil _).symm
    rintro zs H3 ⟨rfl, rfl⟩ lo nlo
    rw [List.take_of_length_le (by rw [upto_len]; exact Nat.le_refl _)]
    obtain ⟨fr, efr⟩ : ∃ fr, fr = (upto es.length).filter fun t => !ss.any (· == t) := ⟨_, rfl⟩
    have hfr : ∀ t : Int, t ∈ fr ↔ (0 ≤ t ∧ t < (es.length : Int)) ∧ ¬ t ∈ ss := fun t => by
      rw [efr, List.mem_filter, mem_upto]
      simp only [Bool.not_eq_true', List.any_eq_false, beq_iff_eq]
      exact ⟨fun h => ⟨h.1, fun z => h.2 t z rfl⟩, fun h => ⟨h.1, fun z hz e => h.2 (e ▸ hz)⟩⟩
    have fnd : fr.Nodup := by
      rw [efr]
      exact asc_nd (List.Pairwise.filter _ (by unfold upto; rw [List.pairwise_map]; exact List.pairwise_lt_range.imp fun h => by omega))
    have hfl : fr.length ≤ es.length := by rw [efr]; exact Nat.le_trans (List.length_filter_le _ _) (by rw [upto_len]; exact Nat.le_refl _)
    rw [← efr]
    clear efr flen
    have s4 := s1.next (o := .lst (fr.map V.int)) nlo
    have e4 : (upd H3 lo (.lst (fr.map V.int))) lo = some (.lst (fr.map V.int)) := upd_same
    generalize upd H3 lo (.lst (fr.map V.int)) = H4 at s4 e4
    refine ⟨(by show 1 ≤ sizeLine; decide), fun q1 nq1 => ?_⟩
    have s5 := s4.next (o := .lst [V.int 0]) nq1
    have e5 : (upd H4 q1 (.lst [V.int 0])) q1 = some (.lst [V.int 0]) := upd_same
    have o5 := Same.new (o := .lst [V.int 0]) nq1 _ _ e4
    generalize upd H4 q1 (.lst [V.int 0]) = H5 at s5 e5 o5
    refine ⟨_, rfl, x, m, es, rfl, hw.same s5, fun t5 ys5 ht5 hp5 => ?_⟩
    have hyl5 := hp5.len
    refine ⟨t5, ys5, rfl, .inr (SqT.of ht5), q1, (ys5.length : Int), _, rfl, rfl, e5, by omega, by omega, Nat.le_of_lt (small1000 (by show 1 * ((ys5.length : Int)).toNat ≤ 1000; omega)), fun tl nt => ?_⟩
    rw [rep_ints, show ((ys5.length : Int)).toNat = es.length by omega]
    have s6 := s5.next (o := .lst ((List.replicate es.length (0 : Int)).map V.int)) nt
    have e6 : (upd H5 tl (.lst ((List.replicate es.length (0 : Int)).map V.int))) tl = some (.lst ((List.replicate es.length (0 : Int)).map V.int)) := upd_same
    have o6 := Same.new (o := .lst ((List.replicate es.length (0 : Int)).map V.int)) nt _ _ o5
    have ntl : lo ≠ tl := ne_of_none o5 nt
    have ntH : H tl = none := none_back s5 nt
    generalize upd H5 tl (.lst ((List.replicate es.length (0 : Int)).map V.int)) = H6 at s6 e6 o6
    have hfm : (fr.map V.int).length = fr.length := List.length_map ..
    have rep0 : ∀ k : Nat, (List.replicate es.length (0 : Int)).getD k 0 = 0 := fun k => by
      rw [List.getD_eq_getElem?_getD, List.getElem?_replicate]; split <;> rfl
    refine ⟨_, rfl, false, lo, _, rfl, SqL.of o6, fun J C O hC => for_by O (fun i σ H7 => ∃ (cs : List Int) (v4 v5 : Option V), σ = [some (.ref x), some (.ref q), some (.ref lo), some (.ref tl), v4, v5] ∧ Same H H7 ∧ H7 lo = some (.lst (fr.map V.int)) ∧ H7 tl = some (.lst (cs.map V.int)) ∧ cs.length = es.length ∧ (∀ p : Int, (2 : Int) ∣ dp p es cs es.length) ∧ ∀ k : Nat, k < es.length → ¬ (k : Int) ∈ ss → cs.getD k 0 = if (k : Int) ∈ fr.take i then 1 else 0) ⟨_, none, none, rfl, s6, o6, e6, List.length_replicate .., fun p => ⟨0, by rw [dp_nil]; rfl⟩, fun k _ _ => by rw [rep0, List.take_zero, if_neg (fun z => nomatch z)]⟩ (fun i σ H7 _ h => ?_) ?_ ?_⟩
    · obtain ⟨_, _, _, _, s7, o7, _⟩ := h
      exact hC _ (SqL.of o7)
    · rintro i σ H7 hi ⟨cs, v4, v5, rfl, s7, o7, e7, hcl, hcd, hcv⟩
      obtain ⟨v, ev, gv⟩ := getD_map_int hi
      rw [hfm] at hi
      have hv := (hfr v).mp (List.mem_of_getElem? gv)
      have hfl2 : ∀ t ∈ fr.take i, t ≠ v := fun t ht e => by
        obtain ⟨j, hj, ej⟩ := List.mem_take_iff_getElem.mp ht
        have h1 : fr[i] = v := by
          rw [List.getElem?_eq_getElem hi] at gv
          exact Option.some.inj gv
        have h2 : fr[j] = fr[i] := by rw [ej, e, h1]
        exact List.pairwise_iff_getElem.mp (List.nodup_iff_pairwise_ne.mp fnd) j i (by omega) hi (by omega) h2
      try dsimp only
      rw [ev]
      refine ⟨_, rfl, (by show 1 ≤ sizeLine; decide), fun q2 nq2 => ?_⟩
      have s8 := s7.next (o := .lst [V.int v]) nq2
      have t8 := Same.new (o := .lst [V.int v]) nq2
      have e8 : (upd H7 q2 (.lst [V.int v])) q2 = some (.lst [V.int v]) := upd_same
      generalize upd H7 q2 (.lst [V.int v]) = H8 at s8 t8 e8
      have hb := hE _ (sub_mem (es := es) (ss := [v]) (fun t ht => by rw [List.mem_singleton.mp ht]; exact hv.1) _ (List.mem_singleton.mpr rfl))
      refine ⟨_, rfl, _, rfl, _, rfl, x, q, v, m, es, ss, rfl, hw.same s8, hv.1.1, hv.1.2, s8.seq hq, S.ok.rng, hz, m2, hE, fun z => absurd ?_ z, fun lw ts ps H9 s9 nlw e9 W => ?_⟩
      · exact S.cn hE (Cn.eit (sub_mem (es := es) (ss := [v]) (fun t ht => by rw [List.mem_singleton.mp ht]; exact hv.1) _ (List.mem_singleton.mpr rfl))) hb.2.2.1 hb.2.2.2 hb.1 hb.2.1
      have htl := W.len
      have htn := nodup_len W.tnd (fun t ht => (W.sub t ht).2)
      refine ⟨q2, lw, _, _, rfl, rfl, s9 _ _ e8, e9, Nat.le_of_lt (small1000 (by show 1 + (ts.map V.int).length ≤ 1000; rw [List.length_map]; omega)), fun lz nlz => ?_⟩
      rw [show [V.int v] ++ ts.map V.int = (v :: ts).map V.int from rfl]
      have tA := (t8.trans s9).next (o := .lst ((v :: ts).map V.int)) nlz
      have sA := (s8.trans s9).next (o := .lst ((v :: ts).map V.int)) nlz
      have eA : (upd H9 lz (.lst ((v :: ts).map V.int))) lz = some (.lst ((v :: ts).map V.int)) := upd_same
      have nzt : lz ≠ tl := (ne_of_none ((t8.trans s9) _ _ e7) nlz).symm
      generalize upd H9 lz (.lst ((v :: ts).map V.int)) = HA at tA sA eA
      have hzr : ∀ t ∈ v :: ts, 0 ≤ t ∧ t < (es.length : Int) := fun t ht => by
        rcases List.mem_cons.mp ht with y | y
        · rw [y]; exact hv.1
        · exact (W.sub t y).2
      have hzm : ((v :: ts).map V.int).length = (v :: ts).length := List.length_map ..
      refine ⟨false, lz, _, rfl, SqL.of eA, fun J2 C2 O2 hC2 => for_by O2 (fun j σ HB => ∃ (ds : List Int) (v5 : Option V), σ = [some (.ref x), some (.ref q), some (.ref lo), some (.ref tl), some (.int v), v5] ∧ Same H HB ∧ HB lo = some (.lst (fr.map V.int)) ∧ HB lz = some (.lst ((v :: ts).map V.int)) ∧ HB tl = some (.lst (ds.map V.int)) ∧ ds.length = es.length ∧ (∀ p : Int, dp p es ds es.length = dp p es cs es.length + (((v :: ts).take j).map (tg p es)).sum) ∧ ∀ k : Nat, k < es.length → ¬ (k : Int) ∈ ss → ds.getD k 0 = cs.getD k 0 + if (k : Int) = v ∧ 0 < j then 1 else 0) ⟨cs, _, rfl, sA, tA _ _ o7, eA, tA _ _ e7, hcl, fun p => by rw [List.take_zero]; show _ = _ + (0 : Int); omega, fun k _ _ => by rw [if_neg (fun z => absurd z.2 (Nat.lt_irrefl _))]; omega⟩ (fun j σ HB _ h => ?_) ?_ ?_⟩
      · obtain ⟨_, _, _, _, _, zB, _⟩ := h
        exact hC2 _ (SqL.of zB)
      · rintro j σ HB hj ⟨ds, v5', rfl, sB, oB, zB, eB, hdl, hdd, hdv⟩
        obtain ⟨u, eu, gu⟩ := getD_map_int hj
        rw [hzm] at hj
        have hu2 := hzr u (List.mem_of_getElem? gu)
        try dsimp only
        rw [eu]
        refine ⟨_, rfl, _, rfl, tl, _, u, _, rfl, rfl, hu2.1, SqL.of eB, get_ints (by omega), _, _, rfl, rfl, tl, _, u, _, rfl, rfl, eB, ixN_nat hu2.1 (by rw [List.length_map]; omega), ?_⟩
        rw [set_ints]
        refine ⟨bmp ds u, some (.int u), rfl, sB.upd ntH, by rw [upd_ne ntl]; exact oB, by rw [upd_ne nzt]; exact zB, upd_same, by rw [bmp_len]; exact hdl, fun p => ?_, fun k hk hks => ?_⟩
        · rw [dp_bmp hdl (by omega), hdd p, take_snoc gu, List.map_append, List.sum_append]
          simp only [List.map_cons, List.map_nil, List.sum_cons, List.sum_nil]
          omega
        · rw [bmp_at (by omega), hdv k hk hks]
          cases j with
          | zero =>
            have e0 : v = u := Option.some.inj gu
            rw [if_neg (fun z => absurd z.2 (Nat.lt_irrefl _)), ← e0]
            by_cases c : (k : Int) = v
            · rw [if_pos (by omega), if_pos ⟨c, Nat.succ_pos _⟩]; omega
            · rw [if_neg (by omega), if_neg (fun z => c z.1)]; omega
          | succ j =>
            have hts : u ∈ ts := List.mem_of_getElem? (show ts[j]? = some u from gu)
            have hus := (W.sub u hts).1
            have : (k : Int) ≠ u := fun z => hks (z ▸ hus)
            rw [if_neg (show ¬ k = u.toNat by omega)]
            by_cases c : (k : Int) = v
            · rw [if_pos ⟨c, Nat.succ_pos _⟩, if_pos ⟨c, Nat.succ_pos _⟩]; omega
            · rw [if_neg (fun z => c z.1), if_neg (fun z => c z.1)]; omega
      · rintro σ HB ⟨ds, v5', rfl, sB, oB, zB, eB, hdl, hdd, hdv⟩
        rw [hzm] at hdd hdv
        refine ⟨ds, some (.int v), v5', rfl, sB, oB, eB, hdl, fun p => ?_, fun k hk hks => ?_⟩
        · obtain ⟨a, ha⟩ := hcd p
          obtain ⟨b, hb⟩ := W.ring p
          rw [hdd p, List.take_length]
          exact ⟨a + b, by omega⟩
        · rw [hdv k hk hks, hcv k hk hks, take_snoc gv]
          by_cases c : (k : Int) = v
          · rw [if_neg (show ¬ (k : Int) ∈ fr.take i from fun z => hfl2 _ z c), if_pos (show (k : Int) = v ∧ 0 < (v :: ts).length from ⟨c, Nat.succ_pos _⟩), if_pos (show (k : Int) ∈ fr.take i ++ [v] from List.mem_append_right _ (List.mem_singleton.mpr c))]; rfl
          · rw [if_neg (show ¬ ((k : Int) = v ∧ 0 < (v :: ts).length) from fun z => c z.1)]
            by_cases c2 : (k : Int) ∈ fr.take i
            · rw [if_pos c2, if_pos (show (k : Int) ∈ fr.take i ++ [v] from List.mem_append_left _ c2)]; rfl
            · rw [if_neg c2, if_neg (show ¬ (k : Int) ∈ fr.take i ++ [v] from fun z => (List.mem_append.mp z).elim c2 fun y => c (List.mem_singleton.mp y))]; rfl
    · rintro σ H7 ⟨cs, v4, v5, rfl, s7, o7, e7, hcl, hcd, hcv⟩
      rw [hfm, List.take_length] at hcv
      have hcm : (cs.map V.int).length = cs.length := List.length_map ..
      have flen : ∀ j, (((upto cs.length).take j).filter fun t => decide (cs.getD t.toNat 0 % 2 = 1)).length ≤ j := fun j => Nat.le_trans (List.length_filter_le _ _) (by rw [List.length_take]; omega)
      refine ⟨_, rfl, false, tl, _, rfl, SqL.of e7, fun J C O hC => lc_byP O (fun j zs H8 => Same H7 H8 ∧ zs = (((upto cs.length).take j).filter fun t => decide (cs.getD t.toNat 0 % 2 = 1)).map V.int) (by rw [hcm]; exact Nat.le_of_lt (small1000 (by omega))) ⟨Same.refl _, rfl⟩ ?_ ?_ ?_⟩
      · rintro j zs H8 hj ⟨s8, rfl⟩
        exact ⟨hC _ (SqL.of (s8 _ _ e7)), by rw [List.length_map]; exact flen j⟩
      · rintro j zs H8 pt hj ⟨s8, rfl⟩ npt
        obtain ⟨u, eu, gu⟩ := getD_map_int hj
        rw [hcm] at hj
        have fl := flen j
        have eu2 : cs.getD j 0 = u := by rw [List.getD_eq_getElem?_getD, gu]; rfl
        have s9 := s8.next (o := .tup [V.int (j : Nat), (cs.map V.int).getD j .non]) npt
        try dsimp only
        rw [eu] at *
        refine ⟨pt, _, rfl, SqT.of upd_same, rfl, _, _, rfl, _, _, rfl, rfl, wk_set2 rfl rfl, ?_⟩
        refine ⟨_, rfl, _, _, rfl, rfl, (by show (0 : Int) < 2; decide), rfl, _, rfl, ?_⟩
        by_cases c1 : u % 2 = 1
        · rw [decide_eq_true (show V.int (u % 2) = V.int 1 by rw [c1])]
          refine iteT ⟨_, rfl, small1000 (by rw [List.length_map]; omega), _, by omega, rfl, by omega, s9, ?_⟩
          rw [take_snoc (upto_get hj), List.filter_append, List.map_append, List.filter_cons_of_pos (p := fun t : Int => decide (cs.getD t.toNat 0 % 2 = 1)) (decide_eq_true (by rw [Int.toNat_natCast, eu2]; exact c1))]; rfl
        · rw [decide_eq_false (show ¬ V.int (u % 2) = V.int 1 by intro z; injection z with z; exact c1 z)]
          refine iteF ⟨_, by omega, rfl, by omega, s9, ?_⟩
          rw [take_snoc (upto_get hj), List.filter_append, List.map_append, List.filter_cons_of_neg (p := fun t : Int => decide (cs.getD t.toNat 0 % 2 = 1)) (by rw [decide_eq_true_iff, Int.toNat_natCast, eu2]; exact c1)]; exact (List.append_nil _).symm
      · rintro zs H8 ⟨s8, rfl⟩ l8 n8
        rw [hcm, List.take_of_length_le (by rw [upto_len]; exact Nat.le_refl _)]
        have s08 := s7.trans s8
        refine k2 S l8 (odd cs) _ (none_back s08 n8) (s08.next n8) upd_same ⟨by have := odd_ok cs; rwa [hcl] at this, odd_even hcl hcd, fun t h0 h1 hn => ?_⟩
        have := hcv t.toNat (by omega) (by rw [show ((t.toNat : Nat) : Int) = t by omega]; exact hn)
        rw [show ((t.toNat : Nat) : Int) = t by omega, if_pos ((hfr t).mpr ⟨⟨h0, h1⟩, hn⟩)] at this
        exact mem_odd.mpr ⟨h0, by omega, by rw [this]; rfl⟩
def spC (K : PySem.W.Frag) : Sp := fun vs H Q _ => ∃ (a : Addr) (ns : List Int) (k : Int), vs = [.ref a, .int k] ∧ SqL K H a (ns.map V.int) ∧ 0 ≤ k ∧ Q (.int (ns.getD k.toNat 0)) H
theorem scC : FnScope ["script", "k"] ["script", "k"] (defScope sC) := ⟨rfl, rfl, rfl, by decide +kernel, rfl, by decide +kernel, by decide +kernel⟩
theorem ok_C {f : Addr} {fd : FuncData} (F : Fun K "_law_cell" "_law_cell" sC f fd) (T : Txt K mg c) : FnOk P w K mg base CX0 1 f fd ["script", "k"] (spC K) := by
  refine F.ok scC (fun vs H Q E h => ?_) (fun cdv A outer s H vs Q E hr h => ?_)
  · obtain ⟨a, ns, k, rfl, _⟩ := h
    rfl
  · obtain ⟨a, ns, k, rfl, hS, h0, q⟩ := h
    refine ⟨_, pss_cons (ps_if (pt_cmpR op_lt (pv 1) (pe_callB (cLen (K := K) rfl) (by rfl) T.len PySem.boot_len (pa_cons (pv 0) pa_nil)) (nomark _))
        (pss_one (ps_ret (pe_ix (ixL (K := K) rfl) (pv 0) (pv 1) (fun _ _ => rfl)))) (pss_nil))
      (pss_one (ps_ret (pe_int))), ?_⟩
    refine ⟨_, rfl, _, rfl, a, _, rfl, .inl hS, _, _, rfl, rfl, _, rfl, ?_⟩
    refine ite2 (fun c => ?_) (fun c => ?_)
    · have c' := of_decide_eq_true c
      rw [List.length_map] at c'
      exact ⟨_, rfl, _, rfl, a, _, k, _, rfl, rfl, hS, at_int h0 c', q⟩
    · have c' : ¬ k < ((ns.map V.int).length : Int) := fun z => c (decide_eq_true z)
      rw [List.length_map] at c'
      have e : ns.getD k.toNat 0 = 0 := by rw [List.getD_eq_getElem?_getD, List.getElem?_eq_none (by omega)]; rfl
      rw [e] at q
      exact q
def spH (_ : PySem.W.Frag) : Sp := fun vs H Q _ => ∃ i, vs = [.int i] ∧ Q (.bl true) H
theorem scH : FnScope ["found"] ["found"] (defScope sH) := ⟨rfl, rfl, rfl, by decide +kernel, rfl, by decide +kernel, by decide +kernel⟩
theorem ok_H {f : Addr} {fd : FuncData} (F : Fun K "_law_whole" "_law_whole" sH f fd) (T : Txt K mg c) : FnOk P w K mg base CX0 1 f fd ["found"] (spH K) := by
  refine F.ok scH (fun vs H Q E h => ?_) (fun cdv A outer s H vs Q E hr h => ?_)
  · obtain ⟨i, rfl, _⟩ := h
    rfl
  · obtain ⟨i, rfl, k⟩ := h
    refine ⟨_, pss_one (ps_ret (pe_and (pe_callB (cIs (K := K) rfl) (by rfl) T.isinstance PyProof.Rows.boot_isinstance (pa_cons (pv 0) (pa_cons (pe_bltn (v := .ty "int") (by rfl) T.int PyProof.Rows.boot_int rfl) pa_nil))) (pe_one (pe_not (pe_callB (cIs (K := K) rfl) (by rfl) T.isinstance PyProof.Rows.boot_isinstance (pa_cons (pv 0) (pa_cons (pe_bltn (v := .ty "bool") (by rfl) T.bool PyProof.Rows.boot_bool rfl) pa_nil))))))), ?_⟩
    refine ⟨_, rfl, _, _, _, _, true, rfl, rfl, fun _ z => z, .of (.int i), kit_self _ _, true, rfl, iteT ?_⟩
    exact ⟨_, rfl, _, _, _, _, false, rfl, rfl, fun _ z => z, .of (.int i), kIntBool, false, rfl, k⟩
def spX (K : PySem.W.Frag) (c : Cs) : Sp := fun vs H Q _ => ∃ (a A : Addr), vs = [.ref a] ∧ H a = some (.ext (ExcO a (.ref A))) ∧ Alone K c A ∧ ∀ H', Same H H' → Q (.bl true) H'
theorem scX : FnScope ["e", "kinds"] ["e"] (defScope sX) := ⟨rfl, rfl, rfl, by decide +kernel, rfl, by decide +kernel, by decide +kernel⟩
theorem ok_X {f : Addr} {fd : FuncData} (F : Fun K "_law_alone" "_law_alone" sX f fd) (T : Txt K mg c) : FnOkC P w K mg base 1 f fd ["e"] (spX K c) := by
  refine F.okC scX (fun vs H Q E h => ?_) (fun cdv A outer s H vs Q E hr h => ?_)
  · obtain ⟨a, A, rfl, _⟩ := h
    rfl
  · obtain ⟨a, B, rfl, ha, al, k⟩ := h
    obtain ⟨b1, b2, b3, b4, b5, b6, b7, b8, b9, b10, b11, h1, h2, h3, h4, h5, h6, h7, h8, h9, h10, h11, cnt⟩ := al.ks
    refine ⟨_, pss_cons (ps_set (i := 1) scX.nd rfl (Or.inl rfl) (pe_lst (pa_cons (pe_callB (cIsE (K := K) rfl) (by rfl) T.isinstance PyProof.Rows.boot_isinstance (pa_cons (pv 0) (pa_cons (pe_glob (v := .ref c.BadWeb) (by rfl) T.mBadWeb rfl) pa_nil))) (pa_cons (pe_callB (cIsE (K := K) rfl) (by rfl) T.isinstance PyProof.Rows.boot_isinstance (pa_cons (pv 0) (pa_cons (pe_glob (v := .ref c.TooMany) (by rfl) T.mTooMany rfl) pa_nil))) (pa_cons (pe_callB (cIsE (K := K) rfl) (by rfl) T.isinstance PyProof.Rows.boot_isinstance (pa_cons (pv 0) (pa_cons (pe_glob (v := .ref c.BadPlace) (by rfl) T.mBadPlace rfl) pa_nil))) (pa_cons (pe_callB (cIsE (K := K) rfl) (by rfl) T.isinstance PyProof.Rows.boot_isinstance (pa_cons (pv 0) (pa_cons (pe_glob (v := .ref c.BadTie) (by rfl) T.mBadTie rfl) pa_nil))) pa_nil))))))
      (pss_cons (ps_set (i := 1) scX.nd rfl (Or.inl rfl) (pe_op op_cat (pv 1) (pe_lst (pa_cons (pe_callB (cIsE (K := K) rfl) (by rfl) T.isinstance PyProof.Rows.boot_isinstance (pa_cons (pv 0) (pa_cons (pe_glob (v := .ref c.BadFlow) (by rfl) T.mBadFlow rfl) pa_nil))) (pa_cons (pe_callB (cIsE (K := K) rfl) (by rfl) T.isinstance PyProof.Rows.boot_isinstance (pa_cons (pv 0) (pa_cons (pe_glob (v := .ref c.BadRest) (by rfl) T.mBadRest rfl) pa_nil))) (pa_cons (pe_callB (cIsE (K := K) rfl) (by rfl) T.isinstance PyProof.Rows.boot_isinstance (pa_cons (pv 0) (pa_cons (pe_glob (v := .ref c.NoFlow) (by rfl) T.mNoFlow rfl) pa_nil))) (pa_cons (pe_callB (cIsE (K := K) rfl) (by rfl) T.isinstance PyProof.Rows.boot_isinstance (pa_cons (pv 0) (pa_cons (pe_glob (v := .ref c.BadSet) (by rfl) T.mBadSet rfl) pa_nil))) pa_nil)))))))
      (pss_cons (ps_set (i := 1) scX.nd rfl (Or.inl rfl) (pe_op op_cat (pv 1) (pe_lst (pa_cons (pe_callB (cIsE (K := K) rfl) (by rfl) T.isinstance PyProof.Rows.boot_isinstance (pa_cons (pv 0) (pa_cons (pe_glob (v := .ref c.BadPaper) (by rfl) T.mBadPaper rfl) pa_nil))) (pa_cons (pe_callB (cIsE (K := K) rfl) (by rfl) T.isinstance PyProof.Rows.boot_isinstance (pa_cons (pv 0) (pa_cons (pe_glob (v := .ref c.BadText) (by rfl) T.mBadText rfl) pa_nil))) (pa_cons (pe_callB (cIsE (K := K) rfl) (by rfl) T.isinstance PyProof.Rows.boot_isinstance (pa_cons (pv 0) (pa_cons (pe_glob (v := .ref c.BadDeed) (by rfl) T.mBadDeed rfl) pa_nil))) pa_nil))))))
      (pss_one (ps_ret (pe_and (pe_cmpR op_eq (pe_bm PySem.F.plainAttrs_list PySem.F.slot_list_count PySem.F.type_list_count (mCount (K := K) rfl) (pv 1) (pa_cons (pe_bl) pa_nil)) (pe_int) (nomark _)) (pe_and (pe_callB (cIsE (K := K) rfl) (by rfl) T.isinstance PyProof.Rows.boot_isinstance (pa_cons (pv 0) (pa_cons (pe_glob (v := .ref c.FlowError) (by rfl) T.mFlowError rfl) pa_nil))) (pe_one (pe_callB (cIsE (K := K) rfl) (by rfl) T.isinstance PyProof.Rows.boot_isinstance (pa_cons (pv 0) (pa_cons (pe_bltn (v := .ty "ValueError") (by rfl) T.ValueError (show bootBuiltins "ValueError" = some (.type "ValueError") by decide +kernel) rfl) pa_nil)))))))))), ?_⟩
    refine ⟨_, rfl, a, B, _, _, b1, rfl, rfl, fun _ z => z, ha, al.ex, h1, _, rfl, a, B, _, _, b2, rfl, rfl, fun _ z => z, ha, al.ex, h2, _, rfl, a, B, _, _, b3, rfl, rfl, fun _ z => z, ha, al.ex, h3,
      _, rfl, a, B, _, _, b4, rfl, rfl, fun _ z => z, ha, al.ex, h4, (by show 4 ≤ sizeLine; decide), fun l1 n1 => ?_⟩
    have s1 : Same H (upd H l1 (.lst [.bl b1, .bl b2, .bl b3, .bl b4])) := Same.new n1
    have e1 : (upd H l1 (.lst [.bl b1, .bl b2, .bl b3, .bl b4])) l1 = some (.lst [.bl b1, .bl b2, .bl b3, .bl b4]) := upd_same
    generalize upd H l1 (.lst [.bl b1, .bl b2, .bl b3, .bl b4]) = H1 at s1 e1
    have ha1 := s1 _ _ ha
    refine ⟨_, rfl, _, rfl, a, B, _, _, b5, rfl, rfl, fun _ z => z, ha1, al.ex, h5, _, rfl, a, B, _, _, b6, rfl, rfl, fun _ z => z, ha1, al.ex, h6, _, rfl, a, B, _, _, b7, rfl, rfl, fun _ z => z, ha1, al.ex, h7,
      _, rfl, a, B, _, _, b8, rfl, rfl, fun _ z => z, ha1, al.ex, h8, (by show 4 ≤ sizeLine; decide), fun l2 n2 => ?_⟩
    have s2 : Same H1 (upd H1 l2 (.lst [.bl b5, .bl b6, .bl b7, .bl b8])) := Same.new n2
    refine ⟨l1, l2, _, _, rfl, rfl, s2 _ _ e1, upd_same, (by show 8 ≤ sizeLine; decide), fun l3 n3 => ?_⟩
    have s3 : Same H (upd (upd H1 l2 (.lst [.bl b5, .bl b6, .bl b7, .bl b8])) l3 (.lst ([.bl b1, .bl b2, .bl b3, .bl b4] ++ [.bl b5, .bl b6, .bl b7, .bl b8]))) := (s1.trans s2).next n3
    have e3 : (upd (upd H1 l2 (.lst [.bl b5, .bl b6, .bl b7, .bl b8])) l3 (.lst ([.bl b1, .bl b2, .bl b3, .bl b4] ++ [.bl b5, .bl b6, .bl b7, .bl b8]))) l3 = some (.lst ([.bl b1, .bl b2, .bl b3, .bl b4] ++ [.bl b5, .bl b6, .bl b7, .bl b8])) := upd_same
    generalize upd (upd H1 l2 (.lst [.bl b5, .bl b6, .bl b7, .bl b8])) l3 (.lst ([.bl b1, .bl b2, .bl b3, .bl b4] ++ [.bl b5, .bl b6, .bl b7, .bl b8])) = H3 at s3 e3
    have ha3 := s3 _ _ ha
    refine ⟨_, rfl, _, rfl, a, B, _, _, b9, rfl, rfl, fun _ z => z, ha3, al.ex, h9, _, rfl, a, B, _, _, b10, rfl, rfl, fun _ z => z, ha3, al.ex, h10, _, rfl, a, B, _, _, b11, rfl, rfl, fun _ z => z, ha3, al.ex, h11,
      (by show 3 ≤ sizeLine; decide), fun l4 n4 => ?_⟩
    have s4 : Same H3 (upd H3 l4 (.lst [.bl b9, .bl b10, .bl b11])) := Same.new n4
    refine ⟨l3, l4, _, _, rfl, rfl, s4 _ _ e3, upd_same, (by show 11 ≤ sizeLine; decide), fun l5 n5 => ?_⟩
    have s5 := (s3.trans s4).next (o := .lst (([.bl b1, .bl b2, .bl b3, .bl b4] ++ [.bl b5, .bl b6, .bl b7, .bl b8]) ++ [.bl b9, .bl b10, .bl b11])) n5
    have ha5 := s5 _ _ ha
    refine ⟨_, rfl, .inl ⟨rfl, _, SqL.of upd_same⟩, l5, _, _, rfl, rfl, SqL.of upd_same, rfl, rfl, rfl, _, rfl, ?_⟩
    rw [show (([V.bl b1, V.bl b2, V.bl b3, V.bl b4] ++ [V.bl b5, V.bl b6, V.bl b7, V.bl b8]) ++ [V.bl b9, V.bl b10, V.bl b11]).countP (fun z => eqV z (V.bl true)) = 1 from cnt]
    refine iteT ⟨_, rfl, a, B, _, _, true, rfl, rfl, fun _ z => z, ha5, al.ex, al.fe, _, rfl, iteT ⟨_, rfl, a, B, _, _, true, rfl, rfl, fun _ z => z, ha5, al.ex, al.ve, k _ s5⟩⟩
def spE (K : PySem.W.Frag) : Sp := fun vs H Q _ => ∃ (a : Addr) (ns : List Int) (m c y : Int), vs = [.ref a, .int m, .int c, .int y] ∧ SqL K H a (ns.map V.int) ∧ 1 ≤ m ∧ m ≤ 1000 ∧ 0 ≤ c ∧ c ≤ 1000 ∧
  ∀ (l : Addr) (xs : List V) (es : List (Int × Int)) (H' : Hp), H l = none → Same H H' → H' l = some (.lst xs) → Pairs K H' xs es → es.length = c.toNat → EndsIn es m → (∀ v ∈ xs, Thin H' v) → Q (.ref l) H'
theorem scE : FnScope ["script", "many", "count", "way", "rest", "found", "k", "cell", "mixed"] ["script", "many", "count", "way"] (defScope sE) := ⟨rfl, rfl, rfl, by decide +kernel, rfl, by decide +kernel, by decide +kernel⟩
theorem thin_upd {H : Hp} {l : Addr} {zs : List V} {o : HO} {v : V} (h : Thin H v) (hl : H l = some (.lst zs)) : Thin (upd H l o) v := by
  obtain ⟨r, ob, xs, e, h1, h2⟩ := h
  exact ⟨r, ob, xs, e, by rw [upd_ne (ne_of h1 hl (by intro z; cases z))]; exact h1, h2⟩
set_option maxHeartbeats 4000000 in
theorem ok_E {f : Addr} {fd : FuncData} (F : Fun K "_law_ends" "_law_ends" sE f fd) (T : Txt K mg c) (D_C : Def P w K mg base 1 "_law_cell" ["script", "k"] (spC K)) : FnOk P w K mg base CX0 2 f fd ["script", "many", "count", "way"] (spE K) := by
  refine F.ok scE (fun vs H Q E h => ?_) (fun cdv A outer s H vs Q E hr h => ?_)
  · obtain ⟨a, ns, m, c, y, rfl, _⟩ := h
    rfl
  · obtain ⟨a, ns, m, c, y, rfl, hS, m1, m2, c1, c2, k⟩ := h
    refine ⟨_, pss_cons (ps_cut (ps_set (i := 4) scE.nd rfl (Or.inl rfl) (pe_callB call_abs (by rfl) T.abs PyProof.Rows.boot_abs (pa_cons (pe_defR D_C hr (pa_cons (pv 0) (pa_cons (pe_int) pa_nil))) pa_nil))))
      (pss_cons (ps_set (i := 5) scE.nd rfl (Or.inl rfl) (pe_lst pa_nil))
      (pss_cons (ps_for PassesOwn.never rfl (pi_range1 rfl T.range (pa_cons (pv 2) pa_nil)) (pg_name (i := 6) scE.nd rfl (Or.inl rfl))
        (pss_cons (ps_set (i := 7) scE.nd rfl (Or.inl rfl) (pe_defR D_C hr (pa_cons (pv 0) (pa_cons (pe_op op_add (pe_int) (pv 6)) pa_nil))))
      (pss_cons (ps_cut (ps_if (pt_cmpR op_eq (pv 3) (pe_int) (nomark _))
        (pss_cons (ps_set (i := 7) scE.nd rfl (Or.inl rfl) (pv 4))
      (pss_one (ps_set (i := 4) scE.nd rfl (Or.inl rfl) (pe_op op_fdiv (pv 4) (pe_op op_mul (pv 1) (pv 1)))))) (pss_nil)))
      (pss_cons (ps_cut (ps_if (pt_cmpR op_eq (pv 3) (pe_int) (nomark _))
        (pss_cons (ps_cut (ps_set (i := 8) scE.nd rfl (Or.inl rfl) (pe_op op_mod (pe_op op_mul (pe_op op_add (pe_op op_add (pe_op op_mod (pe_defR D_C hr (pa_cons (pv 0) (pa_cons (pe_int) pa_nil))) (pe_int)) (pe_op op_mul (pe_int) (pv 6))) (pe_int)) (pe_int)) (pe_int))))
      (pss_cons (ps_cut (ps_set (i := 8) scE.nd rfl (Or.inl rfl) (pe_op op_mod (pe_op op_mul (pv 8) (pv 8)) (pe_int))))
      (pss_one (ps_set (i := 7) scE.nd rfl (Or.inl rfl) (pe_op op_fdiv (pe_op op_mod (pe_op op_mul (pv 8) (pe_int)) (pe_int)) (pe_int)))))) (pss_nil)))
      (pss_one (ps_expr (pe_bm PySem.F.plainAttrs_list PySem.F.slot_list_append PySem.F.type_list_append mt_append (pv 5) (pa_cons (pe_tupD (pa_cons (pe_op op_mod (pv 7) (pv 1)) (pa_cons (pe_op op_mod (pe_op op_fdiv (pv 7) (pv 1)) (pv 1)) pa_nil))) pa_nil))))))))
      (pss_one (ps_ret (pv 5))))), ?_⟩
    refine ⟨fun σ' H' => H' = H ∧ ∃ r, σ' = [some (.ref a), some (.int m), some (.int c), some (.int y), some (.int r), none, none, none, none], ?_, ?_⟩
    · exact ⟨_, rfl, a, ns, 1, rfl, hS, by decide, _, rfl, rfl, _, rfl⟩
    rintro σ' H ⟨rfl, r0, rfl⟩
    refine ⟨by decide, fun l hl => ?_⟩
    have s0 : Same H (upd H l (.lst [])) := Same.new hl
    refine ⟨_, rfl, c, rfl, by omega, by omega, for_by itok_range (fun i σ H2 => ∃ (r : Int) (xs : List V) (es : List (Int × Int)) (v6 v7 v8 : Option V), σ = [some (.ref a), some (.int m), some (.int c), some (.int y), some (.int r), some (.ref l), v6, v7, v8] ∧
        Same H H2 ∧ H2 l = some (.lst xs) ∧ Pairs K H2 xs es ∧ es.length = i ∧ EndsIn es m ∧ ∀ v ∈ xs, Thin H2 v) ⟨r0, [], [], none, none, none, rfl, s0, upd_same, .nil, rfl, EndsIn.nil, fun v hv => (nomatch hv)⟩ (fun _ _ _ _ _ => trivial) ?_ ?_⟩
    · rintro i σ H2 hi ⟨r, xs, es, v6, v7, v8, rfl, sH, hl2, hp, he, hE, hth⟩
      refine ⟨_, rfl, _, rfl, _, _, rfl, rfl, a, ns, _, rfl, sH.seq hS, by omega, ?_⟩
      generalize ns.getD ((2 : Int) + (0 + (i : Nat))).toNat 0 = c0
      refine ⟨fun σ' H' => H' = H2 ∧ ∃ r' c', σ' = [some (.ref a), some (.int m), some (.int c), some (.int y), some (.int r'), some (.ref l), some (.int (0 + (i : Nat))), some (.int c'), v8], ?_, ?_⟩
      · refine ⟨_, rfl, rfl, _, rfl, ite2 (fun c1 => ?_) (fun c1 => ?_)⟩
        · have hmm : 0 < m * m := Int.mul_pos (by omega) (by omega)
          have hmm2 : m * m < 1073741824 := by
            have : m * m ≤ 1000 * 1000 := Int.mul_le_mul m2 m2 (by omega) (by decide)
            omega
          refine ⟨_, rfl, _, rfl, _, rfl, _, rfl, _, _, rfl, rfl, .inl ⟨by omega, by omega⟩, _, _, rfl, rfl, ⟨hmm, hmm2⟩, ?_⟩
          exact ⟨rfl, _, _, rfl⟩
        · exact ⟨rfl, _, _, rfl⟩
      · rintro σ' H2 ⟨rfl, r', c', rfl⟩
        refine ⟨fun σ' H' => H' = H2 ∧ ∃ c' v8, σ' = [some (.ref a), some (.int m), some (.int c), some (.int y), some (.int r'), some (.ref l), some (.int (0 + (i : Nat))), some (.int c'), v8], ?_, ?_⟩
        · refine ⟨_, rfl, rfl, _, rfl, ite2 (fun c1 => ?_) (fun c1 => ?_)⟩
          · refine ⟨fun σ' H' => H' = H2 ∧ ∃ q : Int, 0 ≤ q ∧ q < 2147483647 ∧ σ' = [some (.ref a), some (.int m), some (.int c), some (.int y), some (.int r'), some (.ref l), some (.int (0 + (i : Nat))), some (.int c'), some (.int q)], ?_, ?_⟩
            · refine ⟨_, rfl, a, ns, 1, rfl, sH.seq hS, by decide, _, _, rfl, rfl, (by show (0 : Int) < 1000000007; decide), _, rfl, _, _, rfl, rfl, .inl ⟨by decide, by decide⟩, _, _, rfl, rfl, _, _, rfl, rfl, _, _, rfl, rfl, .inr ⟨by decide, by decide⟩, _, _, rfl, rfl, (by show (0 : Int) < 2147483647; decide), rfl, _, Int.emod_nonneg _ (by decide), Int.emod_lt_of_pos _ (by decide), rfl⟩
            rintro σ' H2 ⟨rfl, q, q0, q1, rfl⟩
            refine ⟨fun σ' H' => H' = H2 ∧ ∃ q : Int, 0 ≤ q ∧ q < 2147483647 ∧ σ' = [some (.ref a), some (.int m), some (.int c), some (.int y), some (.int r'), some (.ref l), some (.int (0 + (i : Nat))), some (.int c'), some (.int q)], ?_, ?_⟩
            · refine ⟨_, rfl, _, rfl, _, _, rfl, rfl, .inl ⟨by omega, by omega⟩, _, _, rfl, rfl, (by show (0 : Int) < 2147483647; decide), rfl, _, Int.emod_nonneg _ (by decide), Int.emod_lt_of_pos _ (by decide), rfl⟩
            rintro σ' H2 ⟨rfl, q, q0, q1, rfl⟩
            exact ⟨_, rfl, _, _, rfl, rfl, .inl ⟨by omega, by omega⟩, _, _, rfl, rfl, (by show (0 : Int) < 2147483647; decide), _, _, rfl, rfl, ⟨by decide, by decide⟩, rfl, _, _, rfl⟩
          · exact ⟨rfl, _, _, rfl⟩
        · rintro σ' H2 ⟨rfl, c2, v8, rfl⟩
          refine ⟨_, rfl, .inl ⟨rfl, _, SqL.of hl2⟩, _, rfl, _, rfl, _, _, rfl, rfl, (by show 0 < m; omega), _, rfl, _, rfl, _, _, rfl, rfl, ⟨by omega, by omega⟩, _, rfl, _, _, rfl, rfl, (by show 0 < m; omega), (by show 2 ≤ sizeLine; decide), fun t ob ht hob => ?_⟩
          have s2 : Same H2 (upd H2 t (.frz ob (.tup [.int (c2 % m), .int (c2 / m % m)]))) := Same.new ht
          have hlt : l ≠ t := ne_of_none hl2 ht
          have hl3 : (upd H2 t (.frz ob (.tup [.int (c2 % m), .int (c2 / m % m)]))) l = some (.lst xs) := s2 _ _ hl2
          have hlen := hp.len
          refine ⟨l, _, _, rfl, rfl, hl3, small1000 (by omega), ?_⟩
          refine ⟨r', xs ++ [.ref t], es ++ [(c2 % m, c2 / m % m)], _, _, _, rfl, (sH.trans s2).upd hl, upd_same, ?_, by rw [List.length_append, he]; rfl, hE.snoc ⟨Int.emod_nonneg _ (by omega), Int.emod_lt_of_pos _ (by omega), Int.emod_nonneg _ (by omega), Int.emod_lt_of_pos _ (by omega)⟩, fun v hv => ?_⟩
          rotate_left
          · rcases List.mem_append.mp hv with y | y
            · exact thin_upd ((hth v y).same s2) hl3
            · rw [List.mem_singleton.mp y]; exact ⟨t, ob, _, rfl, by rw [upd_ne hlt.symm]; exact upd_same, hob⟩
          refine (Pairs.sameX sameX_upd hl3 (hp.same s2)).snoc (e := (c2 % m, c2 / m % m)) ?_
          exact .inl (.inr ⟨ob, by rw [upd_ne hlt.symm]; exact upd_same⟩)
    · rintro σ H2 ⟨r, xs, es, v6, v7, v8, rfl, sH, hl2, hp, he, hE, hth⟩
      exact ⟨_, rfl, k l xs es H2 hl sH hl2 hp he hE hth⟩
def spD (K : PySem.W.Frag) : Sp := fun vs H Q _ => ∃ (a : Addr) (ns : List Int) (mo bo : Int), vs = [.ref a, .int mo, .int bo] ∧ SqL K H a (ns.map V.int) ∧ 1 ≤ mo ∧ mo ≤ 20 ∧ 0 ≤ bo ∧ bo ≤ 40 ∧
  ∀ (t l : Addr) (m : Int) (xs : List V) (es : List (Int × Int)) (H' : Hp), H l = none → Same H H' → H' t = some (.tup [.int m, .ref l]) → H' l = some (.lst xs) → Pairs K H' xs es → 1 ≤ m → m ≤ mo → (es.length : Int) ≤ bo → EndsIn es m → (∀ v ∈ xs, Thin H' v) → Q (.ref t) H'
theorem scD : FnScope ["script", "most", "bound", "lead", "many", "count"] ["script", "most", "bound"] (defScope sD) := ⟨rfl, rfl, rfl, by decide +kernel, rfl, by decide +kernel, by decide +kernel⟩
set_option maxHeartbeats 4000000 in
theorem ok_D {f : Addr} {fd : FuncData} (F : Fun K "_law_drawn" "_law_drawn" sD f fd) (T : Txt K mg c) (D_C : Def P w K mg base 1 "_law_cell" ["script", "k"] (spC K)) (D_E : Def P w K mg base 2 "_law_ends" ["script", "many", "count", "way"] (spE K)) : FnOk P w K mg base CX0 3 f fd ["script", "most", "bound"] (spD K) := by
  refine F.ok scD (fun vs H Q E h => ?_) (fun cdv A outer s H vs Q E hr h => ?_)
  · obtain ⟨a, ns, mo, bo, rfl, _⟩ := h
    rfl
  · obtain ⟨a, ns, mo, bo, rfl, hS, o1, o2, o3, o4, k⟩ := h
    refine ⟨_, pss_cons (ps_set (i := 3) scD.nd rfl (Or.inl rfl) (pe_defR D_C hr (pa_cons (pv 0) (pa_cons (pe_int) pa_nil))))
      (pss_cons (ps_cut (ps_set (i := 4) scD.nd rfl (Or.inl rfl) (pe_op op_add (pe_int) (pe_op op_mod (pv 3) (pv 1)))))
      (pss_cons (ps_cut (ps_set (i := 5) scD.nd rfl (Or.inl rfl) (pe_op op_mod (pe_op op_add (pe_callB (cLen (K := K) rfl) (by rfl) T.len PySem.boot_len (pa_cons (pv 0) pa_nil)) (pe_op op_fdiv (pv 3) (pe_op op_mul (pe_int) (pv 1)))) (pe_op op_add (pv 2) (pe_int)))))
      (pss_one (ps_ret (pe_tup (pa_cons (pv 4) (pa_cons (pe_defR D_E hr (pa_cons (pv 0) (pa_cons (pv 4) (pa_cons (pv 5) (pa_cons (pe_op op_mod (pe_op op_fdiv (pv 3) (pv 1)) (pe_int)) pa_nil))))) pa_nil))))))), ?_⟩
    refine ⟨_, rfl, a, ns, 0, rfl, hS, by decide, ?_⟩
    generalize ns.getD (0 : Int).toNat 0 = f1
    refine ⟨fun σ' H' => H' = H ∧ ∃ m : Int, 1 ≤ m ∧ m ≤ mo ∧ σ' = [some (.ref a), some (.int mo), some (.int bo), some (.int f1), some (.int m), none], ?_, ?_⟩
    · have b1 := Int.emod_nonneg f1 (show mo ≠ 0 by omega)
      have b2 := Int.emod_lt_of_pos f1 (show (0 : Int) < mo by omega)
      exact ⟨_, rfl, _, rfl, _, _, rfl, rfl, (by show 0 < mo; omega), _, _, rfl, rfl, rfl, _, by omega, by omega, rfl⟩
    rintro σ' H ⟨rfl, m, m1, m2, rfl⟩
    refine ⟨fun σ' H' => H' = H ∧ ∃ ct : Int, 0 ≤ ct ∧ ct ≤ bo ∧ σ' = [some (.ref a), some (.int mo), some (.int bo), some (.int f1), some (.int m), some (.int ct)], ?_, ?_⟩
    · have b1 := fun z : Int => Int.emod_nonneg z (show bo + 1 ≠ 0 by omega)
      have b2 := fun z : Int => Int.emod_lt_of_pos z (show (0 : Int) < bo + 1 by omega)
      refine ⟨_, rfl, a, _, rfl, .inl hS, _, rfl, _, rfl, _, _, rfl, rfl, .inl ⟨by decide, by decide⟩, _, _, rfl, rfl, ⟨by omega, by omega⟩, _, _, rfl, rfl, _, rfl, _, _, rfl, rfl, _, _, rfl, rfl, (by show 0 < bo + 1; omega), rfl, _, b1 _, ?_, rfl⟩
      have := b2 (((ns.map V.int).length : Int) + f1 / (3 * mo))
      omega
    rintro σ' H ⟨rfl, ct, ct0, ct1, rfl⟩
    refine ⟨_, rfl, _, rfl, _, rfl, _, rfl, _, rfl, _, rfl, _, _, rfl, rfl, ⟨by omega, by omega⟩, _, _, rfl, rfl, (by show (0 : Int) < 3; decide), a, ns, m, ct, _, rfl, hS, m1, by omega, ct0, by omega, fun l xs es H1 hl sH hl1 hp he hE hth => ?_⟩
    refine ⟨(by show 2 ≤ sizeLine; decide), fun t ht => ?_⟩
    have s2 : Same H1 (upd H1 t (.tup [.int m, .ref l])) := Same.new ht
    exact k t l _ xs es _ hl (sH.trans s2) upd_same (s2 _ _ hl1) (hp.same s2) m1 m2 (by omega) hE fun v hv => (hth v hv).same s2
def spFo (K : PySem.W.Frag) : Sp := fun vs H Q _ => ∃ (l q : Addr) (m : Int) (xs : List V) (es : List (Int × Int)) (os : List Int), vs = [.int m, .ref l, .ref q] ∧ SqL K H l xs ∧ Pairs K H xs es ∧ SqL K H q (os.map V.int) ∧ os.length < 64 ∧ (∀ t ∈ os, 0 ≤ t ∧ t < (es.length : Int)) ∧ 1 ≤ m ∧ m ≤ 20 ∧ es.length ≤ 40 ∧ EndsIn es m ∧
  ∀ (l2 : Addr) (cs : List Int) (H' : Hp), H l2 = none → Same H H' → H' l2 = some (.lst (cs.map V.int)) → cs.Perm (gF es os os.length) → cs.Pairwise (· ≤ ·) → Q (.ref l2) H'
theorem scFo : FnScope ["many", "ends", "order", "found", "names", "number", "one", "two"] ["many", "ends", "order"] (defScope sFo) := ⟨rfl, rfl, rfl, by decide +kernel, rfl, by decide +kernel, by decide +kernel⟩
set_option maxHeartbeats 4000000 in
theorem ok_Fo {f : Addr} {fd : FuncData} (F : Fun K "_law_forest" "_law_forest" sFo f fd) (T : Txt K mg c) : FnOk P w K mg base CX0 1 f fd ["many", "ends", "order"] (spFo K) := by
  refine F.ok scFo (fun vs H Q E h => ?_) (fun cdv A outer s H vs Q E hr h => ?_)
  · obtain ⟨l, q, m, xs, es, os, rfl, _⟩ := h
    rfl
  · obtain ⟨l, q, m, xs, es, os, rfl, hl, hp, hq, hoz, hor, m1, m2, hz, hE, k⟩ := h
    have hom : (os.map V.int).length = os.length := List.length_map ..
    refine ⟨_, pss_cons (ps_set (i := 3) scFo.nd rfl (Or.inl rfl) (pe_lst pa_nil))
      (pss_cons (ps_set (i := 4) scFo.nd rfl (Or.inl rfl) (pe_listrange1 rfl rfl T.list rfl T.range (pa_cons (pv 0) pa_nil)))
      (pss_cons (ps_for PassesOwn.never rfl (piSeqB (K := K) rfl (pv 2)) (pg_name (i := 5) scFo.nd rfl (Or.inl rfl))
        (pss_cons (ps_set (i := 6) scFo.nd rfl (Or.inr rfl) (pe_ix (ixL (K := K) rfl) (pv 4) (pe_ix (ixT (K := K) rfl) (pe_ix (ixL (K := K) rfl) (pv 1) (pv 5) (fun _ _ => rfl)) (pe_int) (fun _ _ => rfl)) (fun _ _ => rfl)))
      (pss_cons (ps_set (i := 7) scFo.nd rfl (Or.inr rfl) (pe_ix (ixL (K := K) rfl) (pv 4) (pe_ix (ixT (K := K) rfl) (pe_ix (ixL (K := K) rfl) (pv 1) (pv 5) (fun _ _ => rfl)) (pe_int) (fun _ _ => rfl)) (fun _ _ => rfl)))
      (pss_one (ps_cut (ps_if (pt_cmpR op_ne (pv 6) (pv 7) (nomark _))
        (pss_cons (ps_expr (pe_bm PySem.F.plainAttrs_list PySem.F.slot_list_append PySem.F.type_list_append mt_append (pv 3) (pa_cons (pv 5) pa_nil)))
      (pss_one (ps_setlc (i := 4) (N' := ["name", "one", "two"]) (nl := 1) (js := [6, 7]) rfl (.of (osc := defScope sFo) (N := ["many", "ends", "order", "found", "names", "number", "one", "two"]) (by decide +kernel) rfl rfl) (piSeq (K := K) rfl (pv 4))
        (fun _ _ _ _ => pg_name (i := 0) (show (["name", "one", "two"] : List Str).Nodup by decide +kernel) rfl (Or.inl rfl)) (fun _ _ _ _ => pif_nil)
        (fun _ _ _ _ => pe_ix (ixL (K := K) rfl) (pe_lst (pa_cons (pv 0) (pa_cons (pv 1) pa_nil))) (pe_callTy call_int1 (by rfl) T.int PyProof.Rows.boot_int (pa_cons (pe_cmpR op_eq (pv 0) (pv 2) (nomark _)) pa_nil)) (fun _ _ => rfl)) scFo.nd rfl rfl))) (pss_nil)))))))
      (pss_one (ps_ret (pe_callB (cSorted (K := K) rfl) (by rfl) T.sorted PyProof.Rows.boot_sorted (pa_cons (pv 3) pa_nil)))))), ?_⟩
    refine ⟨by decide, fun fl nfl => ?_⟩
    have s1 : Same H (upd H fl (.lst [])) := Same.new nfl
    have f1 : (upd H fl (.lst [])) fl = some (.lst []) := upd_same
    generalize upd H fl (.lst []) = H1 at s1 f1
    refine ⟨_, rfl, m, rfl, by omega, by omega, fun l0 nl0 => ?_⟩
    have s0 := s1.next (o := .lst (((List.range m.toNat).map fun i => 0 + ((i : Nat) : Int)).map V.int)) nl0
    have f0 := Same.new (o := .lst (((List.range m.toNat).map fun i => 0 + ((i : Nat) : Int)).map V.int)) nl0 _ _ f1
    have e0 : (upd H1 l0 (.lst (((List.range m.toNat).map fun i => 0 + ((i : Nat) : Int)).map V.int))) l0 = some (.lst (((List.range m.toNat).map fun i => 0 + ((i : Nat) : Int)).map V.int)) := upd_same
    have nlf : l0 ≠ fl := (ne_of_none f1 nl0).symm
    generalize upd H1 l0 (.lst (((List.range m.toNat).map fun i => 0 + ((i : Nat) : Int)).map V.int)) = H0 at s0 e0 f0
    refine ⟨_, rfl, false, q, _, rfl, s0.seq hq, fun J C O hC => ?_⟩
    refine for_by O (fun i σ H2 => ∃ (lb : Addr) (ls : List Int) (v5 v6 v7 : Option V), σ = [some (.int m), some (.ref l), some (.ref q), some (.ref fl), some (.ref lb), v5, v6, v7] ∧ Same H H2 ∧ lb ≠ fl ∧ H2 fl = some (.lst ((gF es os i).map V.int)) ∧ H2 lb = some (.lst (ls.map V.int)) ∧ ls.length = m.toNat ∧ Nam m (sub es (os.take i)) (lf ls)) ⟨l0, _, none, none, none, rfl, s0, nlf, f0, e0, by rw [List.length_map, List.length_range], Nam.start _ _ rfl⟩ (fun i σ H2 _ h => ?_) ?_ ?_
    · obtain ⟨lb, ls, v5, v6, v7, _, s2, _⟩ := h
      exact hC _ (s2.seq hq)
    · rintro i σ H2 hi ⟨lb, ls, v5, v6, v7, rfl, s2, nlb, hf2, hl2, hll, hL⟩
      obtain ⟨v, ev, gv⟩ := getD_map_int hi
      rw [hom] at hi
      have hv := hor v (List.mem_of_getElem? gv)
      have hfl : (gF es os i).length ≤ i := by unfold gF; rw [List.length_map]; exact frN_len _ i
      obtain ⟨r, ar, hr2, hm⟩ := tie_get (hp.same s2) hv.1 hv.2
      have eT : tieOf es v = (sub es os).getD i (0, 0) := by
        unfold sub
        rw [List.getD_eq_getElem?_getD, List.getElem?_map, gv]; rfl
      have eO : os.getD i 0 = v := by rw [List.getD_eq_getElem?_getD, gv]; rfl
      have eS : (sub es os).take i = sub es (os.take i) := by unfold sub; rw [List.map_take]
      obtain ⟨b1, b2, b3, b4⟩ := hE _ hm
      have a1 : atI (ls.map V.int) (tieOf es v).1 = some (.int (lf ls (tieOf es v).1)) := at_int (ns := ls) b1 (by omega)
      have a2 : atI (ls.map V.int) (tieOf es v).2 = some (.int (lf ls (tieOf es v).2)) := at_int (ns := ls) b3 (by omega)
      try dsimp only
      rw [ev]
      refine ⟨_, rfl, _, rfl, _, rfl, l, xs, _, .ref r, rfl, rfl, s2.seq hl, ar, r, _, 0, _, rfl, rfl, hr2, rfl, lb, _, _, _, rfl, rfl, SqL.of hl2, a1, ?_⟩
      refine ⟨_, rfl, _, rfl, _, rfl, l, xs, _, .ref r, rfl, rfl, s2.seq hl, ar, r, _, 1, _, rfl, rfl, hr2, rfl, lb, _, _, _, rfl, rfl, SqL.of hl2, a2, ?_⟩
      have hiff := hL.iff b1 b2 b3 b4
      have hES : ∀ a ∈ sub es (os.take i) ++ [tieOf es v], 0 ≤ a.1 ∧ a.1 < m ∧ 0 ≤ a.2 ∧ a.2 < m := fun a ha => by
        rcases List.mem_append.mp ha with y | y
        · exact ends_sub hE (fun t ht => hor t (List.mem_of_mem_take ht)) a y
        · rw [List.mem_singleton.mp y]; exact ⟨b1, b2, b3, b4⟩
      refine ⟨fun σ' H' => ∃ (lb : Addr) (ls : List Int) (v6 v7 : Option V), σ' = [some (.int m), some (.ref l), some (.ref q), some (.ref fl), some (.ref lb), some (.int v), v6, v7] ∧ Same H H' ∧ lb ≠ fl ∧ H' fl = some (.lst ((gF es os (i + 1)).map V.int)) ∧ H' lb = some (.lst (ls.map V.int)) ∧ ls.length = m.toNat ∧ Nam m (sub es (os.take (i + 1))) (lf ls), ?_, ?_⟩
      · refine ⟨_, rfl, _, rfl, rfl, _, rfl, ?_⟩
        have e1 : sub es (os.take (i + 1)) = sub es (os.take i) ++ [tieOf es v] := by
          unfold sub
          rw [take_snoc gv, List.map_append]; rfl
        have e2 : gF es os (i + 1) = gF es os i ++ (if inF (sub es os) i = true then [v] else []) := by
          unfold gF
          rw [frN_succ, List.map_append]
          by_cases c : inF (sub es os) i = true
          · rw [if_pos c, if_pos c]
            show _ ++ [os.getD ((i : Nat) : Int).toNat 0] = _
            rw [Int.toNat_natCast, eO]
          · rw [if_neg c, if_neg c]; rfl
        rw [e1, e2]
        by_cases c1 : lf ls (tieOf es v).1 = lf ls (tieOf es v).2
        · rw [decide_eq_true (show V.int (lf ls (tieOf es v).1) = V.int (lf ls (tieOf es v).2) by rw [c1])]
          have hn : ¬ inF (sub es os) i = true := fun z => (inF_iff.mp z) (by rw [← eT, eS]; exact hiff.mp c1)
          rw [if_neg hn, List.append_nil]
          exact iteF ⟨lb, ls, _, _, rfl, s2, nlb, hf2, hl2, hll, hL.skip c1⟩
        · rw [decide_eq_false (show ¬ V.int (lf ls (tieOf es v).1) = V.int (lf ls (tieOf es v).2) by intro z; injection z with z; exact c1 z)]
          have hn : inF (sub es os) i = true := inF_iff.mpr (by rw [← eT, eS]; exact fun z => c1 (hiff.mpr z))
          rw [if_pos hn]
          refine iteT ⟨_, rfl, .inl ⟨rfl, _, SqL.of hf2⟩, _, rfl, fl, _, _, rfl, rfl, hf2, small1000 (by rw [List.length_map]; omega), ?_⟩
          have x4 : SameX fl H2 (upd H2 fl (.lst ((gF es os i).map V.int ++ [V.int v]))) := sameX_upd
          have t4 : (upd H2 fl (.lst ((gF es os i).map V.int ++ [V.int v]))) fl = some (.lst ((gF es os i ++ [v]).map V.int)) := by rw [List.map_append]; exact upd_same
          have s4 : Same H (upd H2 fl (.lst ((gF es os i).map V.int ++ [V.int v]))) := s2.upd nfl
          generalize upd H2 fl (.lst ((gF es os i).map V.int ++ [V.int v])) = H4 at x4 t4 s4
          have hl4 := x4 _ _ nlb hl2
          refine ⟨_, rfl, lb, _, rfl, .inl (SqL.of hl4), fun J C O hC => lc_by O (fun j ys H5 => Same H4 H5 ∧ ys = ((ls.map fun n => if n = lf ls (tieOf es v).2 then lf ls (tieOf es v).1 else n).take j).map V.int) (by rw [List.length_map]; exact Nat.le_of_lt (small1000 (by omega))) ⟨Same.refl _, rfl⟩ ?_ ?_ ?_⟩
          · rintro j ys H5 hj ⟨s5, rfl⟩
            exact ⟨hC _ s5, by rw [List.length_map, List.length_take]; omega⟩
          · rintro j ys H5 hj ⟨s5, rfl⟩
            obtain ⟨n, en, gn⟩ := getD_map_int hj
            rw [List.length_map] at hj
            have fin : ∀ u, u = (if n = lf ls (tieOf es v).2 then lf ls (tieOf es v).1 else n) → ((ls.map fun n => if n = lf ls (tieOf es v).2 then lf ls (tieOf es v).1 else n).take j).map V.int ++ [V.int u] = ((ls.map fun n => if n = lf ls (tieOf es v).2 then lf ls (tieOf es v).1 else n).take (j + 1)).map V.int := fun u e => by
              have hv2 : (ls.map fun n => if n = lf ls (tieOf es v).2 then lf ls (tieOf es v).1 else n)[j]? = some u := by rw [List.getElem?_map, gn, e]; rfl
              rw [take_snoc hv2, List.map_append]; rfl
            try dsimp only
            rw [en]
            refine ⟨wk_set rfl, iteT ⟨_, rfl, _, rfl, (by show 2 ≤ sizeLine; decide), fun q1 nq1 => ?_⟩⟩
            have s6 := s5.next (o := .lst [V.int n, V.int (lf ls (tieOf es v).1)]) nq1
            have e6 : (upd H5 q1 (.lst [V.int n, V.int (lf ls (tieOf es v).1)])) q1 = some (.lst [V.int n, V.int (lf ls (tieOf es v).1)]) := upd_same
            generalize upd H5 q1 (.lst [V.int n, V.int (lf ls (tieOf es v).1)]) = H6 at s6 e6
            have hyl : (((ls.map fun n => if n = lf ls (tieOf es v).2 then lf ls (tieOf es v).1 else n).take j).map V.int).length < sizeLine := small1000 (by rw [List.length_map, List.length_take]; omega)
            by_cases c2 : n = lf ls (tieOf es v).2
            · refine ⟨_, rfl, _, rfl, rfl, .inr ⟨true, by rw [decide_eq_true (by rw [c2])], ?_⟩⟩
              exact ⟨q1, _, 1, _, rfl, rfl, SqL.of e6, rfl, hyl, _, by rw [List.length_map]; omega, rfl, by rw [List.length_map]; omega, s6, fin _ (by rw [if_pos c2])⟩
            · refine ⟨_, rfl, _, rfl, rfl, .inr ⟨false, by rw [decide_eq_false (by intro z; injection z with z; exact c2 z)], ?_⟩⟩
              exact ⟨q1, _, 0, _, rfl, rfl, SqL.of e6, rfl, hyl, _, by rw [List.length_map]; omega, rfl, by rw [List.length_map]; omega, s6, fin _ (by rw [if_neg c2])⟩
          · rintro ys H5 ⟨s5, rfl⟩ l3 nl3
            rw [List.length_map, List.take_of_length_le (by rw [List.length_map]; omega)]
            have sN := s5.next (o := .lst ((ls.map fun n => if n = lf ls (tieOf es v).2 then lf ls (tieOf es v).1 else n).map V.int)) nl3
            refine ⟨l3, _, _, _, rfl, s4.trans sN, (ne_of_none (s5 _ _ t4) nl3).symm, sN _ _ t4, upd_same, by rw [List.length_map]; exact hll, ?_⟩
            exact (hL.put ⟨b1, b2, b3, b4⟩).congr hES fun p p0 p1 => (lf_map ls (fun n => if n = lf ls (tieOf es v).2 then lf ls (tieOf es v).1 else n) p p0 (by omega)).symm
      · rintro σ' H' ⟨lb, ls, v6, v7, rfl, h'⟩
        exact ⟨lb, ls, _, _, _, rfl, h'⟩
    · rintro σ H2 ⟨lb, ls, v5, v6, v7, rfl, s2, nlb, hf2, hl2, hll, hL⟩
      rw [hom] at hf2
      have hfl : (gF es os os.length).length ≤ os.length := by unfold gF; rw [List.length_map]; exact frN_len _ _
      exact ⟨_, rfl, fl, _, rfl, SqL.of hf2, by omega, fun l2 ns' nl2 hperm hsrt => k l2 ns' _ (none_back s2 nl2) (s2.next nl2) upd_same hperm hsrt⟩
def spCh (K : PySem.W.Frag) : Sp := fun vs H Q _ => ∃ (ce : Int) (n : Nat), vs = [.int ce, .int n] ∧ n ≤ 40 ∧ ∀ (l : Addr) (ss : List Int) (H' : Hp), H l = none → Same H H' → H' l = some (.lst (ss.map V.int)) → SetOk n ss → Q (.ref l) H'
theorem scCh : FnScope ["cell", "many", "rest", "found", "k"] ["cell", "many"] (defScope sCh) := ⟨rfl, rfl, rfl, by decide +kernel, rfl, by decide +kernel, by decide +kernel⟩
set_option maxHeartbeats 4000000 in
theorem ok_Ch {f : Addr} {fd : FuncData} (F : Fun K "_law_chosen" "_law_chosen" sCh f fd) (T : Txt K mg c) : FnOk P w K mg base CX0 1 f fd ["cell", "many"] (spCh K) := by
  refine F.ok scCh (fun vs H Q E h => ?_) (fun cdv A outer s H vs Q E hr h => ?_)
  · obtain ⟨ce, n, rfl, _⟩ := h
    rfl
  · obtain ⟨ce, n, rfl, hn, k⟩ := h
    refine ⟨_, pss_cons (ps_set (i := 2) scCh.nd rfl (Or.inl rfl) (pe_callB call_abs (by rfl) T.abs PyProof.Rows.boot_abs (pa_cons (pv 0) pa_nil)))
      (pss_cons (ps_set (i := 3) scCh.nd rfl (Or.inl rfl) (pe_lst pa_nil))
      (pss_cons (ps_for PassesOwn.never rfl (pi_range1 rfl T.range (pa_cons (pv 1) pa_nil)) (pg_name (i := 4) scCh.nd rfl (Or.inl rfl))
        (pss_cons (ps_cut (ps_if (pt_cmpR op_eq (pe_op op_mod (pv 2) (pe_int)) (pe_int) (nomark _))
        (pss_one (ps_expr (pe_bm PySem.F.plainAttrs_list PySem.F.slot_list_append PySem.F.type_list_append mt_append (pv 3) (pa_cons (pv 4) pa_nil)))) (pss_nil)))
      (pss_one (ps_set (i := 2) scCh.nd rfl (Or.inl rfl) (pe_op op_fdiv (pv 2) (pe_int))))))
      (pss_one (ps_ret (pv 3))))), ?_⟩
    refine ⟨_, rfl, _, rfl, by decide, fun l nl => ?_⟩
    generalize (if ce < 0 then -ce else ce) = r0
    have s1 := Same.new (o := .lst []) nl
    have e1 : (upd H l (.lst [])) l = some (.lst []) := upd_same
    generalize upd H l (.lst []) = H1 at s1 e1
    refine ⟨_, rfl, (n : Int), rfl, by omega, by omega, ?_⟩
    rw [Int.toNat_natCast]
    refine for_by itok_range (fun i σ H2 => ∃ (r : Int) (ss : List Int) (v4 : Option V), σ = [some (.int ce), some (.int n), some (.int r), some (.ref l), v4] ∧ Same H H2 ∧ H2 l = some (.lst (ss.map V.int)) ∧ SetOk i ss) ⟨r0, [], none, rfl, s1, e1, ⟨fun t ht => (nomatch ht), .nil⟩⟩ (fun _ _ _ _ _ => trivial) ?_ ?_
    · rintro i σ H2 hi ⟨r, ss, v4, rfl, s2, e2, ok⟩
      have hi' : i < n := hi
      have hsl := ok.len
      refine ⟨fun σ' H' => ∃ ss : List Int, σ' = [some (.int ce), some (.int n), some (.int r), some (.ref l), some (.int (0 + (i : Nat)))] ∧ Same H H' ∧ H' l = some (.lst (ss.map V.int)) ∧ SetOk (i + 1) ss, ?_, ?_⟩
      · refine ⟨_, rfl, _, _, rfl, rfl, (by show (0 : Int) < 2; decide), rfl, _, rfl, ite2 (fun _ => ?_) (fun _ => ?_)⟩
        · refine ⟨_, rfl, .inl ⟨rfl, _, SqL.of e2⟩, _, rfl, l, _, _, rfl, rfl, e2, small1000 (by rw [List.length_map]; omega), ?_⟩
          refine ⟨ss ++ [0 + ((i : Nat) : Int)], rfl, s2.upd nl, by rw [List.map_append]; exact upd_same, ⟨fun t ht => ?_, ?_⟩⟩
          · rcases List.mem_append.mp ht with y | y
            · have := ok.rng t y; omega
            · rw [List.mem_singleton.mp y]; omega
          · rw [List.pairwise_append]
            refine ⟨ok.up, List.pairwise_singleton .., fun x hx y hy => ?_⟩
            rw [List.mem_singleton.mp hy]
            have := ok.rng x hx
            omega
        · exact ⟨ss, rfl, s2, e2, ⟨fun t ht => by have := ok.rng t ht; omega, ok.up⟩⟩
      rintro σ' H3 ⟨ss', rfl, s3, e3, ok3⟩
      exact ⟨_, rfl, _, _, rfl, rfl, ⟨by decide, by decide⟩, _, ss', _, rfl, s3, e3, ok3⟩
    · rintro σ H2 ⟨r, ss, v4, rfl, s2, e2, ok⟩
      exact ⟨_, rfl, k l ss H2 nl s2 e2 ok⟩
theorem erase_first {t : Int} : ∀ (L : List Int) (j : Nat), j < L.length → L.getD j 0 = t → (∀ i, i < j → L.getD i 0 ≠ t) → L.eraseIdx j = L.erase t
  | [], _, h, _, _ => absurd h (Nat.not_lt_zero _)
  | a :: L, 0, _, h, _ => by
    have e : a = t := h
    subst e
    rw [List.erase_cons_head]; rfl
  | a :: L, j + 1, hj, h, hn => by
    have e : a ≠ t := hn 0 (Nat.succ_pos _)
    rw [List.eraseIdx_cons_succ, List.erase_cons_tail (by simpa using e), erase_first L j (by simpa using hj) h fun i hi => hn (i + 1) (by omega)]
theorem first_ix {t : Int} {L : List Int} (h : t ∈ L) : ∃ j, j < L.length ∧ L.getD j 0 = t ∧ ∀ i, i < j → L.getD i 0 ≠ t := by
  induction L with
  | nil => cases h
  | cons a L ih =>
    by_cases e : a = t
    · exact ⟨0, Nat.succ_pos _, e, fun i hi => absurd hi (Nat.not_lt_zero _)⟩
    · obtain ⟨j, h1, h2, h3⟩ := ih ((List.mem_cons.mp h).resolve_left fun z => e z.symm)
      exact ⟨j + 1, by rw [List.length_cons]; omega, h2, fun i hi => by
        cases i with
        | zero => exact e
        | succ i => exact h3 i (by omega)⟩
def LcS (es : List (Int × Int)) (hs ss S : List Int) : Prop := SetOk es.length S ∧ EvS es S ∧ ∀ t : Int, 0 ≤ t → t < (es.length : Int) → ¬ t ∈ hs → (t ∈ S ↔ t ∈ ss)
theorem set_eq {n : Nat} {a b : List Int} (ha : SetOk n a) (hb : SetOk n b) (h : ∀ t, t ∈ a ↔ t ∈ b) : a = b :=
  sorted_uniq ((List.perm_ext_iff_of_nodup ha.nd hb.nd).mpr h) (ha.up.imp fun h => Int.le_of_lt h) (hb.up.imp fun h => Int.le_of_lt h)
theorem cnt_two (p a b : Int) : (([V.int a, V.int b].countP fun z => eqV z (V.int p) : Nat) : Int) = (if a = p then 1 else 0) + (if b = p then 1 else 0) := by
  have e1 : ∀ z : Int, eqV (V.int z) (V.int p) = (z == p) := fun _ => rfl
  rw [List.countP_cons, List.countP_cons, List.countP_nil, e1, e1]
  by_cases c1 : a = p <;> by_cases c2 : b = p <;> simp [c1, c2]
def spCm (K : PySem.W.Frag) : Sp := fun vs H Q _ => ∃ (l h a : Addr) (m : Int) (xs : List V) (es : List (Int × Int)) (hs ss : List Int), vs = [.int m, .ref l, .ref h, .ref a] ∧ SqL K H l xs ∧ Pairs K H xs es ∧ (∀ v ∈ xs, Thin H v) ∧ SqL K H h (hs.map V.int) ∧ SqL K H a (ss.map V.int) ∧ Spn es hs ∧ SetOk es.length ss ∧ (∀ t ∈ ss, ¬ t ∈ hs) ∧ 1 ≤ m ∧ m ≤ 20 ∧ es.length ≤ 40 ∧ EndsIn es m ∧
  ∀ (l2 : Addr) (cs : List Int) (H' : Hp), H l2 = none → Same H H' → H' l2 = some (.lst (cs.map V.int)) → SetOk es.length cs → (∀ S, LcS es hs ss S → cs = S) → Q (.ref l2) H'
theorem scCm : FnScope ["many", "ends", "held", "some", "found", "left", "leaf", "place", "near", "number"] ["many", "ends", "held", "some"] (defScope sCm) := ⟨rfl, rfl, rfl, by decide +kernel, rfl, by decide +kernel, by decide +kernel⟩
set_option maxHeartbeats 8000000 in
theorem ok_Cm {f : Addr} {fd : FuncData} (F : Fun K "_law_completed" "_law_completed" sCm f fd) (T : Txt K mg c) : FnOk P w K mg base CX0 1 f fd ["many", "ends", "held", "some"] (spCm K) := by
  refine F.ok scCm (fun vs H Q E h => ?_) (fun cdv A outer s H vs Q E hr h => ?_)
  · obtain ⟨l, h, a, m, xs, es, hs, ss, rfl, _⟩ := h
    rfl
  · obtain ⟨l, h, a, m, xs, es, hs, ss, rfl, hl, hp, hth, hh, ha, hspn, hok, hdis, m1, m2, hz, hE, k⟩ := h
    have hac := hspn.free
    have hu : A.units + 3 + 64 < cLine := hr.units
    have hxl := hp.len
    refine ⟨_, pss_cons (ps_set (i := 4) scCm.nd rfl (Or.inl rfl) (pe_callTy (cList (K := K) rfl) (by rfl) T.list PyProof.Rows.boot_list (pa_cons (pv 3) pa_nil)))
      (pss_cons (ps_set (i := 5) scCm.nd rfl (Or.inl rfl) (pe_callTy (cList (K := K) rfl) (by rfl) T.list PyProof.Rows.boot_list (pa_cons (pv 2) pa_nil)))
      (pss_cons (ps_while PassesOwn.never (pt_cmpR (opNeD (K := K) rfl hu) (pv 5) (pe_lst pa_nil) (nomark _))
        (pss_cons (ps_set (i := 6) scCm.nd rfl (Or.inl rfl) (pe_non))
      (pss_cons (ps_for PassesOwn.never rfl (pi_range1 rfl T.range (pa_cons (pv 0) pa_nil)) (pg_name (i := 7) scCm.nd rfl (Or.inr rfl))
        (pss_cons (ps_setlc (i := 8) (N' := ["number", "ends", "place"]) (nl := 1) (js := [1, 7]) rfl (.of (osc := defScope sCm) (N := ["many", "ends", "held", "some", "found", "left", "leaf", "place", "near", "number"]) (by decide +kernel) rfl rfl) (piSeq (K := K) rfl (pv 5))
        (fun _ _ _ _ => pg_name (i := 0) (show (["number", "ends", "place"] : List Str).Nodup by decide +kernel) rfl (Or.inl rfl)) (fun _ _ _ _ => pif_one (pt_cmpR (opIn (K := K) rfl) (pv 2) (pe_ix (ixL (K := K) rfl) (pv 1) (pv 0) (fun _ _ => rfl)) (by with_unfolding_all rfl)))
        (fun _ _ _ _ => pv 0) scCm.nd rfl rfl)
      (pss_one (ps_cut (ps_if (PW.pt (pw_and (pt_cmpR op_eq (pe_callB (cLen (K := K) rfl) (by rfl) T.len PySem.boot_len (pa_cons (pv 8) pa_nil)) (pe_int) (nomark _)) (pw_and1 (pt_cmpR op_isN (pv 6) (pe_non) (nomark _)))))
        (pss_one (ps_set (i := 6) scCm.nd rfl (Or.inl rfl) (pe_tup (pa_cons (pv 7) (pa_cons (pe_ix (ixL (K := K) rfl) (pv 8) (pe_int) (fun _ _ => rfl)) pa_nil))))) (pss_nil))))))
      (pss_cons (ps_asg (pv 6) (pgTup (K := K) (n := 2) rfl rfl (pgs_cons (pg_name (i := 7) scCm.nd rfl (Or.inr rfl)) (pgs_cons (pg_name (i := 9) scCm.nd rfl (Or.inl rfl)) (pgs_nil))) rfl))
      (pss_cons (ps_cut (ps_if (pt_cmpR op_eq (pe_op op_mod (pe_callB (cSum (K := K) rfl rfl) (by rfl) T.sum PyProof.Rows.boot_sum (pa_cons (pe_lc (N' := ["other", "ends", "place"]) (nl := 1) (js := [1, 7]) rfl (.of (osc := defScope sCm) (N := ["many", "ends", "held", "some", "found", "left", "leaf", "place", "near", "number"]) (by decide +kernel) rfl rfl) (piSeq (K := K) rfl (pv 4))
        (fun _ _ _ _ => pg_name (i := 0) (show (["other", "ends", "place"] : List Str).Nodup by decide +kernel) rfl (Or.inl rfl)) (fun _ _ _ _ => pif_nil)
        (fun _ _ _ _ => pe_cntT (K := K) rfl (pe_ix (ixL (K := K) rfl) (pv 1) (pv 0) (fun _ _ => rfl)) (pa_cons (pv 2) pa_nil))) pa_nil)) (pe_int)) (pe_int) (nomark _))
        (pss_one (ps_expr (pe_bm PySem.F.plainAttrs_list PySem.F.slot_list_append PySem.F.type_list_append mt_append (pv 4) (pa_cons (pv 9) pa_nil)))) (pss_nil)))
      (pss_one (ps_expr (pe_bm PySem.F.plainAttrs_list PySem.F.slot_list_remove PySem.F.type_list_remove mt_remI (pv 5) (pa_cons (pv 9) pa_nil)))))))))
      (pss_one (ps_ret (pe_callB (cSorted (K := K) rfl) (by rfl) T.sorted PyProof.Rows.boot_sorted (pa_cons (pv 4) pa_nil)))))), ?_⟩
    refine ⟨_, rfl, a, _, rfl, .inl ha, fun fo nfo => ?_⟩
    have s1 := Same.new (o := .lst (ss.map V.int)) nfo
    have f1 : (upd H fo (.lst (ss.map V.int))) fo = some (.lst (ss.map V.int)) := upd_same
    generalize upd H fo (.lst (ss.map V.int)) = H1 at s1 f1
    refine ⟨_, rfl, h, _, rfl, .inl (s1.seq hh), fun le nle => ?_⟩
    have s2 := s1.next (o := .lst (hs.map V.int)) nle
    have f2 := Same.new (o := .lst (hs.map V.int)) nle _ _ f1
    have e2 : (upd H1 le (.lst (hs.map V.int))) le = some (.lst (hs.map V.int)) := upd_same
    have nfl : fo ≠ le := ne_of_none f1 nle
    have leH : H le = none := none_back s1 nle
    generalize upd H1 le (.lst (hs.map V.int)) = H2 at s2 f2 e2
    have hfl := hspn.ok.len
    refine ⟨fun n σ H3 => ∃ (L fs : List Int) (v6 v7 v8 v9 : Option V), n = L.length ∧ σ = [some (.int m), some (.ref l), some (.ref h), some (.ref a), some (.ref fo), some (.ref le), v6, v7, v8, v9] ∧ Same H H3 ∧ H3 fo = some (.lst (fs.map V.int)) ∧ H3 le = some (.lst (L.map V.int)) ∧ L.length ≤ 40 ∧ L.Nodup ∧ (∀ t ∈ L, t ∈ hs) ∧ fs.Nodup ∧ (∀ t ∈ fs, 0 ≤ t ∧ t < (es.length : Int)) ∧ (∀ t ∈ fs, ¬ t ∈ L) ∧ ∀ S, LcS es hs ss S → ∀ t : Int, 0 ≤ t → t < (es.length : Int) → ¬ t ∈ L → (t ∈ fs ↔ t ∈ S), ⟨_, hs, ss, none, none, none, none, rfl, rfl, s2, f2, e2, Nat.le_trans hfl hz, hspn.ok.nd, fun t ht => ht, hok.nd, hok.rng, hdis, fun S hS t h0 h1 hn => (hS.2.2 t h0 h1 hn).symm⟩, ?_⟩
    rintro n σ H3 ⟨L, fs, v6, v7, v8, v9, rfl, rfl, s3, f3, e3, hLl, hLn, hLf, hFn, hFr, hFd, hU⟩
    have hfsl := nodup_len hFn hFr
    refine ⟨_, rfl, by decide, fun q nq => ?_⟩
    have s4 := Same.new (o := .lst []) nq
    have q4 : (upd H3 q (.lst [])) q = some (.lst ((([] : List Int)).map V.int)) := upd_same
    generalize upd H3 q (.lst []) = H4 at s4 q4
    have s34 := s3.trans s4
    have f4 := s4 _ _ f3
    have e4 := s4 _ _ e3
    refine ⟨dI L, dI [], dat_ints (SqL.of e4), dat_ints (SqL.of q4), shaped_dI _, shaped_dI _, _, rfl, ?_⟩
    rw [eqv_dI]
    by_cases hL0 : L = []
    · rw [decide_eq_true hL0]
      refine iteF ⟨_, rfl, fo, _, rfl, SqL.of f4, by omega, fun l2 cs nl2 hpm hps => ?_⟩
      have okc : SetOk es.length cs := ⟨fun t ht => hFr t (hpm.mem_iff.mp ht), up_le hps (hpm.nodup_iff.mpr hFn)⟩
      refine k l2 cs _ (none_back s34 nl2) (s34.next nl2) upd_same okc fun S hS => set_eq okc hS.1 fun t => ⟨fun z => ?_, fun z => ?_⟩
      · have hr := okc.rng t z
        exact (hU S hS t hr.1 hr.2 (by rw [hL0]; exact fun y => nomatch y)).mp (hpm.mem_iff.mp z)
      · have hr := hS.1.rng t z
        exact hpm.mem_iff.mpr ((hU S hS t hr.1 hr.2 (by rw [hL0]; exact fun y => nomatch y)).mpr z)
    · rw [decide_eq_false hL0]
      refine iteT ⟨_, fun σ' H' h => h, ?_⟩
      have hcond : ∀ s ∈ L, 0 ≤ s ∧ s < (es.length : Int) := fun s hs' => hspn.ok.rng s (hLf s hs')
      refine ⟨_, rfl, m, rfl, by omega, by omega, for_by itok_range (fun i σ H5 => ∃ (v6 v7 v8 : Option V), σ = [some (.int m), some (.ref l), some (.ref h), some (.ref a), some (.ref fo), some (.ref le), v6, v7, v8, v9] ∧ Same H4 H5 ∧ ((v6 = some .non ∧ ∀ p : Nat, p < i → (L.filter fun s => atP (p : Int) (tieOf es s)).length ≠ 1) ∨ ∃ (r : Addr) (u t : Int), v6 = some (.ref r) ∧ H5 r = some (.tup [.int u, .int t]) ∧ 0 ≤ u ∧ u < m ∧ (L.filter fun s => atP u (tieOf es s)) = [t])) ⟨some .non, _, _, rfl, Same.refl _, .inl ⟨rfl, fun p hp => absurd hp (Nat.not_lt_zero _)⟩⟩ (fun _ _ _ _ _ => trivial) ?_ ?_⟩
      · rintro i σ H5 hi ⟨v6, v7, v8, rfl, s5, hlf⟩
        have hi' : i < m.toNat := hi
        have s35 := s34.trans s5
        have e5 := s5 _ _ e4
        have hlm : (L.map V.int).length = L.length := List.length_map ..
        obtain ⟨p, ep⟩ : ∃ p : Int, p = 0 + (i : Nat) := ⟨_, rfl⟩
        rw [← ep]
        have fl : ∀ j, ((L.take j).filter fun s => atP p (tieOf es s)).length ≤ j := fun j => Nat.le_trans (List.length_filter_le _ _) (by rw [List.length_take]; omega)
        refine ⟨_, rfl, le, _, rfl, .inl (SqL.of e5), fun J C O hC => lc_by O (fun j ys H6 => H6 = H5 ∧ ys = ((L.take j).filter fun s => atP p (tieOf es s)).map V.int) (by rw [hlm]; exact Nat.le_of_lt (small1000 (by omega))) ⟨rfl, rfl⟩ ?_ ?_ ?_⟩
        · rintro j ys H6 hj ⟨rfl, rfl⟩
          exact ⟨hC _ (Same.refl _), by rw [List.length_map]; exact fl j⟩
        · rintro j ys H6 hj ⟨rfl, rfl⟩
          obtain ⟨v, ev, gv⟩ := getD_map_int hj
          rw [hlm] at hj
          have hv := hcond v (List.mem_of_getElem? gv)
          have hl2 := fl j
          obtain ⟨r, ar, hr2, _⟩ := tie_get (hp.same s35) hv.1 hv.2
          try dsimp only
          rw [ev]
          refine ⟨wk_set rfl, _, rfl, _, rfl, _, rfl, l, xs, v, .ref r, rfl, rfl, s35.seq hl, ar, r, _, rfl, .inr hr2, rfl, rfl, _, rfl, ?_⟩
          rw [if_neg Bool.false_ne_true, show inV (V.int p) [V.int (tieOf es v).1, V.int (tieOf es v).2] = atP p (tieOf es v) from inV_at ..]
          refine ite2 (fun c1 => ?_) (fun c1 => ?_)
          · refine ⟨_, rfl, small1000 (by rw [List.length_map]; omega), _, by omega, rfl, by omega, rfl, ?_⟩
            rw [take_snoc gv, List.filter_append, List.map_append, List.filter_cons_of_pos (p := fun s => atP p (tieOf es s)) c1]; rfl
          · refine ⟨_, by omega, rfl, by omega, rfl, ?_⟩
            rw [take_snoc gv, List.filter_append, List.map_append, List.filter_cons_of_neg (p := fun s => atP p (tieOf es s)) c1]; exact (List.append_nil _).symm
        · rintro ys H6 ⟨rfl, rfl⟩ ls nls
          rw [hlm, List.take_length]
          have s6 := Same.new (o := .lst ((L.filter fun s => atP p (tieOf es s)).map V.int)) nls
          have e6 : (upd H6 ls (.lst ((L.filter fun s => atP p (tieOf es s)).map V.int))) ls = some (.lst ((L.filter fun s => atP p (tieOf es s)).map V.int)) := upd_same
          generalize upd H6 ls (.lst ((L.filter fun s => atP p (tieOf es s)).map V.int)) = H7 at s6 e6
          have s57 := s5.trans s6
          have up : ∀ {H8 : Hp}, Same H7 H8 → ((v6 = some .non ∧ ∀ p : Nat, p < i → (L.filter fun s => atP (p : Int) (tieOf es s)).length ≠ 1) ∨ ∃ (r : Addr) (u t : Int), v6 = some (.ref r) ∧ H8 r = some (.tup [.int u, .int t]) ∧ 0 ≤ u ∧ u < m ∧ (L.filter fun s => atP u (tieOf es s)) = [t]) := fun {H8} s8 => hlf.imp_right fun ⟨r, u, t, h1, h2, h3⟩ => ⟨r, u, t, h1, s8 _ _ (s6 _ _ h2), h3⟩
          refine ⟨fun σ' H' => ∃ (v6 v7 v8 : Option V), σ' = [some (.int m), some (.ref l), some (.ref h), some (.ref a), some (.ref fo), some (.ref le), v6, v7, v8, v9] ∧ Same H4 H' ∧ ((v6 = some .non ∧ ∀ p : Nat, p < i + 1 → (L.filter fun s => atP (p : Int) (tieOf es s)).length ≠ 1) ∨ ∃ (r : Addr) (u t : Int), v6 = some (.ref r) ∧ H' r = some (.tup [.int u, .int t]) ∧ 0 ≤ u ∧ u < m ∧ (L.filter fun s => atP u (tieOf es s)) = [t]), ?_, fun _ _ z => z⟩
          refine ⟨_, rfl, ls, _, rfl, .inl (SqL.of e6), rfl, _, rfl, ?_⟩
          have hlen : ((L.filter fun s => atP p (tieOf es s)).map V.int).length = (L.filter fun s => atP p (tieOf es s)).length := List.length_map ..
          by_cases c1 : (L.filter fun s => atP p (tieOf es s)).length = 1
          · rw [decide_eq_true (show V.int (((L.filter fun s => atP p (tieOf es s)).map V.int).length : Int) = V.int 1 by rw [hlen, c1]; rfl)]
            rcases hlf with ⟨h1, h2⟩ | ⟨r, u, t, h1, h2, h3⟩
            · subst h1
              refine iteT ⟨_, rfl, rfl, _, rfl, ?_⟩
              rw [decide_eq_true rfl]
              obtain ⟨t, et⟩ : ∃ t, (L.filter fun s => atP p (tieOf es s)) = [t] := List.length_eq_one_iff.mp c1
              refine iteT ⟨_, rfl, _, rfl, ls, _, 0, .int t, rfl, rfl, SqL.of e6, by rw [et]; rfl, (by show 2 ≤ sizeLine; decide), fun r nr => ?_⟩
              exact ⟨some (.ref r), _, _, rfl, s57.next nr, .inr ⟨r, p, t, rfl, upd_same, by omega, by omega, et⟩⟩
            · subst h1
              refine iteT ⟨_, rfl, rfl, _, rfl, ?_⟩
              rw [decide_eq_false (by intro z; cases z)]
              exact iteF ⟨_, _, _, rfl, s57, .inr ⟨r, u, t, rfl, s6 _ _ h2, h3⟩⟩
          · rw [decide_eq_false (show ¬ V.int (((L.filter fun s => atP p (tieOf es s)).map V.int).length : Int) = V.int 1 by rw [hlen]; intro z; injection z with z; omega)]
            refine iteF (iteF ?_)
            refine ⟨_, _, _, rfl, s57, (up (Same.refl _)).imp_left fun ⟨h1, h2⟩ => ⟨h1, fun q hq => ?_⟩⟩
            by_cases c2 : q < i
            · exact h2 q c2
            · rw [show ((q : Nat) : Int) = p by omega]; exact c1
      · rintro σ H5 ⟨v6, v7, v8, rfl, s5, hlf⟩
        obtain ⟨r, u, t, rfl, hr5, u0, u1, hft⟩ : ∃ (r : Addr) (u t : Int), v6 = some (.ref r) ∧ H5 r = some (.tup [.int u, .int t]) ∧ 0 ≤ u ∧ u < m ∧ (L.filter fun s => atP u (tieOf es s)) = [t] := by
          rcases hlf with ⟨_, h2⟩ | h2
          · exfalso
            obtain ⟨x, t, ht, hx⟩ := leaf_of hL0 hLn (hac.sub hLf)
            have hxt : atP x (tieOf es t) = true := by
              have : t ∈ L.filter fun s => atP x (tieOf es s) := by rw [hx]; exact List.mem_singleton.mpr rfl
              exact (List.mem_filter.mp this).2
            have htc := hcond t ht
            have hmt : tieOf es t ∈ es := by unfold tieOf; rw [List.getD_eq_getElem?_getD, List.getElem?_eq_getElem (show t.toNat < es.length by omega)]; exact List.getElem_mem _
            obtain ⟨b1, b2, b3, b4⟩ := hE _ hmt
            have hxr : 0 ≤ x ∧ x < m := by
              rcases atP_iff.mp hxt with y | y
              · rw [← y]; exact ⟨b1, b2⟩
              · rw [← y]; exact ⟨b3, b4⟩
            have := h2 x.toNat (by omega)
            rw [show ((x.toNat : Nat) : Int) = x by omega, hx] at this
            exact this rfl
          · exact h2
        have htL : t ∈ L := by
          have : t ∈ L.filter fun s => atP u (tieOf es s) := by rw [hft]; exact List.mem_singleton.mpr rfl
          exact (List.mem_filter.mp this).1
        have htc := hcond t htL
        have htu : atP u (tieOf es t) = true := by
          have : t ∈ L.filter fun s => atP u (tieOf es s) := by rw [hft]; exact List.mem_singleton.mpr rfl
          exact (List.mem_filter.mp this).2
        have hodd : ∀ S, LcS es hs ss S → (cnE u es fs % 2 = 1 ↔ t ∈ S) := fun S hS => leaf_odd hFn hFr hS.1 hS.2.1 htc.1 htc.2 (hac.loop (hLf t htL)) htu (fun z => hFd t z htL) fun s s0 s1 hst hsu => hU S hS s s0 s1 fun z => hst (by
          have : s ∈ L.filter fun s => atP u (tieOf es s) := List.mem_filter.mpr ⟨z, hsu⟩
          rw [hft] at this
          exact List.mem_singleton.mp this)
        refine ⟨_, rfl, r, _, rfl, SqT.of hr5, rfl, _, _, rfl, _, _, rfl, rfl, ?_⟩
        have s35 := s34.trans s5
        have f5 := s5 _ _ f4
        have e5 := s5 _ _ e4
        obtain ⟨j, hj1, hj2, hj3⟩ := first_ix htL
        have hfm : (fs.map V.int).length = fs.length := List.length_map ..
        refine ⟨fun σ' H' => ∃ (fs' : List Int) (v8 : Option V), σ' = [some (.int m), some (.ref l), some (.ref h), some (.ref a), some (.ref fo), some (.ref le), some (.ref r), some (.int u), v8, some (.int t)] ∧ Same H H' ∧ H' fo = some (.lst (fs'.map V.int)) ∧ H' le = some (.lst (L.map V.int)) ∧ fs'.Nodup ∧ (∀ t ∈ fs', 0 ≤ t ∧ t < (es.length : Int)) ∧ (∀ z ∈ fs', z = t ∨ ¬ z ∈ L) ∧ (t ∈ fs' ↔ cnE u es fs % 2 = 1) ∧ ∀ z : Int, z ≠ t → (z ∈ fs' ↔ z ∈ fs), ?_, ?_⟩
        · refine ⟨_, rfl, fo, _, rfl, .inl (SqL.of f5), fun J C O hC => lc_by O (fun i ys H6 => H6 = H5 ∧ ys = ((fs.take i).map fun t => (if (tieOf es t).1 = u then 1 else 0) + (if (tieOf es t).2 = u then (1 : Int) else 0)).map V.int) (by rw [hfm]; exact Nat.le_of_lt (small1000 (by omega))) ⟨rfl, rfl⟩ ?_ ?_ ?_⟩
          · rintro i ys H6 hi ⟨rfl, rfl⟩
            exact ⟨hC _ (Same.refl _), by rw [List.length_map, List.length_map, List.length_take]; omega⟩
          · rintro i ys H6 hi ⟨rfl, rfl⟩
            obtain ⟨v, ev, gv⟩ := getD_map_int hi
            rw [hfm] at hi
            have hv := hFr v (List.mem_of_getElem? gv)
            obtain ⟨g, ag, hg2, _⟩ := tie_get (hp.same s35) hv.1 hv.2
            have hT : Thin H6 (.ref g) := by
              have hgm : V.ref g ∈ xs := by
                unfold atI at ag
                obtain ⟨q, _, hq⟩ := Option.bind_eq_some_iff.mp ag
                exact List.mem_of_getElem? hq
              exact (hth _ hgm).same s35
            try dsimp only
            rw [ev]
            refine ⟨wk_set rfl, iteT ⟨_, rfl, _, rfl, l, xs, v, .ref g, rfl, rfl, s35.seq hl, ag, hT, _, rfl, g, _, _, rfl, rfl, hg2, rfl, rfl, small1000 (by rw [List.length_map, List.length_map, List.length_take]; omega), _, by omega, rfl, by omega, rfl, ?_⟩⟩
            rw [take_snoc gv, List.map_append, List.map_append, cnt_two]; rfl
          rintro ys H6 ⟨rfl, rfl⟩ lz nlz
          rw [hfm, List.take_length]
          obtain ⟨zs, ezs⟩ : ∃ zs, zs = fs.map fun t => (if (tieOf es t).1 = u then 1 else 0) + (if (tieOf es t).2 = u then (1 : Int) else 0) := ⟨_, rfl⟩
          have ecn : zs.sum = cnE u es fs := by rw [ezs]; rfl
          rw [← ezs]
          clear ezs
          refine ⟨lz, _, rfl, .inl (SqL.of upd_same), ?_⟩
          have s6 := s35.next (o := .lst (zs.map V.int)) nlz
          have f6 := Same.new (o := .lst (zs.map V.int)) nlz _ _ f5
          have e6 := Same.new (o := .lst (zs.map V.int)) nlz _ _ e5
          generalize upd H6 lz (.lst (zs.map V.int)) = H7 at s6 f6 e6
          refine ⟨_, _, rfl, rfl, (by show (0 : Int) < 2; decide), rfl, _, rfl, ite2 (fun c9 => ?_) (fun c9 => ?_)⟩
          · have c9' : zs.sum % 2 = 1 := by
              have := of_decide_eq_true c9
              injection this
            refine ⟨_, rfl, .inl ⟨rfl, _, SqL.of f6⟩, _, rfl, fo, _, _, rfl, rfl, f6, small1000 (by omega), ?_⟩
            refine ⟨fs ++ [t], _, rfl, s6.upd nfo, by rw [List.map_append]; exact upd_same, by rw [upd_ne nfl.symm]; exact e6, nodup_snoc hFn fun z => hFd t z htL, fun z hz => ?_, fun z hz => ?_, ⟨fun _ => ecn ▸ c9', fun _ => List.mem_append_right _ (List.mem_singleton.mpr rfl)⟩, fun z hz => ⟨fun y => (List.mem_append.mp y).elim id fun y => absurd (List.mem_singleton.mp y) hz, fun y => List.mem_append_left _ y⟩⟩
            · rcases List.mem_append.mp hz with y | y
              · exact hFr z y
              · rw [List.mem_singleton.mp y]; exact htc
            · rcases List.mem_append.mp hz with y | y
              · exact .inr (hFd z y)
              · exact .inl (List.mem_singleton.mp y)
          · exact ⟨fs, _, rfl, s6, f6, e6, hFn, hFr, fun z hz => .inr (hFd z hz), ⟨fun z => absurd htL (hFd t z), fun z => absurd (decide_eq_true (show V.int (zs.sum % 2) = V.int 1 by rw [ecn, z])) c9⟩, fun z _ => Iff.rfl⟩
        rintro σ' H6 ⟨fs', v8', rfl, s6, f6, e6, hn', hr', hd', hft', hfz'⟩
        refine ⟨_, rfl, .inl ⟨rfl, _, SqL.of e6⟩, _, rfl, le, L, t, j, rfl, rfl, e6, hj1, hj2, hj3, ?_⟩
        have hel : (L.eraseIdx j).length < L.length := by rw [List.length_eraseIdx, if_pos hj1]; omega
        have hee := erase_first L j hj1 hj2 hj3
        refine ⟨_, hel, L.eraseIdx j, fs', _, _, _, _, rfl, rfl, s6.upd leH, by rw [upd_ne nfl]; exact f6, upd_same, by omega, ?_, fun z hz => ?_, hn', hr', fun z hz hzL => ?_, fun S hS z z0 z1 hzL => ?_⟩
        · rw [hee]; exact hLn.erase t
        · rw [hee] at hz; exact hLf z (List.mem_of_mem_erase hz)
        · rw [hee] at hzL
          rcases hd' z hz with y | y
          · subst y
            exact (hLn.mem_erase_iff.mp hzL).1 rfl
          · exact y (List.mem_of_mem_erase hzL)
        · rw [hee] at hzL
          by_cases c : z = t
          · rw [c, hft']; exact hodd S hS
          · rw [hfz' z c]
            exact hU S hS z z0 z1 fun y => hzL ((List.mem_erase_of_ne c).mpr y)
def spLi (K : PySem.W.Frag) : Sp := fun vs H Q _ => ∃ (p q : Addr) (ns : List Int), vs = [.ref p, .ref q] ∧ H p = some (.lst (ns.map V.int)) ∧ SqL K H q (ns.map V.int) ∧ ns.length ≤ 900 ∧ ∀ H', Same H H' → Q (.bl true) H'
theorem scLi : FnScope ["found", "due"] ["found", "due"] (defScope sLi) := ⟨rfl, rfl, rfl, by decide +kernel, rfl, by decide +kernel, by decide +kernel⟩
theorem rep_tv : ∀ n : Nat, (List.replicate n (V.bl true)).all tv = true ∧ (List.replicate n (V.bl true)).all isBI = true
  | 0 => ⟨rfl, rfl⟩
  | n + 1 => by rw [List.replicate_succ, List.all_cons, List.all_cons, (rep_tv n).1, (rep_tv n).2]; exact ⟨rfl, rfl⟩
set_option maxHeartbeats 4000000 in
theorem ok_Li {f : Addr} {fd : FuncData} (F : Fun K "_law_list" "_law_list" sLi f fd) (T : Txt K mg c) (D_H : Def P w K mg base 1 "_law_whole" ["found"] (spH K)) : FnOk P w K mg base CX0 2 f fd ["found", "due"] (spLi K) := by
  refine F.ok scLi (fun vs H Q E h => ?_) (fun cdv A outer s H vs Q E hr h => ?_)
  · obtain ⟨p, q, ns, rfl, _⟩ := h
    rfl
  · obtain ⟨p, q, ns, rfl, hp, hq, hz, k⟩ := h
    refine ⟨_, pss_cons (ps_if (PW.pt (pw_or (pt_not (pt_val (pe_callB (cIs (K := K) rfl) (by rfl) T.isinstance PyProof.Rows.boot_isinstance (pa_cons (pv 0) (pa_cons (pe_bltn (v := .ty "list") (by rfl) T.list PyProof.Rows.boot_list rfl) pa_nil))))) (pw_or1 (pt_cmpR op_ne (pe_callB (cLen (K := K) rfl) (by rfl) T.len PySem.boot_len (pa_cons (pv 0) pa_nil)) (pe_callB (cLen (K := K) rfl) (by rfl) T.len PySem.boot_len (pa_cons (pv 1) pa_nil)) (nomark _)))))
        (pss_one (ps_ret (pe_bl))) (pss_nil))
      (pss_one (ps_ret (pe_callB (cAll (K := K) rfl rfl) (by rfl) T.all PyProof.Rows.boot_all (pa_cons (pe_lc (N' := ["k", "found", "due"]) (nl := 1) (js := [0, 1]) rfl (.of (osc := defScope sLi) (N := ["found", "due"]) (by decide +kernel) rfl rfl) (pi_range1 rfl T.range (pa_cons (pe_callB (cLen (K := K) rfl) (by rfl) T.len PySem.boot_len (pa_cons (pv 1) pa_nil)) pa_nil))
        (fun _ _ _ _ => pg_name (i := 0) (show (["k", "found", "due"] : List Str).Nodup by decide +kernel) rfl (Or.inl rfl)) (fun _ _ _ _ => pif_nil)
        (fun _ _ _ _ => pe_and (pe_defR D_H hr (pa_cons (pe_ix (ixL (K := K) rfl) (pv 1) (pv 0) (fun _ _ => rfl)) pa_nil)) (pe_one (pe_cmpR op_eq (pe_ix (ixL (K := K) rfl) (pv 1) (pv 0) (fun _ _ => rfl)) (pe_ix (ixL (K := K) rfl) (pv 2) (pv 0) (fun _ _ => rfl)) (nomark _))))) pa_nil)))), ?_⟩
    have hlm : (ns.map V.int).length = ns.length := List.length_map ..
    refine ⟨_, rfl, _, _, _, _, true, rfl, rfl, fun _ z => z, .of (.lst hp), kit_self _ _, _, rfl, iteF ?_⟩
    refine ⟨_, rfl, p, _, rfl, .inl (SqL.of hp), _, rfl, q, _, rfl, .inl hq, rfl, _, rfl, ?_⟩
    rw [decide_eq_true rfl]
    refine iteF ?_
    refine ⟨_, rfl, q, _, rfl, .inl hq, ((ns.map V.int).length : Int), rfl, by omega, by omega, lc_by itok_range (fun i ys H2 => H2 = H ∧ ys = List.replicate i (V.bl true)) (Nat.le_of_lt (small1000 (by omega))) ⟨rfl, rfl⟩ ?_ ?_ ?_⟩
    · rintro i ys H2 hi ⟨rfl, rfl⟩
      exact ⟨trivial, by rw [List.length_replicate]; exact Nat.le_refl _⟩
    · rintro i ys H hi ⟨rfl, rfl⟩
      have hi' : i < ns.length := by omega
      have a1 : atI (ns.map V.int) (0 + (i : Nat) : Int) = some (.int (ns.getD i 0)) := by
        have := at_int (ns := ns) (k := (0 + (i : Nat) : Int)) (by omega) (by omega)
        rwa [show (0 + (i : Nat) : Int).toNat = i by omega] at this
      refine ⟨wk_set rfl, iteT ⟨_, rfl, _, rfl, p, _, _, _, rfl, rfl, SqL.of hp, a1, _, rfl, _, rfl, iteT ⟨_, rfl, _, rfl, p, _, _, _, rfl, rfl, SqL.of hp, a1, _, rfl, _, rfl, q, _, _, _, rfl, rfl, hq, a1, rfl, ?_⟩⟩⟩
      rw [decide_eq_true rfl]
      refine ⟨small1000 (by rw [List.length_replicate]; omega), _, by omega, rfl, by omega, rfl, ?_⟩
      rw [List.replicate_succ']
    · rintro ys H ⟨rfl, rfl⟩ l nl
      refine ⟨l, _, rfl, .inl (SqL.of upd_same), (rep_tv _).2, ?_⟩
      rw [(rep_tv _).1]
      exact k _ (Same.new nl)
def spBs (K : PySem.W.Frag) : Sp := fun vs H Q _ => ∃ (q : Addr) (ss : List Int) (n : Nat) (ce : Int), vs = [.ref q, .int n, .int ce] ∧ SqL K H q (ss.map V.int) ∧ SetOk n ss ∧ n ≤ 40 ∧
  ∀ (l : Addr) (bs : List Int) (H' : Hp), H l = none → Same H H' → H' l = some (.lst (bs.map V.int)) → ¬ SetOk n bs → bs.length ≤ 60 → Q (.ref l) H'
theorem scBs : FnScope ["some", "count", "cell", "bad", "far", "way", "at"] ["some", "count", "cell"] (defScope sBs) := ⟨rfl, rfl, rfl, by decide +kernel, rfl, by decide +kernel, by decide +kernel⟩
theorem bad_out {n : Nat} {bs : List Int} {t : Int} (hm : t ∈ bs) (h : t < 0 ∨ (n : Int) ≤ t) : ¬ SetOk n bs := fun z => by have := z.rng t hm; omega
theorem bad_up {n : Nat} {bs : List Int} {i : Nat} (hi : i + 1 < bs.length) (h : bs.getD (i + 1) 0 ≤ bs.getD i 0) : ¬ SetOk n bs := fun z => by have := up_get z.up hi; omega
theorem cat_at {xs ys : List Int} {i : Nat} (h : xs.length = i) (j : Nat) : (xs ++ ys).getD (i + j) 0 = ys.getD j 0 := by
  rw [List.getD_eq_getElem?_getD, List.getElem?_append_right (by omega), show i + j - xs.length = j by omega, List.getD_eq_getElem?_getD]
set_option maxHeartbeats 8000000 in
theorem ok_Bs {f : Addr} {fd : FuncData} (F : Fun K "_law_bad_set" "_law_bad_set" sBs f fd) (T : Txt K mg c) : FnOk P w K mg base CX0 1 f fd ["some", "count", "cell"] (spBs K) := by
  refine F.ok scBs (fun vs H Q E h => ?_) (fun cdv A outer s H vs Q E hr h => ?_)
  · obtain ⟨q, ss, n, ce, rfl, _⟩ := h
    rfl
  · obtain ⟨q, ss, n, ce, rfl, hq, ok, hn, k⟩ := h
    have hu : A.units + 3 + 64 < cLine := hr.units
    refine ⟨_, pss_cons (ps_set (i := 3) scBs.nd rfl (Or.inl rfl) (pe_callTy (cList (K := K) rfl) (by rfl) T.list PyProof.Rows.boot_list (pa_cons (pv 0) pa_nil)))
      (pss_cons (ps_cut (ps_set (i := 4) scBs.nd rfl (Or.inl rfl) (pe_op op_mod (pe_op op_fdiv (pv 2) (pe_int)) (pe_op op_pow (pe_int) (pe_int)))))
      (pss_cons (ps_cut (ps_set (i := 5) scBs.nd rfl (Or.inl rfl) (pe_op op_mod (pv 2) (pe_int))))
      (pss_cons (ps_cut (ps_if (PW.pt (pw_and (pt_cmpR op_eq (pv 5) (pe_int) (nomark _)) (pw_and1 (pt_cmpR (opNeD (K := K) rfl hu) (pv 3) (pe_lst pa_nil) (nomark _)))))
        (pss_one (ps_expr (pe_bm PySem.F.plainAttrs_list PySem.F.slot_list_insert PySem.F.type_list_insert mt_insI (pv 3) (pa_cons (pe_op op_mod (pe_op op_fdiv (pv 2) (pe_int)) (pe_callB (cLen (K := K) rfl) (by rfl) T.len PySem.boot_len (pa_cons (pv 3) pa_nil))) (pa_cons (pe_ix (ixL (K := K) rfl) (pv 3) (pe_op op_mod (pe_op op_fdiv (pv 2) (pe_int)) (pe_callB (cLen (K := K) rfl) (by rfl) T.len PySem.boot_len (pa_cons (pv 3) pa_nil))) (fun _ _ => rfl)) pa_nil))))) (pss_one (ps_cut (ps_if (PW.pt (pw_and (pt_cmpR op_eq (pv 5) (pe_int) (nomark _)) (pw_and1 (pt_cmpR op_gt (pe_callB (cLen (K := K) rfl) (by rfl) T.len PySem.boot_len (pa_cons (pv 3) pa_nil)) (pe_int) (nomark _)))))
        (pss_cons (ps_set (i := 6) scBs.nd rfl (Or.inl rfl) (pe_op op_add (pe_int) (pe_op op_mod (pe_op op_fdiv (pv 2) (pe_int)) (pe_op op_sub (pe_callB (cLen (K := K) rfl) (by rfl) T.len PySem.boot_len (pa_cons (pv 3) pa_nil)) (pe_int)))))
      (pss_one (ps_asg (pe_lst (pa_cons (pe_ix (ixL (K := K) rfl) (pv 3) (pv 6) (fun _ _ => rfl)) (pa_cons (pe_ix (ixL (K := K) rfl) (pv 3) (pe_op op_sub (pv 6) (pe_int)) (fun _ _ => rfl)) pa_nil))) (pg_slS (pv 3) (po_some (pe_op op_sub (pv 6) (pe_int))) (po_some (pe_op op_add (pv 6) (pe_int))))))) (pss_one (ps_cut (ps_if (pt_cmpR op_eq (pv 5) (pe_int) (nomark _))
        (pss_one (ps_expr (pe_bm PySem.F.plainAttrs_list PySem.F.slot_list_insert PySem.F.type_list_insert mt_insI (pv 3) (pa_cons (pe_int) (pa_cons (pe_op op_sub (pe_un un_neg (pe_int)) (pe_op op_mulB (pv 4) (pe_op op_mod (pe_op op_fdiv (pv 2) (pe_int)) (pe_int)))) pa_nil))))) (pss_one (ps_cut (ps_if (pt_cmpR op_eq (pv 5) (pe_int) (nomark _))
        (pss_one (ps_expr (pe_bm PySem.F.plainAttrs_list PySem.F.slot_list_append PySem.F.type_list_append mt_append (pv 3) (pa_cons (pe_op op_add (pv 1) (pe_op op_mulB (pv 4) (pe_op op_mod (pe_op op_fdiv (pv 2) (pe_int)) (pe_int)))) pa_nil)))) (pss_one (ps_set (i := 3) scBs.nd rfl (Or.inl rfl) (pe_op op_cat (pe_lst (pa_cons (pe_un un_neg (pe_int)) pa_nil)) (pv 3)))))))))))))))
      (pss_one (ps_ret (pv 3)))))), ?_⟩
    have hsl := ok.len
    have hsm : (ss.map V.int).length = ss.length := List.length_map ..
    refine ⟨_, rfl, q, _, rfl, .inl hq, fun lb nlb => ?_⟩
    have s1 := Same.new (o := .lst (ss.map V.int)) nlb
    have e1 : (upd H lb (.lst (ss.map V.int))) lb = some (.lst (ss.map V.int)) := upd_same
    generalize upd H lb (.lst (ss.map V.int)) = H1 at s1 e1
    refine ⟨fun σ' H' => H' = H1 ∧ ∃ fa : Int, 0 ≤ fa ∧ fa < 10 ^ 40 ∧ σ' = [some (.ref q), some (.int n), some (.int ce), some (.ref lb), some (.int fa), none, none], ?_, ?_⟩
    · refine ⟨_, rfl, _, _, rfl, rfl, ⟨by decide, by decide⟩, _, _, rfl, rfl, ⟨by decide, by decide, by decide⟩, _, _, rfl, rfl, (by show (0 : Int) < (10 : Int) ^ (40 : Int).toNat; decide), rfl, _, Int.emod_nonneg _ (by decide), Int.emod_lt_of_pos _ (by decide), rfl⟩
    rintro σ' H' ⟨rfl, fa, fa0, fa1, rfl⟩
    refine ⟨fun σ' H1 => H1 = H' ∧ ∃ wy : Int, σ' = [some (.ref q), some (.int n), some (.int ce), some (.ref lb), some (.int fa), some (.int wy), none], ?_, ?_⟩
    · exact ⟨_, rfl, _, _, rfl, rfl, (by show (0 : Int) < 5; decide), rfl, _, rfl⟩
    rintro σ' H1 ⟨rfl, wy, rfl⟩
    obtain ⟨Post, hP⟩ : ∃ Post : L2.St → Hp → Prop, Post = fun σ' H' => ∃ (lb : Addr) (bs : List Int) (v6 : Option V), σ' = [some (.ref q), some (.int n), some (.int ce), some (.ref lb), some (.int fa), some (.int wy), v6] ∧ H lb = none ∧ Same H H' ∧ H' lb = some (.lst (bs.map V.int)) ∧ ¬ SetOk n bs ∧ bs.length ≤ 60 := ⟨_, rfl⟩
    have fd2 := fun z : Int => Int.emod_nonneg z (show (2 : Int) ≠ 0 by decide)
    have fd3 := fun z : Int => Int.emod_lt_of_pos z (show (0 : Int) < 2 by decide)
    refine ⟨Post, ?_, ?_⟩
    · refine ⟨_, rfl, rfl, _, rfl, ?_⟩
      refine ite2 (fun c1 => ?_) (fun c1 => ?_)
      · refine ⟨_, rfl, by decide, fun l0 n0 => ?_⟩
        have s2 := s1.next (o := .lst []) n0
        have e2 := Same.new (o := .lst []) n0 _ _ e1
        have e0 : (upd H1 l0 (.lst [])) l0 = some (.lst (([] : List Int).map V.int)) := upd_same
        generalize upd H1 l0 (.lst []) = H2 at s2 e2 e0
        refine ⟨dI ss, dI [], dat_ints (SqL.of e2), dat_ints (SqL.of e0), shaped_dI _, shaped_dI _, _, rfl, ?_⟩
        rw [eqv_dI]
        by_cases hs0 : ss = []
        · rw [decide_eq_true hs0]
          refine iteF ?_
          refine ⟨Post, ?_, fun _ _ h => h⟩
          refine ⟨_, rfl, rfl, _, rfl, ite2 (fun _ => ?_) (fun _ => ?_)⟩
          · refine ⟨_, rfl, lb, _, rfl, .inl (SqL.of e2), _, _, rfl, rfl, _, rfl, ite2 (fun c2 => ?_) (fun c2 => ?_)⟩
            · have c2' : ((ss.map V.int).length : Int) > 1 := of_decide_eq_true c2
              have g0 := Int.emod_nonneg (ce / 5) (show ((ss.map V.int).length : Int) - 1 ≠ 0 by omega)
              have g1 := Int.emod_lt_of_pos (ce / 5) (show (0 : Int) < ((ss.map V.int).length : Int) - 1 by omega)
              refine ⟨_, rfl, _, _, rfl, rfl, ⟨by decide, by decide⟩, _, rfl, lb, _, rfl, .inl (SqL.of e2), _, _, rfl, rfl, _, _, rfl, rfl, (by show (0 : Int) < ((ss.map V.int).length : Int) - 1; omega), _, _, rfl, rfl, ?_⟩
              obtain ⟨g, hg⟩ : ∃ g : Nat, (g : Int) = ce / 5 % (((ss.map V.int).length : Int) - 1) := ⟨(ce / 5 % (((ss.map V.int).length : Int) - 1)).toNat, by omega⟩
              rw [← hg] at g1 ⊢
              have a1 : atI (ss.map V.int) (1 + (g : Int)) = some (.int (ss.getD (g + 1) 0)) := by
                have := at_int (ns := ss) (k := (1 + (g : Int))) (by omega) (by omega)
                rwa [show (1 + (g : Int)).toNat = g + 1 by omega] at this
              have a0 : atI (ss.map V.int) (1 + (g : Int) - 1) = some (.int (ss.getD g 0)) := by
                have := at_int (ns := ss) (k := (1 + (g : Int) - 1)) (by omega) (by omega)
                rwa [show (1 + (g : Int) - 1).toNat = g by omega] at this
              refine ⟨_, rfl, _, rfl, lb, _, _, _, rfl, rfl, SqL.of e2, a1, _, rfl, _, rfl, _, _, rfl, rfl, lb, _, _, _, rfl, rfl, SqL.of e2, a0, (by show 2 ≤ sizeLine; decide), fun l1 n1 => ?_⟩
              have sN := s2.next (o := .lst [V.int (ss.getD (g + 1) 0), V.int (ss.getD g 0)]) n1
              have eN := Same.new (o := .lst [V.int (ss.getD (g + 1) 0), V.int (ss.getD g 0)]) n1 _ _ e2
              have nN : lb ≠ l1 := ne_of_none e2 n1
              refine ⟨_, rfl, _, rfl, _, _, rfl, rfl, _, rfl, _, rfl, _, _, rfl, rfl, _, rfl, lb, l1, _, _, g, g + 2, rfl, by congr 1; omega, by congr 1; omega, rfl, nN, eN, upd_same, by omega, by omega, by show (ss.map V.int).length + 2 ≤ 1000; omega, ?_⟩
              rw [hP]
              have hgl : g + 1 < ss.length := by omega
              refine ⟨lb, ss.take g ++ [ss.getD (g + 1) 0, ss.getD g 0] ++ ss.drop (g + 2), _, rfl, nlb, sN.upd nlb, by rw [upd_same, List.map_append, List.map_append, List.map_take, List.map_drop]; rfl, ?_, by rw [List.length_append, List.length_append, List.length_take, List.length_drop]; show min g ss.length + 2 + (ss.length - (g + 2)) ≤ 60; omega⟩
              have hlt := up_get ok.up hgl
              have htl : (ss.take g).length = g := by rw [List.length_take]; omega
              refine bad_up (i := g) (by rw [List.length_append, List.length_append, htl]; show g + 1 < g + 2 + _; omega) ?_
              rw [List.append_assoc, cat_at htl 1]
              have z0 : (ss.take g ++ ([ss.getD (g + 1) 0, ss.getD g 0] ++ ss.drop (g + 2))).getD g 0 = ss.getD (g + 1) 0 := cat_at (ys := [ss.getD (g + 1) 0, ss.getD g 0] ++ ss.drop (g + 2)) htl 0
              rw [z0]
              show ss.getD g 0 ≤ ss.getD (g + 1) 0
              omega
            · refine ⟨Post, ?_, fun _ _ h => h⟩
              refine ⟨_, rfl, rfl, _, rfl, ite2 (fun _ => ?_) (fun _ => ?_)⟩
              · refine ⟨_, rfl, .inl ⟨rfl, _, SqL.of e2⟩, _, rfl, _, rfl, _, rfl, _, _, rfl, rfl, ⟨by decide, by decide⟩, _, _, rfl, rfl, (by show (0 : Int) < 2; decide), _, _, rfl, rfl, ⟨by omega, by have := fd2 (ce / 5); have := fd3 (ce / 5); omega⟩, _, _, rfl, rfl, lb, _, _, _, rfl, rfl, e2, by decide, by omega, by omega, ?_⟩
                rw [hP]
                refine ⟨lb, (-1 - fa * (ce / 5 % 2)) :: ss, _, rfl, nlb, s2.upd nlb, by rw [upd_same]; rfl, bad_out List.mem_cons_self (.inl ?_), by rw [List.length_cons]; omega⟩
                have := Int.mul_nonneg fa0 (fd2 (ce / 5))
                omega
              · refine ⟨Post, ?_, fun _ _ h => h⟩
                refine ⟨_, rfl, rfl, _, rfl, ite2 (fun _ => ?_) (fun _ => ?_)⟩
                · refine ⟨_, rfl, .inl ⟨rfl, _, SqL.of e2⟩, _, rfl, _, rfl, _, rfl, _, _, rfl, rfl, ⟨by decide, by decide⟩, _, _, rfl, rfl, (by show (0 : Int) < 2; decide), _, _, rfl, rfl, ⟨by omega, by have := fd2 (ce / 5); have := fd3 (ce / 5); omega⟩, _, _, rfl, rfl, lb, _, _, rfl, rfl, e2, small1000 (by omega), ?_⟩
                  rw [hP]
                  refine ⟨lb, ss ++ [(n : Int) + fa * (ce / 5 % 2)], _, rfl, nlb, s2.upd nlb, by rw [List.map_append]; exact upd_same, bad_out (List.mem_append_right _ (List.mem_singleton.mpr rfl)) (.inr ?_), by rw [List.length_append]; show ss.length + 1 ≤ 60; omega⟩
                  have := Int.mul_nonneg fa0 (fd2 (ce / 5))
                  omega
                · refine ⟨_, rfl, (by show 1 ≤ sizeLine; decide), fun l1 n1 => ?_⟩
                  have sN := s2.next (o := .lst [V.int (-1)]) n1
                  have eN := Same.new (o := .lst [V.int (-1)]) n1 _ _ e2
                  refine ⟨_, rfl, l1, lb, _, _, rfl, rfl, upd_same, eN, Nat.le_of_lt (small1000 (by show 1 + (ss.map V.int).length ≤ 1000; omega)), fun l2 n2 => ?_⟩
                  rw [hP]
                  exact ⟨l2, (-1) :: ss, _, rfl, none_back sN n2, sN.next n2, upd_same, bad_out List.mem_cons_self (.inl (by decide)), by rw [List.length_cons]; omega⟩
          · refine iteF ?_
            refine ⟨Post, ?_, fun _ _ h => h⟩
            refine ⟨_, rfl, rfl, _, rfl, ite2 (fun _ => ?_) (fun _ => ?_)⟩
            · refine ⟨_, rfl, .inl ⟨rfl, _, SqL.of e2⟩, _, rfl, _, rfl, _, rfl, _, _, rfl, rfl, ⟨by decide, by decide⟩, _, _, rfl, rfl, (by show (0 : Int) < 2; decide), _, _, rfl, rfl, ⟨by omega, by have := fd2 (ce / 5); have := fd3 (ce / 5); omega⟩, _, _, rfl, rfl, lb, _, _, _, rfl, rfl, e2, by decide, by omega, by omega, ?_⟩
              rw [hP]
              refine ⟨lb, (-1 - fa * (ce / 5 % 2)) :: ss, _, rfl, nlb, s2.upd nlb, by rw [upd_same]; rfl, bad_out List.mem_cons_self (.inl ?_), by rw [List.length_cons]; omega⟩
              have := Int.mul_nonneg fa0 (fd2 (ce / 5))
              omega
            · refine ⟨Post, ?_, fun _ _ h => h⟩
              refine ⟨_, rfl, rfl, _, rfl, ite2 (fun _ => ?_) (fun _ => ?_)⟩
              · refine ⟨_, rfl, .inl ⟨rfl, _, SqL.of e2⟩, _, rfl, _, rfl, _, rfl, _, _, rfl, rfl, ⟨by decide, by decide⟩, _, _, rfl, rfl, (by show (0 : Int) < 2; decide), _, _, rfl, rfl, ⟨by omega, by have := fd2 (ce / 5); have := fd3 (ce / 5); omega⟩, _, _, rfl, rfl, lb, _, _, rfl, rfl, e2, small1000 (by omega), ?_⟩
                rw [hP]
                refine ⟨lb, ss ++ [(n : Int) + fa * (ce / 5 % 2)], _, rfl, nlb, s2.upd nlb, by rw [List.map_append]; exact upd_same, bad_out (List.mem_append_right _ (List.mem_singleton.mpr rfl)) (.inr ?_), by rw [List.length_append]; show ss.length + 1 ≤ 60; omega⟩
                have := Int.mul_nonneg fa0 (fd2 (ce / 5))
                omega
              · refine ⟨_, rfl, (by show 1 ≤ sizeLine; decide), fun l1 n1 => ?_⟩
                have sN := s2.next (o := .lst [V.int (-1)]) n1
                have eN := Same.new (o := .lst [V.int (-1)]) n1 _ _ e2
                refine ⟨_, rfl, l1, lb, _, _, rfl, rfl, upd_same, eN, Nat.le_of_lt (small1000 (by show 1 + (ss.map V.int).length ≤ 1000; omega)), fun l2 n2 => ?_⟩
                rw [hP]
                exact ⟨l2, (-1) :: ss, _, rfl, none_back sN n2, sN.next n2, upd_same, bad_out List.mem_cons_self (.inl (by decide)), by rw [List.length_cons]; omega⟩
        · rw [decide_eq_false hs0]
          refine iteT ?_
          have hp : 0 < ss.length := List.length_pos_iff.mpr hs0
          have g0 := Int.emod_nonneg (ce / 5) (show ((ss.map V.int).length : Int) ≠ 0 by omega)
          have g1 := Int.emod_lt_of_pos (ce / 5) (show (0 : Int) < ((ss.map V.int).length : Int) by omega)
          obtain ⟨g, hg⟩ : ∃ g : Nat, (g : Int) = ce / 5 % ((ss.map V.int).length : Int) := ⟨(ce / 5 % ((ss.map V.int).length : Int)).toNat, by omega⟩
          have a1 : atI (ss.map V.int) (ce / 5 % ((ss.map V.int).length : Int)) = some (.int (ss.getD g 0)) := by
            rw [← hg]
            have := at_int (ns := ss) (k := (g : Int)) (by omega) (by omega)
            rwa [Int.toNat_natCast] at this
          refine ⟨_, rfl, .inl ⟨rfl, _, SqL.of e2⟩, _, rfl, _, _, rfl, rfl, ⟨by decide, by decide⟩, _, rfl, lb, _, rfl, .inl (SqL.of e2), _, _, rfl, rfl, (by show (0 : Int) < ((ss.map V.int).length : Int); omega), _, rfl, _, rfl, _, _, rfl, rfl, ⟨by decide, by decide⟩, _, rfl, lb, _, rfl, .inl (SqL.of e2), _, _, rfl, rfl, (by show (0 : Int) < ((ss.map V.int).length : Int); omega), lb, _, _, _, rfl, rfl, SqL.of e2, a1, ?_⟩
          refine ⟨lb, _, _, _, rfl, rfl, e2, g0, by omega, by omega, ?_⟩
          rw [hP, ← hg, Int.toNat_natCast]
          have hgl : g < ss.length := by omega
          have htl : (ss.take g).length = g := by rw [List.length_take]; omega
          refine ⟨lb, ss.take g ++ ss.getD g 0 :: ss.drop g, _, rfl, nlb, s2.upd nlb, by rw [upd_same, List.map_append, List.map_cons, List.map_take, List.map_drop], ?_, by rw [List.length_append, List.length_cons, List.length_take, List.length_drop]; omega⟩
          refine bad_up (i := g) (by rw [List.length_append, htl, List.length_cons, List.length_drop]; omega) ?_
          have z0 := cat_at (ys := ss.getD g 0 :: ss.drop g) htl 0
          rw [Nat.add_zero] at z0
          rw [cat_at htl 1, z0]
          show (ss.drop g).getD 0 0 ≤ ss.getD g 0
          rw [List.getD_eq_getElem?_getD, List.getElem?_drop, Nat.add_zero, List.getD_eq_getElem?_getD]
          exact Int.le_refl _
      · refine iteF ?_
        refine ⟨Post, ?_, fun _ _ h => h⟩
        refine ⟨_, rfl, rfl, _, rfl, ite2 (fun _ => ?_) (fun _ => ?_)⟩
        · refine ⟨_, rfl, lb, _, rfl, .inl (SqL.of e1), _, _, rfl, rfl, _, rfl, ite2 (fun c2 => ?_) (fun c2 => ?_)⟩
          · have c2' : ((ss.map V.int).length : Int) > 1 := of_decide_eq_true c2
            have g0 := Int.emod_nonneg (ce / 5) (show ((ss.map V.int).length : Int) - 1 ≠ 0 by omega)
            have g1 := Int.emod_lt_of_pos (ce / 5) (show (0 : Int) < ((ss.map V.int).length : Int) - 1 by omega)
            refine ⟨_, rfl, _, _, rfl, rfl, ⟨by decide, by decide⟩, _, rfl, lb, _, rfl, .inl (SqL.of e1), _, _, rfl, rfl, _, _, rfl, rfl, (by show (0 : Int) < ((ss.map V.int).length : Int) - 1; omega), _, _, rfl, rfl, ?_⟩
            obtain ⟨g, hg⟩ : ∃ g : Nat, (g : Int) = ce / 5 % (((ss.map V.int).length : Int) - 1) := ⟨(ce / 5 % (((ss.map V.int).length : Int) - 1)).toNat, by omega⟩
            rw [← hg] at g1 ⊢
            have a1 : atI (ss.map V.int) (1 + (g : Int)) = some (.int (ss.getD (g + 1) 0)) := by
              have := at_int (ns := ss) (k := (1 + (g : Int))) (by omega) (by omega)
              rwa [show (1 + (g : Int)).toNat = g + 1 by omega] at this
            have a0 : atI (ss.map V.int) (1 + (g : Int) - 1) = some (.int (ss.getD g 0)) := by
              have := at_int (ns := ss) (k := (1 + (g : Int) - 1)) (by omega) (by omega)
              rwa [show (1 + (g : Int) - 1).toNat = g by omega] at this
            refine ⟨_, rfl, _, rfl, lb, _, _, _, rfl, rfl, SqL.of e1, a1, _, rfl, _, rfl, _, _, rfl, rfl, lb, _, _, _, rfl, rfl, SqL.of e1, a0, (by show 2 ≤ sizeLine; decide), fun l1 n1 => ?_⟩
            have sN := s1.next (o := .lst [V.int (ss.getD (g + 1) 0), V.int (ss.getD g 0)]) n1
            have eN := Same.new (o := .lst [V.int (ss.getD (g + 1) 0), V.int (ss.getD g 0)]) n1 _ _ e1
            have nN : lb ≠ l1 := ne_of_none e1 n1
            refine ⟨_, rfl, _, rfl, _, _, rfl, rfl, _, rfl, _, rfl, _, _, rfl, rfl, _, rfl, lb, l1, _, _, g, g + 2, rfl, by congr 1; omega, by congr 1; omega, rfl, nN, eN, upd_same, by omega, by omega, by show (ss.map V.int).length + 2 ≤ 1000; omega, ?_⟩
            rw [hP]
            have hgl : g + 1 < ss.length := by omega
            refine ⟨lb, ss.take g ++ [ss.getD (g + 1) 0, ss.getD g 0] ++ ss.drop (g + 2), _, rfl, nlb, sN.upd nlb, by rw [upd_same, List.map_append, List.map_append, List.map_take, List.map_drop]; rfl, ?_, by rw [List.length_append, List.length_append, List.length_take, List.length_drop]; show min g ss.length + 2 + (ss.length - (g + 2)) ≤ 60; omega⟩
            have hlt := up_get ok.up hgl
            have htl : (ss.take g).length = g := by rw [List.length_take]; omega
            refine bad_up (i := g) (by rw [List.length_append, List.length_append, htl]; show g + 1 < g + 2 + _; omega) ?_
            rw [List.append_assoc, cat_at htl 1]
            have z0 : (ss.take g ++ ([ss.getD (g + 1) 0, ss.getD g 0] ++ ss.drop (g + 2))).getD g 0 = ss.getD (g + 1) 0 := cat_at (ys := [ss.getD (g + 1) 0, ss.getD g 0] ++ ss.drop (g + 2)) htl 0
            rw [z0]
            show ss.getD g 0 ≤ ss.getD (g + 1) 0
            omega
          · refine ⟨Post, ?_, fun _ _ h => h⟩
            refine ⟨_, rfl, rfl, _, rfl, ite2 (fun _ => ?_) (fun _ => ?_)⟩
            · refine ⟨_, rfl, .inl ⟨rfl, _, SqL.of e1⟩, _, rfl, _, rfl, _, rfl, _, _, rfl, rfl, ⟨by decide, by decide⟩, _, _, rfl, rfl, (by show (0 : Int) < 2; decide), _, _, rfl, rfl, ⟨by omega, by have := fd2 (ce / 5); have := fd3 (ce / 5); omega⟩, _, _, rfl, rfl, lb, _, _, _, rfl, rfl, e1, by decide, by omega, by omega, ?_⟩
              rw [hP]
              refine ⟨lb, (-1 - fa * (ce / 5 % 2)) :: ss, _, rfl, nlb, s1.upd nlb, by rw [upd_same]; rfl, bad_out List.mem_cons_self (.inl ?_), by rw [List.length_cons]; omega⟩
              have := Int.mul_nonneg fa0 (fd2 (ce / 5))
              omega
            · refine ⟨Post, ?_, fun _ _ h => h⟩
              refine ⟨_, rfl, rfl, _, rfl, ite2 (fun _ => ?_) (fun _ => ?_)⟩
              · refine ⟨_, rfl, .inl ⟨rfl, _, SqL.of e1⟩, _, rfl, _, rfl, _, rfl, _, _, rfl, rfl, ⟨by decide, by decide⟩, _, _, rfl, rfl, (by show (0 : Int) < 2; decide), _, _, rfl, rfl, ⟨by omega, by have := fd2 (ce / 5); have := fd3 (ce / 5); omega⟩, _, _, rfl, rfl, lb, _, _, rfl, rfl, e1, small1000 (by omega), ?_⟩
                rw [hP]
                refine ⟨lb, ss ++ [(n : Int) + fa * (ce / 5 % 2)], _, rfl, nlb, s1.upd nlb, by rw [List.map_append]; exact upd_same, bad_out (List.mem_append_right _ (List.mem_singleton.mpr rfl)) (.inr ?_), by rw [List.length_append]; show ss.length + 1 ≤ 60; omega⟩
                have := Int.mul_nonneg fa0 (fd2 (ce / 5))
                omega
              · refine ⟨_, rfl, (by show 1 ≤ sizeLine; decide), fun l1 n1 => ?_⟩
                have sN := s1.next (o := .lst [V.int (-1)]) n1
                have eN := Same.new (o := .lst [V.int (-1)]) n1 _ _ e1
                refine ⟨_, rfl, l1, lb, _, _, rfl, rfl, upd_same, eN, Nat.le_of_lt (small1000 (by show 1 + (ss.map V.int).length ≤ 1000; omega)), fun l2 n2 => ?_⟩
                rw [hP]
                exact ⟨l2, (-1) :: ss, _, rfl, none_back sN n2, sN.next n2, upd_same, bad_out List.mem_cons_self (.inl (by decide)), by rw [List.length_cons]; omega⟩
        · refine iteF ?_
          refine ⟨Post, ?_, fun _ _ h => h⟩
          refine ⟨_, rfl, rfl, _, rfl, ite2 (fun _ => ?_) (fun _ => ?_)⟩
          · refine ⟨_, rfl, .inl ⟨rfl, _, SqL.of e1⟩, _, rfl, _, rfl, _, rfl, _, _, rfl, rfl, ⟨by decide, by decide⟩, _, _, rfl, rfl, (by show (0 : Int) < 2; decide), _, _, rfl, rfl, ⟨by omega, by have := fd2 (ce / 5); have := fd3 (ce / 5); omega⟩, _, _, rfl, rfl, lb, _, _, _, rfl, rfl, e1, by decide, by omega, by omega, ?_⟩
            rw [hP]
            refine ⟨lb, (-1 - fa * (ce / 5 % 2)) :: ss, _, rfl, nlb, s1.upd nlb, by rw [upd_same]; rfl, bad_out List.mem_cons_self (.inl ?_), by rw [List.length_cons]; omega⟩
            have := Int.mul_nonneg fa0 (fd2 (ce / 5))
            omega
          · refine ⟨Post, ?_, fun _ _ h => h⟩
            refine ⟨_, rfl, rfl, _, rfl, ite2 (fun _ => ?_) (fun _ => ?_)⟩
            · refine ⟨_, rfl, .inl ⟨rfl, _, SqL.of e1⟩, _, rfl, _, rfl, _, rfl, _, _, rfl, rfl, ⟨by decide, by decide⟩, _, _, rfl, rfl, (by show (0 : Int) < 2; decide), _, _, rfl, rfl, ⟨by omega, by have := fd2 (ce / 5); have := fd3 (ce / 5); omega⟩, _, _, rfl, rfl, lb, _, _, rfl, rfl, e1, small1000 (by omega), ?_⟩
              rw [hP]
              refine ⟨lb, ss ++ [(n : Int) + fa * (ce / 5 % 2)], _, rfl, nlb, s1.upd nlb, by rw [List.map_append]; exact upd_same, bad_out (List.mem_append_right _ (List.mem_singleton.mpr rfl)) (.inr ?_), by rw [List.length_append]; show ss.length + 1 ≤ 60; omega⟩
              have := Int.mul_nonneg fa0 (fd2 (ce / 5))
              omega
            · refine ⟨_, rfl, (by show 1 ≤ sizeLine; decide), fun l1 n1 => ?_⟩
              have sN := s1.next (o := .lst [V.int (-1)]) n1
              have eN := Same.new (o := .lst [V.int (-1)]) n1 _ _ e1
              refine ⟨_, rfl, l1, lb, _, _, rfl, rfl, upd_same, eN, Nat.le_of_lt (small1000 (by show 1 + (ss.map V.int).length ≤ 1000; omega)), fun l2 n2 => ?_⟩
              rw [hP]
              exact ⟨l2, (-1) :: ss, _, rfl, none_back sN n2, sN.next n2, upd_same, bad_out List.mem_cons_self (.inl (by decide)), by rw [List.length_cons]; omega⟩
    · rw [hP]
      rintro σ' H' ⟨lb, bs, v6, rfl, nl, s', e', hb, hl⟩
      exact ⟨_, rfl, k lb bs H' nl s' e' hb hl⟩
def spOr (K : PySem.W.Frag) : Sp := fun vs H Q _ => ∃ (a : Addr) (ns : List Int) (n : Nat), vs = [.ref a, .int n] ∧ SqL K H a (ns.map V.int) ∧ n ≤ 40 ∧
  ∀ (l : Addr) (os : List Int) (H' : Hp), H l = none → Same H H' → H' l = some (.lst (os.map V.int)) → os.Perm (upto n) → Q (.ref l) H'
theorem scOr : FnScope ["script", "many", "order", "k"] ["script", "many"] (defScope sOr) := ⟨rfl, rfl, rfl, by decide +kernel, rfl, by decide +kernel, by decide +kernel⟩
set_option maxHeartbeats 4000000 in
theorem ok_Or {f : Addr} {fd : FuncData} (F : Fun K "_law_order" "_law_order" sOr f fd) (T : Txt K mg c) (D_C : Def P w K mg base 1 "_law_cell" ["script", "k"] (spC K)) : FnOk P w K mg base CX0 2 f fd ["script", "many"] (spOr K) := by
  refine F.ok scOr (fun vs H Q E h => ?_) (fun cdv A outer s H vs Q E hr h => ?_)
  · obtain ⟨a, ns, n, rfl, _⟩ := h
    rfl
  · obtain ⟨a, ns, n, rfl, hS, hn, k⟩ := h
    refine ⟨_, pss_cons (ps_set (i := 2) scOr.nd rfl (Or.inl rfl) (pe_lst pa_nil))
      (pss_cons (ps_for PassesOwn.never rfl (pi_range1 rfl T.range (pa_cons (pv 1) pa_nil)) (pg_name (i := 3) scOr.nd rfl (Or.inl rfl))
        (pss_one (ps_expr (pe_bm PySem.F.plainAttrs_list PySem.F.slot_list_insert PySem.F.type_list_insert mt_insI (pv 2) (pa_cons (pe_op op_mod (pe_op op_fdiv (pe_op op_add (pe_defR D_C hr (pa_cons (pv 0) (pa_cons (pv 3) pa_nil))) (pe_op op_mulB (pe_int) (pv 3))) (pe_int)) (pe_op op_add (pv 3) (pe_int))) (pa_cons (pv 3) pa_nil))))))
      (pss_one (ps_ret (pv 2)))), ?_⟩
    refine ⟨by decide, fun lo nlo => ?_⟩
    have s1 := Same.new (o := .lst []) nlo
    have e1 : (upd H lo (.lst [])) lo = some (.lst (([] : List Int).map V.int)) := upd_same
    generalize upd H lo (.lst []) = H1 at s1 e1
    refine ⟨_, rfl, (n : Int), rfl, by omega, by omega, ?_⟩
    rw [Int.toNat_natCast]
    refine for_by itok_range (fun i σ H4 => ∃ (os : List Int) (v3 : Option V), σ = [some (.ref a), some (.int n), some (.ref lo), v3] ∧ Same H H4 ∧ H4 lo = some (.lst (os.map V.int)) ∧ os.Perm (upto i)) ⟨[], none, rfl, s1, e1, .refl _⟩ (fun _ _ _ _ _ => trivial) ?_ ?_
    · rintro i σ H4 hi ⟨os, v3, rfl, s4, o4, hpm⟩
      have hi' : i < n := hi
      have hol : os.length = i := by rw [hpm.length_eq, upto_len]
      have hom : (os.map V.int).length = os.length := List.length_map ..
      try dsimp only
      rw [Int.zero_add]
      refine ⟨_, rfl, .inl ⟨rfl, _, SqL.of o4⟩, _, rfl, _, rfl, a, ns, (i : Int), rfl, s4.seq hS, by omega, ?_⟩
      generalize ns.getD ((i : Nat) : Int).toNat 0 = v
      have d0 := Int.emod_nonneg ((v + 5 * (i : Int)) / 3) (show ((i : Nat) : Int) + 1 ≠ 0 by omega)
      have d1 := Int.emod_lt_of_pos ((v + 5 * (i : Int)) / 3) (show (0 : Int) < ((i : Nat) : Int) + 1 by omega)
      refine ⟨_, rfl, _, _, rfl, rfl, ⟨by decide, by omega⟩, _, _, rfl, rfl, _, _, rfl, rfl, ⟨by decide, by decide⟩, _, rfl, _, _, rfl, rfl, _, _, rfl, rfl, (by show (0 : Int) < ((i : Nat) : Int) + 1; omega), _, rfl, ?_⟩
      refine ⟨lo, _, _, _, rfl, rfl, o4, d0, by omega, by omega, ?_⟩
      refine ⟨os.take ((v + 5 * (i : Int)) / 3 % ((i : Int) + 1)).toNat ++ (i : Int) :: os.drop ((v + 5 * (i : Int)) / 3 % ((i : Int) + 1)).toNat, _, rfl, s4.upd nlo, ?_, ?_⟩
      · rw [upd_same, List.map_append, List.map_cons, List.map_take, List.map_drop]
      · rw [upto_succ]
        refine List.perm_middle.trans ?_
        rw [List.take_append_drop]
        exact (List.Perm.cons _ hpm).trans (List.perm_append_singleton ..).symm
    · rintro σ H4 ⟨os, v3, rfl, s4, o4, hpm⟩
      exact ⟨_, rfl, k lo os H4 nlo s4 o4 hpm⟩
def spRf (K : PySem.W.Frag) (c : Cs) : Sp := fun vs H Q _ => ∃ (x q : Addr) (m : Int) (es : List (Int × Int)) (bs : List Int), vs = [.ref x, .ref q] ∧ WebAt K c.Web H x m es ∧ SqL K H q (bs.map V.int) ∧ bs.length ≤ 900 ∧ 1 ≤ m ∧ m ≤ 20 ∧ es.length ≤ 40 ∧ EndsIn es m ∧ ¬ Spn es bs ∧ ∀ H', Same H H' → Q (.bl true) H'
theorem scRf : FnScope ["web", "some", "found", "e"] ["web", "some"] (defScope sRf) := ⟨rfl, rfl, rfl, by decide +kernel, rfl, by decide +kernel, by decide +kernel⟩
set_option maxHeartbeats 4000000 in
theorem ok_Rf {f : Addr} {fd : FuncData} (F : Fun K "_law_refused" "_law_refused" sRf f fd) (T : Txt K mg c) (D_Co : DefE P w K mg base 6 "completed" ["web", "some"] (spCo K c)) (D_X : DefC P w K mg base 1 "_law_alone" ["e"] (spX K c)) : FnOk P w K mg base CX0 7 f fd ["web", "some"] (spRf K c) := by
  refine F.ok scRf (fun vs H Q E h => ?_) (fun cdv A outer s H vs Q E hr h => ?_)
  · obtain ⟨x, q, m, es, bs, rfl, _⟩ := h
    rfl
  · obtain ⟨x, q, m, es, bs, rfl, hw, hq, hbl, m1, m2, hz, hE, h1, k⟩ := h
    have hu : A.units + 3 + 64 < cLine := hr.units
    refine ⟨_, pss_cons (ps_set (i := 2) scRf.nd rfl (Or.inl rfl) (pe_non))
      (pss_cons (ps_cut (ps_tryE (i := 3) ⟨rfl, rfl, rfl⟩ scRf.nd rfl rfl (by rfl) T.mFlowError T.xFlowError (fun pn Ex => pss_one (ps_expr (pe_defE D_Co hr rfl rfl (pa_cons (pv 0) (pa_cons (pv 1) pa_nil))))) (fun x => pss_one (ps_set (i := 2) scRf.nd rfl (Or.inl rfl) (pe_lst (pa_cons (pe_callB (cIsE (K := K) rfl) (by rfl) T.isinstance PyProof.Rows.boot_isinstance (pa_cons (pv 3) (pa_cons (pe_glob (v := .ref c.BadSet) (by rfl) T.mBadSet rfl) pa_nil))) (pa_cons (pe_defC D_X hr.held (pa_cons (pv 3) pa_nil)) pa_nil)))))))
      (pss_one (ps_ret (pe_cmpR (opEqD (K := K) rfl hu) (pv 2) (pe_lst (pa_cons (pe_bl) (pa_cons (pe_bl) pa_nil))) (nomark _))))), ?_⟩
    refine ⟨fun σ' H' => ∃ l, σ' = [some (.ref x), some (.ref q), some (.ref l), none] ∧ Same H H' ∧ H' l = some (.lst [V.bl true, V.bl true]), ?_, ?_⟩
    · refine ⟨fun σ' C H' => σ' = [some (.ref x), some (.ref q), some .non, none] ∧ Same H H' ∧ C = .ref c.BadSet, ?_, ?_⟩
      · exact ⟨_, rfl, _, rfl, x, q, m, es, bs, rfl, hw, hq, hbl, m1, m2, hz, hE, fun _ H' s' => ⟨rfl, s', rfl⟩, fun z => absurd z h1⟩
      · rintro σ' C H' ⟨rfl, s1, rfl⟩
        refine ⟨_, rfl, T.xBadSet, T.rBadSet, fun y ny => ?_⟩
        have s2 := s1.next (o := .ext (ExcO y (.ref c.BadSet))) ny
        have y2 : (upd H' y (.ext (ExcO y (.ref c.BadSet)))) y = some (.ext (ExcO y (.ref c.BadSet))) := upd_same
        generalize upd H' y (.ext (ExcO y (.ref c.BadSet))) = H2 at s2 y2
        exact ⟨_, rfl, y, _, _, _, true, rfl, rfl, fun _ z => z, y2, T.alBadSet.ex, kit_self _ _, _, rfl, y, _, rfl, y2, T.alBadSet, fun H3 s3 => ⟨(by show 2 ≤ sizeLine; decide), fun l nl => ⟨l, rfl, (s2.trans s3).next nl, upd_same⟩⟩⟩
    · rintro σ' H2 ⟨l, rfl, s2, e2⟩
      refine ⟨_, rfl, (by show 2 ≤ sizeLine; decide), fun l2 nl2 => ?_⟩
      exact ⟨.list [.bool true, .bool true], .list [.bool true, .bool true], .lst (SqL.of (Same.new nl2 _ _ e2)) (.cons (.bl _) (.cons (.bl _) .nil)), .lst (SqL.of upd_same) (.cons (.bl _) (.cons (.bl _) .nil)), rfl, rfl, k _ (s2.next nl2)⟩
def spR (K : PySem.W.Frag) (c : Cs) : Sp := fun vs H Q _ => ∃ (l x q : Addr) (m : Int) (xs : List V) (es : List (Int × Int)) (ss : List Int), vs = [.int m, .ref l, .ref x, .ref q] ∧ SqL K H l xs ∧ Pairs K H xs es ∧ (∀ v ∈ xs, Thin H v) ∧ WebAt K c.Web H x m es ∧ SqL K H q (ss.map V.int) ∧ Spn es ss ∧ 1 ≤ m ∧ m ≤ 20 ∧ es.length ≤ 40 ∧ EndsIn es m ∧ ∀ H', Same H H' → Q (.bl true) H'
theorem scR : FnScope ["many", "ends", "web", "some", "due", "handed", "found"] ["many", "ends", "web", "some"] (defScope sR) := ⟨rfl, rfl, rfl, by decide +kernel, rfl, by decide +kernel, by decide +kernel⟩
set_option maxHeartbeats 8000000 in
theorem ok_R {f : Addr} {fd : FuncData} (F : Fun K "_law_right" "_law_right" sR f fd) (T : Txt K mg c) (D_Cm : Def P w K mg base 1 "_law_completed" ["many", "ends", "held", "some"] (spCm K)) (D_Co : DefE P w K mg base 6 "completed" ["web", "some"] (spCo K c)) (D_Li : Def P w K mg base 2 "_law_list" ["found", "due"] (spLi K)) (D_Ev : DefE P w K mg base 4 "is_even" ["web", "some"] (spEv K c)) : FnOk P w K mg base CX0 7 f fd ["many", "ends", "web", "some"] (spR K c) := by
  refine F.ok scR (fun vs H Q E h => ?_) (fun cdv A outer s H vs Q E hr h => ?_)
  · obtain ⟨l, x, q, m, xs, es, ss, rfl, _⟩ := h
    rfl
  · obtain ⟨l, x, q, m, xs, es, ss, rfl, hl, hp, hth, hw, hq, S, m1, m2, he, hE, k⟩ := h
    have hu : A.units + 3 + 64 < cLine := hr.units
    refine ⟨_, pss_cons (ps_set (i := 4) scR.nd rfl (Or.inl rfl) (pe_defR D_Cm hr (pa_cons (pv 0) (pa_cons (pv 1) (pa_cons (pv 3) (pa_cons (pe_lc (N' := ["tie", "some"]) (nl := 1) (js := [3]) rfl (.of (osc := defScope sR) (N := ["many", "ends", "web", "some", "due", "handed", "found"]) (by decide +kernel) rfl rfl) (pi_range1 rfl T.range (pa_cons (pe_callB (cLen (K := K) rfl) (by rfl) T.len PySem.boot_len (pa_cons (pv 1) pa_nil)) pa_nil))
        (fun _ _ _ _ => pg_name (i := 0) (show (["tie", "some"] : List Str).Nodup by decide +kernel) rfl (Or.inl rfl)) (fun _ _ _ _ => pif_one (pt_cmpR (opNotIn (K := K) rfl) (pv 0) (pv 1) (by with_unfolding_all rfl)))
        (fun _ _ _ _ => pv 0)) pa_nil))))))
      (pss_cons (ps_set (i := 5) scR.nd rfl (Or.inl rfl) (pe_callTy (cList (K := K) rfl) (by rfl) T.list PyProof.Rows.boot_list (pa_cons (pv 3) pa_nil)))
      (pss_cons (ps_set (i := 6) scR.nd rfl (Or.inl rfl) (pe_defR D_Co.calm hr (pa_cons (pv 2) (pa_cons (pv 5) pa_nil))))
      (pss_cons (ps_if (PW.pt (pw_or (pt_not (pt_val (pe_defR D_Li hr (pa_cons (pv 6) (pa_cons (pv 4) pa_nil))))) (pw_or (pt_cmpR (opNeD (K := K) rfl hu) (pv 5) (pv 3) (nomark _)) (pw_or1 (pt_cmpR op_isnot_bl (pe_defR D_Ev.calm hr (pa_cons (pv 2) (pa_cons (pv 6) pa_nil))) (pe_bl) (nomark _))))))
        (pss_one (ps_ret (pe_bl))) (pss_nil))
      (pss_cons (ps_expr (pe_bm PySem.F.plainAttrs_list PySem.F.slot_list_append PySem.F.type_list_append mt_append (pv 6) (pa_cons (pe_int) pa_nil)))
      (pss_one (ps_ret (pe_defR D_Li hr (pa_cons (pe_defR D_Co.calm hr (pa_cons (pv 2) (pa_cons (pv 5) pa_nil))) (pa_cons (pv 4) pa_nil))))))))), ?_⟩
    have hxl := hp.len
    have hsl := S.ok.len
    refine ⟨_, rfl, _, rfl, _, rfl, _, rfl, l, xs, rfl, .inl hl, (xs.length : Int), rfl, by omega, by omega, ?_⟩
    rw [show ((xs.length : Int)).toNat = es.length from hxl]
    have flen : ∀ j, (((upto es.length).take j).filter fun t => !ss.any (· == t)).length ≤ j := fun j => Nat.le_trans (List.length_filter_le _ _) (by rw [List.length_take]; omega)
    refine lc_by itok_range (fun j zs H3 => H3 = H ∧ zs = (((upto es.length).take j).filter fun t => !ss.any (· == t)).map V.int) (Nat.le_of_lt (small1000 (by omega))) ⟨rfl, rfl⟩ ?_ ?_ ?_
    · rintro j zs H3 hj ⟨rfl, rfl⟩
      exact ⟨trivial, by rw [List.length_map]; exact flen j⟩
    · rintro j zs H3 hj ⟨rfl, rfl⟩
      have hj' : j < es.length := hj
      have fl := flen j
      try dsimp only
      rw [Int.zero_add]
      refine ⟨wk_set rfl, _, rfl, _, rfl, q, _, rfl, .inl hq, rfl, flat_ints _, _, rfl, ?_⟩
      rw [if_pos rfl, inV_ints]
      refine ite2 (fun c1 => ?_) (fun c1 => ?_)
      · refine ⟨_, rfl, small1000 (by rw [List.length_map]; omega), _, by omega, rfl, by omega, rfl, ?_⟩
        rw [take_snoc (upto_get hj'), List.filter_append, List.map_append, List.filter_cons_of_pos (p := fun t => !ss.any (· == t)) c1]; rfl
      · refine ⟨_, by omega, rfl, by omega, rfl, ?_⟩
        rw [take_snoc (upto_get hj'), List.filter_append, List.map_append, List.filter_cons_of_neg (p := fun t => !ss.any (· == t)) c1]; exact (List.append_nil _).symm
    rintro zs H3 ⟨rfl, rfl⟩ lf nlf
    rw [List.take_of_length_le (by rw [upto_len]; exact Nat.le_refl _)]
    obtain ⟨fr, efr⟩ : ∃ fr, fr = (upto es.length).filter fun t => !ss.any (· == t) := ⟨_, rfl⟩
    have hfr : ∀ t : Int, t ∈ fr ↔ (0 ≤ t ∧ t < (es.length : Int)) ∧ ¬ t ∈ ss := fun t => by
      rw [efr, List.mem_filter, mem_upto]
      simp only [Bool.not_eq_true', List.any_eq_false, beq_iff_eq]
      exact ⟨fun h => ⟨h.1, fun z => h.2 t z rfl⟩, fun h => ⟨h.1, fun z hz e => h.2 (e ▸ hz)⟩⟩
    have fok : SetOk es.length fr := by
      refine ⟨fun t ht => ((hfr t).mp ht).1, ?_⟩
      rw [efr]
      exact List.Pairwise.filter _ (by unfold upto; rw [List.pairwise_map]; exact List.pairwise_lt_range.imp fun h => by omega)
    rw [← efr]
    clear efr flen
    have s1 := Same.new (o := .lst (fr.map V.int)) nlf
    have e1 : (upd H3 lf (.lst (fr.map V.int))) lf = some (.lst (fr.map V.int)) := upd_same
    generalize upd H3 lf (.lst (fr.map V.int)) = H1 at s1 e1
    refine ⟨l, q, lf, m, xs, es, ss, fr, rfl, s1.seq hl, hp.same s1, fun v hv => (hth v hv).same s1, s1.seq hq, SqL.of e1, S, fok, fun t ht => ((hfr t).mp ht).2, m1, m2, he, hE, fun ld ds H2 nld s2 e2 dok hun => ?_⟩
    have uniq : ∀ {cs}, Cmp2 es ss cs → ds = cs := fun {cs} h => hun cs ⟨h.1, h.2.1, fun t t0 t1 tn => ⟨fun _ => (hfr t).mpr ⟨⟨t0, t1⟩, tn⟩, fun _ => h.2.2 t t0 t1 tn⟩⟩
    have hdl := dok.len
    have s02 := s1.trans s2
    refine ⟨_, rfl, q, _, rfl, .inl (s02.seq hq), fun lh nlh => ?_⟩
    have s3 := Same.new (o := .lst (ss.map V.int)) nlh
    have e3 : (upd H2 lh (.lst (ss.map V.int))) lh = some (.lst (ss.map V.int)) := upd_same
    generalize upd H2 lh (.lst (ss.map V.int)) = H4 at s3 e3
    have s04 := s02.trans s3
    refine ⟨_, rfl, _, rfl, x, lh, m, es, ss, rfl, hw.same s04, SqL.of e3, by omega, m1, m2, he, hE, fun z => absurd S z, fun _ lg cs H5 nlg s5 e5 hc => ?_⟩
    have ec := uniq hc
    subst ec
    have s05 := s04.trans s5
    have d5 := (s3.trans s5) _ _ e2
    have h5 := s5 _ _ e3
    refine ⟨_, rfl, _, rfl, lg, ld, _, rfl, e5, SqL.of d5, by omega, fun H6 s6 => ?_⟩
    have s06 := s05.trans s6
    refine ⟨_, rfl, iteF ?_⟩
    refine ⟨_, rfl, _, rfl, dI ss, dI ss, dat_ints (SqL.of (s6 _ _ h5)), dat_ints (s06.seq hq), shaped_dI _, shaped_dI _, _, rfl, ?_⟩
    rw [eqv_dI, decide_eq_true rfl]
    refine iteF ?_
    refine ⟨_, rfl, _, rfl, x, lg, m, es, ds, rfl, hw.same s06, SqL.of (s6 _ _ e5), by omega, m1, m2, he, hE, fun z => absurd dok z, fun _ H7 s7 => ?_⟩
    have s07 := s06.trans s7
    rw [hc.2.1.isR]
    refine ⟨true, true, rfl, rfl, _, rfl, iteF ?_⟩
    have e7 := (s6.trans s7) _ _ e5
    have nH := none_back s04 nlg
    refine ⟨_, rfl, .inl ⟨rfl, _, SqL.of e7⟩, lg, _, _, rfl, rfl, e7, small1000 (by rw [List.length_map]; omega), ?_⟩
    have s8 := s07.upd (o := .lst (ds.map V.int ++ [V.int 0])) nH
    have h8 : (upd H7 lg (.lst (ds.map V.int ++ [V.int 0]))) lh = some (.lst (ss.map V.int)) := by rw [upd_ne (ne_of_none e3 nlg)]; exact (s6.trans s7) _ _ h5
    have d8 : (upd H7 lg (.lst (ds.map V.int ++ [V.int 0]))) ld = some (.lst (ds.map V.int)) := by rw [upd_ne (ne_of_none (s3 _ _ e2) nlg)]; exact (s6.trans s7) _ _ d5
    generalize upd H7 lg (.lst (ds.map V.int ++ [V.int 0])) = H8 at s8 h8 d8
    refine ⟨_, rfl, _, rfl, x, lh, m, es, ss, rfl, hw.same s8, SqL.of h8, by omega, m1, m2, he, hE, fun z => absurd S z, fun _ lg2 cs2 H9 nlg2 s9 e9 hc2 => ?_⟩
    have ec2 := uniq hc2
    subst ec2
    exact ⟨_, rfl, lg2, ld, _, rfl, e9, SqL.of (s9 _ _ d8), by omega, fun HA sA => k _ ((s8.trans s9).trans sA)⟩
structure Zts (H : Hp) (r : Addr) : Prop where
  mk' ::
  ex : ∃ zs : List Int, H r = some (.lst (zs.map V.int)) ∧ zs.length < 64
theorem Zts.same {H H' : Hp} {r : Addr} (S : Same H H') (h : Zts H r) : Zts H' r := by
  obtain ⟨zs, h1, h2⟩ := h.ex
  exact ⟨zs, S _ _ h1, h2⟩
theorem Zts.upd {H : Hp} {r a : Addr} {o : HO} (h : Zts H r) (n : r ≠ a) : Zts (upd H a o) r := by
  obtain ⟨zs, h1, h2⟩ := h.ex
  exact ⟨zs, by rw [upd_ne n]; exact h1, h2⟩
theorem Zts.ne {H : Hp} {r a : Addr} (h : Zts H r) (n : H a = none) : r ≠ a := by
  obtain ⟨zs, h1, _⟩ := h.ex
  exact ne_of_none h1 n
theorem scL : FnScope ["script", "many", "ends", "web", "held", "rest", "cell", "others", "more", "at", "lesser", "some", "good", "outside"] ["script"] (defScope sL) := ⟨rfl, rfl, rfl, by decide +kernel, rfl, by decide +kernel, by decide +kernel⟩
set_option maxHeartbeats 16000000 in
theorem ok_L {f : Addr} {fd : FuncData} (F : Fun K "law" "law" sL f fd) (T : Txt K mg c) (D_C : Def P w K mg base 1 "_law_cell" ["script", "k"] (spC K)) (D_D : Def P w K mg base 3 "_law_drawn" ["script", "most", "bound"] (spD K)) (D_Fo : Def P w K mg base 1 "_law_forest" ["many", "ends", "order"] (spFo K)) (D_Ch : Def P w K mg base 1 "_law_chosen" ["cell", "many"] (spCh K)) (D_Bs : Def P w K mg base 1 "_law_bad_set" ["some", "count", "cell"] (spBs K)) (D_Or : Def P w K mg base 2 "_law_order" ["script", "many"] (spOr K)) (D_Rf : Def P w K mg base 7 "_law_refused" ["web", "some"] (spRf K c)) (D_R : Def P w K mg base 7 "_law_right" ["many", "ends", "web", "some"] (spR K c)) (D_N : MkDef P w K mg base 1 "Web" c.Web ["self", "many", "ties"] (spInit K c.Web)) : FnOk P w K mg base CX0 8 f fd ["script"] (spLaw K) := by
  refine F.ok scL (fun vs H Q E h => ?_) (fun cdv A outer s H vs Q E hr h => ?_)
  · obtain ⟨a, ns, rfl, _⟩ := h
    rfl
  · obtain ⟨a, ns, rfl, hS, hlen, k⟩ := h
    have hu : A.units + 3 + 64 < cLine := hr.units
    refine ⟨_, pss_cons (ps_asg (pe_defR D_D hr (pa_cons (pv 0) (pa_cons (pe_int) (pa_cons (pe_int) pa_nil)))) (pgTup (K := K) (n := 2) rfl rfl (pgs_cons (pg_name (i := 1) scL.nd rfl (Or.inl rfl)) (pgs_cons (pg_name (i := 2) scL.nd rfl (Or.inr rfl)) (pgs_nil))) rfl))
      (pss_cons (ps_set (i := 3) scL.nd rfl (Or.inl rfl) (pe_web D_N hr (pa_cons (pv 1) (pa_cons (pe_callTy (cList (K := K) rfl) (by rfl) T.list PyProof.Rows.boot_list (pa_cons (pv 2) pa_nil)) pa_nil))))
      (pss_cons (ps_set (i := 4) scL.nd rfl (Or.inr rfl) (pe_defR D_Fo hr (pa_cons (pv 1) (pa_cons (pv 2) (pa_cons (pe_defR D_Or hr (pa_cons (pv 0) (pa_cons (pe_callB (cLen (K := K) rfl) (by rfl) T.len PySem.boot_len (pa_cons (pv 2) pa_nil)) pa_nil))) pa_nil)))))
      (pss_cons (ps_if (pt_not (pt_val (pe_defR D_R hr (pa_cons (pv 1) (pa_cons (pv 2) (pa_cons (pv 3) (pa_cons (pv 4) pa_nil)))))))
        (pss_one (ps_ret (pe_bl))) (pss_nil))
      (pss_cons (ps_setlc (i := 5) (N' := ["tie", "held"]) (nl := 1) (js := [4]) rfl (.of (osc := defScope sL) (N := ["script", "many", "ends", "web", "held", "rest", "cell", "others", "more", "at", "lesser", "some", "good", "outside"]) (by decide +kernel) rfl rfl) (pi_range1 rfl T.range (pa_cons (pe_callB (cLen (K := K) rfl) (by rfl) T.len PySem.boot_len (pa_cons (pv 2) pa_nil)) pa_nil))
        (fun _ _ _ _ => pg_name (i := 0) (show (["tie", "held"] : List Str).Nodup by decide +kernel) rfl (Or.inl rfl)) (fun _ _ _ _ => pif_one (pt_cmpR (opNotIn (K := K) rfl) (pv 0) (pv 1) (by with_unfolding_all rfl)))
        (fun _ _ _ _ => pv 0) scL.nd rfl rfl)
      (pss_cons (ps_set (i := 6) scL.nd rfl (Or.inl rfl) (pe_callB (cSum (K := K) rfl rfl) (by rfl) T.sum PyProof.Rows.boot_sum (pa_cons (pv 0) pa_nil)))
      (pss_cons (ps_set (i := 7) scL.nd rfl (Or.inl rfl) (pe_lst (pa_cons (pe_defR D_Ch hr (pa_cons (pe_op op_fdiv (pv 6) (pe_int)) (pa_cons (pe_callB (cLen (K := K) rfl) (by rfl) T.len PySem.boot_len (pa_cons (pv 2) pa_nil)) pa_nil))) (pa_cons (pv 4) (pa_cons (pe_defR D_Bs hr (pa_cons (pv 4) (pa_cons (pe_callB (cLen (K := K) rfl) (by rfl) T.len PySem.boot_len (pa_cons (pv 2) pa_nil)) (pa_cons (pv 6) pa_nil)))) pa_nil)))))
      (pss_cons (ps_set (i := 8) scL.nd rfl (Or.inl rfl) (pe_lst pa_nil))
      (pss_cons (ps_cut (ps_if (pt_cmpR (opNeD (K := K) rfl hu) (pv 5) (pe_lst pa_nil) (nomark _))
        (pss_one (ps_set (i := 8) scL.nd rfl (Or.inl rfl) (pe_lst (pa_cons (pe_ix (ixL (K := K) rfl) (pv 5) (pe_op op_mod (pe_op op_fdiv (pv 6) (pe_int)) (pe_callB (cLen (K := K) rfl) (by rfl) T.len PySem.boot_len (pa_cons (pv 5) pa_nil))) (fun _ _ => rfl)) pa_nil)))) (pss_nil)))
      (pss_cons (ps_expr (pe_bm PySem.F.plainAttrs_list PySem.F.slot_list_append PySem.F.type_list_append mt_append (pv 7) (pa_cons (pe_callB (cSorted (K := K) rfl) (by rfl) T.sorted PyProof.Rows.boot_sorted (pa_cons (pe_op op_cat (pv 4) (pv 8)) pa_nil)) pa_nil)))
      (pss_cons (ps_cut (ps_if (pt_cmpR (opNeD (K := K) rfl hu) (pv 4) (pe_lst pa_nil) (nomark _))
        (pss_cons (ps_cut (ps_set (i := 9) scL.nd rfl (Or.inl rfl) (pe_op op_mod (pv 6) (pe_callB (cLen (K := K) rfl) (by rfl) T.len PySem.boot_len (pa_cons (pv 4) pa_nil)))))
      (pss_cons (ps_set (i := 10) scL.nd rfl (Or.inl rfl) (pe_op op_cat (pe_slice (slL (K := K) rfl) (pv 4) (po_none) (po_some (pv 9))) (pe_slice (slL (K := K) rfl) (pv 4) (po_some (pe_op op_add (pv 9) (pe_int))) (po_none))))
      (pss_one (ps_set (i := 7) scL.nd rfl (Or.inl rfl) (pe_op op_cat (pv 7) (pe_lst (pa_cons (pv 10) (pa_cons (pe_callB (cSorted (K := K) rfl) (by rfl) T.sorted PyProof.Rows.boot_sorted (pa_cons (pe_op op_cat (pv 10) (pv 8)) pa_nil)) pa_nil)))))))) (pss_nil)))
      (pss_cons (ps_for PassesOwn.never rfl (piSeqB (K := K) rfl (pv 7)) (pg_name (i := 11) scL.nd rfl (Or.inl rfl))
        (pss_cons (ps_cut (ps_set (i := 12) scL.nd rfl (Or.inl rfl) (pe_and (pe_cmpR (opEqD (K := K) rfl hu) (pv 11) (pe_callB (cSorted (K := K) rfl) (by rfl) T.sorted PyProof.Rows.boot_sorted (pa_cons (pv 11) pa_nil)) (nomark _)) (pe_one (pe_cmpR op_eq (pe_callB (cLen (K := K) rfl) (by rfl) T.len PySem.boot_len (pa_cons (pv 11) pa_nil)) (pe_callB (cLen (K := K) rfl) (by rfl) T.len PySem.boot_len (pa_cons (pv 4) pa_nil)) (nomark _))))))
      (pss_cons (ps_cut (ps_setlc (i := 13) (N' := ["tie", "ends"]) (nl := 1) (js := [2]) rfl (.of (osc := defScope sL) (N := ["script", "many", "ends", "web", "held", "rest", "cell", "others", "more", "at", "lesser", "some", "good", "outside"]) (by decide +kernel) rfl rfl) (piSeq (K := K) rfl (pv 11))
        (fun _ _ _ _ => pg_name (i := 0) (show (["tie", "ends"] : List Str).Nodup by decide +kernel) rfl (Or.inl rfl)) (fun _ _ _ _ => pif_one (PW.pt (pw_or (pt_cmpR op_lt (pv 0) (pe_int) (nomark _)) (pw_or1 (pt_cmpR op_ge (pv 0) (pe_callB (cLen (K := K) rfl) (by rfl) T.len PySem.boot_len (pa_cons (pv 1) pa_nil)) (nomark _))))))
        (fun _ _ _ _ => pv 0) scL.nd rfl rfl))
      (pss_cons (ps_cut (ps_set (i := 12) scL.nd rfl (Or.inl rfl) (pe_and (pv 12) (pe_one (pe_cmpR (opEqD (K := K) rfl hu) (pv 13) (pe_lst pa_nil) (nomark _))))))
      (pss_one (ps_cut (ps_if (PW.pt (pw_and (pt_truth (pv 12) (by intro _; rfl)) (pw_and1 (pt_cmpR (opEqD (K := K) rfl hu) (pe_defR D_Fo hr (pa_cons (pv 1) (pa_cons (pv 2) (pa_cons (pv 11) pa_nil)))) (pv 11) (nomark _)))))
        (pss_one (ps_if (pt_not (pt_val (pe_defR D_R hr (pa_cons (pv 1) (pa_cons (pv 2) (pa_cons (pv 3) (pa_cons (pv 11) pa_nil)))))))
        (pss_one (ps_ret (pe_bl))) (pss_nil))) (pss_one (ps_if (pt_not (pt_val (pe_defR D_Rf hr (pa_cons (pv 3) (pa_cons (pe_callTy (cList (K := K) rfl) (by rfl) T.list PyProof.Rows.boot_list (pa_cons (pv 11) pa_nil)) pa_nil)))))
        (pss_one (ps_ret (pe_bl))) (pss_nil))))))))))
      (pss_one (ps_ret (pe_bl)))))))))))))), ?_⟩
    refine ⟨_, rfl, a, ns, 20, 40, rfl, hS, by decide, by decide, by decide, by decide, fun t l m xs es H1 hl sH ht hl1 hp m1 m20 hz hE hth => ?_⟩
    refine ⟨t, _, rfl, SqT.of ht, rfl, _, _, rfl, _, _, rfl, rfl, ?_⟩
    have hxl := hp.len
    have hz' : es.length ≤ 40 := by omega
    have hS1 := sH.seq hS
    refine ⟨_, rfl, _, rfl, l, _, rfl, .inl (SqL.of hl1), fun l3 n3 => ?_⟩
    have s3 := Same.new (o := .lst xs) n3
    have e3 : (upd H1 l3 (.lst xs)) l3 = some (.lst xs) := upd_same
    have p3 := hp.same s3
    generalize upd H1 l3 (.lst xs) = H3 at s3 e3 p3
    refine ⟨l3, m, xs, es, rfl, .inl (SqL.of e3), p3, m1, m20, hz', hE, fun x HW nx sW hw => ?_⟩
    have s1W := s3.trans sW
    have lW := s1W _ _ hl1
    have pW := hp.same s1W
    have tW : ∀ v ∈ xs, Thin HW v := fun v hv => (hth v hv).same s1W
    have SW := s1W.seq hS1
    clear s3 e3 p3 sW s1W hl1 hp hth hS1 sH ht hl hS
    refine ⟨_, rfl, _, rfl, _, rfl, _, rfl, l, xs, rfl, .inl (SqL.of lW), a, ns, es.length, by rw [hxl], SW, hz', fun lo os H4 nlo s4 o4 hpm => ?_⟩
    have onr : ∀ t ∈ os, 0 ≤ t ∧ t < (es.length : Int) := fun t ht => mem_upto.mp (hpm.mem_iff.mp ht)
    have onl : os.length = es.length := by rw [hpm.length_eq, upto_len]
    refine ⟨l, lo, m, xs, es, os, rfl, SqL.of (s4 _ _ lW), pW.same s4, SqL.of o4, by omega, onr, m1, m20, hz', hE, fun lh hs H5 nlh s5 h5 hgp hgs => ?_⟩
    have hnd : os.Nodup := hpm.nodup_iff.mpr (asc_nd (by unfold upto; rw [List.pairwise_map]; exact List.pairwise_lt_range.imp fun h => by omega))
    have S := Spn.greedy hE hnd onr (fun t h0 h1 => hpm.mem_iff.mpr (mem_upto.mpr ⟨h0, h1⟩)) hgp hgs
    have hsl := S.ok.len
    have sW5 := s4.trans s5
    refine ⟨_, rfl, _, rfl, _, rfl, _, rfl, l, x, lh, m, xs, es, hs, rfl, SqL.of (sW5 _ _ lW), pW.same sW5, fun v hv => (tW v hv).same sW5, hw.same sW5, SqL.of h5, S, m1, m20, hz', hE, fun H6 s6 => ⟨_, rfl, iteF ?_⟩⟩
    have sW6 := sW5.trans s6
    have h6 := s6 _ _ h5
    clear hgp hgs hnd onl onr s4 o4 hpm s5 sW5
    refine ⟨_, rfl, l, xs, rfl, .inl (SqL.of (sW6 _ _ lW)), (xs.length : Int), rfl, by omega, by omega, ?_⟩
    rw [show ((xs.length : Int)).toNat = es.length from hxl]
    have flen : ∀ j, (((upto es.length).take j).filter fun t => !hs.any (· == t)).length ≤ j := fun j => Nat.le_trans (List.length_filter_le _ _) (by rw [List.length_take]; omega)
    refine lc_by itok_range (fun j zs H3 => H3 = H6 ∧ zs = (((upto es.length).take j).filter fun t => !hs.any (· == t)).map V.int) (Nat.le_of_lt (small1000 (by omega))) ⟨rfl, rfl⟩ ?_ ?_ ?_
    · rintro j zs H3 hj ⟨rfl, rfl⟩
      exact ⟨trivial, by rw [List.length_map]; exact flen j⟩
    · rintro j zs H3 hj ⟨rfl, rfl⟩
      have hj' : j < es.length := hj
      have fl := flen j
      try dsimp only
      rw [Int.zero_add]
      refine ⟨wk_set rfl, _, rfl, _, rfl, lh, _, rfl, .inl (SqL.of h6), rfl, flat_ints _, _, rfl, ?_⟩
      rw [if_pos rfl, inV_ints]
      refine ite2 (fun c1 => ?_) (fun c1 => ?_)
      · refine ⟨_, rfl, small1000 (by rw [List.length_map]; omega), _, by omega, rfl, by omega, rfl, ?_⟩
        rw [take_snoc (upto_get hj'), List.filter_append, List.map_append, List.filter_cons_of_pos (p := fun t => !hs.any (· == t)) c1]; rfl
      · refine ⟨_, by omega, rfl, by omega, rfl, ?_⟩
        rw [take_snoc (upto_get hj'), List.filter_append, List.map_append, List.filter_cons_of_neg (p := fun t => !hs.any (· == t)) c1]; exact (List.append_nil _).symm
    rintro zs H7 ⟨rfl, rfl⟩ lr nlr
    rw [List.take_of_length_le (by rw [upto_len]; exact Nat.le_refl _)]
    obtain ⟨fr, efr⟩ : ∃ fr, fr = (upto es.length).filter fun t => !hs.any (· == t) := ⟨_, rfl⟩
    have hfl : fr.length ≤ es.length := by rw [efr]; exact Nat.le_trans (List.length_filter_le _ _) (by rw [upto_len]; exact Nat.le_refl _)
    rw [← efr]
    clear efr flen
    have sW8 := sW6.next (o := .lst (fr.map V.int)) nlr
    have h8 := Same.new (o := .lst (fr.map V.int)) nlr _ _ h6
    have r8 : (upd H7 lr (.lst (fr.map V.int))) lr = some (.lst (fr.map V.int)) := upd_same
    generalize upd H7 lr (.lst (fr.map V.int)) = H8 at sW8 h8 r8
    clear sW6 s6 h5 h6
    refine ⟨_, rfl, a, ns, rfl, .inl (sW8.seq SW), ?_⟩
    generalize ns.sum = ce
    refine ⟨_, rfl, _, _, rfl, rfl, ⟨by decide, by decide⟩, _, rfl, l, xs, rfl, .inl (SqL.of (sW8 _ _ lW)), _, es.length, by rw [hxl], hz', fun lc cs H9 nlc s9 c9 cok => ?_⟩
    have sW9 := sW8.trans s9
    have hcl := cok.len
    refine ⟨_, rfl, _, rfl, _, rfl, l, xs, rfl, .inl (SqL.of (sW9 _ _ lW)), _, rfl, lh, hs, es.length, _, by rw [hxl], SqL.of (s9 _ _ h8), S.ok, hz', fun lb bs HA nlb sA bA _ hbl => ?_⟩
    have sWA := sW9.trans sA
    have hA := (s9.trans sA) _ _ h8
    have rA := (s9.trans sA) _ _ r8
    have cA := sA _ _ c9
    refine ⟨(by show 3 ≤ sizeLine; decide), fun lo nlo => ?_⟩
    have sWB := sWA.next (o := .lst [V.ref lc, V.ref lh, V.ref lb]) nlo
    have tB := Same.new (o := .lst [V.ref lc, V.ref lh, V.ref lb]) nlo
    have oB : (upd HA lo (.lst [V.ref lc, V.ref lh, V.ref lb])) lo = some (.lst [V.ref lc, V.ref lh, V.ref lb]) := upd_same
    have nlW := none_back sWA nlo
    have Zc : Zts HA lc := ⟨cs, cA, by omega⟩
    have Zh : Zts HA lh := ⟨hs, hA, by omega⟩
    have Zb : Zts HA lb := ⟨bs, bA, by omega⟩
    have nc := Zc.ne nlo
    have nh := Zh.ne nlo
    have nb := Zb.ne nlo
    generalize upd HA lo (.lst [V.ref lc, V.ref lh, V.ref lb]) = HB at sWB tB oB
    refine ⟨by decide, fun lm nlm => ?_⟩
    have tC := tB.next (o := .lst []) nlm
    have sWC := sWB.next (o := .lst []) nlm
    have oC := Same.new (o := .lst []) nlm _ _ oB
    have mC : (upd HB lm (.lst [])) lm = some (.lst (([] : List Int).map V.int)) := upd_same
    generalize upd HB lm (.lst []) = HC at sWC tC oC mC
    refine ⟨fun σ' H' => Same HC H' ∧ ∃ (lm : Addr) (ms : List Int), σ' = [some (.ref a), some (.int m), some (.ref l), some (.ref x), some (.ref lh), some (.ref lr), some (.int ce), some (.ref lo), some (.ref lm), none, none, none, none, none] ∧ H' lm = some (.lst (ms.map V.int)) ∧ ms.length ≤ 1 ∧ lm ≠ lo, ?_, ?_⟩
    · refine ⟨_, rfl, by decide, fun q0 nq0 => ?_⟩
      have s1 := Same.new (o := .lst []) nq0
      have z1 : (upd HC q0 (.lst [])) q0 = some (.lst (([] : List Int).map V.int)) := upd_same
      generalize upd HC q0 (.lst []) = HD at s1 z1
      have rD := (tC.trans s1) _ _ rA
      refine ⟨dI fr, dI [], dat_ints (SqL.of rD), dat_ints (SqL.of z1), shaped_dI _, shaped_dI _, _, rfl, ?_⟩
      rw [eqv_dI]
      by_cases c0 : fr = []
      · rw [decide_eq_true c0]
        exact iteF ⟨s1, lm, [], rfl, s1 _ _ mC, by decide, (ne_of_none oB nlm).symm⟩
      · rw [decide_eq_false c0]
        have hf0 : 0 < fr.length := List.length_pos_iff.mpr c0
        have hfm : (fr.map V.int).length = fr.length := List.length_map ..
        have d0 := Int.emod_nonneg (ce / 7) (show ((fr.map V.int).length : Int) ≠ 0 by omega)
        have d1 := Int.emod_lt_of_pos (ce / 7) (show (0 : Int) < ((fr.map V.int).length : Int) by omega)
        refine iteT ⟨_, rfl, _, rfl, _, _, rfl, rfl, ⟨by decide, by decide⟩, _, rfl, lr, _, rfl, .inl (SqL.of rD), _, _, rfl, rfl, (by show (0 : Int) < ((fr.map V.int).length : Int); omega), lr, _, _, _, rfl, rfl, SqL.of rD, at_int d0 (by omega), (by show 1 ≤ sizeLine; decide), fun q1 nq1 => ?_⟩
        exact ⟨s1.next nq1, q1, [_], rfl, upd_same, Nat.le_refl _, (ne_of_none (s1 _ _ oC) nq1).symm⟩
    rintro σ' HD ⟨sD, lm', ms, rfl, mD, hml, nml⟩
    have tD := tC.trans sD
    have oD := sD _ _ oC
    have sWD := sWC.trans sD
    have hD := tD _ _ hA
    clear mC oC tB
    refine ⟨_, rfl, .inl ⟨rfl, _, SqL.of oD⟩, _, rfl, _, rfl, lh, lm', _, _, rfl, rfl, hD, mD, Nat.le_of_lt (small1000 (by rw [List.length_map, List.length_map]; omega)), fun l1 n1 => ?_⟩
    rw [← List.map_append]
    have s1 := Same.new (o := .lst ((hs ++ ms).map V.int)) n1
    have e1 : (upd HD l1 (.lst ((hs ++ ms).map V.int))) l1 = some (.lst ((hs ++ ms).map V.int)) := upd_same
    generalize upd HD l1 (.lst ((hs ++ ms).map V.int)) = HE at s1 e1
    refine ⟨l1, hs ++ ms, rfl, SqL.of e1, by rw [List.length_append]; omega, fun lt ts nlt htp hts => ?_⟩
    have hle : ts.length ≤ 41 := by rw [htp.length_eq, List.length_append]; omega
    have s2 := Same.new (o := .lst (ts.map V.int)) nlt
    have e2 : (upd HE lt (.lst (ts.map V.int))) lt = some (.lst (ts.map V.int)) := upd_same
    have nt : lt ≠ lo := (ne_of_none (s1 _ _ oD) nlt).symm
    generalize upd HE lt (.lst (ts.map V.int)) = HF at s2 e2
    have s12 := s1.trans s2
    have oF := s12 _ _ oD
    refine ⟨lo, _, _, rfl, rfl, oF, small1000 (by show 3 ≤ 1000; decide), ?_⟩
    have sWG := (sWD.trans s12).upd (o := .lst ([V.ref lc, V.ref lh, V.ref lb] ++ [V.ref lt])) nlW
    have oG : (upd HF lo (.lst ([V.ref lc, V.ref lh, V.ref lb] ++ [V.ref lt]))) lo = some (.lst [V.ref lc, V.ref lh, V.ref lb, V.ref lt]) := upd_same
    have hG : (upd HF lo (.lst ([V.ref lc, V.ref lh, V.ref lb] ++ [V.ref lt]))) lh = some (.lst (hs.map V.int)) := by rw [upd_ne nh]; exact s12 _ _ hD
    have mG : (upd HF lo (.lst ([V.ref lc, V.ref lh, V.ref lb] ++ [V.ref lt]))) lm' = some (.lst (ms.map V.int)) := by rw [upd_ne nml]; exact s12 _ _ mD
    have allG : ∀ v ∈ [V.ref lc, V.ref lh, V.ref lb, V.ref lt], ∃ r, v = .ref r ∧ Zts (upd HF lo (.lst ([V.ref lc, V.ref lh, V.ref lb] ++ [V.ref lt]))) r := fun v hv => by
      have t12 := tD.trans s12
      rcases List.mem_cons.mp hv with y | hv
      · exact ⟨lc, y, (Zc.same t12).upd nc⟩
      rcases List.mem_cons.mp hv with y | hv
      · exact ⟨lh, y, (Zh.same t12).upd nh⟩
      rcases List.mem_cons.mp hv with y | hv
      · exact ⟨lb, y, (Zb.same t12).upd nb⟩
      exact ⟨lt, List.mem_singleton.mp hv, Zts.upd ⟨ts, e2, by omega⟩ nt⟩
    generalize upd HF lo (.lst ([V.ref lc, V.ref lh, V.ref lb] ++ [V.ref lt])) = HG at sWG oG hG mG allG
    clear s12 s1 s2 oF e1 e2 oD hD mD tD sWD tC sWC oB sWB sWA sW9 sW8 hA rA cA h8 r8 c9 bA s9 sA sD
    refine ⟨fun σ' H' => ∃ (ro : Addr) (ys : List V) (v9 v10 : Option V), σ' = [some (.ref a), some (.int m), some (.ref l), some (.ref x), some (.ref lh), some (.ref lr), some (.int ce), some (.ref ro), some (.ref lm'), v9, v10, none, none, none] ∧ Same HW H' ∧ H' ro = some (.lst ys) ∧ ys.length ≤ 6 ∧ (∀ v ∈ ys, ∃ r, v = .ref r ∧ Zts H' r) ∧ H' lh = some (.lst (hs.map V.int)), ?_, ?_⟩
    · refine ⟨_, rfl, by decide, fun q0 nq0 => ?_⟩
      have s1 := Same.new (o := .lst []) nq0
      have z1 : (upd HG q0 (.lst [])) q0 = some (.lst (([] : List Int).map V.int)) := upd_same
      generalize upd HG q0 (.lst []) = HI at s1 z1
      have hI := s1 _ _ hG
      refine ⟨dI hs, dI [], dat_ints (SqL.of hI), dat_ints (SqL.of z1), shaped_dI _, shaped_dI _, _, rfl, ?_⟩
      rw [eqv_dI]
      by_cases c0 : hs = []
      · rw [decide_eq_true c0]
        exact iteF ⟨lo, _, none, none, rfl, sWG.trans s1, s1 _ _ oG, (by show 4 ≤ 6; decide), fun v hv => (by obtain ⟨r, e, z⟩ := allG v hv; exact ⟨r, e, z.same s1⟩), hI⟩
      · rw [decide_eq_false c0]
        have hh0 : 0 < hs.length := List.length_pos_iff.mpr c0
        have hhm : (hs.map V.int).length = hs.length := List.length_map ..
        refine iteT ⟨fun σ' H' => H' = HI ∧ ∃ p : Int, 0 ≤ p ∧ p < ((hs.map V.int).length : Int) ∧ σ' = [some (.ref a), some (.int m), some (.ref l), some (.ref x), some (.ref lh), some (.ref lr), some (.int ce), some (.ref lo), some (.ref lm'), some (.int p), none, none, none, none], ?_, ?_⟩
        · exact ⟨_, rfl, _, rfl, lh, _, rfl, .inl (SqL.of hI), _, _, rfl, rfl, (by show (0 : Int) < ((hs.map V.int).length : Int); omega), rfl, _, Int.emod_nonneg _ (by omega), Int.emod_lt_of_pos _ (by omega), rfl⟩
        rintro σ' HI ⟨rfl, p, d0, d1, rfl⟩
        refine ⟨_, rfl, _, rfl, p, rfl, lh, _, rfl, SqL.of hI, fun r1 n1 => ?_⟩
        rw [cutV_to d0 (by omega), ← List.map_take]
        have s2 := Same.new (o := .lst ((hs.take p.toNat).map V.int)) n1
        have e2 : (upd HI r1 (.lst ((hs.take p.toNat).map V.int))) r1 = some (.lst ((hs.take p.toNat).map V.int)) := upd_same
        generalize upd HI r1 (.lst ((hs.take p.toNat).map V.int)) = HJ at s2 e2
        refine ⟨_, rfl, _, rfl, _, _, rfl, rfl, p + 1, rfl, lh, _, rfl, SqL.of (s2 _ _ hI), fun r4 n4 => ?_⟩
        rw [cutV_from d0 (by omega), ← List.map_drop]
        have s3 := Same.new (o := .lst ((hs.drop (p.toNat + 1)).map V.int)) n4
        have e3 : (upd HJ r4 (.lst ((hs.drop (p.toNat + 1)).map V.int))) r4 = some (.lst ((hs.drop (p.toNat + 1)).map V.int)) := upd_same
        generalize upd HJ r4 (.lst ((hs.drop (p.toNat + 1)).map V.int)) = HK at s3 e3
        have hdl : (hs.take p.toNat ++ hs.drop (p.toNat + 1)).length ≤ 41 := by rw [List.length_append, List.length_take, List.length_drop]; omega
        refine ⟨r1, r4, _, _, rfl, rfl, s3 _ _ e2, e3, Nat.le_of_lt (small1000 (by rw [List.length_map, List.length_map, ← List.length_append]; omega)), fun r3 n3 => ?_⟩
        rw [← List.map_append]
        obtain ⟨gs, egs⟩ : ∃ gs, gs = hs.take p.toNat ++ hs.drop (p.toNat + 1) := ⟨_, rfl⟩
        rw [← egs] at hdl ⊢
        have s4 := Same.new (o := .lst (gs.map V.int)) n3
        have e4 : (upd HK r3 (.lst (gs.map V.int))) r3 = some (.lst (gs.map V.int)) := upd_same
        generalize upd HK r3 (.lst (gs.map V.int)) = HL at s4 e4
        have sGL := ((s1.trans s2).trans s3).trans s4
        refine ⟨_, rfl, _, rfl, _, rfl, _, rfl, r3, lm', _, _, rfl, rfl, e4, sGL _ _ mG, Nat.le_of_lt (small1000 (by rw [List.length_map, List.length_map]; omega)), fun l4 n4 => ?_⟩
        rw [← List.map_append]
        have s5 := Same.new (o := .lst ((gs ++ ms).map V.int)) n4
        have e5 : (upd HL l4 (.lst ((gs ++ ms).map V.int))) l4 = some (.lst ((gs ++ ms).map V.int)) := upd_same
        generalize upd HL l4 (.lst ((gs ++ ms).map V.int)) = HM at s5 e5
        refine ⟨l4, gs ++ ms, rfl, SqL.of e5, by rw [List.length_append]; omega, fun l5 us nl5 hup hus => ?_⟩
        have hul : us.length ≤ 42 := by rw [hup.length_eq, List.length_append]; omega
        have s6 := Same.new (o := .lst (us.map V.int)) nl5
        have e6 : (upd HM l5 (.lst (us.map V.int))) l5 = some (.lst (us.map V.int)) := upd_same
        generalize upd HM l5 (.lst (us.map V.int)) = HN at s6 e6
        refine ⟨(by show 2 ≤ sizeLine; decide), fun r6 n6 => ?_⟩
        have s7 := Same.new (o := .lst [V.ref r3, V.ref l5]) n6
        have e7 : (upd HN r6 (.lst [V.ref r3, V.ref l5])) r6 = some (.lst [V.ref r3, V.ref l5]) := upd_same
        generalize upd HN r6 (.lst [V.ref r3, V.ref l5]) = HO' at s7 e7
        have sGO := ((sGL.trans s5).trans s6).trans s7
        refine ⟨lo, r6, _, _, rfl, rfl, sGO _ _ oG, e7, (by show 4 + 2 ≤ sizeLine; decide), fun r7 n7 => ?_⟩
        have s8 := Same.new (o := .lst ([V.ref lc, V.ref lh, V.ref lb, V.ref lt] ++ [V.ref r3, V.ref l5])) n7
        have sG8 := sGO.trans s8
        refine ⟨r7, _, _, _, rfl, sWG.trans sG8, upd_same, (by show 4 + 2 ≤ 6; decide), fun v hv => ?_, sG8 _ _ hG⟩
        rcases List.mem_append.mp hv with y | y
        · obtain ⟨r, e, z⟩ := allG v y
          exact ⟨r, e, z.same sG8⟩
        · rcases List.mem_cons.mp y with y | y
          · exact ⟨r3, y, ⟨gs, (((s5.trans s6).trans s7).trans s8) _ _ e4, by omega⟩⟩
          · exact ⟨l5, List.mem_singleton.mp y, ⟨us, (s7.trans s8) _ _ e6, by omega⟩⟩
    rintro σ' HP ⟨ro, ys, v9, v10, rfl, sWP, oP, hyl, allP, hP⟩
    refine ⟨_, rfl, false, ro, ys, rfl, SqL.of oP, fun J C O hC => for_by O (fun i σ H' => ∃ v11 v12 v13 : Option V, σ = [some (.ref a), some (.int m), some (.ref l), some (.ref x), some (.ref lh), some (.ref lr), some (.int ce), some (.ref ro), some (.ref lm'), v9, v10, v11, v12, v13] ∧ Same HP H') ⟨none, none, none, rfl, Same.refl _⟩ (fun i σ H' _ h => ?_) ?_ ?_⟩
    · obtain ⟨_, _, _, _, s'⟩ := h
      exact hC _ (SqL.of (s' _ _ oP))
    · rintro i σ HQ hi ⟨v11, v12, v13, rfl, sQ⟩
      obtain ⟨r, er, Zr⟩ := allP (ys.getD i .non) (by rw [List.getD_eq_getElem?_getD, List.getElem?_eq_getElem hi]; exact List.getElem_mem _)
      obtain ⟨zs, rz, hzl⟩ := (Zr.same sQ).ex
      have sWQ := sWP.trans sQ
      have hQ := sQ _ _ hP
      try dsimp only
      rw [er]
      refine ⟨fun σ' H' => Same HQ H' ∧ ∃ b : Bool, σ' = [some (.ref a), some (.int m), some (.ref l), some (.ref x), some (.ref lh), some (.ref lr), some (.int ce), some (.ref ro), some (.ref lm'), v9, v10, some (.ref r), some (.bl b), v13] ∧ (b = true ↔ zs.Pairwise (· ≤ ·) ∧ zs.length = hs.length), ?_, ?_⟩
      · refine ⟨_, rfl, _, rfl, r, zs, rfl, SqL.of rz, hzl, fun l1 us nl1 hup hus => ?_⟩
        have s1 := Same.new (o := .lst (us.map V.int)) nl1
        have e1 : (upd HQ l1 (.lst (us.map V.int))) l1 = some (.lst (us.map V.int)) := upd_same
        generalize upd HQ l1 (.lst (us.map V.int)) = G1 at s1 e1
        have e0 : zs = us ↔ zs.Pairwise (· ≤ ·) := ⟨fun z => z ▸ hus, fun z => (sorted_uniq hup hus z).symm⟩
        refine ⟨dI zs, dI us, dat_ints (SqL.of (s1 _ _ rz)), dat_ints (SqL.of e1), shaped_dI _, shaped_dI _, _, rfl, ?_⟩
        rw [eqv_dI]
        by_cases c0 : zs = us
        · rw [decide_eq_true c0]
          refine iteT ⟨_, rfl, r, _, rfl, .inl (SqL.of (s1 _ _ rz)), _, rfl, lh, _, rfl, .inl (SqL.of (s1 _ _ hQ)), rfl, s1, _, rfl, ?_⟩
          rw [decide_eq_true_iff, List.length_map, List.length_map]
          exact ⟨fun z => ⟨e0.mp c0, by injection z with z; omega⟩, fun z => by rw [z.2]⟩
        · rw [decide_eq_false c0]
          exact iteF ⟨s1, false, rfl, fun z => (by cases z), fun z => absurd (e0.mpr z.1) c0⟩
      rintro σ' HR ⟨sR, b, rfl, hb⟩
      have rR := sR _ _ rz
      have lR := (sWQ.trans sR) _ _ lW
      have hzm : (zs.map V.int).length = zs.length := List.length_map ..
      refine ⟨fun σ' H' => Same HR H' ∧ ∃ (lw : Addr) (ws : List Int), σ' = [some (.ref a), some (.int m), some (.ref l), some (.ref x), some (.ref lh), some (.ref lr), some (.int ce), some (.ref ro), some (.ref lm'), v9, v10, some (.ref r), some (.bl b), some (.ref lw)] ∧ H' lw = some (.lst (ws.map V.int)) ∧ (ws = [] ↔ ∀ t ∈ zs, 0 ≤ t ∧ t < (es.length : Int)), ?_, ?_⟩
      · have flen : ∀ j, ((zs.take j).filter fun t => decide (t < 0) || decide ((es.length : Int) ≤ t)).length ≤ j := fun j => Nat.le_trans (List.length_filter_le _ _) (by rw [List.length_take]; omega)
        refine ⟨_, rfl, r, _, rfl, .inl (SqL.of rR), fun J C O hC => lc_by O (fun j ys H3 => H3 = HR ∧ ys = ((zs.take j).filter fun t => decide (t < 0) || decide ((es.length : Int) ≤ t)).map V.int) (by rw [hzm]; exact Nat.le_of_lt (small1000 (by omega))) ⟨rfl, rfl⟩ ?_ ?_ ?_⟩
        · rintro j ys H3 hj ⟨rfl, rfl⟩
          exact ⟨hC _ (Same.refl _), by rw [List.length_map]; exact flen j⟩
        · rintro j ys H3 hj ⟨rfl, rfl⟩
          obtain ⟨v, ev, gv⟩ := getD_map_int hj
          rw [hzm] at hj
          have fl := flen j
          have yes : (decide (v < 0) || decide ((es.length : Int) ≤ v)) = true → ((zs.take j).filter fun t => decide (t < 0) || decide ((es.length : Int) ≤ t)).map V.int ++ [V.int v] = ((zs.take (j + 1)).filter fun t => decide (t < 0) || decide ((es.length : Int) ≤ t)).map V.int := fun z => by
            rw [take_snoc gv, List.filter_append, List.map_append, List.filter_cons_of_pos (p := fun t : Int => decide (t < 0) || decide ((es.length : Int) ≤ t)) z]; rfl
          try dsimp only
          rw [ev]
          refine ⟨wk_set rfl, _, rfl, _, _, rfl, rfl, _, rfl, ?_⟩
          by_cases c1 : v < 0
          · rw [decide_eq_true c1]
            refine iteT (iteT ⟨_, rfl, small1000 (by rw [List.length_map]; omega), _, by omega, rfl, by omega, rfl, yes (by rw [decide_eq_true c1]; rfl)⟩)
          · rw [decide_eq_false c1]
            refine iteF ⟨_, rfl, _, rfl, l, xs, rfl, .inl (SqL.of lR), _, _, rfl, rfl, _, rfl, ?_⟩
            rw [hxl]
            by_cases c2 : (es.length : Int) ≤ v
            · rw [decide_eq_true c2]
              exact iteT ⟨_, rfl, small1000 (by rw [List.length_map]; omega), _, by omega, rfl, by omega, rfl, yes (by rw [decide_eq_true c2, Bool.or_true])⟩
            · rw [decide_eq_false c2]
              refine iteF ⟨_, by omega, rfl, by omega, rfl, ?_⟩
              rw [take_snoc gv, List.filter_append, List.map_append, List.filter_cons_of_neg (p := fun t : Int => decide (t < 0) || decide ((es.length : Int) ≤ t)) (by rw [decide_eq_false c1, decide_eq_false c2]; decide)]; exact (List.append_nil _).symm
        · rintro ys H3 ⟨rfl, rfl⟩ lw nlw
          rw [hzm, List.take_length]
          refine ⟨Same.new nlw, lw, _, rfl, upd_same, ?_⟩
          rw [List.filter_eq_nil_iff]
          constructor
          · intro z t ht
            have := z t ht
            rw [Bool.or_eq_true, decide_eq_true_iff, decide_eq_true_iff] at this
            omega
          · intro z t ht
            have := z t ht
            rw [Bool.or_eq_true, decide_eq_true_iff, decide_eq_true_iff]
            omega
      rintro σ' HS ⟨sS, lw, ws, rfl, wS, hws⟩
      refine ⟨fun σ' H' => Same HS H' ∧ ∃ b2 : Bool, σ' = [some (.ref a), some (.int m), some (.ref l), some (.ref x), some (.ref lh), some (.ref lr), some (.int ce), some (.ref ro), some (.ref lm'), v9, v10, some (.ref r), some (.bl b2), some (.ref lw)] ∧ (b2 = true ↔ (zs.Pairwise (· ≤ ·) ∧ zs.length = hs.length) ∧ ∀ t ∈ zs, 0 ≤ t ∧ t < (es.length : Int)), ?_, ?_⟩
      · refine ⟨_, rfl, b, rfl, ?_⟩
        cases b with
        | false => exact iteF ⟨Same.refl _, false, rfl, fun z => (by cases z), fun z => (by cases hb.mpr z.1)⟩
        | true =>
          refine iteT ⟨_, rfl, by decide, fun q0 nq0 => ?_⟩
          have s1 := Same.new (o := .lst []) nq0
          have z1 : (upd HS q0 (.lst [])) q0 = some (.lst (([] : List Int).map V.int)) := upd_same
          generalize upd HS q0 (.lst []) = G1 at s1 z1
          refine ⟨dI ws, dI [], dat_ints (SqL.of (s1 _ _ wS)), dat_ints (SqL.of z1), shaped_dI _, shaped_dI _, ?_⟩
          rw [eqv_dI]
          refine ⟨s1, _, rfl, ?_⟩
          show decide _ = true ↔ _
          rw [decide_eq_true_iff, hws]
          exact ⟨fun z => ⟨hb.mp rfl, z⟩, fun z => z.2⟩
      rintro σ' HT ⟨sT, b2, rfl, hb2⟩
      have sRT := sS.trans sT
      have sQT := sR.trans sRT
      have sWT := sWQ.trans sQT
      have rT := sQT _ _ rz
      have sPT := sQ.trans sQT
      have hall := S.all
      refine ⟨fun σ' H' => ∃ v11 v12 v13 : Option V, σ' = [some (.ref a), some (.int m), some (.ref l), some (.ref x), some (.ref lh), some (.ref lr), some (.int ce), some (.ref ro), some (.ref lm'), v9, v10, v11, v12, v13] ∧ Same HP H', ?_, fun _ _ z => z⟩
      have refused : ∀ {HU : Hp}, Same HT HU → ¬ Spn es zs → tIfS (tNot (tB fun σ H Q => tCons (tVar 3) (tCons (tCB (rList K) (tCons (tVar 11) tNil)) tNil) σ H fun vs H1 => spRf K c vs H1 Q E0)) (tRet (tC (V.bl false))) tNext { nx := fun σ' H' => ∃ v11 v12 v13 : Option V, σ' = [some (.ref a), some (.int m), some (.ref l), some (.ref x), some (.ref lh), some (.ref lr), some (.int ce), some (.ref ro), some (.ref lm'), v9, v10, v11, v12, v13] ∧ Same HP H', rt := Q } [some (.ref a), some (.int m), some (.ref l), some (.ref x), some (.ref lh), some (.ref lr), some (.int ce), some (.ref ro), some (.ref lm'), v9, v10, some (.ref r), some (.bl b2), some (.ref lw)] HU := fun {HU} sU nS => by
        refine ⟨_, rfl, _, rfl, r, _, rfl, .inl (SqL.of (sU _ _ rT)), fun lq nlq => ?_⟩
        have s1 := sU.next (o := .lst (zs.map V.int)) nlq
        have e1 : (upd HU lq (.lst (zs.map V.int))) lq = some (.lst (zs.map V.int)) := upd_same
        generalize upd HU lq (.lst (zs.map V.int)) = G1 at s1 e1
        exact ⟨x, lq, m, es, zs, rfl, hw.same (sWT.trans s1), SqL.of e1, by omega, m1, m20, hz', hE, nS, fun G2 s2 => ⟨_, rfl, iteF ⟨_, _, _, rfl, sPT.trans (s1.trans s2)⟩⟩⟩
      refine ⟨_, rfl, b2, rfl, ?_⟩
      cases b2 with
      | false =>
        refine iteF (iteF ?_)
        exact refused (Same.refl _) fun z => by cases hb2.mpr ⟨⟨z.ok.up.imp fun h => Int.le_of_lt h, by rw [z.all, hall]⟩, z.ok.rng⟩
      | true =>
        obtain ⟨⟨g1, g2⟩, g3⟩ := hb2.mp rfl
        refine iteT ⟨_, rfl, _, rfl, _, rfl, l, r, m, xs, es, zs, rfl, SqL.of (sWT _ _ lW), pW.same sWT, SqL.of rT, hzl, g3, m1, m20, hz', hE, fun l2 cs2 HU nl2 sU e2 hpm2 hpw2 => ?_⟩
        refine ⟨_, rfl, dI cs2, dI zs, dat_ints (SqL.of e2), dat_ints (SqL.of (sU _ _ rT)), shaped_dI _, shaped_dI _, _, rfl, ?_⟩
        rw [eqv_dI]
        have test := Spn.test (n := hs.length) hall g3 g1 g2 hpm2 hpw2
        by_cases c0 : cs2 = zs
        · rw [decide_eq_true c0]
          have sWU := sWT.trans sU
          exact iteT ⟨_, rfl, _, rfl, _, rfl, _, rfl, l, x, r, m, xs, es, zs, rfl, SqL.of (sWU _ _ lW), pW.same sWU, fun v hv => (tW v hv).same sWU, hw.same sWU, SqL.of (sU _ _ rT), test.mp c0, m1, m20, hz', hE, fun HV sV => ⟨_, rfl, iteF ⟨_, _, _, rfl, (sPT.trans sU).trans sV⟩⟩⟩
        · rw [decide_eq_false c0]
          exact iteF (refused sU fun z => c0 (test.mpr z))
    · rintro σ HQ ⟨v11, v12, v13, rfl, sQ⟩
      exact k _
end
theorem len_1 {us : List Value} (h : us.length = 1) : ∃ a, us = [a] := List.length_eq_one_iff.mp h
theorem len_s {us : List Value} {n : Nat} (h : us.length = n + 1) : ∃ a r, us = a :: r ∧ r.length = n := by
  cases us with
  | nil => cases h
  | cons a r => exact ⟨a, r, rfl, Nat.succ.inj h⟩
theorem len_2 {us : List Value} (h : us.length = 2) : ∃ a b, us = [a, b] := by
  obtain ⟨a, r, rfl, h1⟩ := len_s h
  obtain ⟨b, rfl⟩ := len_1 h1
  exact ⟨a, b, rfl⟩
theorem len_3 {us : List Value} (h : us.length = 3) : ∃ a b c, us = [a, b, c] := by
  obtain ⟨a, r, rfl, h1⟩ := len_s h
  obtain ⟨b, c, rfl⟩ := len_2 h1
  exact ⟨a, b, c, rfl⟩
theorem len_4 {us : List Value} (h : us.length = 4) : ∃ a b c d, us = [a, b, c, d] := by
  obtain ⟨a, r, rfl, h1⟩ := len_s h
  obtain ⟨b, c, d, rfl⟩ := len_3 h1
  exact ⟨a, b, c, d, rfl⟩
theorem all_mk {l : PySem.W.OpenLaw} {w : World} {K : PySem.W.Frag} {h : Heap} {mg : Str → Option Value} {fa f1 f2 f3 f4 f5 f6 f7 f8 f9 f10 f11 f12 f13 f14 f15 f16 f17 f18 f19 f20 f21 f22 f23 f24 f25 f26 f27 f28 f29 f30 f31 f32 f33 qFlowError qBadWeb qTooMany qBadPlace qBadTie qBadFlow qBadRest qNoFlow qBadSet qBadPaper qBadText qBadDeed qWeb : Addr} (X : K.In h) (G : h.Ns mainGlobals mg) (hfa : mg "law" = some (.ref fa))
    {tk1 tk2 : Tok} {od1 an1 od2 an2 od3 an3 od4 an4 od5 an5 od6 an6 od7 an7 od8 an8 od9 an9 od10 an10 od11 an11 od12 an12 od13 an13 od14 an14 od15 an15 od16 an16 od17 an17 od18 an18 od19 an19 od20 an20 od21 an21 od22 an22 od23 an23 od24 an24 od25 an25 od26 an26 od27 an27 od28 an28 od29 an29 od30 an30 od31 an31 od32 an32 od33 an33 : Option Addr} {sl1 sl2 sl3 sl4 sl5 sl6 sl7 sl8 sl9 sl10 sl11 sl12 sl13 sl14 sl15 sl16 sl17 sl18 sl19 sl20 sl21 sl22 sl23 sl24 sl25 sl26 sl27 sl28 sl29 sl30 sl31 sl32 sl33 : Array (Option Value)} {oc1 kV1 dc1 pm1 cd1 ct1 oc2 kV2 dc2 pm2 cd2 ct2 oc3 kV3 dc3 pm3 cd3 ct3 oc4 kV4 dc4 pm4 cd4 ct4 oc5 kV5 dc5 pm5 cd5 ct5 oc6 kV6 dc6 pm6 cd6 ct6 oc7 kV7 dc7 pm7 cd7 ct7 oc8 kV8 dc8 pm8 cd8 ct8 oc9 kV9 dc9 pm9 cd9 ct9 oc10 kV10 dc10 pm10 cd10 ct10 oc11 kV11 dc11 pm11 cd11 ct11 oc12 kV12 dc12 pm12 cd12 ct12 oc13 kV13 dc13 pm13 cd13 ct13 oc14 kV14 dc14 pm14 cd14 ct14 oc15 kV15 dc15 pm15 cd15 ct15 oc16 kV16 dc16 pm16 cd16 ct16 oc17 kV17 dc17 pm17 cd17 ct17 oc18 kV18 dc18 pm18 cd18 ct18 oc19 kV19 dc19 pm19 cd19 ct19 oc20 kV20 dc20 pm20 cd20 ct20 oc21 kV21 dc21 pm21 cd21 ct21 oc22 kV22 dc22 pm22 cd22 ct22 oc23 kV23 dc23 pm23 cd23 ct23 oc24 kV24 dc24 pm24 cd24 ct24 oc25 kV25 dc25 pm25 cd25 ct25 oc26 kV26 dc26 pm26 cd26 ct26 oc27 kV27 dc27 pm27 cd27 ct27 oc28 kV28 dc28 pm28 cd28 ct28 oc29 kV29 dc29 pm29 cd29 ct29 oc30 kV30 dc30 pm30 cd30 ct30 oc31 kV31 dc31 pm31 cd31 ct31 oc32 kV32 dc32 pm32 cd32 ct32 oc33 kV33 dc33 pm33 cd33 ct33 : Value}
    (aCFlowError : PySem.W.nsIn K mainGlobals "FlowError" = some (some (.ref qFlowError)))
    (aCBadWeb : PySem.W.nsIn K mainGlobals "BadWeb" = some (some (.ref qBadWeb)))
    (aCTooMany : PySem.W.nsIn K mainGlobals "TooMany" = some (some (.ref qTooMany)))
    (aCBadPlace : PySem.W.nsIn K mainGlobals "BadPlace" = some (some (.ref qBadPlace)))
    (aCBadTie : PySem.W.nsIn K mainGlobals "BadTie" = some (some (.ref qBadTie)))
    (aCBadFlow : PySem.W.nsIn K mainGlobals "BadFlow" = some (some (.ref qBadFlow)))
    (aCBadRest : PySem.W.nsIn K mainGlobals "BadRest" = some (some (.ref qBadRest)))
    (aCNoFlow : PySem.W.nsIn K mainGlobals "NoFlow" = some (some (.ref qNoFlow)))
    (aCBadSet : PySem.W.nsIn K mainGlobals "BadSet" = some (some (.ref qBadSet)))
    (aCBadPaper : PySem.W.nsIn K mainGlobals "BadPaper" = some (some (.ref qBadPaper)))
    (aCBadText : PySem.W.nsIn K mainGlobals "BadText" = some (some (.ref qBadText)))
    (aCBadDeed : PySem.W.nsIn K mainGlobals "BadDeed" = some (some (.ref qBadDeed)))
    (aCWeb : PySem.W.nsIn K mainGlobals "Web" = some (some (.ref qWeb)))
    (a1 : PySem.W.findIn K (.ref qWeb) "__init__" = some (some (.ref f1)))
    (i1 : PySem.W.isFn K (.ref f1) = true)
    (l1 : K.lookup f1 = some ⟨oc1, od1, .func (PySem.W.fnOf "__init__" "Web.__init__" (defArgs sN) (defBody sN) (defScope sN) .none kV1 dc1 pm1 an1 cd1 ct1), sl1⟩)
    (c1 : PySem.W.codeIn K cd1 "Web.__init__" = true)
    (k1 : PySem.W.keepIn K (.ref f1) = true)
    (a2 : PySem.W.nsIn K mainGlobals "merged" = some (some (.ref f2)))
    (l2 : K.lookup f2 = some ⟨oc2, od2, .func (PySem.W.fnOf "merged" "merged" (defArgs sMe) (defBody sMe) (defScope sMe) .none kV2 dc2 pm2 an2 cd2 ct2), sl2⟩)
    (c2 : PySem.W.codeIn K cd2 "merged" = true)
    (k2 : PySem.W.keepIn K (.ref f2) = true)
    (a3 : PySem.W.nsIn K mainGlobals "pieces" = some (some (.ref f3)))
    (l3 : K.lookup f3 = some ⟨oc3, od3, .func (PySem.W.fnOf "pieces" "pieces" (defArgs sPc) (defBody sPc) (defScope sPc) .none kV3 dc3 pm3 an3 cd3 ct3), sl3⟩)
    (c3 : PySem.W.codeIn K cd3 "pieces" = true)
    (k3 : PySem.W.keepIn K (.ref f3) = true)
    (a4 : PySem.W.nsIn K mainGlobals "check_amounts" = some (some (.ref f4)))
    (l4 : K.lookup f4 = some ⟨oc4, od4, .func (PySem.W.fnOf "check_amounts" "check_amounts" (defArgs sAm) (defBody sAm) (defScope sAm) .none kV4 dc4 pm4 an4 cd4 ct4), sl4⟩)
    (c4 : PySem.W.codeIn K cd4 "check_amounts" = true)
    (k4 : PySem.W.keepIn K (.ref f4) = true)
    (a5 : PySem.W.nsIn K mainGlobals "gains" = some (some (.ref f5)))
    (l5 : K.lookup f5 = some ⟨oc5, od5, .func (PySem.W.fnOf "gains" "gains" (defArgs sGs) (defBody sGs) (defScope sGs) .none kV5 dc5 pm5 an5 cd5 ct5), sl5⟩)
    (c5 : PySem.W.codeIn K cd5 "gains" = true)
    (k5 : PySem.W.keepIn K (.ref f5) = true)
    (a6 : PySem.W.nsIn K mainGlobals "forest" = some (some (.ref f6)))
    (l6 : K.lookup f6 = some ⟨oc6, od6, .func (PySem.W.fnOf "forest" "forest" (defArgs sFr) (defBody sFr) (defScope sFr) .none kV6 dc6 pm6 an6 cd6 ct6), sl6⟩)
    (c6 : PySem.W.codeIn K cd6 "forest" = true)
    (k6 : PySem.W.keepIn K (.ref f6) = true)
    (a7 : PySem.W.nsIn K mainGlobals "free_ties" = some (some (.ref f7)))
    (l7 : K.lookup f7 = some ⟨oc7, od7, .func (PySem.W.fnOf "free_ties" "free_ties" (defArgs sFt) (defBody sFt) (defScope sFt) .none kV7 dc7 pm7 an7 cd7 ct7), sl7⟩)
    (c7 : PySem.W.codeIn K cd7 "free_ties" = true)
    (k7 : PySem.W.keepIn K (.ref f7) = true)
    (a8 : PySem.W.nsIn K mainGlobals "far_end" = some (some (.ref f8)))
    (l8 : K.lookup f8 = some ⟨oc8, od8, .func (PySem.W.fnOf "far_end" "far_end" (defArgs sFe) (defBody sFe) (defScope sFe) .none kV8 dc8 pm8 an8 cd8 ct8), sl8⟩)
    (c8 : PySem.W.codeIn K cd8 "far_end" = true)
    (k8 : PySem.W.keepIn K (.ref f8) = true)
    (a9 : PySem.W.nsIn K mainGlobals "find_way" = some (some (.ref f9)))
    (l9 : K.lookup f9 = some ⟨oc9, od9, .func (PySem.W.fnOf "find_way" "find_way" (defArgs sFw) (defBody sFw) (defScope sFw) .none kV9 dc9 pm9 an9 cd9 ct9), sl9⟩)
    (c9 : PySem.W.codeIn K cd9 "find_way" = true)
    (k9 : PySem.W.keepIn K (.ref f9) = true)
    (a10 : PySem.W.nsIn K mainGlobals "way_back" = some (some (.ref f10)))
    (l10 : K.lookup f10 = some ⟨oc10, od10, .func (PySem.W.fnOf "way_back" "way_back" (defArgs sWb) (defBody sWb) (defScope sWb) .none kV10 dc10 pm10 an10 cd10 ct10), sl10⟩)
    (c10 : PySem.W.codeIn K cd10 "way_back" = true)
    (k10 : PySem.W.keepIn K (.ref f10) = true)
    (a11 : PySem.W.nsIn K mainGlobals "check_rest" = some (some (.ref f11)))
    (l11 : K.lookup f11 = some ⟨oc11, od11, .func (PySem.W.fnOf "check_rest" "check_rest" (defArgs sCr) (defBody sCr) (defScope sCr) .none kV11 dc11 pm11 an11 cd11 ct11), sl11⟩)
    (c11 : PySem.W.codeIn K cd11 "check_rest" = true)
    (k11 : PySem.W.keepIn K (.ref f11) = true)
    (a12 : PySem.W.nsIn K mainGlobals "rests_of" = some (some (.ref f12)))
    (l12 : K.lookup f12 = some ⟨oc12, od12, .func (PySem.W.fnOf "rests_of" "rests_of" (defArgs sRs) (defBody sRs) (defScope sRs) .none kV12 dc12 pm12 an12 cd12 ct12), sl12⟩)
    (c12 : PySem.W.codeIn K cd12 "rests_of" = true)
    (k12 : PySem.W.keepIn K (.ref f12) = true)
    (a13 : PySem.W.nsIn K mainGlobals "is_rest_flow" = some (some (.ref f13)))
    (l13 : K.lookup f13 = some ⟨oc13, od13, .func (PySem.W.fnOf "is_rest_flow" "is_rest_flow" (defArgs sIr) (defBody sIr) (defScope sIr) .none kV13 dc13 pm13 an13 cd13 ct13), sl13⟩)
    (c13 : PySem.W.codeIn K cd13 "is_rest_flow" = true)
    (k13 : PySem.W.keepIn K (.ref f13) = true)
    (a14 : PySem.W.nsIn K mainGlobals "check_set" = some (some (.ref f14)))
    (l14 : K.lookup f14 = some ⟨oc14, od14, .func (PySem.W.fnOf "check_set" "check_set" (defArgs sCk) (defBody sCk) (defScope sCk) .none kV14 dc14 pm14 an14 cd14 ct14), sl14⟩)
    (c14 : PySem.W.codeIn K cd14 "check_set" = true)
    (k14 : PySem.W.keepIn K (.ref f14) = true)
    (a15 : PySem.W.nsIn K mainGlobals "marks" = some (some (.ref f15)))
    (l15 : K.lookup f15 = some ⟨oc15, od15, .func (PySem.W.fnOf "marks" "marks" (defArgs sMr) (defBody sMr) (defScope sMr) .none kV15 dc15 pm15 an15 cd15 ct15), sl15⟩)
    (c15 : PySem.W.codeIn K cd15 "marks" = true)
    (k15 : PySem.W.keepIn K (.ref f15) = true)
    (a16 : PySem.W.nsIn K mainGlobals "is_even" = some (some (.ref f16)))
    (l16 : K.lookup f16 = some ⟨oc16, od16, .func (PySem.W.fnOf "is_even" "is_even" (defArgs sEv) (defBody sEv) (defScope sEv) .none kV16 dc16 pm16 an16 cd16 ct16), sl16⟩)
    (c16 : PySem.W.codeIn K cd16 "is_even" = true)
    (k16 : PySem.W.keepIn K (.ref f16) = true)
    (a17 : PySem.W.nsIn K mainGlobals "is_spanning_forest" = some (some (.ref f17)))
    (l17 : K.lookup f17 = some ⟨oc17, od17, .func (PySem.W.fnOf "is_spanning_forest" "is_spanning_forest" (defArgs sSg) (defBody sSg) (defScope sSg) .none kV17 dc17 pm17 an17 cd17 ct17), sl17⟩)
    (c17 : PySem.W.codeIn K cd17 "is_spanning_forest" = true)
    (k17 : PySem.W.keepIn K (.ref f17) = true)
    (a18 : PySem.W.nsIn K mainGlobals "check_spanning_forest" = some (some (.ref f18)))
    (l18 : K.lookup f18 = some ⟨oc18, od18, .func (PySem.W.fnOf "check_spanning_forest" "check_spanning_forest" (defArgs sCg) (defBody sCg) (defScope sCg) .none kV18 dc18 pm18 an18 cd18 ct18), sl18⟩)
    (c18 : PySem.W.codeIn K cd18 "check_spanning_forest" = true)
    (k18 : PySem.W.keepIn K (.ref f18) = true)
    (a19 : PySem.W.nsIn K mainGlobals "completed" = some (some (.ref f19)))
    (l19 : K.lookup f19 = some ⟨oc19, od19, .func (PySem.W.fnOf "completed" "completed" (defArgs sCo) (defBody sCo) (defScope sCo) .none kV19 dc19 pm19 an19 cd19 ct19), sl19⟩)
    (c19 : PySem.W.codeIn K cd19 "completed" = true)
    (k19 : PySem.W.keepIn K (.ref f19) = true)
    (a20 : PySem.W.nsIn K mainGlobals "_law_cell" = some (some (.ref f20)))
    (l20 : K.lookup f20 = some ⟨oc20, od20, .func (PySem.W.fnOf "_law_cell" "_law_cell" (defArgs sC) (defBody sC) (defScope sC) .none kV20 dc20 pm20 an20 cd20 ct20), sl20⟩)
    (c20 : PySem.W.codeIn K cd20 "_law_cell" = true)
    (k20 : PySem.W.keepIn K (.ref f20) = true)
    (a21 : PySem.W.nsIn K mainGlobals "_law_whole" = some (some (.ref f21)))
    (l21 : K.lookup f21 = some ⟨oc21, od21, .func (PySem.W.fnOf "_law_whole" "_law_whole" (defArgs sH) (defBody sH) (defScope sH) .none kV21 dc21 pm21 an21 cd21 ct21), sl21⟩)
    (c21 : PySem.W.codeIn K cd21 "_law_whole" = true)
    (k21 : PySem.W.keepIn K (.ref f21) = true)
    (a22 : PySem.W.nsIn K mainGlobals "_law_alone" = some (some (.ref f22)))
    (l22 : K.lookup f22 = some ⟨oc22, od22, .func (PySem.W.fnOf "_law_alone" "_law_alone" (defArgs sX) (defBody sX) (defScope sX) .none kV22 dc22 pm22 an22 cd22 ct22), sl22⟩)
    (c22 : PySem.W.codeIn K cd22 "_law_alone" = true)
    (k22 : PySem.W.keepIn K (.ref f22) = true)
    (a23 : PySem.W.nsIn K mainGlobals "_law_ends" = some (some (.ref f23)))
    (l23 : K.lookup f23 = some ⟨oc23, od23, .func (PySem.W.fnOf "_law_ends" "_law_ends" (defArgs sE) (defBody sE) (defScope sE) .none kV23 dc23 pm23 an23 cd23 ct23), sl23⟩)
    (c23 : PySem.W.codeIn K cd23 "_law_ends" = true)
    (k23 : PySem.W.keepIn K (.ref f23) = true)
    (a24 : PySem.W.nsIn K mainGlobals "_law_drawn" = some (some (.ref f24)))
    (l24 : K.lookup f24 = some ⟨oc24, od24, .func (PySem.W.fnOf "_law_drawn" "_law_drawn" (defArgs sD) (defBody sD) (defScope sD) .none kV24 dc24 pm24 an24 cd24 ct24), sl24⟩)
    (c24 : PySem.W.codeIn K cd24 "_law_drawn" = true)
    (k24 : PySem.W.keepIn K (.ref f24) = true)
    (a25 : PySem.W.nsIn K mainGlobals "_law_forest" = some (some (.ref f25)))
    (l25 : K.lookup f25 = some ⟨oc25, od25, .func (PySem.W.fnOf "_law_forest" "_law_forest" (defArgs sFo) (defBody sFo) (defScope sFo) .none kV25 dc25 pm25 an25 cd25 ct25), sl25⟩)
    (c25 : PySem.W.codeIn K cd25 "_law_forest" = true)
    (k25 : PySem.W.keepIn K (.ref f25) = true)
    (a26 : PySem.W.nsIn K mainGlobals "_law_chosen" = some (some (.ref f26)))
    (l26 : K.lookup f26 = some ⟨oc26, od26, .func (PySem.W.fnOf "_law_chosen" "_law_chosen" (defArgs sCh) (defBody sCh) (defScope sCh) .none kV26 dc26 pm26 an26 cd26 ct26), sl26⟩)
    (c26 : PySem.W.codeIn K cd26 "_law_chosen" = true)
    (k26 : PySem.W.keepIn K (.ref f26) = true)
    (a27 : PySem.W.nsIn K mainGlobals "_law_completed" = some (some (.ref f27)))
    (l27 : K.lookup f27 = some ⟨oc27, od27, .func (PySem.W.fnOf "_law_completed" "_law_completed" (defArgs sCm) (defBody sCm) (defScope sCm) .none kV27 dc27 pm27 an27 cd27 ct27), sl27⟩)
    (c27 : PySem.W.codeIn K cd27 "_law_completed" = true)
    (k27 : PySem.W.keepIn K (.ref f27) = true)
    (a28 : PySem.W.nsIn K mainGlobals "_law_list" = some (some (.ref f28)))
    (l28 : K.lookup f28 = some ⟨oc28, od28, .func (PySem.W.fnOf "_law_list" "_law_list" (defArgs sLi) (defBody sLi) (defScope sLi) .none kV28 dc28 pm28 an28 cd28 ct28), sl28⟩)
    (c28 : PySem.W.codeIn K cd28 "_law_list" = true)
    (k28 : PySem.W.keepIn K (.ref f28) = true)
    (a29 : PySem.W.nsIn K mainGlobals "_law_bad_set" = some (some (.ref f29)))
    (l29 : K.lookup f29 = some ⟨oc29, od29, .func (PySem.W.fnOf "_law_bad_set" "_law_bad_set" (defArgs sBs) (defBody sBs) (defScope sBs) .none kV29 dc29 pm29 an29 cd29 ct29), sl29⟩)
    (c29 : PySem.W.codeIn K cd29 "_law_bad_set" = true)
    (k29 : PySem.W.keepIn K (.ref f29) = true)
    (a30 : PySem.W.nsIn K mainGlobals "_law_order" = some (some (.ref f30)))
    (l30 : K.lookup f30 = some ⟨oc30, od30, .func (PySem.W.fnOf "_law_order" "_law_order" (defArgs sOr) (defBody sOr) (defScope sOr) .none kV30 dc30 pm30 an30 cd30 ct30), sl30⟩)
    (c30 : PySem.W.codeIn K cd30 "_law_order" = true)
    (k30 : PySem.W.keepIn K (.ref f30) = true)
    (a31 : PySem.W.nsIn K mainGlobals "_law_refused" = some (some (.ref f31)))
    (l31 : K.lookup f31 = some ⟨oc31, od31, .func (PySem.W.fnOf "_law_refused" "_law_refused" (defArgs sRf) (defBody sRf) (defScope sRf) .none kV31 dc31 pm31 an31 cd31 ct31), sl31⟩)
    (c31 : PySem.W.codeIn K cd31 "_law_refused" = true)
    (k31 : PySem.W.keepIn K (.ref f31) = true)
    (a32 : PySem.W.nsIn K mainGlobals "_law_right" = some (some (.ref f32)))
    (l32 : K.lookup f32 = some ⟨oc32, od32, .func (PySem.W.fnOf "_law_right" "_law_right" (defArgs sR) (defBody sR) (defScope sR) .none kV32 dc32 pm32 an32 cd32 ct32), sl32⟩)
    (c32 : PySem.W.codeIn K cd32 "_law_right" = true)
    (k32 : PySem.W.keepIn K (.ref f32) = true)
    (a33 : PySem.W.nsIn K mainGlobals "law" = some (some (.ref f33)))
    (l33 : K.lookup f33 = some ⟨oc33, od33, .func (PySem.W.fnOf "law" "law" (defArgs sL) (defBody sL) (defScope sL) .none kV33 dc33 pm33 an33 cd33 ct33), sl33⟩)
    (c33 : PySem.W.codeIn K cd33 "law" = true)
    (k33 : PySem.W.keepIn K (.ref f33) = true)
    (pg : PySem.W.plainGet K qWeb Str.empty = true)
    (hd : PySem.W.hasDictIn K qWeb = true)
    (po : PySem.W.plainOver K qWeb = true)
    (sa : PySem.W.findIn K (.ref qWeb) "__setattr__" = some (some (.builtin "object.__setattr__")))
    (nM : PySem.W.findIn K (.ref qWeb) "many" = some none)
    (nT : PySem.W.findIn K (.ref qWeb) "ties" = some none)
    (ca : PySem.W.findIn K (.ref qWeb) "__class__" = some (some (.builtin "object.__class__")))
    (cg : PySem.W.specialIn K (.builtin "object.__class__") "__get__" = some (some (.builtin "getset_descriptor.__get__")))
    (ck : PySem.W.takesIn K (.builtin "object.__class__") = some true)
    (co : PySem.W.mroIn K qWeb (.type "object") = some true)
    (mk : PySem.W.makesIn K qWeb = true)
    (kc : PySem.W.keepIn K (.ref qWeb) = true)
    (mp : PySem.W.nsIn K mainGlobals "MOST_PLACES" = some (some (.int 20 tk1)))
    (mt : PySem.W.nsIn K mainGlobals "MOST_TIES" = some (some (.int 40 tk2)))
    (x_ie_FlowError : PySem.W.excIn K qFlowError vErr "ValueError.__new__" = true)
    (x_ie_BadFlow : PySem.W.excIn K qBadFlow vErr "ValueError.__new__" = true)
    (x_mr_BadFlow : PySem.W.mroIn K qBadFlow (.ref qFlowError) = some true)
    (x_ga_BadFlow : PySem.W.findIn K (.ref qBadFlow) "__getattribute__" = some (some (.builtin "BaseException.__getattribute__")))
    (x_gn_BadFlow : PySem.W.findIn K (.ref qBadFlow) "__getattr__" = some none)
    (x_cl_BadFlow : PySem.W.findIn K (.ref qBadFlow) "__class__" = some (some (.builtin "object.__class__")))
    (x_co_BadFlow : PySem.W.mroIn K qBadFlow (.type "object") = some true)
    (x_cb_BadFlow : PySem.W.mroIn K qBadFlow (.type "BaseException") = some true)
    (x_is_BadFlow : PySem.W.isClsIn K qBadFlow = true)
    (x_k_BadFlow_BadWeb : PySem.W.kitOne K (.ref qBadFlow) (.ref qBadWeb) = some false)
    (x_k_BadFlow_TooMany : PySem.W.kitOne K (.ref qBadFlow) (.ref qTooMany) = some false)
    (x_k_BadFlow_BadPlace : PySem.W.kitOne K (.ref qBadFlow) (.ref qBadPlace) = some false)
    (x_k_BadFlow_BadTie : PySem.W.kitOne K (.ref qBadFlow) (.ref qBadTie) = some false)
    (x_k_BadFlow_BadFlow : PySem.W.kitOne K (.ref qBadFlow) (.ref qBadFlow) = some true)
    (x_k_BadFlow_BadRest : PySem.W.kitOne K (.ref qBadFlow) (.ref qBadRest) = some false)
    (x_k_BadFlow_NoFlow : PySem.W.kitOne K (.ref qBadFlow) (.ref qNoFlow) = some false)
    (x_k_BadFlow_BadSet : PySem.W.kitOne K (.ref qBadFlow) (.ref qBadSet) = some false)
    (x_k_BadFlow_BadPaper : PySem.W.kitOne K (.ref qBadFlow) (.ref qBadPaper) = some false)
    (x_k_BadFlow_BadText : PySem.W.kitOne K (.ref qBadFlow) (.ref qBadText) = some false)
    (x_k_BadFlow_BadDeed : PySem.W.kitOne K (.ref qBadFlow) (.ref qBadDeed) = some false)
    (x_kf_BadFlow : PySem.W.kitOne K (.ref qBadFlow) (.ref qFlowError) = some true)
    (x_kv_BadFlow : PySem.W.kitOne K (.ref qBadFlow) (.type "ValueError") = some true)
    (x_ie_BadRest : PySem.W.excIn K qBadRest vErr "ValueError.__new__" = true)
    (x_mr_BadRest : PySem.W.mroIn K qBadRest (.ref qFlowError) = some true)
    (x_ga_BadRest : PySem.W.findIn K (.ref qBadRest) "__getattribute__" = some (some (.builtin "BaseException.__getattribute__")))
    (x_gn_BadRest : PySem.W.findIn K (.ref qBadRest) "__getattr__" = some none)
    (x_cl_BadRest : PySem.W.findIn K (.ref qBadRest) "__class__" = some (some (.builtin "object.__class__")))
    (x_co_BadRest : PySem.W.mroIn K qBadRest (.type "object") = some true)
    (x_cb_BadRest : PySem.W.mroIn K qBadRest (.type "BaseException") = some true)
    (x_is_BadRest : PySem.W.isClsIn K qBadRest = true)
    (x_k_BadRest_BadWeb : PySem.W.kitOne K (.ref qBadRest) (.ref qBadWeb) = some false)
    (x_k_BadRest_TooMany : PySem.W.kitOne K (.ref qBadRest) (.ref qTooMany) = some false)
    (x_k_BadRest_BadPlace : PySem.W.kitOne K (.ref qBadRest) (.ref qBadPlace) = some false)
    (x_k_BadRest_BadTie : PySem.W.kitOne K (.ref qBadRest) (.ref qBadTie) = some false)
    (x_k_BadRest_BadFlow : PySem.W.kitOne K (.ref qBadRest) (.ref qBadFlow) = some false)
    (x_k_BadRest_BadRest : PySem.W.kitOne K (.ref qBadRest) (.ref qBadRest) = some true)
    (x_k_BadRest_NoFlow : PySem.W.kitOne K (.ref qBadRest) (.ref qNoFlow) = some false)
    (x_k_BadRest_BadSet : PySem.W.kitOne K (.ref qBadRest) (.ref qBadSet) = some false)
    (x_k_BadRest_BadPaper : PySem.W.kitOne K (.ref qBadRest) (.ref qBadPaper) = some false)
    (x_k_BadRest_BadText : PySem.W.kitOne K (.ref qBadRest) (.ref qBadText) = some false)
    (x_k_BadRest_BadDeed : PySem.W.kitOne K (.ref qBadRest) (.ref qBadDeed) = some false)
    (x_kf_BadRest : PySem.W.kitOne K (.ref qBadRest) (.ref qFlowError) = some true)
    (x_kv_BadRest : PySem.W.kitOne K (.ref qBadRest) (.type "ValueError") = some true)
    (x_ie_BadSet : PySem.W.excIn K qBadSet vErr "ValueError.__new__" = true)
    (x_mr_BadSet : PySem.W.mroIn K qBadSet (.ref qFlowError) = some true)
    (x_ga_BadSet : PySem.W.findIn K (.ref qBadSet) "__getattribute__" = some (some (.builtin "BaseException.__getattribute__")))
    (x_gn_BadSet : PySem.W.findIn K (.ref qBadSet) "__getattr__" = some none)
    (x_cl_BadSet : PySem.W.findIn K (.ref qBadSet) "__class__" = some (some (.builtin "object.__class__")))
    (x_co_BadSet : PySem.W.mroIn K qBadSet (.type "object") = some true)
    (x_cb_BadSet : PySem.W.mroIn K qBadSet (.type "BaseException") = some true)
    (x_is_BadSet : PySem.W.isClsIn K qBadSet = true)
    (x_k_BadSet_BadWeb : PySem.W.kitOne K (.ref qBadSet) (.ref qBadWeb) = some false)
    (x_k_BadSet_TooMany : PySem.W.kitOne K (.ref qBadSet) (.ref qTooMany) = some false)
    (x_k_BadSet_BadPlace : PySem.W.kitOne K (.ref qBadSet) (.ref qBadPlace) = some false)
    (x_k_BadSet_BadTie : PySem.W.kitOne K (.ref qBadSet) (.ref qBadTie) = some false)
    (x_k_BadSet_BadFlow : PySem.W.kitOne K (.ref qBadSet) (.ref qBadFlow) = some false)
    (x_k_BadSet_BadRest : PySem.W.kitOne K (.ref qBadSet) (.ref qBadRest) = some false)
    (x_k_BadSet_NoFlow : PySem.W.kitOne K (.ref qBadSet) (.ref qNoFlow) = some false)
    (x_k_BadSet_BadSet : PySem.W.kitOne K (.ref qBadSet) (.ref qBadSet) = some true)
    (x_k_BadSet_BadPaper : PySem.W.kitOne K (.ref qBadSet) (.ref qBadPaper) = some false)
    (x_k_BadSet_BadText : PySem.W.kitOne K (.ref qBadSet) (.ref qBadText) = some false)
    (x_k_BadSet_BadDeed : PySem.W.kitOne K (.ref qBadSet) (.ref qBadDeed) = some false)
    (x_kf_BadSet : PySem.W.kitOne K (.ref qBadSet) (.ref qFlowError) = some true)
    (x_kv_BadSet : PySem.W.kitOne K (.ref qBadSet) (.type "ValueError") = some true)
    (z0 : PySem.W.nsIn K mainGlobals "ValueError" = some none)
    (z1 : PySem.W.nsIn K mainGlobals "abs" = some none)
    (z2 : PySem.W.nsIn K mainGlobals "all" = some none)
    (z3 : PySem.W.nsIn K mainGlobals "any" = some none)
    (z4 : PySem.W.nsIn K mainGlobals "bool" = some none)
    (z5 : PySem.W.nsIn K mainGlobals "enumerate" = some none)
    (z6 : PySem.W.nsIn K mainGlobals "int" = some none)
    (z7 : PySem.W.nsIn K mainGlobals "isinstance" = some none)
    (z8 : PySem.W.nsIn K mainGlobals "len" = some none)
    (z9 : PySem.W.nsIn K mainGlobals "list" = some none)
    (z10 : PySem.W.nsIn K mainGlobals "max" = some none)
    (z11 : PySem.W.nsIn K mainGlobals "min" = some none)
    (z12 : PySem.W.nsIn K mainGlobals "range" = some none)
    (z13 : PySem.W.nsIn K mainGlobals "sorted" = some none)
    (z14 : PySem.W.nsIn K mainGlobals "sum" = some none)
    (z15 : PySem.W.nsIn K mainGlobals "tuple" = some none)
    (z16 : PySem.W.nsIn K mainGlobals "zip" = some none) :
    ∃ fd : FuncData, (∀ (s : Shared) (v : Value), BindsTo s fd ⟨[v], []⟩ [("script", v)]) ∧ ∀ base : Heap, K.In base → base.Ns mainGlobals mg → FnOk l.prog w K mg base CX0 8 fa fd ["script"] (spLaw K) := by
  have e := hfa.symm.trans (PySem.W.mg_of X G a33)
  cases e
  have T : Txt K mg (⟨qFlowError, qBadWeb, qTooMany, qBadPlace, qBadTie, qBadFlow, qBadRest, qNoFlow, qBadSet, qBadPaper, qBadText, qBadDeed, qWeb⟩ : Cs) := ⟨PySem.W.mg_none_of X G z0, PySem.W.mg_none_of X G z1, PySem.W.mg_none_of X G z2, PySem.W.mg_none_of X G z3, PySem.W.mg_none_of X G z4, PySem.W.mg_none_of X G z5, PySem.W.mg_none_of X G z6, PySem.W.mg_none_of X G z7, PySem.W.mg_none_of X G z8, PySem.W.mg_none_of X G z9, PySem.W.mg_none_of X G z10, PySem.W.mg_none_of X G z11, PySem.W.mg_none_of X G z12, PySem.W.mg_none_of X G z13, PySem.W.mg_none_of X G z14, PySem.W.mg_none_of X G z15, PySem.W.mg_none_of X G z16, PySem.W.mg_of X G aCFlowError, PySem.W.mg_of X G aCBadWeb, PySem.W.mg_of X G aCTooMany, PySem.W.mg_of X G aCBadPlace, PySem.W.mg_of X G aCBadTie, PySem.W.mg_of X G aCBadFlow, PySem.W.mg_of X G aCBadRest, PySem.W.mg_of X G aCNoFlow, PySem.W.mg_of X G aCBadSet, PySem.W.mg_of X G aCBadPaper, PySem.W.mg_of X G aCBadText, PySem.W.mg_of X G aCBadDeed, PySem.W.mg_of X G aCWeb, ⟨⟨pg, hd, po, sa⟩, nM, nT, ca, cg, ck, co⟩, ⟨_, PySem.W.mg_of X G mp⟩, ⟨_, PySem.W.mg_of X G mt⟩, x_ie_FlowError, x_ie_BadFlow, x_mr_BadFlow, ⟨⟨x_ga_BadFlow, x_gn_BadFlow, x_cl_BadFlow, cg, ck, x_co_BadFlow, x_cb_BadFlow, x_is_BadFlow⟩, ⟨_, _, _, _, _, _, _, _, _, _, _, x_k_BadFlow_BadWeb, x_k_BadFlow_TooMany, x_k_BadFlow_BadPlace, x_k_BadFlow_BadTie, x_k_BadFlow_BadFlow, x_k_BadFlow_BadRest, x_k_BadFlow_NoFlow, x_k_BadFlow_BadSet, x_k_BadFlow_BadPaper, x_k_BadFlow_BadText, x_k_BadFlow_BadDeed, rfl⟩, x_kf_BadFlow, x_kv_BadFlow⟩, x_ie_BadRest, x_mr_BadRest, ⟨⟨x_ga_BadRest, x_gn_BadRest, x_cl_BadRest, cg, ck, x_co_BadRest, x_cb_BadRest, x_is_BadRest⟩, ⟨_, _, _, _, _, _, _, _, _, _, _, x_k_BadRest_BadWeb, x_k_BadRest_TooMany, x_k_BadRest_BadPlace, x_k_BadRest_BadTie, x_k_BadRest_BadFlow, x_k_BadRest_BadRest, x_k_BadRest_NoFlow, x_k_BadRest_BadSet, x_k_BadRest_BadPaper, x_k_BadRest_BadText, x_k_BadRest_BadDeed, rfl⟩, x_kf_BadRest, x_kv_BadRest⟩, x_ie_BadSet, x_mr_BadSet, ⟨⟨x_ga_BadSet, x_gn_BadSet, x_cl_BadSet, cg, ck, x_co_BadSet, x_cb_BadSet, x_is_BadSet⟩, ⟨_, _, _, _, _, _, _, _, _, _, _, x_k_BadSet_BadWeb, x_k_BadSet_TooMany, x_k_BadSet_BadPlace, x_k_BadSet_BadTie, x_k_BadSet_BadFlow, x_k_BadSet_BadRest, x_k_BadSet_NoFlow, x_k_BadSet_BadSet, x_k_BadSet_BadPaper, x_k_BadSet_BadText, x_k_BadSet_BadDeed, rfl⟩, x_kf_BadSet, x_kv_BadSet⟩⟩
  have F1 := fun_mk (st := sN) l1 c1 k1
  have F2 := fun_mk (st := sMe) l2 c2 k2
  have F3 := fun_mk (st := sPc) l3 c3 k3
  have F4 := fun_mk (st := sAm) l4 c4 k4
  have F5 := fun_mk (st := sGs) l5 c5 k5
  have F6 := fun_mk (st := sFr) l6 c6 k6
  have F7 := fun_mk (st := sFt) l7 c7 k7
  have F8 := fun_mk (st := sFe) l8 c8 k8
  have F9 := fun_mk (st := sFw) l9 c9 k9
  have F10 := fun_mk (st := sWb) l10 c10 k10
  have F11 := fun_mk (st := sCr) l11 c11 k11
  have F12 := fun_mk (st := sRs) l12 c12 k12
  have F13 := fun_mk (st := sIr) l13 c13 k13
  have F14 := fun_mk (st := sCk) l14 c14 k14
  have F15 := fun_mk (st := sMr) l15 c15 k15
  have F16 := fun_mk (st := sEv) l16 c16 k16
  have F17 := fun_mk (st := sSg) l17 c17 k17
  have F18 := fun_mk (st := sCg) l18 c18 k18
  have F19 := fun_mk (st := sCo) l19 c19 k19
  have F20 := fun_mk (st := sC) l20 c20 k20
  have F21 := fun_mk (st := sH) l21 c21 k21
  have F22 := fun_mk (st := sX) l22 c22 k22
  have F23 := fun_mk (st := sE) l23 c23 k23
  have F24 := fun_mk (st := sD) l24 c24 k24
  have F25 := fun_mk (st := sFo) l25 c25 k25
  have F26 := fun_mk (st := sCh) l26 c26 k26
  have F27 := fun_mk (st := sCm) l27 c27 k27
  have F28 := fun_mk (st := sLi) l28 c28 k28
  have F29 := fun_mk (st := sBs) l29 c29 k29
  have F30 := fun_mk (st := sOr) l30 c30 k30
  have F31 := fun_mk (st := sRf) l31 c31 k31
  have F32 := fun_mk (st := sR) l32 c32 k32
  have F33 := fun_mk (st := sL) l33 c33 k33
  have b1 := F1.binds (ps := ["self", "many", "ties"]) fun _ _ _ _ _ _ us hl => by obtain ⟨_, _, _, rfl⟩ := len_3 hl; rfl
  have b2 := F2.binds (ps := ["labels", "one", "two"]) fun _ _ _ _ _ _ us hl => by obtain ⟨_, _, _, rfl⟩ := len_3 hl; rfl
  have b3 := F3.binds (ps := ["web"]) fun _ _ _ _ _ _ us hl => by obtain ⟨_, rfl⟩ := len_1 hl; rfl
  have b4 := F4.binds (ps := ["web", "flow"]) fun _ _ _ _ _ _ us hl => by obtain ⟨_, _, rfl⟩ := len_2 hl; rfl
  have b5 := F5.binds (ps := ["web", "flow"]) fun _ _ _ _ _ _ us hl => by obtain ⟨_, _, rfl⟩ := len_2 hl; rfl
  have b6 := F6.binds (ps := ["web"]) fun _ _ _ _ _ _ us hl => by obtain ⟨_, rfl⟩ := len_1 hl; rfl
  have b7 := F7.binds (ps := ["web"]) fun _ _ _ _ _ _ us hl => by obtain ⟨_, rfl⟩ := len_1 hl; rfl
  have b8 := F8.binds (ps := ["web", "tie", "place"]) fun _ _ _ _ _ _ us hl => by obtain ⟨_, _, _, rfl⟩ := len_3 hl; rfl
  have b9 := F9.binds (ps := ["web", "some", "start", "goal"]) fun _ _ _ _ _ _ us hl => by obtain ⟨_, _, _, _, rfl⟩ := len_4 hl; rfl
  have b10 := F10.binds (ps := ["web", "tie", "some"]) fun _ _ _ _ _ _ us hl => by obtain ⟨_, _, _, rfl⟩ := len_3 hl; rfl
  have b11 := F11.binds (ps := ["k"]) fun _ _ _ _ _ _ us hl => by obtain ⟨_, rfl⟩ := len_1 hl; rfl
  have b12 := F12.binds (ps := ["amounts", "k"]) fun _ _ _ _ _ _ us hl => by obtain ⟨_, _, rfl⟩ := len_2 hl; rfl
  have b13 := F13.binds (ps := ["web", "rests", "k"]) fun _ _ _ _ _ _ us hl => by obtain ⟨_, _, _, rfl⟩ := len_3 hl; rfl
  have b14 := F14.binds (ps := ["web", "some"]) fun _ _ _ _ _ _ us hl => by obtain ⟨_, _, rfl⟩ := len_2 hl; rfl
  have b15 := F15.binds (ps := ["web", "some"]) fun _ _ _ _ _ _ us hl => by obtain ⟨_, _, rfl⟩ := len_2 hl; rfl
  have b16 := F16.binds (ps := ["web", "some"]) fun _ _ _ _ _ _ us hl => by obtain ⟨_, _, rfl⟩ := len_2 hl; rfl
  have b17 := F17.binds (ps := ["web", "some"]) fun _ _ _ _ _ _ us hl => by obtain ⟨_, _, rfl⟩ := len_2 hl; rfl
  have b18 := F18.binds (ps := ["web", "some"]) fun _ _ _ _ _ _ us hl => by obtain ⟨_, _, rfl⟩ := len_2 hl; rfl
  have b19 := F19.binds (ps := ["web", "some"]) fun _ _ _ _ _ _ us hl => by obtain ⟨_, _, rfl⟩ := len_2 hl; rfl
  have b20 := F20.binds (ps := ["script", "k"]) fun _ _ _ _ _ _ us hl => by obtain ⟨_, _, rfl⟩ := len_2 hl; rfl
  have b21 := F21.binds (ps := ["found"]) fun _ _ _ _ _ _ us hl => by obtain ⟨_, rfl⟩ := len_1 hl; rfl
  have b22 := F22.binds (ps := ["e"]) fun _ _ _ _ _ _ us hl => by obtain ⟨_, rfl⟩ := len_1 hl; rfl
  have b23 := F23.binds (ps := ["script", "many", "count", "way"]) fun _ _ _ _ _ _ us hl => by obtain ⟨_, _, _, _, rfl⟩ := len_4 hl; rfl
  have b24 := F24.binds (ps := ["script", "most", "bound"]) fun _ _ _ _ _ _ us hl => by obtain ⟨_, _, _, rfl⟩ := len_3 hl; rfl
  have b25 := F25.binds (ps := ["many", "ends", "order"]) fun _ _ _ _ _ _ us hl => by obtain ⟨_, _, _, rfl⟩ := len_3 hl; rfl
  have b26 := F26.binds (ps := ["cell", "many"]) fun _ _ _ _ _ _ us hl => by obtain ⟨_, _, rfl⟩ := len_2 hl; rfl
  have b27 := F27.binds (ps := ["many", "ends", "held", "some"]) fun _ _ _ _ _ _ us hl => by obtain ⟨_, _, _, _, rfl⟩ := len_4 hl; rfl
  have b28 := F28.binds (ps := ["found", "due"]) fun _ _ _ _ _ _ us hl => by obtain ⟨_, _, rfl⟩ := len_2 hl; rfl
  have b29 := F29.binds (ps := ["some", "count", "cell"]) fun _ _ _ _ _ _ us hl => by obtain ⟨_, _, _, rfl⟩ := len_3 hl; rfl
  have b30 := F30.binds (ps := ["script", "many"]) fun _ _ _ _ _ _ us hl => by obtain ⟨_, _, rfl⟩ := len_2 hl; rfl
  have b31 := F31.binds (ps := ["web", "some"]) fun _ _ _ _ _ _ us hl => by obtain ⟨_, _, rfl⟩ := len_2 hl; rfl
  have b32 := F32.binds (ps := ["many", "ends", "web", "some"]) fun _ _ _ _ _ _ us hl => by obtain ⟨_, _, _, _, rfl⟩ := len_4 hl; rfl
  refine ⟨PySem.W.fnOf "law" "law" (defArgs sL) (defBody sL) (defScope sL) .none kV33 dc33 pm33 an33 cd33 ct33, fun s v => .of_eq rfl, fun base _ _ => ?_⟩
  have D_N : MkDef l.prog w K mg base 1 "Web" qWeb ["self", "many", "ties"] (spInit K qWeb) := ⟨f1, _, ⟨mk, a1, i1, kc⟩, ok_N F1 T, b1, PySem.W.mg_of X G aCWeb⟩
  have D_Me : Def l.prog w K mg base 1 "merged" ["labels", "one", "two"] (spMe K) := .of F2 (PySem.W.mg_of X G a2) b2 (ok_Me F2 T )
  have D_Pc : Def l.prog w K mg base 2 "pieces" ["web"] (spPc K (⟨qFlowError, qBadWeb, qTooMany, qBadPlace, qBadTie, qBadFlow, qBadRest, qNoFlow, qBadSet, qBadPaper, qBadText, qBadDeed, qWeb⟩ : Cs)) := .of F3 (PySem.W.mg_of X G a3) b3 (ok_Pc F3 T D_Me)
  have D_Am : DefE l.prog w K mg base 1 "check_amounts" ["web", "flow"] (spAm K qWeb qBadFlow) := .of F4 (PySem.W.mg_of X G a4) b4 (ok_Am F4 T )
  have D_Gs : Def l.prog w K mg base 1 "gains" ["web", "flow"] (spGs K qWeb) := .of F5 (PySem.W.mg_of X G a5) b5 (ok_Gs F5 T )
  have D_Fr : Def l.prog w K mg base 2 "forest" ["web"] (spFr K (⟨qFlowError, qBadWeb, qTooMany, qBadPlace, qBadTie, qBadFlow, qBadRest, qNoFlow, qBadSet, qBadPaper, qBadText, qBadDeed, qWeb⟩ : Cs)) := .of F6 (PySem.W.mg_of X G a6) b6 (ok_Fr F6 T D_Me)
  have D_Ft : Def l.prog w K mg base 3 "free_ties" ["web"] (spFt K (⟨qFlowError, qBadWeb, qTooMany, qBadPlace, qBadTie, qBadFlow, qBadRest, qNoFlow, qBadSet, qBadPaper, qBadText, qBadDeed, qWeb⟩ : Cs)) := .of F7 (PySem.W.mg_of X G a7) b7 (ok_Ft F7 T D_Fr)
  have D_Fe : Def l.prog w K mg base 1 "far_end" ["web", "tie", "place"] (spFe K (⟨qFlowError, qBadWeb, qTooMany, qBadPlace, qBadTie, qBadFlow, qBadRest, qNoFlow, qBadSet, qBadPaper, qBadText, qBadDeed, qWeb⟩ : Cs)) := .of F8 (PySem.W.mg_of X G a8) b8 (ok_Fe F8 T )
  have D_Fw : Def l.prog w K mg base 2 "find_way" ["web", "some", "start", "goal"] (spFw K (⟨qFlowError, qBadWeb, qTooMany, qBadPlace, qBadTie, qBadFlow, qBadRest, qNoFlow, qBadSet, qBadPaper, qBadText, qBadDeed, qWeb⟩ : Cs)) := .of F9 (PySem.W.mg_of X G a9) b9 (ok_Fw F9 T D_Fe)
  have D_Wb : Def l.prog w K mg base 3 "way_back" ["web", "tie", "some"] (spWb K (⟨qFlowError, qBadWeb, qTooMany, qBadPlace, qBadTie, qBadFlow, qBadRest, qNoFlow, qBadSet, qBadPaper, qBadText, qBadDeed, qWeb⟩ : Cs)) := .of F10 (PySem.W.mg_of X G a10) b10 (ok_Wb F10 T D_Fw)
  have D_Cr : DefE l.prog w K mg base 1 "check_rest" ["k"] (spCr K qBadRest) := .of F11 (PySem.W.mg_of X G a11) b11 (ok_Cr F11 T )
  have D_Rs : DefE l.prog w K mg base 2 "rests_of" ["amounts", "k"] (spRs K qBadRest) := .of F12 (PySem.W.mg_of X G a12) b12 (ok_Rs F12 T D_Cr)
  have D_Ir : DefE l.prog w K mg base 3 "is_rest_flow" ["web", "rests", "k"] (spIr K (⟨qFlowError, qBadWeb, qTooMany, qBadPlace, qBadTie, qBadFlow, qBadRest, qNoFlow, qBadSet, qBadPaper, qBadText, qBadDeed, qWeb⟩ : Cs)) := .of F13 (PySem.W.mg_of X G a13) b13 (ok_Ir F13 T D_Cr D_Am D_Rs D_Gs)
  have D_Ck : DefE l.prog w K mg base 1 "check_set" ["web", "some"] (spCk K (⟨qFlowError, qBadWeb, qTooMany, qBadPlace, qBadTie, qBadFlow, qBadRest, qNoFlow, qBadSet, qBadPaper, qBadText, qBadDeed, qWeb⟩ : Cs)) := .of F14 (PySem.W.mg_of X G a14) b14 (ok_Ck F14 T )
  have D_Mr : Def l.prog w K mg base 1 "marks" ["web", "some"] (spMr K (⟨qFlowError, qBadWeb, qTooMany, qBadPlace, qBadTie, qBadFlow, qBadRest, qNoFlow, qBadSet, qBadPaper, qBadText, qBadDeed, qWeb⟩ : Cs)) := .of F15 (PySem.W.mg_of X G a15) b15 (ok_Mr F15 T )
  have D_Ev : DefE l.prog w K mg base 4 "is_even" ["web", "some"] (spEv K (⟨qFlowError, qBadWeb, qTooMany, qBadPlace, qBadTie, qBadFlow, qBadRest, qNoFlow, qBadSet, qBadPaper, qBadText, qBadDeed, qWeb⟩ : Cs)) := .of F16 (PySem.W.mg_of X G a16) b16 (ok_Ev F16 T D_Ck D_Mr D_Ir)
  have D_Sg : Def l.prog w K mg base 4 "is_spanning_forest" ["web", "some"] (spSg K (⟨qFlowError, qBadWeb, qTooMany, qBadPlace, qBadTie, qBadFlow, qBadRest, qNoFlow, qBadSet, qBadPaper, qBadText, qBadDeed, qWeb⟩ : Cs)) := .of F17 (PySem.W.mg_of X G a17) b17 (ok_Sg F17 T D_Ft D_Pc D_N)
  have D_Cg : DefE l.prog w K mg base 5 "check_spanning_forest" ["web", "some"] (spCg K (⟨qFlowError, qBadWeb, qTooMany, qBadPlace, qBadTie, qBadFlow, qBadRest, qNoFlow, qBadSet, qBadPaper, qBadText, qBadDeed, qWeb⟩ : Cs)) := .of F18 (PySem.W.mg_of X G a18) b18 (ok_Cg F18 T D_Ck D_Sg)
  have D_Co : DefE l.prog w K mg base 6 "completed" ["web", "some"] (spCo K (⟨qFlowError, qBadWeb, qTooMany, qBadPlace, qBadTie, qBadFlow, qBadRest, qNoFlow, qBadSet, qBadPaper, qBadText, qBadDeed, qWeb⟩ : Cs)) := .of F19 (PySem.W.mg_of X G a19) b19 (ok_Co F19 T D_Cg D_Wb)
  have D_C : Def l.prog w K mg base 1 "_law_cell" ["script", "k"] (spC K) := .of F20 (PySem.W.mg_of X G a20) b20 (ok_C F20 T )
  have D_H : Def l.prog w K mg base 1 "_law_whole" ["found"] (spH K) := .of F21 (PySem.W.mg_of X G a21) b21 (ok_H F21 T )
  have D_X : DefC l.prog w K mg base 1 "_law_alone" ["e"] (spX K (⟨qFlowError, qBadWeb, qTooMany, qBadPlace, qBadTie, qBadFlow, qBadRest, qNoFlow, qBadSet, qBadPaper, qBadText, qBadDeed, qWeb⟩ : Cs)) := .of F22 (PySem.W.mg_of X G a22) b22 (ok_X F22 T )
  have D_E : Def l.prog w K mg base 2 "_law_ends" ["script", "many", "count", "way"] (spE K) := .of F23 (PySem.W.mg_of X G a23) b23 (ok_E F23 T D_C)
  have D_D : Def l.prog w K mg base 3 "_law_drawn" ["script", "most", "bound"] (spD K) := .of F24 (PySem.W.mg_of X G a24) b24 (ok_D F24 T D_C D_E)
  have D_Fo : Def l.prog w K mg base 1 "_law_forest" ["many", "ends", "order"] (spFo K) := .of F25 (PySem.W.mg_of X G a25) b25 (ok_Fo F25 T )
  have D_Ch : Def l.prog w K mg base 1 "_law_chosen" ["cell", "many"] (spCh K) := .of F26 (PySem.W.mg_of X G a26) b26 (ok_Ch F26 T )
  have D_Cm : Def l.prog w K mg base 1 "_law_completed" ["many", "ends", "held", "some"] (spCm K) := .of F27 (PySem.W.mg_of X G a27) b27 (ok_Cm F27 T )
  have D_Li : Def l.prog w K mg base 2 "_law_list" ["found", "due"] (spLi K) := .of F28 (PySem.W.mg_of X G a28) b28 (ok_Li F28 T D_H)
  have D_Bs : Def l.prog w K mg base 1 "_law_bad_set" ["some", "count", "cell"] (spBs K) := .of F29 (PySem.W.mg_of X G a29) b29 (ok_Bs F29 T )
  have D_Or : Def l.prog w K mg base 2 "_law_order" ["script", "many"] (spOr K) := .of F30 (PySem.W.mg_of X G a30) b30 (ok_Or F30 T D_C)
  have D_Rf : Def l.prog w K mg base 7 "_law_refused" ["web", "some"] (spRf K (⟨qFlowError, qBadWeb, qTooMany, qBadPlace, qBadTie, qBadFlow, qBadRest, qNoFlow, qBadSet, qBadPaper, qBadText, qBadDeed, qWeb⟩ : Cs)) := .of F31 (PySem.W.mg_of X G a31) b31 (ok_Rf F31 T D_Co D_X)
  have D_R : Def l.prog w K mg base 7 "_law_right" ["many", "ends", "web", "some"] (spR K (⟨qFlowError, qBadWeb, qTooMany, qBadPlace, qBadTie, qBadFlow, qBadRest, qNoFlow, qBadSet, qBadPaper, qBadText, qBadDeed, qWeb⟩ : Cs)) := .of F32 (PySem.W.mg_of X G a32) b32 (ok_R F32 T D_Cm D_Co D_Li D_Ev)
  exact ok_L F33 T D_C D_D D_Fo D_Ch D_Bs D_Or D_Rf D_R D_N
theorem walk {l : PySem.W.OpenLaw} {q : Program} {loose : List Str} {XP : (Str → Option Value) → Heap → Prop} {YP : World → Heap → Prop} {d : DefRec} {K : Params → PySem.W.Frag} (hn : l.most = some 63) (hdf : d.params.defaults = [])
    (hY : ∀ (w : World) (h : Heap), YP w h → (K w.params).In h)
    (F : ∀ (w : World) (mg : Str → Option Value) (fa : Addr) (h : Heap), (K w.params).In h → h.Ns mainGlobals mg → mg d.name = some (.ref fa) →
      ∃ fd : FuncData, (∀ (s : Shared) (u : Value), BindsTo s fd ⟨[u], []⟩ [("script", u)]) ∧ ∀ base : Heap, (K w.params).In base → base.Ns mainGlobals mg → FnOk l.prog w (K w.params) mg base CX0 8 fa fd ["script"] (spLaw (K w.params))) :
    PySem.W.WalkO q loose XP YP l.row.toRowW d [] (fun f vs => PySem.call f vs) :=
  L2.walk_of (n := 63) (k := 8) (x := "script") (CX := fun _ => CX0) (sp := fun w => spLaw (K w.params)) hn (by decide) hdf ⟨rfl, by decide, by decide⟩ hY F (fun _ _ a ns hl _ hS => ⟨a, ns, rfl, hS, hl, fun _ => rfl⟩) fun _ _ _ _ _ z => z
end Pk
namespace PySem.W.Fast
theorem tw12985763906033401495 : True := ⟨⟩
theorem tw1042146295446693804 : True := ⟨⟩
theorem tw4761413929306953657 : True := ⟨⟩
theorem tw10374455155454595802 : True := ⟨⟩
theorem tw514981056499729338 : True := ⟨⟩
theorem tw7757228704464303023 : True := ⟨⟩
theorem tw14827059724666535655 : True := ⟨⟩
theorem tw342555614965718961 : True := ⟨⟩
theorem tw955475614631751574 : True := ⟨⟩
theorem tw13482658386885279680 : True := ⟨⟩
theorem tw18338477383263428519 : True := ⟨⟩
theorem tw13003066516999031077 : True := ⟨⟩
theorem tw4906552587934501679 : True := ⟨⟩
theorem tw14986502719791467014 : True := ⟨⟩
theorem tw4335268630470327200 : True := ⟨⟩
theorem tw17837962036977859275 : True := ⟨⟩
theorem tw8332543374025724676 : True := ⟨⟩
theorem tw1278054036582538548 : True := ⟨⟩
theorem tw6000623571678102776 : True := ⟨⟩
theorem tw6996073031079981046 : True := ⟨⟩
theorem tw8226891625362408976 : True := ⟨⟩
theorem tw5247432933793822185 : True := ⟨⟩
theorem tw3902181175503033114 : True := ⟨⟩
theorem tw10597382037384175076 : True := ⟨⟩
theorem tw14253123715762016606 : True := ⟨⟩
theorem tw3305766077341852530 : True := ⟨⟩
theorem tw17829549215071394618 : True := ⟨⟩
theorem tw14738658378648090457 : True := ⟨⟩
theorem tw13227582077754266777 : True := ⟨⟩
theorem tw2775136357110476065 : True := ⟨⟩
theorem tw3760875617032000391 : True := ⟨⟩
theorem tw12115537386056629988 : True := ⟨⟩
theorem tw6394956633969671297 : True := ⟨⟩
theorem tw15193513295823747568 : True := ⟨⟩
theorem tw17390106932265558206 : True := ⟨⟩
theorem tw11968230006609972299 : True := ⟨⟩
theorem tw4910013283713501247 : True := ⟨⟩
theorem tw11500296533775632282 : True := ⟨⟩
theorem tw16741389274701117380 : True := ⟨⟩
theorem tw655342988014007050 : True := ⟨⟩
theorem tw4655485914648568804 : True := ⟨⟩
theorem tw15686462404965060744 : True := ⟨⟩
theorem tw4702043118023662696 : True := ⟨⟩
theorem tw14161221871021843994 : True := ⟨⟩
theorem tw7482643907699073046 : True := ⟨⟩
theorem tw1668277569451634331 : True := ⟨⟩
theorem tw17883293631461167684 : True := ⟨⟩
theorem tw12686001762336662895 : True := ⟨⟩
theorem tw3570362016678719494 : True := ⟨⟩
theorem tw15941708402245392997 : True := ⟨⟩
theorem tw12246763348124154725 : True := ⟨⟩
theorem tw6715769155025884748 : True := ⟨⟩
theorem tw8868602531279895164 : True := ⟨⟩
theorem tw3841076662931350036 : True := ⟨⟩
theorem tw11298450233901735975 : True := ⟨⟩
theorem tw16963170465934905518 : True := ⟨⟩
theorem tw12383146315380746955 : True := ⟨⟩
theorem tw16829519552514519295 : True := ⟨⟩
theorem tw8141115746683782598 : True := ⟨⟩
theorem tw10794884713957812113 : True := ⟨⟩
theorem tw15797444672529130201 : True := ⟨⟩
theorem tw11027674456179162198 : True := ⟨⟩
theorem tw11502868103908780357 : True := ⟨⟩
theorem tw10662435180167536255 : True := ⟨⟩
theorem tw9788860617424458811 : True := ⟨⟩
theorem tw3125226828421164076 : True := ⟨⟩
theorem tw1586985578683230476 : True := ⟨⟩
theorem tw2497528947948185395 : True := ⟨⟩
theorem tw17322567545905275447 : True := ⟨⟩
theorem tw9730153616661719329 : True := ⟨⟩
theorem tw9256020012614885905 : True := ⟨⟩
theorem tw454990922379855420 : True := ⟨⟩
theorem tw10039339130978812870 : True := ⟨⟩
theorem tw14132781910030274865 : True := ⟨⟩
theorem tw16407910109157025986 : True := ⟨⟩
theorem tw10192166993493097663 : True := ⟨⟩
theorem tw3035601992278714711 : True := ⟨⟩
theorem tw18003328516315230943 : True := ⟨⟩
theorem tw4967230003991990702 : True := ⟨⟩
theorem tw16413966661938368983 : True := ⟨⟩
theorem tw2422565144785540307 : True := ⟨⟩
theorem tw6650385033253638732 : True := ⟨⟩
theorem tw14579172881270385461 : True := ⟨⟩
theorem tw4371410786306577302 : True := ⟨⟩
theorem tw16688151670166732856 : True := ⟨⟩
theorem tw9942998556837863232 : True := ⟨⟩
theorem tw5011242686086633295 : True := ⟨⟩
theorem tw15239119612642134593 : True := ⟨⟩
theorem tw1489720844146006032 : True := ⟨⟩
theorem tw5645398528172568441 : True := ⟨⟩
theorem tw14642896052090575897 : True := ⟨⟩
theorem tw2298984399984033123 : True := ⟨⟩
theorem tw9159875870584972957 : True := ⟨⟩
theorem tw17782944671840934847 : True := ⟨⟩
theorem tw11787497637998025371 : True := ⟨⟩
theorem tw559191252532161558 : True := ⟨⟩
theorem tw11504061299849570117 : True := ⟨⟩
theorem tw5288705955966761337 : True := ⟨⟩
theorem tw14430408493838406729 : True := ⟨⟩
theorem tw14142361123557669509 : True := ⟨⟩
theorem tw15105201188502814821 : True := ⟨⟩
theorem tw9544637919677834476 : True := ⟨⟩
theorem tw7771586084407405473 : True := ⟨⟩
theorem tw12311468092260236239 : True := ⟨⟩
theorem tw11558225777300499200 : True := ⟨⟩
theorem tw17658817287791177934 : True := ⟨⟩
theorem tw17957738882532485641 : True := ⟨⟩
theorem tw10880250586560669016 : True := ⟨⟩
theorem tw4789192171075845069 : True := ⟨⟩
theorem tw9466956833908916241 : True := ⟨⟩
theorem tw1020344552778094594 : True := ⟨⟩
theorem tw17629442337071747084 : True := ⟨⟩
theorem tw9684349430938134946 : True := ⟨⟩
theorem tw9863560195554478866 : True := ⟨⟩
theorem tw4294664869684210941 : True := ⟨⟩
theorem tw4289541865277088601 : True := ⟨⟩
theorem tw111551542165794565 : True := ⟨⟩
theorem tw11868804091995560433 : True := ⟨⟩
theorem tw1548719306678976022 : True := ⟨⟩
theorem tw6693944574955786367 : True := ⟨⟩
theorem tw5025033795710635056 : True := ⟨⟩
theorem tw1711875572722600831 : True := ⟨⟩
theorem tw8773157967354437205 : True := ⟨⟩
theorem tw3144631345961781208 : True := ⟨⟩
theorem tw18153422219477480781 : True := ⟨⟩
theorem tw13614126217972057227 : True := ⟨⟩
theorem tw12732565857396173254 : True := ⟨⟩
theorem tw1598210239387259636 : True := ⟨⟩
theorem tw16806172186237774279 : True := ⟨⟩
theorem tw10415840248487776099 : True := ⟨⟩
theorem tw17311737271391108177 : True := ⟨⟩
theorem tw13821341168272037689 : True := ⟨⟩
theorem tw3060948065109527492 : True := ⟨⟩
theorem tw12127245183096164226 : True := ⟨⟩
theorem tw7095459950356400428 : True := ⟨⟩
theorem tw16892315752080602400 : True := ⟨⟩
theorem tw14755880499590743386 : True := ⟨⟩
theorem tw14502933023495689620 : True := ⟨⟩
theorem tw515220056062370 : True := ⟨⟩
theorem tw6009395519452313507 : True := ⟨⟩
theorem tw996243563799882388 : True := ⟨⟩
theorem tw5344050213509667002 : True := ⟨⟩
theorem tw4010059513506224371 : True := ⟨⟩
theorem tw9804724306453594462 : True := ⟨⟩
theorem tw2900614074893437161 : True := ⟨⟩
theorem tw10957497213786487448 : True := ⟨⟩
theorem tw8153084397476501379 : True := ⟨⟩
theorem tw13066227325332545544 : True := ⟨⟩
theorem tw203201700575859072 : True := ⟨⟩
theorem tw5731840908845596223 : True := ⟨⟩
theorem tw7750829192683230450 : True := ⟨⟩
theorem tw5182394832316422860 : True := ⟨⟩
theorem tw15102635532109045903 : True := ⟨⟩
theorem tw540007375324955449 : True := ⟨⟩
theorem tw6419370098086278254 : True := ⟨⟩
theorem tw15165084464886681374 : True := ⟨⟩
theorem tw3893784518907519964 : True := ⟨⟩
theorem tw11344155131494013827 : True := ⟨⟩
theorem tw10810419256154073105 : True := ⟨⟩
theorem tw12904154633746965203 : True := ⟨⟩
theorem tw13424322095503847603 : True := ⟨⟩
theorem tw17236432767770882495 : True := ⟨⟩
theorem tw9098734165519446617 : True := ⟨⟩
theorem tw1863621597406865866 : True := ⟨⟩
theorem tw1444313999750993474 : True := ⟨⟩
theorem tw278373278648201980 : True := ⟨⟩
theorem tw9601518709212046120 : True := ⟨⟩
theorem tw12365793569880964987 : True := ⟨⟩
theorem tw4919996765998545146 : True := ⟨⟩
theorem tw363013560390056449 : True := ⟨⟩
theorem tw3669737858287051887 : True := ⟨⟩
theorem tw5968284241859725849 : True := ⟨⟩
theorem tw3473946433040296164 : True := ⟨⟩
theorem tw5946918666377327380 : True := ⟨⟩
theorem tw5325648353503571808 : True := ⟨⟩
theorem tw11893412738658509771 : True := ⟨⟩
theorem tw5261078334535970032 : True := ⟨⟩
theorem tw17218145965605509319 : True := ⟨⟩
theorem tw10328499242761671611 : True := ⟨⟩
theorem tw14335244917430420645 : True := ⟨⟩
theorem tw10558988783278230619 : True := ⟨⟩
theorem tw14709453411981673862 : True := ⟨⟩
theorem tw3695281694712726785 : True := ⟨⟩
theorem tw6047768333231033221 : True := ⟨⟩
theorem tw8904672199600651435 : True := ⟨⟩
theorem tw11188338081805045873 : True := ⟨⟩
theorem tw16261260768963414373 : True := ⟨⟩
theorem tw18062135825768158540 : True := ⟨⟩
theorem tw4347611514404639396 : True := ⟨⟩
theorem tw12198237637457807410 : True := ⟨⟩
theorem tw1535021580082258511 : True := ⟨⟩
theorem tw10344271176805580475 : True := ⟨⟩
theorem tw632996224321442226 : True := ⟨⟩
theorem tw9733645043600107737 : True := ⟨⟩
theorem tw16624860078693702460 : True := ⟨⟩
theorem tw9018069737138743801 : True := ⟨⟩
theorem tw13114585919830939518 : True := ⟨⟩
theorem tw5457902888950743359 : True := ⟨⟩
theorem tw7613613805691750907 : True := ⟨⟩
theorem tw5587049328573944124 : True := ⟨⟩
theorem tw13067503986911094640 : True := ⟨⟩
theorem tw14490446399444894857 : True := ⟨⟩
theorem tw4006540064892240948 : True := ⟨⟩
theorem tw9364832920434144829 : True := ⟨⟩
theorem tw13143308164933508742 : True := ⟨⟩
theorem tw17402685633022928294 : True := ⟨⟩
theorem tw7575336897701505396 : True := ⟨⟩
theorem tw4777355543855579745 : True := ⟨⟩
theorem tw1385851224046716844 : True := ⟨⟩
theorem tw3885722959072832064 : True := ⟨⟩
theorem tw14925524828914548193 : True := ⟨⟩
theorem tw14720260247321910664 : True := ⟨⟩
theorem tw2724005517062641954 : True := ⟨⟩
theorem tw3894242378293022290 : True := ⟨⟩
theorem tw18402639902932587081 : True := ⟨⟩
theorem tw11363084075411192466 : True := ⟨⟩
theorem tw10779345861839165942 : True := ⟨⟩
theorem tw7279425366141575647 : True := ⟨⟩
theorem tw6359004681126106853 : True := ⟨⟩
theorem tw4645539440791390964 : True := ⟨⟩
theorem tw14395375758820448035 : True := ⟨⟩
theorem tw18336208360074088148 : True := ⟨⟩
theorem tw14987213782582047416 : True := ⟨⟩
theorem tw14829648163555314104 : True := ⟨⟩
theorem tw1265741033026555817 : True := ⟨⟩
theorem tw15226746161234862486 : True := ⟨⟩
theorem tw9548297403796322351 : True := ⟨⟩
theorem tw10078666117034163537 : True := ⟨⟩
theorem tw7397512564918094948 : True := ⟨⟩
theorem tw11677340009491925488 : True := ⟨⟩
theorem tw4660430581250121301 : True := ⟨⟩
theorem tw5095410855316646212 : True := ⟨⟩
theorem tw9886168429094695463 : True := ⟨⟩
theorem tw16336639006598057960 : True := ⟨⟩
theorem tw1736585890237780272 : True := ⟨⟩
theorem tw11568033374492930751 : True := ⟨⟩
theorem tw976310731974375290 : True := ⟨⟩
theorem tw112550539743999668 : True := ⟨⟩
theorem tw13879149704080132496 : True := ⟨⟩
theorem tw4135911511760133758 : True := ⟨⟩
theorem tw3231944106699400334 : True := ⟨⟩
theorem tw12018119111849973392 : True := ⟨⟩
theorem tw333518908553866270 : True := ⟨⟩
theorem tw10630016364506013210 : True := ⟨⟩
theorem tw12285458281151169925 : True := ⟨⟩
theorem tw2358446410676354301 : True := ⟨⟩
theorem tw12891042629851627840 : True := ⟨⟩
theorem tw5448155451212848704 : True := ⟨⟩
theorem tw9220556449432963006 : True := ⟨⟩
theorem tw15891942729094548376 : True := ⟨⟩
theorem tw16845133530714152754 : True := ⟨⟩
theorem tw18362093146564029273 : True := ⟨⟩
theorem tw4641736765450781455 : True := ⟨⟩
theorem tw1459671004826132208 : True := ⟨⟩
theorem tw14203108984735775097 : True := ⟨⟩
theorem tw15906999167026891576 : True := ⟨⟩
theorem tw4670746955053353301 : True := ⟨⟩
theorem tw14408106733619982463 : True := ⟨⟩
theorem tw6815623996330278602 : True := ⟨⟩
theorem tw17337038793301935543 : True := ⟨⟩
theorem tw16785157835698765383 : True := ⟨⟩
theorem tw9660374684983738620 : True := ⟨⟩
theorem tw11372683287433455254 : True := ⟨⟩
theorem tw1616759539538245368 : True := ⟨⟩
theorem tw13675816760247604413 : True := ⟨⟩
theorem tw17230778947826359363 : True := ⟨⟩
theorem tw18374074319939181280 : True := ⟨⟩
theorem tw11786579785979885129 : True := ⟨⟩
theorem tw383417476017898473 : True := ⟨⟩
theorem tw17147969676507893523 : True := ⟨⟩
theorem tw8395168759206662165 : True := ⟨⟩
theorem tw15759838242342262117 : True := ⟨⟩
theorem tw16535235135331259587 : True := ⟨⟩
theorem tw251193469980221502 : True := ⟨⟩
theorem tw10977675881584054636 : True := ⟨⟩
theorem tw12569830503771042550 : True := ⟨⟩
theorem tw6349871960089357793 : True := ⟨⟩
theorem tw14497816674839152360 : True := ⟨⟩
theorem tw16088139680558886288 : True := ⟨⟩
theorem tw13798233985861108349 : True := ⟨⟩
theorem tw3837844217022814618 : True := ⟨⟩
theorem tw10747388185119024187 : True := ⟨⟩
theorem tw1937682930324656078 : True := ⟨⟩
theorem tw5622931037479828645 : True := ⟨⟩
theorem tw1368792066443445073 : True := ⟨⟩
theorem tw3730129903515934944 : True := ⟨⟩
theorem tw14983109949359269333 : True := ⟨⟩
theorem tw17096374961551331869 : True := ⟨⟩
theorem tw14363021108585212038 : True := ⟨⟩
theorem tw1425662140274367624 : True := ⟨⟩
theorem tw8297938377271774714 : True := ⟨⟩
theorem tw4198235763598216221 : True := ⟨⟩
theorem tw8105497116874774591 : True := ⟨⟩
theorem tw17583887922819071671 : True := ⟨⟩
theorem tw3678380205468731871 : True := ⟨⟩
theorem tw7965377471992128169 : True := ⟨⟩
theorem tw13889468637446646881 : True := ⟨⟩
theorem tw16076052675398281062 : True := ⟨⟩
theorem tw15856468369333598628 : True := ⟨⟩
theorem tw14189761066844245467 : True := ⟨⟩
theorem tw8970389678691986825 : True := ⟨⟩
theorem tw6747459989804936834 : True := ⟨⟩
theorem tw5203519625849957568 : True := ⟨⟩
theorem tw12833916562853166984 : True := ⟨⟩
theorem tw8066390575657162082 : True := ⟨⟩
theorem tw2417873791795885209 : True := ⟨⟩
theorem tw697661956383818748 : True := ⟨⟩
theorem tw11799106137591309715 : True := ⟨⟩
theorem tw16461263456352485988 : True := ⟨⟩
theorem tw17464130307838176714 : True := ⟨⟩
theorem tw124321356442945467 : True := ⟨⟩
theorem tw10152579342061827074 : True := ⟨⟩
theorem tw18290762181127208109 : True := ⟨⟩
theorem tw1888229090309932141 : True := ⟨⟩
theorem tw14350867878015309159 : True := ⟨⟩
theorem tw11892677033903953438 : True := ⟨⟩
theorem tw4860785139834393026 : True := ⟨⟩
theorem tw8619109248514011030 : True := ⟨⟩
theorem tw5070556095925923592 : True := ⟨⟩
theorem tw8039811690164381672 : True := ⟨⟩
theorem tw5310301381298582803 : True := ⟨⟩
theorem tw15861561783998200062 : True := ⟨⟩
theorem tw6567994603563131889 : True := ⟨⟩
theorem tw10026777329067469083 : True := ⟨⟩
theorem tw694962765481673508 : True := ⟨⟩
theorem tw14079651149290259537 : True := ⟨⟩
theorem tw14991793460145459799 : True := ⟨⟩
theorem tw9691921341579746018 : True := ⟨⟩
theorem tw3272594576717202671 : True := ⟨⟩
theorem tw2760972934178475114 : True := ⟨⟩
theorem tw10433733163468910635 : True := ⟨⟩
theorem tw3853822123170720584 : True := ⟨⟩
theorem tw6237898633533540069 : True := ⟨⟩
theorem tw2829509529835511499 : True := ⟨⟩
theorem tw9579921083199351092 : True := ⟨⟩
theorem tw8380474915030681759 : True := ⟨⟩
theorem tw8537865457564976794 : True := ⟨⟩
theorem tw13974463366661411032 : True := ⟨⟩
theorem tw9204510636406726148 : True := ⟨⟩
theorem tw14450756387452293759 : True := ⟨⟩
theorem tw15151200503284692473 : True := ⟨⟩
theorem tw9174293725466079655 : True := ⟨⟩
theorem tw14150002373885437210 : True := ⟨⟩
theorem tw12772398657138790474 : True := ⟨⟩
theorem tw17792309298866341681 : True := ⟨⟩
theorem tw1747780673244027641 : True := ⟨⟩
theorem tw6339231252267556681 : True := ⟨⟩
theorem tw14436847144998610985 : True := ⟨⟩
theorem tw8321958966380887879 : True := ⟨⟩
theorem tw12793870768444946233 : True := ⟨⟩
theorem tw9004283019878478847 : True := ⟨⟩
theorem tw16365810702967632516 : True := ⟨⟩
theorem tw4103668173319697542 : True := ⟨⟩
theorem tw9729562127801771046 : True := ⟨⟩
theorem tw17270422616461508800 : True := ⟨⟩
theorem tw2732324181426610287 : True := ⟨⟩
theorem tw12789804150272402809 : True := ⟨⟩
theorem tw6799434391560404053 : True := ⟨⟩
theorem tw11791731022996909734 : True := ⟨⟩
theorem tw16109586126591652446 : True := ⟨⟩
theorem tw8047665011256791936 : True := ⟨⟩
theorem tw9487380047774921336 : True := ⟨⟩
theorem tw16539651407258356720 : True := ⟨⟩
theorem tw4749550035462990565 : True := ⟨⟩
theorem tw16965100498727144104 : True := ⟨⟩
theorem tw5598163006866788138 : True := ⟨⟩
theorem tw16438999318887400352 : True := ⟨⟩
theorem tw15773218897649230050 : True := ⟨⟩
theorem tw7739783796809515319 : True := ⟨⟩
theorem tw16354889825358337231 : True := ⟨⟩
theorem tw13789676854246763828 : True := ⟨⟩
theorem tw5326738082086007044 : True := ⟨⟩
theorem tw9633826232098246465 : True := ⟨⟩
theorem tw15350614426777883522 : True := ⟨⟩
theorem tw9421182182878275184 : True := ⟨⟩
theorem tw18114954723894954847 : True := ⟨⟩
theorem tw7677117212795864424 : True := ⟨⟩
theorem tw16678204104255385059 : True := ⟨⟩
theorem tw1092277252545747871 : True := ⟨⟩
theorem tw2156325041916551728 : True := ⟨⟩
theorem tw16705863277647941353 : True := ⟨⟩
theorem tw10729476828468309133 : True := ⟨⟩
theorem tw2257080293330350458 : True := ⟨⟩
theorem tw16240974387632481270 : True := ⟨⟩
theorem tw1375968320229673581 : True := ⟨⟩
theorem tw12791952663924213011 : True := ⟨⟩
theorem tw13626068511442666705 : True := ⟨⟩
theorem tw8805679524633481304 : True := ⟨⟩
theorem tw11363353254901586431 : True := ⟨⟩
theorem tw8519717327359981342 : True := ⟨⟩
theorem tw18224085657688430841 : True := ⟨⟩
theorem tw12956630936712830939 : True := ⟨⟩
theorem tw7986739855355024981 : True := ⟨⟩
theorem tw7249635484441005521 : True := ⟨⟩
theorem tw5466060665478779185 : True := ⟨⟩
theorem tw14683609375839536210 : True := ⟨⟩
theorem tw12845126243960921413 : True := ⟨⟩
theorem tw13902097684013395518 : True := ⟨⟩
theorem tw17795276951662349626 : True := ⟨⟩
theorem tw7059134468173016589 : True := ⟨⟩
theorem tw1209864079341146745 : True := ⟨⟩
theorem tw1421836545070678187 : True := ⟨⟩
end PySem.W.Fast
open PySem PySem.W PyProof.Rows
set_option maxRecDepth 100000 in
set_option maxHeartbeats 0 in
theorem PySem.Challenge.cw_busyweb_k38_completed_holds : PySem.Challenge.rw_busyweb_k38_completed.Holds := by
  w_on; o_law; k_head; (case hw => w_witness2)
  k_fill
  refine Pk.walk (l := PySem.Challenge.rw_busyweb_k38_completed) rfl rfl (fun w h Y => PySem.W.kIn_of Y) ?F
  case F =>
    intro w mg fa h KX G hmg
    refine' Pk.all_mk KX G hmg ?aCFlowError ?aCBadWeb ?aCTooMany ?aCBadPlace ?aCBadTie ?aCBadFlow ?aCBadRest ?aCNoFlow ?aCBadSet ?aCBadPaper ?aCBadText ?aCBadDeed ?aCWeb ?a1 ?i1 ?l1 ?c1 ?k1 ?a2 ?l2 ?c2 ?k2 ?a3 ?l3 ?c3 ?k3 ?a4 ?l4 ?c4 ?k4 ?a5 ?l5 ?c5 ?k5 ?a6 ?l6 ?c6 ?k6 ?a7 ?l7 ?c7 ?k7 ?a8 ?l8 ?c8 ?k8 ?a9 ?l9 ?c9 ?k9 ?a10 ?l10 ?c10 ?k10 ?a11 ?l11 ?c11 ?k11 ?a12 ?l12 ?c12 ?k12 ?a13 ?l13 ?c13 ?k13 ?a14 ?l14 ?c14 ?k14 ?a15 ?l15 ?c15 ?k15 ?a16 ?l16 ?c16 ?k16 ?a17 ?l17 ?c17 ?k17 ?a18 ?l18 ?c18 ?k18 ?a19 ?l19 ?c19 ?k19 ?a20 ?l20 ?c20 ?k20 ?a21 ?l21 ?c21 ?k21 ?a22 ?l22 ?c22 ?k22 ?a23 ?l23 ?c23 ?k23 ?a24 ?l24 ?c24 ?k24 ?a25 ?l25 ?c25 ?k25 ?a26 ?l26 ?c26 ?k26 ?a27 ?l27 ?c27 ?k27 ?a28 ?l28 ?c28 ?k28 ?a29 ?l29 ?c29 ?k29 ?a30 ?l30 ?c30 ?k30 ?a31 ?l31 ?c31 ?k31 ?a32 ?l32 ?c32 ?k32 ?a33 ?l33 ?c33 ?k33 ?pg ?hd ?po ?sa ?nM ?nT ?ca ?cg ?ck ?co ?mk ?kc ?mp ?mt ?x_ie_FlowError ?x_ie_BadFlow ?x_mr_BadFlow ?x_ga_BadFlow ?x_gn_BadFlow ?x_cl_BadFlow ?x_co_BadFlow ?x_cb_BadFlow ?x_is_BadFlow ?x_k_BadFlow_BadWeb ?x_k_BadFlow_TooMany ?x_k_BadFlow_BadPlace ?x_k_BadFlow_BadTie ?x_k_BadFlow_BadFlow ?x_k_BadFlow_BadRest ?x_k_BadFlow_NoFlow ?x_k_BadFlow_BadSet ?x_k_BadFlow_BadPaper ?x_k_BadFlow_BadText ?x_k_BadFlow_BadDeed ?x_kf_BadFlow ?x_kv_BadFlow ?x_ie_BadRest ?x_mr_BadRest ?x_ga_BadRest ?x_gn_BadRest ?x_cl_BadRest ?x_co_BadRest ?x_cb_BadRest ?x_is_BadRest ?x_k_BadRest_BadWeb ?x_k_BadRest_TooMany ?x_k_BadRest_BadPlace ?x_k_BadRest_BadTie ?x_k_BadRest_BadFlow ?x_k_BadRest_BadRest ?x_k_BadRest_NoFlow ?x_k_BadRest_BadSet ?x_k_BadRest_BadPaper ?x_k_BadRest_BadText ?x_k_BadRest_BadDeed ?x_kf_BadRest ?x_kv_BadRest ?x_ie_BadSet ?x_mr_BadSet ?x_ga_BadSet ?x_gn_BadSet ?x_cl_BadSet ?x_co_BadSet ?x_cb_BadSet ?x_is_BadSet ?x_k_BadSet_BadWeb ?x_k_BadSet_TooMany ?x_k_BadSet_BadPlace ?x_k_BadSet_BadTie ?x_k_BadSet_BadFlow ?x_k_BadSet_BadRest ?x_k_BadSet_NoFlow ?x_k_BadSet_BadSet ?x_k_BadSet_BadPaper ?x_k_BadSet_BadText ?x_k_BadSet_BadDeed ?x_kf_BadSet ?x_kv_BadSet ?z0 ?z1 ?z2 ?z3 ?z4 ?z5 ?z6 ?z7 ?z8 ?z9 ?z10 ?z11 ?z12 ?z13 ?z14 ?z15 ?z16
    (case aCFlowError => k_is)
    (case aCBadWeb => k_is)
    (case aCTooMany => k_is)
    (case aCBadPlace => k_is)
    (case aCBadTie => k_is)
    (case aCBadFlow => k_is)
    (case aCBadRest => k_is)
    (case aCNoFlow => k_is)
    (case aCBadSet => k_is)
    (case aCBadPaper => k_is)
    (case aCBadText => k_is)
    (case aCBadDeed => k_is)
    (case aCWeb => k_is)
    (case a1 => k_is)
    (case i1 => k_is)
    (case l1 => k_is)
    (case c1 => k_is)
    (case k1 => k_is)
    (case a2 => k_is)
    (case l2 => k_is)
    (case c2 => k_is)
    (case k2 => k_is)
    (case a3 => k_is)
    (case l3 => k_is)
    (case c3 => k_is)
    (case k3 => k_is)
    (case a4 => k_is)
    (case l4 => k_is)
    (case c4 => k_is)
    (case k4 => k_is)
    (case a5 => k_is)
    (case l5 => k_is)
    (case c5 => k_is)
    (case k5 => k_is)
    (case a6 => k_is)
    (case l6 => k_is)
    (case c6 => k_is)
    (case k6 => k_is)
    (case a7 => k_is)
    (case l7 => k_is)
    (case c7 => k_is)
    (case k7 => k_is)
    (case a8 => k_is)
    (case l8 => k_is)
    (case c8 => k_is)
    (case k8 => k_is)
    (case a9 => k_is)
    (case l9 => k_is)
    (case c9 => k_is)
    (case k9 => k_is)
    (case a10 => k_is)
    (case l10 => k_is)
    (case c10 => k_is)
    (case k10 => k_is)
    (case a11 => k_is)
    (case l11 => k_is)
    (case c11 => k_is)
    (case k11 => k_is)
    (case a12 => k_is)
    (case l12 => k_is)
    (case c12 => k_is)
    (case k12 => k_is)
    (case a13 => k_is)
    (case l13 => k_is)
    (case c13 => k_is)
    (case k13 => k_is)
    (case a14 => k_is)
    (case l14 => k_is)
    (case c14 => k_is)
    (case k14 => k_is)
    (case a15 => k_is)
    (case l15 => k_is)
    (case c15 => k_is)
    (case k15 => k_is)
    (case a16 => k_is)
    (case l16 => k_is)
    (case c16 => k_is)
    (case k16 => k_is)
    (case a17 => k_is)
    (case l17 => k_is)
    (case c17 => k_is)
    (case k17 => k_is)
    (case a18 => k_is)
    (case l18 => k_is)
    (case c18 => k_is)
    (case k18 => k_is)
    (case a19 => k_is)
    (case l19 => k_is)
    (case c19 => k_is)
    (case k19 => k_is)
    (case a20 => k_is)
    (case l20 => k_is)
    (case c20 => k_is)
    (case k20 => k_is)
    (case a21 => k_is)
    (case l21 => k_is)
    (case c21 => k_is)
    (case k21 => k_is)
    (case a22 => k_is)
    (case l22 => k_is)
    (case c22 => k_is)
    (case k22 => k_is)
    (case a23 => k_is)
    (case l23 => k_is)
    (case c23 => k_is)
    (case k23 => k_is)
    (case a24 => k_is)
    (case l24 => k_is)
    (case c24 => k_is)
    (case k24 => k_is)
    (case a25 => k_is)
    (case l25 => k_is)
    (case c25 => k_is)
    (case k25 => k_is)
    (case a26 => k_is)
    (case l26 => k_is)
    (case c26 => k_is)
    (case k26 => k_is)
    (case a27 => k_is)
    (case l27 => k_is)
    (case c27 => k_is)
    (case k27 => k_is)
    (case a28 => k_is)
    (case l28 => k_is)
    (case c28 => k_is)
    (case k28 => k_is)
    (case a29 => k_is)
    (case l29 => k_is)
    (case c29 => k_is)
    (case k29 => k_is)
    (case a30 => k_is)
    (case l30 => k_is)
    (case c30 => k_is)
    (case k30 => k_is)
    (case a31 => k_is)
    (case l31 => k_is)
    (case c31 => k_is)
    (case k31 => k_is)
    (case a32 => k_is)
    (case l32 => k_is)
    (case c32 => k_is)
    (case k32 => k_is)
    (case a33 => k_is)
    (case l33 => k_is)
    (case c33 => k_is)
    (case k33 => k_is)
    (case pg => k_is)
    (case hd => k_is)
    (case po => k_is)
    (case sa => k_is)
    (case nM => k_is)
    (case nT => k_is)
    (case ca => k_is)
    (case cg => k_is)
    (case ck => k_is)
    (case co => k_is)
    (case mk => k_is)
    (case kc => k_is)
    (case mp => k_is)
    (case mt => k_is)
    (case x_ie_FlowError => k_exc)
    (case x_ie_BadFlow => k_exc)
    (case x_mr_BadFlow => k_is)
    (case x_ga_BadFlow => k_is)
    (case x_gn_BadFlow => k_is)
    (case x_cl_BadFlow => k_is)
    (case x_co_BadFlow => k_is)
    (case x_cb_BadFlow => k_is)
    (case x_is_BadFlow => k_is)
    (case x_k_BadFlow_BadWeb => kit_is)
    (case x_k_BadFlow_TooMany => kit_is)
    (case x_k_BadFlow_BadPlace => kit_is)
    (case x_k_BadFlow_BadTie => kit_is)
    (case x_k_BadFlow_BadFlow => kit_is)
    (case x_k_BadFlow_BadRest => kit_is)
    (case x_k_BadFlow_NoFlow => kit_is)
    (case x_k_BadFlow_BadSet => kit_is)
    (case x_k_BadFlow_BadPaper => kit_is)
    (case x_k_BadFlow_BadText => kit_is)
    (case x_k_BadFlow_BadDeed => kit_is)
    (case x_kf_BadFlow => kit_is)
    (case x_kv_BadFlow => kit_is)
    (case x_ie_BadRest => k_exc)
    (case x_mr_BadRest => k_is)
    (case x_ga_BadRest => k_is)
    (case x_gn_BadRest => k_is)
    (case x_cl_BadRest => k_is)
    (case x_co_BadRest => k_is)
    (case x_cb_BadRest => k_is)
    (case x_is_BadRest => k_is)
    (case x_k_BadRest_BadWeb => kit_is)
    (case x_k_BadRest_TooMany => kit_is)
    (case x_k_BadRest_BadPlace => kit_is)
    (case x_k_BadRest_BadTie => kit_is)
    (case x_k_BadRest_BadFlow => kit_is)
    (case x_k_BadRest_BadRest => kit_is)
    (case x_k_BadRest_NoFlow => kit_is)
    (case x_k_BadRest_BadSet => kit_is)
    (case x_k_BadRest_BadPaper => kit_is)
    (case x_k_BadRest_BadText => kit_is)
    (case x_k_BadRest_BadDeed => kit_is)
    (case x_kf_BadRest => kit_is)
    (case x_kv_BadRest => kit_is)
    (case x_ie_BadSet => k_exc)
    (case x_mr_BadSet => k_is)
    (case x_ga_BadSet => k_is)
    (case x_gn_BadSet => k_is)
    (case x_cl_BadSet => k_is)
    (case x_co_BadSet => k_is)
    (case x_cb_BadSet => k_is)
    (case x_is_BadSet => k_is)
    (case x_k_BadSet_BadWeb => kit_is)
    (case x_k_BadSet_TooMany => kit_is)
    (case x_k_BadSet_BadPlace => kit_is)
    (case x_k_BadSet_BadTie => kit_is)
    (case x_k_BadSet_BadFlow => kit_is)
    (case x_k_BadSet_BadRest => kit_is)
    (case x_k_BadSet_NoFlow => kit_is)
    (case x_k_BadSet_BadSet => kit_is)
    (case x_k_BadSet_BadPaper => kit_is)
    (case x_k_BadSet_BadText => kit_is)
    (case x_k_BadSet_BadDeed => kit_is)
    (case x_kf_BadSet => kit_is)
    (case x_kv_BadSet => kit_is)
    (case z0 => k_is)
    (case z1 => k_is)
    (case z2 => k_is)
    (case z3 => k_is)
    (case z4 => k_is)
    (case z5 => k_is)
    (case z6 => k_is)
    (case z7 => k_is)
    (case z8 => k_is)
    (case z9 => k_is)
    (case z10 => k_is)
    (case z11 => k_is)
    (case z12 => k_is)
    (case z13 => k_is)
    (case z14 => k_is)
    (case z15 => k_is)
    (case z16 => k_is)
