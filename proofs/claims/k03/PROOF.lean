import PyProof.Rows.All
import Wide.All
import OpenK.AllK
import Wide.FinOn
import Lean
import PyProof.EqAt
import PyProof.EqKinds
import PyProof.TupleCall
import KE.KRevIter
import PyProof.AttrMissHeap
import KE.KDictOf
import KE.KxText
import PyProof.DictIter
import PyProof.DictWalks
import KE.KDictList
import PySem.Challenge.RW_formferry_k03_steps_of_patterns
set_option Elab.async false
set_option linter.all false
set_option maxRecDepth 100000
set_option compiler.extract_closed false
namespace L2
open PySem PySem.Spec PyProof.Rows
abbrev Key := Sum Int Str
def keyIs : Key → Value → Bool
  | .inl k, v => Value.isInt k v
  | .inr x, v => Value.isStrOf x v
def keyH (w : World) : Key → Int
  | .inl k => hashInt k
  | .inr x => hashStr w x
theorem keyIs_shape : ∀ {k : Key} {v : Value}, keyIs k v = true → (∃ i t, k = Sum.inl i ∧ v = Value.int i t) ∨ (∃ x t, k = Sum.inr x ∧ v = Value.str x t)
  | .inl i, v, h => by
    obtain ⟨t, e⟩ := Value.isInt_shape (k := i) (v := v) h
    exact .inl ⟨i, t, rfl, e⟩
  | .inr x, v, h => by
    obtain ⟨t, e⟩ := Value.isStrOf_shape (x := x) (v := v) h
    exact .inr ⟨x, t, rfl, e⟩
theorem keyIs_int (i : Int) (t : Tok) : keyIs (.inl i) (.int i t) = true := by simp [keyIs, Value.isInt]
theorem keyIs_str (x : Str) (t : Tok) : keyIs (.inr x) (.str x t) = true := by simp [keyIs, Value.isStrOf]
theorem key_ll (a b : Int) : decide ((Sum.inl a : Key) = Sum.inl b) = (a == b) := by
  by_cases e : a = b
  · subst e; simp
  · have h : ¬ (Sum.inl a : Key) = Sum.inl b := fun q => e (Sum.inl.inj q)
    rw [decide_eq_false h]
    exact (beq_eq_false_iff_ne.mpr e).symm
theorem key_rr (a b : Str) : decide ((Sum.inr a : Key) = Sum.inr b) = decide (a = b) := by
  by_cases e : a = b
  · subst e; simp
  · have h : ¬ (Sum.inr a : Key) = Sum.inr b := fun q => e (Sum.inr.inj q)
    rw [decide_eq_false h, decide_eq_false e]
theorem key_lr (a : Int) (b : Str) : decide ((Sum.inl a : Key) = Sum.inr b) = false := decide_eq_false (fun q => nomatch q)
theorem key_rl (a : Str) (b : Int) : decide ((Sum.inr a : Key) = Sum.inl b) = false := decide_eq_false (fun q => nomatch q)
def mixKind (prog : Program) (w : World) : PySem.KeyKind prog w Key where
  is := keyIs
  hash := keyH w
  inj := fun v a b ha hb => by
    rcases keyIs_shape ha with ⟨i, t, rfl, rfl⟩ | ⟨x, t, rfl, rfl⟩
    · rcases keyIs_shape hb with ⟨j, u, rfl, e⟩ | ⟨y, u, rfl, e⟩
      · injection e with e1 _; rw [e1]
      · exact nomatch e
    · rcases keyIs_shape hb with ⟨j, u, rfl, e⟩ | ⟨y, u, rfl, e⟩
      · exact nomatch e
      · injection e with e1 _; rw [e1]
  byValue := fun k v h => by
    rcases keyIs_shape h with ⟨i, t, rfl, rfl⟩ | ⟨x, t, rfl, rfl⟩ <;> rfl
  pyHash := fun hv h => by
    rcases keyIs_shape hv with ⟨i, t, rfl, rfl⟩ | ⟨x, t, rfl, rfl⟩
    · exact wpAny_pyHash_int h
    · exact wpAny_pyHash_str h
  eqBool := fun hu hv h => by
    rcases keyIs_shape hu with ⟨i, t, rfl, rfl⟩ | ⟨x, t, rfl, rfl⟩
    · rcases keyIs_shape hv with ⟨j, u, rfl, rfl⟩ | ⟨y, u, rfl, rfl⟩
      · rw [key_ll] at h; exact wpAny_eqBool_int h
      · rw [key_lr] at h; exact SeqAt.EqAt.int_str i t y u _ _ _ _ h
    · rcases keyIs_shape hv with ⟨j, u, rfl, rfl⟩ | ⟨y, u, rfl, rfl⟩
      · rw [key_rl] at h; exact SeqAt.EqAt.str_int x t j u _ _ _ _ h
      · rw [key_rr] at h; exact wpAny_eqBool_str h
  «strs» := fun k x t v h => by
    rcases keyIs_shape h with ⟨i, u, rfl, e⟩ | ⟨y, u, rfl, e⟩
    · exact nomatch e
    · injection e with e1 _
      subst e1
      cases v <;> rfl
theorem mixKind_int (prog : Program) (w : World) (i : Int) (t : Tok) : (mixKind prog w).is (.inl i) (.int i t) = true := keyIs_int i t
theorem mixKind_str (prog : Program) (w : World) (x : Str) (t : Tok) : (mixKind prog w).is (.inr x) (.str x t) = true := keyIs_str x t
end L2
namespace L2
open PySem PySem.Spec PyProof.Rows
inductive V where
  | non | bl (b : Bool) | int (i : Int) | str (x : Str) | byt (b : Array UInt8) | flt (b : UInt64) | ref (a : Addr) | ty (n : String)
  deriving DecidableEq
def RelV : V → Value → Prop
  | .non, u => u = Value.none
  | .bl b, u => u = Value.bool b
  | .int i, u => ∃ t, u = Value.int i t
  | .str x, u => ∃ t, u = Value.str x t
  | .byt b, u => ∃ t, u = Value.bytes b t
  | .flt b, u => ∃ t, u = Value.float b t
  | .ref a, u => u = Value.ref a
  | .ty n, u => u = Value.type n
abbrev Vals : List V → List Value → Prop := Paired RelV
theorem Vals.length {xs : List V} {us : List Value} (r : Vals xs us) : xs.length = us.length := Paired.length r
theorem Vals.get : ∀ {xs : List V} {us : List Value} {i : Nat} {x : V}, Vals xs us → xs[i]? = some x → ∃ u, us[i]? = some u ∧ RelV x u
  | _, _, _, _, .nil, e => by simp at e
  | _, _, 0, _, .cons r _, e => by simp at e; subst e; exact ⟨_, rfl, r⟩
  | _, _, i + 1, x, .cons _ t, e => by
    obtain ⟨u, h1, h2⟩ := Vals.get (i := i) (x := x) t (by simpa using e)
    exact ⟨u, by simpa using h1, h2⟩
theorem Vals.set {x : V} {u : Value} (r : RelV x u) : ∀ {xs : List V} {us : List Value} (i : Nat), Vals xs us → Vals (xs.set i x) (us.set i u)
  | _, _, _, .nil => .nil
  | _, _, 0, .cons _ t => .cons r t
  | _, _, i + 1, .cons q t => .cons q (Vals.set r i t)
theorem Vals.append : ∀ {xs ys : List V} {us ws : List Value}, Vals xs us → Vals ys ws → Vals (xs ++ ys) (us ++ ws)
  | _, _, _, _, .nil, s => s
  | _, _, _, _, .cons r t, s => .cons r (Vals.append t s)
theorem Vals.take : ∀ {xs : List V} {us : List Value} (n : Nat), Vals xs us → Vals (xs.take n) (us.take n)
  | _, _, 0, _ => .nil
  | _, _, _ + 1, .nil => .nil
  | _, _, n + 1, .cons r t => .cons r (Vals.take n t)
theorem Vals.drop : ∀ {xs : List V} {us : List Value} (n : Nat), Vals xs us → Vals (xs.drop n) (us.drop n)
  | _, _, 0, r => r
  | _, _, _ + 1, .nil => .nil
  | _, _, n + 1, .cons _ t => Vals.drop n t
def RelO : Option V → Option Value → Prop
  | some v, some u => RelV v u
  | none, none => True
  | _, _ => False
def KV {κ : Type} : List (κ × V) → List (κ × Value) → Prop := Paired fun (p : κ × V) (q : κ × Value) => p.1 = q.1 ∧ RelV p.2 q.2
def kV : Key → V
  | .inl i => .int i
  | .inr x => .str x
inductive HO where
  | lst (xs : List V)
  | tup (xs : List V)
  | dK (kvs : List (Key × V)) | dT (kvs : List (List Key × V))
  | set (S : Int → Bool) (n : Nat)
  | ins (C dx : Addr) (fs : List (Str × V))
  | own (x : Addr)
  | xd (fs : List (Str × V))
  | met (f x : Addr)
  | rng (lo hi : Int)
  | frz (o : Obj) (u : HO)
  | tbl (ps : Array Value)
  | ext (φ : Heap → Prop)
abbrev Hp := Addr → Option HO
def upd (H : Hp) (a : Addr) (o : HO) : Hp := fun b => if b = a then some o else H b
theorem upd_same {H : Hp} {a : Addr} {o : HO} : upd H a o a = some o := by unfold upd; rw [if_pos rfl]
theorem upd_ne {H : Hp} {a b : Addr} {o : HO} (h : b ≠ a) : upd H a o b = H b := by unfold upd; rw [if_neg h]
theorem ne_of {H : Hp} {a b : Addr} {o u : HO} (h : H a = some o) (h' : H b = some u) (d : o ≠ u) : a ≠ b := by
  intro e; subst e; rw [h] at h'; exact d (Option.some.inj h')
theorem ne_of_none {H : Hp} {a b : Addr} {o : HO} (h : H a = some o) (h' : H b = none) : a ≠ b := by
  intro e; subst e; rw [h] at h'; cases h'
section
variable (P : Program) (w : World)
def ObjOk (H : Hp) (h : Heap) (a : Addr) : HO → Prop
  | .lst xs => xs.length ≤ sizeLine ∧ ∃ (its : List Value) (n : Nat), Vals xs its ∧ h.get? a = some { cls := .type "list", data := .seq its.toArray n }
  | .tup xs => xs.length ≤ sizeLine ∧ ∃ its : List Value, Vals xs its ∧ IsTup h a its.toArray
  | .dK kvs => kvs.length ≤ sizeLine ∧ (a == sysModules) = false ∧ ∃ vs, KV kvs vs ∧ h.DictOf (mixKind P w) a vs
  | .dT kvs => kvs.length ≤ sizeLine ∧ (a == sysModules) = false ∧ ∃ xs : List (List Key × Addr × Value),
      Paired (fun (p : List Key × V) (q : List Key × Addr × Value) => p.1 = q.1 ∧ H q.2.1 = some (.tup (p.1.map kV)) ∧ RelV p.2 q.2.2) kvs xs ∧
      ∃ o es ep, h.get? a = some o ∧ o.ExactDict ∧ o.data = .dict es ep ∧ es.toList = xs.map (entryOfKey (tupleKind (mixKind P w))) ∧ (xs.map (·.1)).Nodup
  | .set S n => h.SetOf (intKind P w) a S n
  | .ins C dx fs => H dx = some (.own a) ∧ fs.length ≤ 1000 ∧ dx ≠ a ∧ h.get? a = some (PySem.W.instObj C dx) ∧
      ∃ mA, h.Ns1 dx mA ∧ (∀ f, RelO (fs.lookup f) (mA f)) ∧ PySem.Within mA (fs.map (·.1))
  | .own _ => ∃ o, h.get? a = some o
  | .xd fs => ∃ mA, h.Ns1 a mA ∧ ∀ f, RelO (fs.lookup f) (mA f)
  | .rng lo hi => ∃ t u v, h.get? a = some { cls := .type "range", data := .fields #[.int lo t, .int hi u, .int 1 v] }
  | .frz o u => h.get? a = some o ∧ ObjOk H h a u
  | .tbl ps => h.get? a = some { cls := .none, data := .fields ps }
  | .met f x => h.get? a = some (PySem.W.methodObj (.ref f) (.ref x))
  | .ext φ => φ h ∧ (∃ o, h.get? a = some o) ∧ ∀ h1 h2 : Heap, φ h1 → (∀ o, h1.get? a = some o → h2.get? a = some o) → φ h2
def HOk (H : Hp) (h : Heap) : Prop := ∀ a o, H a = some o → ObjOk P w H h a o
end
section
variable {P : Program} {w : World} {H H' : Hp} {h h' : Heap} {a : Addr} {o : HO}
theorem ObjOk.lt (x : ObjOk P w H h a o) : a < h.objs.size := by
  cases o with
  | lst xs => obtain ⟨_, _, _, _, e⟩ := x; exact Heap.lt_size e
  | tup xs => obtain ⟨_, _, _, p⟩ := x; exact p.lt
  | dK kvs => obtain ⟨_, _, _, _, o, _, _, e, _⟩ := x; exact Heap.lt_size e
  | dT kvs => obtain ⟨_, _, _, _, o, _, _, e, _⟩ := x; exact Heap.lt_size e
  | set S n => obtain ⟨o, _, _, _, e, _⟩ := x; exact Heap.lt_size e
  | ins C dx fs => obtain ⟨_, _, _, e, _⟩ := x; exact Heap.lt_size e
  | own y => obtain ⟨_, e⟩ := x; exact Heap.lt_size e
  | xd fs => obtain ⟨_, ⟨_, _, _, e, _⟩, _⟩ := x; exact Heap.lt_size e
  | rng lo hi => obtain ⟨_, _, _, e⟩ := x; exact Heap.lt_size e
  | frz ob u => obtain ⟨e, _⟩ := x; exact Heap.lt_size e
  | tbl ps => exact Heap.lt_size (show h.get? a = some _ from x)
  | met f y => exact Heap.lt_size (show h.get? a = some _ from x)
  | ext φ => obtain ⟨_, ⟨_, e⟩, _⟩ := x; exact Heap.lt_size e
theorem Paired.mapP {α β : Type} {F G : α → β → Prop} : ∀ {l₁ : List α} {l₂ : List β}, Paired F l₁ l₂ → (∀ a b, F a b → G a b) → Paired G l₁ l₂
  | _, _, .nil, _ => .nil
  | _, _, .cons r t, f => .cons (f _ _ r) (Paired.mapP t f)
theorem ObjOk.stay (x : ObjOk P w H h a o) (k : ∀ b u, (b = a ∨ H b = some (.own a)) → h.get? b = some u → h'.get? b = some u)
    (ho : ∀ b, H b = some (.own a) → H' b = some (.own a)) (ht : ∀ b xs, H b = some (.tup xs) → H' b = some (.tup xs)) : ObjOk P w H' h' a o := by
  induction o with
  | lst xs => obtain ⟨z, its, n, r, e⟩ := x; exact ⟨z, its, n, r, k _ _ (.inl rfl) e⟩
  | tup xs => obtain ⟨z, its, r, ob, e, c⟩ := x; exact ⟨z, its, r, ob, k _ _ (.inl rfl) e, c⟩
  | dK kvs => obtain ⟨z, y, vs, r, ob, es, ep, e, c⟩ := x; exact ⟨z, y, vs, r, ob, es, ep, k _ _ (.inl rfl) e, c⟩
  | dT kvs =>
    obtain ⟨z, y, xs, r, ob, es, ep, e, c⟩ := x
    exact ⟨z, y, xs, Paired.mapP r fun p q z => ⟨z.1, ht _ _ z.2.1, z.2.2⟩, ob, es, ep, k _ _ (.inl rfl) e, c⟩
  | set S n => obtain ⟨ob, es, ep, t, e, c⟩ := x; exact ⟨ob, es, ep, t, k _ _ (.inl rfl) e, c⟩
  | ins C dx fs =>
    obtain ⟨d, z, ne, e, mA, ⟨od, es, ep, e2, c⟩, r⟩ := x
    exact ⟨ho _ d, z, ne, k _ _ (.inl rfl) e, mA, ⟨od, es, ep, k _ _ (.inr d) e2, c⟩, r⟩
  | own y => obtain ⟨ob, e⟩ := x; exact ⟨ob, k _ _ (.inl rfl) e⟩
  | xd fs => obtain ⟨mA, ⟨od, es, ep, e, c⟩, r⟩ := x; exact ⟨mA, ⟨od, es, ep, k _ _ (.inl rfl) e, c⟩, r⟩
  | rng lo hi => obtain ⟨t, u, v, e⟩ := x; exact ⟨t, u, v, k _ _ (.inl rfl) e⟩
  | frz ob u ih => obtain ⟨e, q⟩ := x; exact ⟨k _ _ (.inl rfl) e, ih q⟩
  | tbl ps =>
    have e : h.get? a = some { cls := .none, data := .fields ps } := x
    show h'.get? a = some { cls := .none, data := .fields ps }
    exact k a _ (.inl rfl) e
  | met f y =>
    have e : h.get? a = some (PySem.W.methodObj (.ref f) (.ref y)) := x
    show h'.get? a = some (PySem.W.methodObj (.ref f) (.ref y))
    exact k a _ (.inl rfl) e
  | ext φ => obtain ⟨p, ⟨o, e⟩, st⟩ := x; exact ⟨st _ _ p fun o q => k _ _ (.inl rfl) q, ⟨o, k _ _ (.inl rfl) e⟩, st⟩
theorem HOk.lt (x : HOk P w H h) (e : H a = some o) : a < h.objs.size := (x a o e).lt
theorem HOk.fresh (x : HOk P w H h) (e : h.objs.size ≤ a) : H a = none := by
  cases q : H a with
  | none => rfl
  | some u => exact absurd (Nat.lt_of_lt_of_le (x.lt q) e) (Nat.lt_irrefl _)
theorem HOk.kept (x : HOk P w H h) (k : ∀ b u, h.get? b = some u → h'.get? b = some u) : HOk P w H h' := fun a o e =>
  (x a o e).stay (fun b u _ q => k b u q) (fun _ q => q) fun _ _ q => q
theorem HOk.laid (x : HOk P w H h) (k : ∀ b u, h.get? b = some u → h'.get? b = some u) (hp : h.objs.size ≤ a) (new : ObjOk P w (upd H a o) h' a o) : HOk P w (upd H a o) h' := fun b u e => by
  have hn := x.fresh hp
  by_cases hb : b = a
  · subst hb; rw [upd_same] at e; cases e; exact new
  · rw [upd_ne hb] at e
    exact (x b u e).stay (fun c v _ q => k c v q) (fun c q => by rw [upd_ne (ne_of_none q hn)]; exact q) fun c xs q => by rw [upd_ne (ne_of_none q hn)]; exact q
end
def Rd (H : Hp) (a : Addr) (u : HO) : Prop := H a = some u ∨ ∃ o, H a = some (.frz o u)
theorem Rd.of {H : Hp} {a : Addr} {u : HO} (h : H a = some u) : Rd H a u := .inl h
theorem Rd.ok {P : Program} {w : World} {H : Hp} {h : Heap} {a : Addr} {u : HO} (r : Rd H a u) (x : HOk P w H h) : ObjOk P w H h a u := by
  rcases r with r | ⟨o, r⟩
  · exact x a u r
  · obtain ⟨_, q⟩ := x a _ r
    exact q
def Mut : Option HO → Prop
  | some (.lst _) => True
  | some (.dK _) => True
  | some (.dT _) => True
  | some (.set _ _) => True
  | some (.ins _ _ _) => True
  | some (.ext _) => True
  | _ => False
section
variable {P : Program} {w : World} {H : Hp} {h h' : Heap} {x e : Addr} {o' : HO}
theorem HOk.write (ok : HOk P w H h) (mu : Mut (H x)) (he : e = x ∨ H e = some (.own x)) (k : ∀ b u, b ≠ e → h.get? b = some u → h'.get? b = some u) (heo : ∃ u, h'.get? e = some u)
    (new : ObjOk P w (upd H x o') h' x o') : HOk P w (upd H x o') h' := fun b u q => by
  have nown : ∀ c y, H c = some (.own y) → c ≠ x := fun c y r z => by subst z; rw [r] at mu; exact mu
  have ntup : ∀ c xs, H c = some (.tup xs) → c ≠ x := fun c xs r z => by subst z; rw [r] at mu; exact mu
  by_cases hb : b = x
  · subst hb; rw [upd_same] at q; cases q; exact new
  · rw [upd_ne hb] at q
    by_cases hbe : b = e
    · have q' : H b = some (.own x) := by
        rcases he with z | z
        · exact absurd (hbe.trans z) hb
        · rw [hbe]; exact z
      rw [q] at q'; cases q'
      obtain ⟨v, hv⟩ := heo
      exact ⟨v, by rw [hbe]; exact hv⟩
    · refine (ok b u q).stay (fun c v hc r => k c v ?_ r) (fun c r => by rw [upd_ne (nown c b r)]; exact r) fun c xs r => by rw [upd_ne (ntup c xs r)]; exact r
      rcases hc with rfl | hc
      · exact hbe
      · rintro rfl
        rcases he with z | z
        · exact nown c b hc z
        · rw [hc] at z; cases z; exact hb rfl
end
structure Un (fs ex : List Addr) (H H' : Hp) (h h' : Heap) : Prop where
  keep : ∀ b o, h.get? b = some o → H b = none → b ∉ fs → b ∉ ex → h'.get? b = some o
  slot : ∀ b o, h.get? b = some o → H b = none → b ∈ fs → b ∉ ex → ∃ sl, h'.get? b = some { o with slots := sl }
  free : ∀ b o, h.get? b = some o → H b = none → b ∉ ex → H' b = none
  there : ∀ b o, h.get? b = some o → b ∉ ex → ∃ o', h'.get? b = some o'
  tups : ∀ b xs, H b = some (.tup xs) → H' b = some (.tup xs)
  frzs : ∀ b o u, H b = some (.frz o u) → H' b = some (.frz o u)
  tbls : ∀ b ps, H b = some (.tbl ps) → ∃ more, H' b = some (.tbl (ps ++ more))
section
variable {fs fs' ex ex' : List Addr} {H H1 H2 : Hp} {h h1 h2 h' : Heap} {a x e : Addr} {o : HO}
theorem Un.any (u : Un fs ex H H1 h h1) {b : Addr} {ob : Obj} (q : h.get? b = some ob) (n : H b = none) (hx : b ∉ ex) : ∃ sl, h1.get? b = some { ob with slots := sl } := by
  by_cases hb : b ∈ fs
  · exact u.slot b ob q n hb hx
  · exact ⟨ob.slots, u.keep b ob q n hb hx⟩
theorem Un.trans (a : Un fs ex H H1 h h1) (b : Un fs ex H1 H2 h1 h2) : Un fs ex H H2 h h2 where
  keep := fun c ob q n hc hx => b.keep c ob (a.keep c ob q n hc hx) (a.free c ob q n hx) hc hx
  slot := fun c ob q n hc hx => by
    obtain ⟨sl, e1⟩ := a.slot c ob q n hc hx
    obtain ⟨sl', e2⟩ := b.slot c _ e1 (a.free c ob q n hx) hc hx
    exact ⟨sl', e2⟩
  free := fun c ob q n hx => by
    obtain ⟨o', e1⟩ := a.there c ob q hx
    exact b.free c o' e1 (a.free c ob q n hx) hx
  there := fun c ob q hx => by
    obtain ⟨o', e1⟩ := a.there c ob q hx
    exact b.there c o' e1 hx
  tups := fun c xs q => b.tups c xs (a.tups c xs q)
  frzs := fun c ob xs q => b.frzs c ob xs (a.frzs c ob xs q)
  tbls := fun c ps q => by
    obtain ⟨m1, e1⟩ := a.tbls c ps q
    obtain ⟨m2, e2⟩ := b.tbls c _ e1
    exact ⟨m1 ++ m2, by rw [e2, Array.append_assoc]⟩
theorem Un.kept (k : ∀ b u, h.get? b = some u → h'.get? b = some u) : Un fs ex H H h h' :=
  ⟨fun b ob q _ _ _ => k b ob q, fun b ob q _ _ _ => ⟨ob.slots, k b ob q⟩, fun _ _ _ n _ => n, fun b ob q _ => ⟨ob, k b ob q⟩, fun _ _ q => q, fun _ _ _ q => q, fun _ ps q => ⟨#[], by rw [q]; simp⟩⟩
theorem Un.refl : Un fs ex H H h h := Un.kept fun _ _ q => q
theorem Un.laid (k : ∀ b u, h.get? b = some u → h'.get? b = some u) (hp : h.objs.size ≤ a) (hn : H a = none) : Un fs ex H (upd H a o) h h' where
  keep := fun b u q _ _ _ => k b u q
  slot := fun b u q _ _ _ => ⟨u.slots, k b u q⟩
  free := fun b u q n _ => by rw [upd_ne (Nat.ne_of_lt (Nat.lt_of_lt_of_le (Heap.lt_size q) hp))]; exact n
  there := fun b u q _ => ⟨u, k b u q⟩
  tups := fun b xs q => by rw [upd_ne (ne_of_none q hn)]; exact q
  frzs := fun b u xs q => by rw [upd_ne (ne_of_none q hn)]; exact q
  tbls := fun b ps q => ⟨#[], by rw [upd_ne (ne_of_none q hn), q]; simp⟩
theorem Un.write (mu : Mut (H x)) (he : e = x ∨ H e = some (.own x)) (k : ∀ b u, b ≠ e → h.get? b = some u → h'.get? b = some u) (heo : ∃ u, h'.get? e = some u) : Un fs ex H (upd H x o) h h' := by
  have hx : ∀ b, H b = none → b ≠ x := fun b n z => by subst z; rw [n] at mu; exact mu
  have hb : ∀ b, H b = none → b ≠ e := fun b n z => by
    subst z
    rcases he with r | r
    · exact hx b n r
    · rw [n] at r; cases r
  have hm : ∀ b u, H b = some u → ¬ Mut (some u) → b ≠ x := fun b u q nm z => by subst z; rw [q] at mu; exact nm mu
  refine ⟨fun b u q n _ _ => k b u (hb b n) q, fun b u q n _ _ => ⟨u.slots, k b u (hb b n) q⟩, fun b u q n _ => by rw [upd_ne (hx b n)]; exact n, fun b u q _ => ?_,
    fun b xs q => by rw [upd_ne (hm b _ q fun z => z)]; exact q, fun b u xs q => by rw [upd_ne (hm b _ q fun z => z)]; exact q, fun b ps q => ⟨#[], by rw [upd_ne (hm b _ q fun z => z), q]; simp⟩⟩
  by_cases hbe : b = e
  · subst hbe; exact heo
  · exact ⟨u, k b u hbe q⟩
theorem Un.mono (u : Un fs ex H H1 h h1) (hs : ∀ b ∈ fs, b ∈ fs') (hx : ∀ b ∈ ex, b ∈ ex') : Un fs' ex' H H1 h h1 :=
  ⟨fun b ob q n hb he => u.keep b ob q n (fun z => hb (hs b z)) fun z => he (hx b z), fun _ _ q n _ he => u.any q n fun z => he (hx _ z), fun b ob q n he => u.free b ob q n fun z => he (hx b z), fun b ob q he => u.there b ob q fun z => he (hx b z), u.tups, u.frzs, u.tbls⟩
end
def trk (h : Heap) (H : Hp) : List Addr := (List.range h.objs.size).filter fun a => (H a).isSome
def hidT (h : Heap) (H : Hp) : Heap := PySem.W.hideAll h (trk h H)
theorem hidT_size (h : Heap) (H : Hp) : (hidT h H).objs.size = h.objs.size := PySem.W.hideAll_size _ _
theorem hidT_get {h : Heap} {H : Hp} {b : Addr} {o : Obj} (e : h.get? b = some o) (n : H b = none) : (hidT h H).get? b = some o :=
  PySem.W.hideAll_get _ e fun hm => by
    have q : (H b).isSome = true := (List.mem_filter.mp hm).2
    rw [n] at q; simp at q
theorem of_hidT {h : Heap} {H : Hp} {b : Addr} {o : Obj} (e : (hidT h H).get? b = some o) : h.get? b = some o ∧ H b = none := by
  have e' : h.get? b = some o := PySem.W.of_hideAll (trk h H) e
  refine ⟨e', ?_⟩
  cases q : H b with
  | none => rfl
  | some x =>
    have hm : b ∈ trk h H := List.mem_filter.mpr ⟨List.mem_range.mpr (Heap.lt_size e'), by simp [q]⟩
    have z : (hidT h H).get? b = none := PySem.W.hideAll_none (trk h H) hm
    rw [z] at e; cases e
def allNews (g h : Heap) (L : Addr) : List (Addr × Obj) := (List.range h.objs.size).filterMap fun a => if a = L ∨ (g.get? a).isSome = true then none else (h.get? a).map fun o => (a, o)
def rest (g h : Heap) (L d : Addr) : List (Addr × Obj) := (allNews g h L).filter fun p => decide (p.1 ≠ d)
end L2
namespace L2
open PySem PySem.Spec PyProof.Rows
structure Mod (K : PySem.W.Frag) (mg : Str → Option Value) (base : Heap) : Prop where
  kin : K.In base
  glob : base.Ns mainGlobals mg
  blt : ∃ mb, base.Ns builtinsNs mb ∧ ∀ x : Str, x ≠ "__name__" → mb x = bootBuiltins x
  nolimit : base.NoLimit
structure Cx where
  prog : Program
  w : World
  K : PySem.W.Frag
  mg : Str → Option Value
  base : Heap
  A : Around
  N : List Str
  s₀ : Shared
  H₀ : Hp
  env : Env
  outer : List Env
  stack : List Env
  ex : List Addr
  fn : Str → Bool
  calm : Bool
  pn : List (Addr × Obj)
  xe : Value → Shared → Prop
def frs (l : List Env) : List Addr := l.filterMap (·.frame)
abbrev Cx.fs (X : Cx) : List Addr := frs X.outer
def Vis (sc : Scope) (x : Str) : Prop := sc.names.lookup x = some .local ∨ sc.names.lookup x = some .cell ∨ sc.names.lookup x = some .free
def Loc (sc : Scope) (x : Str) : Prop := sc.names.lookup x = some .local ∨ sc.names.lookup x = some .cell
def Look (env : Env) (h : Heap) (m : Str → Option Value) (x : Str) (u : Value) : Prop :=
  (env.kindOf x = some .local ∧ m x = some u) ∨ ((env.kindOf x = some .cell ∨ env.kindOf x = some .free) ∧ ∃ c, env.cells.lookup x = some c ∧ h.IsCell c (some u))
structure Cx.Ok (X : Cx) : Prop where
  mod : Mod X.K X.mg X.base
  kind : X.env.scope.kind = .function
  glob : X.env.globals = mainGlobals
  blt : X.env.builtins = builtinsNs
  above : X.s₀.heap.objs.size ≤ X.env.locals
  inj : ∀ x y c, X.env.cells.lookup x = some c → X.env.cells.lookup y = some c → x = y
  has : ∀ x, (X.env.kindOf x = some .cell ∨ X.env.kindOf x = some .free) → ∃ c, X.env.cells.lookup x = some c
  cab : ∀ x c, X.fn x = true → X.env.cells.lookup x = some c → X.s₀.heap.objs.size ≤ c
  hd : X.calm = true → X.A.handled = none
  frames : X.A.frames = some X.stack
  stk : X.stack = X.outer ∨ (X.stack = X.env :: X.outer ∧ X.env.frame = some X.env.locals)
  exf : ∀ b ∈ X.ex, b ≠ X.env.locals ∧ ∀ x c, X.env.cells.lookup x = some c → c ≠ b
  bs : ∀ b o, X.base.get? b = some o → X.s₀.heap.get? b = some o ∧ X.H₀ b = none
  bsz : X.base.objs.size ≤ X.s₀.heap.objs.size
  noex : ∀ b o, X.base.get? b = some o → b ∉ X.ex
  exfs : ∀ b ∈ X.ex, b ∉ X.fs
  funs : X.s₀.heap.FunFrames X.base X.outer
  frf : ∀ b ∈ X.fs, X.H₀ b = none
structure Inv (X : Cx) (pins : List (Addr × Obj)) (σ : List (Option V)) (H : Hp) (s : Shared) : Prop where
  ok : X.Ok
  os : s.os = X.s₀.os
  bare : AllBare s.gens
  base : Un X.fs X.ex X.H₀ H X.s₀.heap s.heap
  loc : ∃ m, s.heap.Ns X.env.locals m ∧ ∀ (i : Nat) (x : Str) (v : V), X.N[i]? = some x → σ[i]? = some (some v) → Vis X.env.scope x → ∃ u, RelV v u ∧ Look X.env s.heap m x u
  cell : ∀ x c, X.env.cells.lookup x = some c → ∃ v, s.heap.IsCell c v
  free : H X.env.locals = none
  freeC : ∀ x c, X.env.cells.lookup x = some c → H c = none
  pin : ∀ p ∈ X.pn ++ pins, s.heap.get? p.1 = some p.2 ∧ H p.1 = none ∧ p.1 ≠ X.env.locals ∧ p.1 ∉ X.fs ∧ ∀ v, p.2.data ≠ .cell v
  hok : HOk X.prog X.w H s.heap
  len : σ.length = X.N.length
section
variable {X : Cx} {pins : List (Addr × Obj)} {σ : List (Option V)} {H H' : Hp} {s : Shared} {h' : Heap}
theorem Cx.Ok.nofr (ok : X.Ok) {b : Addr} {o : Obj} (e : X.base.get? b = some o) : b ∉ X.fs := fun hb => by
  have := (ok.funs.mem hb).1
  rw [e] at this; cases this
theorem Inv.bs (I : Inv X pins σ H s) : ∀ b o, X.base.get? b = some o → s.heap.get? b = some o ∧ H b = none := fun b o e =>
  ⟨I.base.keep b o (I.ok.bs b o e).1 (I.ok.bs b o e).2 (I.ok.nofr e) (I.ok.noex b o e), I.base.free b o (I.ok.bs b o e).1 (I.ok.bs b o e).2 (I.ok.noex b o e)⟩
theorem Inv.bk (I : Inv X pins σ H s) : ∀ b o, X.base.get? b = some o → s.heap.get? b = some o := fun b o e => (I.bs b o e).1
theorem Inv.mod (I : Inv X pins σ H s) : Mod X.K X.mg X.base := I.ok.mod
theorem Inv.kIn (I : Inv X pins σ H s) : X.K.In s.heap := I.ok.mod.kin.keeps I.bk
theorem Inv.nolimit (I : Inv X pins σ H s) : s.heap.NoLimit := I.ok.mod.nolimit.keeps I.bk
theorem Inv.fr (I : Inv X pins σ H s) : ∃ m, Fr X.base X.env.locals s.heap m :=
  let ⟨m, hn, _⟩ := I.loc
  ⟨m, hn, I.bk, Nat.le_trans I.ok.bsz I.ok.above⟩
theorem Inv.lt (I : Inv X pins σ H s) : X.env.locals < s.heap.objs.size := let ⟨_, hn, _⟩ := I.loc; hn.lt
theorem Inv.sz (I : Inv X pins σ H s) : X.s₀.heap.objs.size ≤ s.heap.objs.size := Nat.le_trans I.ok.above (Nat.le_of_lt I.lt)
theorem Inv.nofs (I : Inv X pins σ H s) {a : Addr} (h : s.heap.objs.size ≤ a) : a ∉ X.fs := fun hb => by
  obtain ⟨_, o, ho, _⟩ := I.ok.funs.mem hb
  exact absurd (Nat.lt_of_lt_of_le (Heap.lt_size ho) (Nat.le_trans I.sz h)) (Nat.lt_irrefl _)
theorem Inv.cne (I : Inv X pins σ H s) : ∀ x c, X.env.cells.lookup x = some c → c ≠ X.env.locals := fun x c e z => by
  obtain ⟨v, o, ho, hd⟩ := I.cell x c e
  obtain ⟨m, ⟨o', es, ep, ho', hd', _⟩, _⟩ := I.loc
  rw [z, ho'] at ho; cases ho; rw [hd'] at hd; cases hd
theorem Inv.funs (I : Inv X pins σ H s) : s.heap.FunFrames X.base X.outer := by
  have all : ∀ (l : List Env), (∀ b ∈ frs l, b ∈ X.fs) → X.s₀.heap.FunFrames X.base l → s.heap.FunFrames X.base l := by
    intro l
    induction l with
    | nil => intro _ _; trivial
    | cons env r ih =>
      intro hs hl
      obtain ⟨hk, ⟨L, o, hf, hn, ho, hd⟩, hr⟩ := hl
      have hL : L ∈ X.fs := hs L (by unfold frs; rw [List.filterMap_cons, hf]; exact List.mem_cons_self)
      obtain ⟨sl, e⟩ := I.base.slot L o ho (I.ok.frf L hL) hL fun z => I.ok.exfs L z hL
      exact ⟨hk, ⟨L, _, hf, hn, e, hd⟩, ih (fun b hb => hs b (by unfold frs; rw [List.filterMap_cons, hf]; exact List.mem_cons_of_mem _ hb)) hr⟩
  exact all X.outer (fun _ hb => hb) I.ok.funs
theorem Inv.stack (I : Inv X pins σ H s) : s.heap.FunFrames X.base X.stack := by
  rcases I.ok.stk with e | ⟨e, hf⟩
  · rw [e]; exact I.funs
  · rw [e]
    obtain ⟨m, hn, _⟩ := I.loc
    refine .cons (by rw [I.ok.kind]; decide) hf hn ?_ I.funs
    exact Heap.get?_none_of_le (Nat.le_trans I.ok.bsz I.ok.above)
theorem Inv.stkSub (I : Inv X pins σ H s) : ∀ b ∈ frs X.stack, b ∈ X.env.locals :: X.fs := fun b hb => by
  rcases I.ok.stk with e | ⟨e, hf⟩
  · rw [e] at hb; exact List.mem_cons_of_mem _ hb
  · rw [e] at hb
    unfold frs at hb
    rw [List.filterMap_cons, hf] at hb
    exact hb
theorem Inv.stkFree (I : Inv X pins σ H s) : ∀ b ∈ frs X.stack, H b = none := fun b hb => by
  rcases List.mem_cons.mp (I.stkSub b hb) with e | hb
  · rw [e]; exact I.free
  · obtain ⟨_, o, ho, _⟩ := I.ok.funs.mem hb
    exact I.base.free b o ho (I.ok.frf b hb) fun z => I.ok.exfs b z hb
theorem Inv.step {g' : Array GenState} {t' : Nat} {d' : Drawn} {ch : List Addr} (I : Inv X pins σ H s)
    (hch : ∀ b ∈ ch, (b ∈ X.ex ∨ X.s₀.heap.objs.size ≤ b) ∧ b ≠ X.env.locals ∧ (∀ x c, X.env.cells.lookup x = some c → c ≠ b) ∧ ∀ p ∈ X.pn ++ pins, p.1 ≠ b)
    (keep : ∀ b o, b ≠ X.env.locals → b ∉ X.fs → b ∉ ch → s.heap.get? b = some o → H b = none → h'.get? b = some o)
    (slot : ∀ b o, b ≠ X.env.locals → b ∈ X.fs → b ∉ ch → s.heap.get? b = some o → H b = none → ∃ sl, h'.get? b = some { o with slots := sl }) (free : ∀ b o, b ∉ ch → s.heap.get? b = some o → H b = none → H' b = none)
    (there : ∀ b o, b ∉ ch → s.heap.get? b = some o → ∃ o', h'.get? b = some o')
    (tups : ∀ b xs, H b = some (.tup xs) → H' b = some (.tup xs)) (frzs : ∀ b o u, H b = some (.frz o u) → H' b = some (.frz o u)) (tbls : ∀ b ps, H b = some (.tbl ps) → ∃ more, H' b = some (.tbl (ps ++ more)))
    (ns : ∀ m, s.heap.Ns X.env.locals m → h'.Ns X.env.locals m) (hok : HOk X.prog X.w H' h') (hg : AllBare g') :
    Inv X pins σ H' { s with heap := h', gens := g', drawn := d', toks := t' } := by
  have neL : ∀ b o, X.s₀.heap.get? b = some o → b ≠ X.env.locals := fun b o e => Nat.ne_of_lt (Nat.lt_of_lt_of_le (Heap.lt_size e) I.ok.above)
  have neC : ∀ b o, X.s₀.heap.get? b = some o → b ∉ X.ex → b ∉ ch := fun b o e hx hb => by
    rcases (hch b hb).1 with z | z
    · exact hx z
    · exact absurd (Nat.lt_of_lt_of_le (Heap.lt_size e) z) (Nat.lt_irrefl _)
  have cellK : ∀ x c, X.env.cells.lookup x = some c → ∀ v, s.heap.IsCell c v → h'.IsCell c v := fun x c e v ⟨o, ho, hd⟩ => by
    have nch : c ∉ ch := fun z => (hch c z).2.2.1 x c e rfl
    by_cases hc : c ∈ X.fs
    · obtain ⟨sl, q⟩ := slot c o (I.cne x c e) hc nch ho (I.freeC x c e)
      exact ⟨_, q, hd⟩
    · exact ⟨o, keep c o (I.cne x c e) hc nch ho (I.freeC x c e), hd⟩
  refine ⟨I.ok, I.os, hg, ⟨fun b o e n hb hx => ?_, fun b o e n hb hx => ?_, fun b o e n hx => ?_, fun b o e hx => ?_, fun b xs e => tups b xs (I.base.tups b xs e), fun b o xs e => frzs b o xs (I.base.frzs b o xs e), fun b ps e => ?_⟩, ?_, fun x c e => ?_, ?_, fun x c e => ?_, fun p hp => ?_, hok, I.len⟩
  · exact keep b o (neL b o e) hb (neC b o e hx) (I.base.keep b o e n hb hx) (I.base.free b o e n hx)
  · obtain ⟨sl, e1⟩ := I.base.slot b o e n hb hx
    obtain ⟨sl', e2⟩ := slot b _ (neL b o e) hb (neC b o e hx) e1 (I.base.free b o e n hx)
    exact ⟨sl', e2⟩
  · obtain ⟨o', e1⟩ := I.base.there b o e hx
    exact free b o' (neC b o e hx) e1 (I.base.free b o e n hx)
  · obtain ⟨o', e1⟩ := I.base.there b o e hx
    exact there b o' (neC b o e hx) e1
  · obtain ⟨m1, e1⟩ := I.base.tbls b ps e
    obtain ⟨m2, e2⟩ := tbls b _ e1
    exact ⟨m1 ++ m2, by rw [e2, Array.append_assoc]⟩
  · obtain ⟨m, hn, hl⟩ := I.loc
    refine ⟨m, ns m hn, fun i x v e1 e2 e3 => ?_⟩
    obtain ⟨u, r, l⟩ := hl i x v e1 e2 e3
    refine ⟨u, r, ?_⟩
    rcases l with l | ⟨k, c, e, z⟩
    · exact .inl l
    · exact .inr ⟨k, c, e, cellK x c e _ z⟩
  · obtain ⟨v, z⟩ := I.cell x c e
    exact ⟨v, cellK x c e v z⟩
  · obtain ⟨m, ⟨o, _, _, ho, _⟩, _⟩ := I.loc
    exact free _ o (fun z => (hch _ z).2.1 rfl) ho I.free
  · obtain ⟨v, o, ho, hd⟩ := I.cell x c e
    exact free c o (fun z => (hch c z).2.2.1 x c e rfl) ho (I.freeC x c e)
  · obtain ⟨e, n, ne, nf, d⟩ := I.pin p hp
    have nch : p.1 ∉ ch := fun z => (hch p.1 z).2.2.2 p hp rfl
    exact ⟨keep p.1 p.2 ne nf nch e n, free p.1 p.2 nch e n, ne, nf, d⟩
theorem Inv.un {t' : Nat} (I : Inv X pins σ H s) (u : Un X.fs [] H H' s.heap h') (hok : HOk X.prog X.w H' h') : Inv X pins σ H' { s with heap := h', toks := t' } := by
  obtain ⟨m, ⟨o, es, ep, ho, r⟩, _⟩ := id I.loc
  obtain ⟨sl, hL⟩ := u.any ho I.free (by simp)
  exact I.step (g' := s.gens) (d' := s.drawn) (ch := []) (fun _ z => nomatch z) (fun b o _ hb _ e n => u.keep b o e n hb (by simp)) (fun b o _ hb _ e n => u.slot b o e n hb (by simp)) (fun b o _ e n => u.free b o e n (by simp)) (fun b o _ e => u.there b o e (by simp)) u.tups u.frzs u.tbls (fun m' hm => by
    obtain ⟨o', es', ep', ho', r'⟩ := hm
    rw [ho] at ho'; cases ho'
    exact ⟨_, es', ep', hL, r'⟩) hok I.bare
theorem Inv.call {g' : Array GenState} {t' : Nat} {d' : Drawn} {ch : List Addr} (I : Inv X pins σ H s) (u : Un (frs X.stack) ch H H' s.heap h') (hok : HOk X.prog X.w H' h') (hg : AllBare g')
    (hch : ∀ b ∈ ch, (b ∈ X.ex ∨ X.s₀.heap.objs.size ≤ b) ∧ b ≠ X.env.locals ∧ (∀ x c, X.env.cells.lookup x = some c → c ≠ b) ∧ ∀ p ∈ X.pn ++ pins, p.1 ≠ b) :
    Inv X pins σ H' { s with heap := h', gens := g', drawn := d', toks := t' } := by
  obtain ⟨m, ⟨o, es, ep, ho, r⟩, _⟩ := id I.loc
  obtain ⟨sl, hL⟩ := u.any ho I.free fun z => (hch _ z).2.1 rfl
  exact I.step (ch := ch) hch (fun b o hL hb hc e n => u.keep b o e n (fun z => (List.mem_cons.mp (I.stkSub b z)).elim hL hb) hc) (fun b o _ _ hc e n => u.any e n hc) (fun b o hc e n => u.free b o e n hc) (fun b o hc e => u.there b o e hc) u.tups u.frzs u.tbls (fun m' hm => by
    obtain ⟨o', es', ep', ho', r'⟩ := hm
    rw [ho] at ho'; cases ho'
    exact ⟨_, es', ep', hL, r'⟩) hok hg
theorem Inv.turned {t' : Nat} {it : Addr} (I : Inv X pins σ H s) (k : ∀ b o, b ≠ it → s.heap.get? b = some o → h'.get? b = some o) (hn : H it = none) (hL : it ≠ X.env.locals)
    (h1 : it ∈ X.ex ∨ X.s₀.heap.objs.size ≤ it) (h2 : ∀ x c, X.env.cells.lookup x = some c → c ≠ it) (h3 : ∀ p ∈ X.pn ++ pins, p.1 ≠ it) : Inv X pins σ H { s with heap := h', toks := t' } := by
  have nit : ∀ b u, H b = some u → b ≠ it := fun b u e z => by rw [z, hn] at e; cases e
  refine I.step (g' := s.gens) (d' := s.drawn) (ch := [it]) (fun b hb => ?_) (fun b o _ _ hc e _ => k b o (fun z => hc (by simp [z])) e) (fun b o _ _ hc e _ => ⟨o.slots, k b o (fun z => hc (by simp [z])) e⟩) (fun _ _ _ _ n => n)
    (fun b o hc e => ⟨o, k b o (fun z => hc (by simp [z])) e⟩) (fun _ _ e => e) (fun _ _ _ e => e) (fun b ps e => ⟨#[], by rw [e]; simp⟩) (fun m hm => ?_) (fun b u e => ?_) I.bare
  · have e : b = it := by simpa using hb
    subst e
    exact ⟨h1, hL, h2, h3⟩
  · obtain ⟨o, es, ep, ho, r⟩ := hm
    exact ⟨o, es, ep, k _ o (Ne.symm hL) ho, r⟩
  · refine (I.hok b u e).stay (fun c v hc q => k c v ?_ q) (fun _ q => q) fun _ _ q => q
    rcases hc with z | z
    · rw [z]; exact nit b u e
    · exact nit c _ z
theorem Inv.tok (I : Inv X pins σ H s) (t : Nat) : Inv X pins σ H { s with toks := t } := I.un (h' := s.heap) (t' := t) Un.refl I.hok
theorem Inv.kept {t' : Nat} (I : Inv X pins σ H s) (k : ∀ b u, s.heap.get? b = some u → h'.get? b = some u) : Inv X pins σ H { s with heap := h', toks := t' } := I.un (Un.kept k) (I.hok.kept k)
theorem Inv.laid {a : Addr} {o : HO} {t' : Nat} (I : Inv X pins σ H s) (k : ∀ b u, s.heap.get? b = some u → h'.get? b = some u) (hp : s.heap.objs.size ≤ a) (new : ObjOk X.prog X.w (upd H a o) h' a o) :
    Inv X pins σ (upd H a o) { s with heap := h', toks := t' } := I.un (Un.laid k hp (I.hok.fresh hp)) (I.hok.laid k hp new)
theorem Inv.write {x e : Addr} {o : HO} {t' : Nat} (I : Inv X pins σ H s) (mu : Mut (H x)) (he : e = x ∨ H e = some (.own x)) (k : ∀ b u, b ≠ e → s.heap.get? b = some u → h'.get? b = some u) (heo : ∃ u, h'.get? e = some u)
    (new : ObjOk X.prog X.w (upd H x o) h' x o) : Inv X pins σ (upd H x o) { s with heap := h', toks := t' } := I.un (Un.write mu he k heo) (I.hok.write mu he k heo new)
theorem Inv.pins_of {pins' : List (Addr × Obj)} (I : Inv X pins σ H s) (h : ∀ p ∈ pins', s.heap.get? p.1 = some p.2 ∧ H p.1 = none ∧ p.1 ≠ X.env.locals ∧ p.1 ∉ X.fs ∧ ∀ v, p.2.data ≠ .cell v) : Inv X pins' σ H s :=
  ⟨I.ok, I.os, I.bare, I.base, I.loc, I.cell, I.free, I.freeC, fun p hp => (List.mem_append.mp hp).elim (fun z => I.pin p (List.mem_append_left _ z)) (h p), I.hok, I.len⟩
theorem nodup_ix {N : List Str} (hN : N.Nodup) {i j : Nat} {x : Str} (a : N[i]? = some x) (b : N[j]? = some x) : i = j := by
  obtain ⟨h1, e1⟩ := List.getElem?_eq_some_iff.mp a
  obtain ⟨h2, e2⟩ := List.getElem?_eq_some_iff.mp b
  exact (List.getElem_inj hN).mp (e1.trans e2.symm)
theorem store_ok2 {M : Model} {A : Around} {E : Value → Shared → Prop} {i : Nat} {x : Str} {v : V} {u : Value} {Q : Unit → Shared → Prop} (I : Inv X pins σ H s) (hN : X.N.Nodup) (hi : X.N[i]? = some x) (hx : Loc X.env.scope x) (r : RelV v u)
    (h : ∀ s', Inv X pins (σ.set i (some v)) H s' → (∃ a, Heap.SameBut a s.heap s'.heap ∧ (a = X.env.locals ∨ X.env.cells.lookup x = some a)) → Q () s') (hf : X.fn x = true ∨ X.env.scope.names.lookup x = some .local := by first | exact .inl rfl | exact .inr rfl | assumption) : wpAny M A (storeName X.env x u) Q E s := by
  obtain ⟨m, hn, hl⟩ := id I.loc
  have hcls : (X.env.scope.kind == .class || (X.env.scope.kind == .module && X.env.locals != X.env.globals)) = false := by rw [I.ok.kind]; rfl
  have hiσ : i < σ.length := by rw [I.len]; exact (List.getElem?_eq_some_iff.mp hi).1
  have cne := I.cne
  have tracked : ∀ {a : Addr} {h' : Heap}, (∃ o, s.heap.get? a = some o ∧ H a = none) → Heap.SameBut a s.heap h' → HOk X.prog X.w H h' := fun {a h'} ha hs b ob e => by
    obtain ⟨_, _, hfree⟩ := ha
    refine (I.hok b ob e).stay (fun c w' hc q => (hs.2 c ?_).trans q) (fun _ q => q) fun _ _ q => q
    rintro rfl
    rcases hc with rfl | hc
    · rw [hfree] at e; cases e
    · rw [hfree] at hc; cases hc
  rcases hx with hk | hk
  · refine wpAny_storeName_local hk hn (fun h' hn' hs => ?_) hcls
    obtain ⟨oL, _, _, hoL, _⟩ := id hn
    refine h _ ⟨I.ok, I.os, I.bare, ⟨fun b o e n hb hx => ?_, fun b o e n hb hx => ?_, I.base.free, fun b o e hx => ?_, I.base.tups, I.base.frzs, I.base.tbls⟩, ⟨_, hn', fun j y v' e1 e2 e3 => ?_⟩, fun y c e => ?_, I.free, I.freeC, fun p hp => ?_, tracked ⟨oL, hoL, I.free⟩ hs, by simpa using I.len⟩ ⟨_, hs, .inl rfl⟩
    · exact (hs.2 b (Nat.ne_of_lt (Nat.lt_of_lt_of_le (Heap.lt_size e) I.ok.above))).trans (I.base.keep b o e n hb hx)
    · obtain ⟨sl, e1⟩ := I.base.slot b o e n hb hx
      exact ⟨sl, (hs.2 b (Nat.ne_of_lt (Nat.lt_of_lt_of_le (Heap.lt_size e) I.ok.above))).trans e1⟩
    · obtain ⟨o', e1⟩ := I.base.there b o e hx
      exact ⟨o', (hs.2 b (Nat.ne_of_lt (Nat.lt_of_lt_of_le (Heap.lt_size e) I.ok.above))).trans e1⟩
    · by_cases hj : j = i
      · subst hj
        rw [hi] at e1; cases e1
        rw [List.getElem?_set_self hiσ] at e2
        cases e2
        exact ⟨u, r, .inl ⟨hk, by simp⟩⟩
      · rw [List.getElem?_set_ne (Ne.symm hj)] at e2
        obtain ⟨u', r', q⟩ := hl j y v' e1 e2 e3
        refine ⟨u', r', ?_⟩
        rcases q with ⟨k, e⟩ | ⟨k, c, e, z⟩
        · refine .inl ⟨k, ?_⟩
          have : y ≠ x := fun e => hj (nodup_ix hN e1 (e ▸ hi))
          simp [this, e]
        · exact .inr ⟨k, c, e, z.sameBut hs (cne y c e)⟩
    · obtain ⟨w', z⟩ := I.cell y c e
      exact ⟨w', z.sameBut hs (cne y c e)⟩
    · obtain ⟨e, n, ne, nf, d⟩ := I.pin p hp
      exact ⟨(hs.2 p.1 ne).trans e, n, ne, nf, d⟩
  · have hfn : X.fn x = true := by
      rcases hf with z | z
      · exact z
      · rw [z] at hk; cases hk
    obtain ⟨c, hc⟩ := I.ok.has x (.inl hk)
    obtain ⟨w', z⟩ := I.cell x c hc
    refine wpAny_storeName_cell I.ok.kind hk hc z (fun h' hc' hs => ?_)
    obtain ⟨oc, hoc, hocd⟩ := id z
    refine h { s with heap := h' } ⟨I.ok, I.os, I.bare, ⟨fun b o e n hb hx => ?_, fun b o e n hb hx => ?_, I.base.free, fun b o e hx => ?_, I.base.tups, I.base.frzs, I.base.tbls⟩, ⟨m, hn.sameBut hs (Ne.symm (cne x c hc)), fun j y v' e1 e2 e3 => ?_⟩, fun y c' e => ?_, I.free, I.freeC, fun p hp => ?_, tracked ⟨oc, hoc, I.freeC x c hc⟩ hs, by simpa using I.len⟩ ⟨c, hs, .inr hc⟩
    · exact (hs.2 b (Nat.ne_of_lt (Nat.lt_of_lt_of_le (Heap.lt_size e) (I.ok.cab x c hfn hc)))).trans (I.base.keep b o e n hb hx)
    · obtain ⟨sl, e1⟩ := I.base.slot b o e n hb hx
      exact ⟨sl, (hs.2 b (Nat.ne_of_lt (Nat.lt_of_lt_of_le (Heap.lt_size e) (I.ok.cab x c hfn hc)))).trans e1⟩
    · obtain ⟨o', e1⟩ := I.base.there b o e hx
      exact ⟨o', (hs.2 b (Nat.ne_of_lt (Nat.lt_of_lt_of_le (Heap.lt_size e) (I.ok.cab x c hfn hc)))).trans e1⟩
    · by_cases hj : j = i
      · subst hj
        rw [hi] at e1; cases e1
        rw [List.getElem?_set_self hiσ] at e2
        cases e2
        exact ⟨u, r, .inr ⟨.inl hk, c, hc, hc'⟩⟩
      · rw [List.getElem?_set_ne (Ne.symm hj)] at e2
        obtain ⟨u', r', q⟩ := hl j y v' e1 e2 e3
        refine ⟨u', r', ?_⟩
        rcases q with q | ⟨k, c', e, z'⟩
        · exact .inl q
        · refine .inr ⟨k, c', e, z'.sameBut hs ?_⟩
          rintro rfl
          exact hj (nodup_ix hN e1 (I.ok.inj _ _ _ e hc ▸ hi))
    · by_cases hcc : c' = c
      · subst hcc; exact ⟨_, hc'⟩
      · obtain ⟨w2, z2⟩ := I.cell y c' e
        exact ⟨w2, z2.sameBut hs hcc⟩
    · obtain ⟨e, n, ne, nf, d⟩ := I.pin p hp
      refine ⟨(hs.2 p.1 ?_).trans e, n, ne, nf, d⟩
      intro q
      rw [q, hoc] at e
      have q' : oc = p.2 := Option.some.inj e
      exact d w' (by rw [← q']; exact hocd)
theorem store_ok {M : Model} {A : Around} {E : Value → Shared → Prop} {i : Nat} {x : Str} {v : V} {u : Value} {Q : Unit → Shared → Prop} (I : Inv X pins σ H s) (hN : X.N.Nodup) (hi : X.N[i]? = some x) (hx : Loc X.env.scope x) (r : RelV v u)
    (h : ∀ s', Inv X pins (σ.set i (some v)) H s' → Q () s') (hf : X.fn x = true ∨ X.env.scope.names.lookup x = some .local := by first | exact .inl rfl | exact .inr rfl | assumption) : wpAny M A (storeName X.env x u) Q E s :=
  store_ok2 I hN hi hx r (fun s' I' _ => h s' I') hf
theorem Inv.call' {s' : Shared} {ch : List Addr} (I : Inv X pins σ H s) (ho : s'.os = s.os) (u : Un (frs X.stack) ch H H' s.heap s'.heap) (hok : HOk X.prog X.w H' s'.heap) (hg : AllBare s'.gens)
    (hch : ∀ b ∈ ch, (b ∈ X.ex ∨ X.s₀.heap.objs.size ≤ b) ∧ b ≠ X.env.locals ∧ (∀ x c, X.env.cells.lookup x = some c → c ≠ b) ∧ ∀ p ∈ X.pn ++ pins, p.1 ≠ b) : Inv X pins σ H' s' := by
  obtain ⟨h', g', d', t', o'⟩ := s'
  have e : o' = s.os := ho
  subst e
  exact I.call (g' := g') (t' := t') (d' := d') u hok hg hch
end
abbrev XK := Value → Option Addr → Hp → Prop
abbrev St := List (Option V)
abbrev VK := V → Hp → Prop
abbrev TE := St → Hp → VK → Prop
abbrev TT := St → Hp → (Bool → Hp → Prop) → Prop
abbrev TA := St → Hp → (List V → Hp → Prop) → Prop
structure Ends where
  nx : St → Hp → Prop
  rt : VK
  bk : St → Hp → Prop := fun _ _ => False
  ct : St → Hp → Prop := fun _ _ => False
abbrev TS := Ends → St → Hp → Prop
def EP (X : Cx) (pins : List (Addr × Obj)) (σ : St) (Q : VK) (u : Value) (s' : Shared) : Prop := ∃ v H', Inv X pins σ H' s' ∧ RelV v u ∧ Q v H'
def TP (X : Cx) (pins : List (Addr × Obj)) (σ : St) (Q : Bool → Hp → Prop) (b : Bool) (s' : Shared) : Prop := ∃ H', Inv X pins σ H' s' ∧ Q b H'
def AP (X : Cx) (pins : List (Addr × Obj)) (σ : St) (Q : List V → Hp → Prop) (us : List Value) (s' : Shared) : Prop := ∃ vs H', Inv X pins σ H' s' ∧ Vals vs us ∧ Q vs H'
def SP (X : Cx) (pins : List (Addr × Obj)) (D : Ends) (f : Flow) (s' : Shared) : Prop :=
  match f with
  | .next => ∃ σ' H', Inv X pins σ' H' s' ∧ D.nx σ' H'
  | .brk => ∃ σ' H', Inv X pins σ' H' s' ∧ D.bk σ' H'
  | .cont => ∃ σ' H', Inv X pins σ' H' s' ∧ D.ct σ' H'
  | .ret u => ∃ v σ' H', Inv X pins σ' H' s' ∧ RelV v u ∧ D.rt v H'
def PE (X : Cx) (e : Expr) (t : TE) : Prop :=
  ∀ (pins : List (Addr × Obj)) (s : Shared) (σ : St) (H : Hp) (Q : VK), Inv X pins σ H s → t σ H Q → wpAny (model X.prog X.w) X.A (eval e X.env) (EP X pins σ Q) X.xe s
def PT (X : Cx) (e : Expr) (t : TT) : Prop :=
  ∀ (pins : List (Addr × Obj)) (s : Shared) (σ : St) (H : Hp) (Q : Bool → Hp → Prop), Inv X pins σ H s → t σ H Q → wpAny (model X.prog X.w) X.A (isTrue e X.env (eval e X.env)) (TP X pins σ Q) X.xe s
def PW (X : Cx) (e : Expr) (t : TT) : Prop :=
  ∀ (whole : Sem Value) (pins : List (Addr × Obj)) (s : Shared) (σ : St) (H : Hp) (Q : Bool → Hp → Prop), Inv X pins σ H s → t σ H Q → wpAny (model X.prog X.w) X.A (isTrue e X.env whole) (TP X pins σ Q) X.xe s
theorem PW.pt {X : Cx} {e : Expr} {t : TT} (h : PW X e t) : PT X e t := h _
def PA (X : Cx) (es : List Expr) (t : TA) : Prop :=
  ∀ (pos : Pos) (pins : List (Addr × Obj)) (s : Shared) (σ : St) (H : Hp) (Q : List V → Hp → Prop), Inv X pins σ H s → t σ H Q → wpAny (model X.prog X.w) X.A (spliced (backTo pos (starEach es X.env))) (AP X pins σ Q) X.xe s
def PS (X : Cx) (st : Stmt) (t : TS) : Prop :=
  ∀ (pins : List (Addr × Obj)) (s : Shared) (σ : St) (H : Hp) (D : Ends), Inv X pins σ H s → t D σ H → wpAny (model X.prog X.w) X.A (exec st X.env) (SP X pins D) X.xe s
def PSs (X : Cx) (st : List Stmt) (t : TS) : Prop :=
  ∀ (pins : List (Addr × Obj)) (s : Shared) (σ : St) (H : Hp) (D : Ends), Inv X pins σ H s → t D σ H → wpAny (model X.prog X.w) X.A (execs st X.env) (SP X pins D) X.xe s
theorem thn {α : Type} {t : Sem α} {Q Q' : α → Shared → Prop} {M : Model} {A : Around} {E : Value → Shared → Prop} {s : Shared} (h : wpAny M A t Q E s) (hQ : ∀ a s, Q a s → Q' a s) : wpAny M A t Q' E s := wpAny_mono h hQ fun _ _ x => x
end L2
namespace L2
open PySem PySem.Spec PyProof.Rows
section
variable {X : Cx}
def tVar (i : Nat) : TE := fun σ H Q => ∃ v, σ[i]? = some (some v) ∧ Q v H
def tC (v : V) : TE := fun _ H Q => Q v H
theorem pe_var {i : Nat} {x : Str} {pos : Pos} (hN : X.N[i]? = some x) (hv : Vis X.env.scope x) (hd : (x == ("__debug__" : Str)) = false := by decide) (hcd : (x == ("__classdict__" : Str)) = false := by decide) : PE X (.Name x pos) (tVar i) := by
  intro pins s σ H Q I h
  obtain ⟨v, e, h⟩ := h
  obtain ⟨m, hn, hl⟩ := I.loc
  obtain ⟨u, r, l⟩ := hl i x v hN e hv
  have fin : EP X pins σ Q u s := ⟨v, H, I, r, h⟩
  rcases l with ⟨hk, hm⟩ | ⟨hk, c, hc, hcell⟩
  · exact wpAny_Name (wpAny_loadName_local I.ok.kind hk hn hm fin) hd
  · rcases hk with hk | hk
    · exact wpAny_Name (wpAny_loadName_cell I.ok.kind hk hc hcell fin) hd
    · exact wpAny_Name (wpAny_loadName_free I.ok.kind hk hc hcell fin hcd) hd
theorem pe_int {i j pos} : PE X (.Constant (.int i) j pos) (tC (.int i)) := fun _ _ _ H _ I h => wpAny_Constant_int ⟨.int i, H, I.tok _, ⟨_, rfl⟩, h⟩
theorem pe_bl {b j pos} : PE X (.Constant (.bool b) j pos) (tC (.bl b)) := fun _ _ _ H _ I h => Constant_bool ⟨.bl b, H, I, rfl, h⟩
theorem pe_str {x j pos} : PE X (.Constant (.str x) j pos) (tC (.str x)) := fun _ _ _ H _ I h => Calls.Constant_str ⟨.str x, H, I.tok _, ⟨_, rfl⟩, h⟩
def Gl (X : Cx) (x : Str) : Prop := X.env.kindOf x = some .globalImplicit
theorem ld_glob {E : Value → Shared → Prop} {pins : List (Addr × Obj)} {s : Shared} {σ : St} {H : Hp} {x : Str} {u : Value} {pos : Pos} {Q : Value → Shared → Prop} (I : Inv X pins σ H s) (hg : Gl X x) (hm : X.mg x = some u) (h : Q u s)
    (hd : (x == ("__debug__" : Str)) = false := by decide) : wpAny (model X.prog X.w) X.A (eval (.Name x pos) X.env) Q E s :=
  Calls.Name_function_global I.ok.kind hg (Calls.loadGlobal_global (by rw [I.ok.glob]; exact I.mod.glob.keeps I.bk) hm h) hd
theorem ld_blt {E : Value → Shared → Prop} {pins : List (Addr × Obj)} {s : Shared} {σ : St} {H : Hp} {x : Str} {u : Value} {pos : Pos} {Q : Value → Shared → Prop} (I : Inv X pins σ H s) (hg : Gl X x) (hm : X.mg x = none) (hv : bootBuiltins x = some u) (h : Q u s)
    (hn : x ≠ "__name__" := by decide) (hd : (x == ("__debug__" : Str)) = false := by decide) : wpAny (model X.prog X.w) X.A (eval (.Name x pos) X.env) Q E s := by
  obtain ⟨mb, h1, h2⟩ := I.mod.blt
  exact Calls.Name_function_global I.ok.kind hg (Calls.loadGlobal_builtin (by rw [I.ok.glob]; exact I.mod.glob.keeps I.bk) hm (by rw [I.ok.blt]; exact h1.keeps I.bk) ((h2 x hn).trans hv) h) hd
theorem pe_bltn {x : Str} {v : V} {u : Value} {pos : Pos} (hg : Gl X x) (hm : X.mg x = none) (hv : bootBuiltins x = some u) (r : RelV v u) (hn : x ≠ "__name__" := by decide) (hd : (x == ("__debug__" : Str)) = false := by decide) : PE X (.Name x pos) (tC v) :=
  fun _ _ _ H _ I h => ld_blt I hg hm hv ⟨v, H, I, r, h⟩ hn hd
variable {a b : Expr} {ta tb : TE} {pos : Pos}
def PC (X : Cx) (op : CmpOp) (a b : Expr) (t : TE) : Prop :=
  ∀ (pins : List (Addr × Obj)) (s : Shared) (σ : St) (H : Hp) (Q : VK), Inv X pins σ H s → t σ H Q →
    wpAny (model X.prog X.w) X.A (eval a X.env) (fun v s₁ => wpAny (model X.prog X.w) X.A (eval b X.env) (fun u s₂ => wpAny (model X.prog X.w) X.A (compareOp op v u) (EP X pins σ Q) X.xe s₂) X.xe s₁) X.xe s
theorem nobehind (b : Expr) {op : CmpOp} (h : op ≠ .In) (h2 : op ≠ .NotIn) : behindInMarks op b = false := by
  have e1 : (op == CmpOp.In) = false := by cases op <;> first | rfl | exact absurd rfl h
  have e2 : (op == CmpOp.NotIn) = false := by cases op <;> first | rfl | exact absurd rfl h2
  cases b <;> simp [behindInMarks, e1, e2]
def tB (t : TE) : TT := fun σ H Q => t σ H fun x H1 => ∃ c, x = .bl c ∧ Q c H1
theorem pt_cmp {op : CmpOp} {t : TE} (h : PC X op a b t) (h1 : behindInMarks op b = false := by first | exact nobehind _ (by decide) (by decide) | rfl) : PT X (.Compare a [op] [b] pos) (tB t) := by
  intro pins s σ H Q I hw
  refine wpAny_isTrue_Compare1 (thn (h pins s σ H _ I hw) fun v s1 h1 => thn h1 fun u s2 h2 => thn h2 fun c s3 ⟨x, H1, I1, r1, q1⟩ => ?_) h1
  obtain ⟨d, rfl, q⟩ := q1
  cases r1
  exact wpAny_truthy_bool ⟨H1, I1, q⟩
theorem pt_val {e : Expr} {t : TE} (h : PE X e t) (he : ∀ whole, isTrue e X.env whole = (do let v ← whole; standAt e.pos; holding [v] (truthy v)) := by intro _; rfl) : PT X e (tB t) := by
  intro pins s σ H Q I hw
  refine isTrue_plain (thn (h pins s σ H _ I hw) fun v s1 ⟨x, H1, I1, r1, q1⟩ => ?_) (he _)
  obtain ⟨d, rfl, q⟩ := q1
  cases r1
  exact wpAny_truthy_bool ⟨H1, I1, q⟩
variable {tA tB' : TT} {rest : List Expr}
def tAnd (t u : TT) : TT := fun σ H Q => t σ H fun c H1 => if c = true then u σ H1 Q else Q false H1
def tOr (t u : TT) : TT := fun σ H Q => t σ H fun c H1 => if c = true then Q true H1 else u σ H1 Q
def tNot (t : TT) : TT := fun σ H Q => t σ H fun c H1 => Q (!c) H1
theorem pw_and1 (ha : PT X a tA) : PW X (.BoolOp .And [a] pos) tA := by
  intro wh pins s σ H Q I h
  refine isTrue_and (thn (ha pins s σ H Q I h) fun c s1 e => ?_)
  cases c with
  | true => exact isTrue_and_nil e
  | false => exact e
theorem pw_or1 (ha : PT X a tA) : PW X (.BoolOp .Or [a] pos) tA := by
  intro wh pins s σ H Q I h
  refine isTrue_or (thn (ha pins s σ H Q I h) fun c s1 e => ?_)
  cases c with
  | false => exact isTrue_or_nil e
  | true => exact e
theorem pw_and (ha : PT X a tA) (hb : PW X (.BoolOp .And (b :: rest) pos) tB') : PW X (.BoolOp .And (a :: b :: rest) pos) (tAnd tA tB') := by
  intro wh pins s σ H Q I h
  refine isTrue_and (thn (ha pins s σ H _ I h) fun c s1 ⟨H1, I1, q1⟩ => ?_)
  cases c with
  | true => exact hb wh pins s1 σ H1 Q I1 q1
  | false => exact ⟨H1, I1, q1⟩
theorem pw_or (ha : PT X a tA) (hb : PW X (.BoolOp .Or (b :: rest) pos) tB') : PW X (.BoolOp .Or (a :: b :: rest) pos) (tOr tA tB') := by
  intro wh pins s σ H Q I h
  refine isTrue_or (thn (ha pins s σ H _ I h) fun c s1 ⟨H1, I1, q1⟩ => ?_)
  cases c with
  | true => exact ⟨H1, I1, q1⟩
  | false => exact hb wh pins s1 σ H1 Q I1 q1
theorem pt_not (ha : PT X a tA) : PT X (.UnaryOp .Not a pos) (tNot tA) := by
  intro pins s σ H Q I h
  exact isTrue_not (ha pins s σ H (fun c H1 => Q (!c) H1) I h)
def tAndV (ta tb : TE) : TE := fun σ H Q => ta σ H fun x H1 => ∃ c, x = .bl c ∧ if c = true then tb σ H1 Q else Q (.bl false) H1
def tOrV (ta tb : TE) : TE := fun σ H Q => ta σ H fun x H1 => ∃ c, x = .bl c ∧ if c = true then Q (.bl true) H1 else tb σ H1 Q
theorem pe_one {op} {t : TE} (h : PE X a t) : PE X (.BoolOp op [a] pos) t := fun pins s σ H Q I hw => BoolOp_one (h pins s σ H Q I hw)
theorem pe_and (ha : PE X a ta) (hb : PE X (.BoolOp .And (b :: rest) pos) tb) : PE X (.BoolOp .And (a :: b :: rest) pos) (tAndV ta tb) := by
  intro pins s σ H Q I h
  refine BoolOp_and (thn (ha pins s σ H _ I h) fun v s1 ⟨x, H1, I1, r1, q1⟩ => ?_)
  obtain ⟨c, rfl, q1⟩ := q1
  cases r1
  refine wpAny_truthy_bool ?_
  cases c with
  | true => exact hb pins s1 σ H1 Q I1 q1
  | false => exact ⟨.bl false, H1, I1, rfl, q1⟩
theorem pe_or (ha : PE X a ta) (hb : PE X (.BoolOp .Or (b :: rest) pos) tb) : PE X (.BoolOp .Or (a :: b :: rest) pos) (tOrV ta tb) := by
  intro pins s σ H Q I h
  refine BoolOp_or (thn (ha pins s σ H _ I h) fun v s1 ⟨x, H1, I1, r1, q1⟩ => ?_)
  obtain ⟨c, rfl, q1⟩ := q1
  cases r1
  refine wpAny_truthy_bool ?_
  cases c with
  | false => exact hb pins s1 σ H1 Q I1 q1
  | true => exact ⟨.bl true, H1, I1, rfl, q1⟩
def tIf (t : TT) (ta tb : TE) : TE := fun σ H Q => t σ H fun c H1 => if c = true then ta σ H1 Q else tb σ H1 Q
theorem pe_ifExp {c : Expr} (hc : PT X c tA) (ha : PE X a ta) (hb : PE X b tb) : PE X (.IfExp c a b pos) (tIf tA ta tb) := by
  intro pins s σ H Q I h
  refine wpAny_IfExp (thn (hc pins s σ H _ I h) fun d s1 ⟨H1, I1, q1⟩ => ?_)
  cases d with
  | true => exact ha pins s1 σ H1 Q I1 q1
  | false => exact hb pins s1 σ H1 Q I1 q1
end
end L2
namespace L2
open PySem PySem.Spec PyProof.Rows
def SqL (K : PySem.W.Frag) (H : Hp) (a : Addr) (xs : List V) : Prop :=
  Rd H a (.lst xs) ∨
    ∃ (o : Obj) (its : Array Value) (n : Nat), K.lookup a = some o ∧ o.cls = .type "list" ∧ o.dict = none ∧ o.data = .seq its n ∧ its.size ≤ sizeLine ∧ Vals xs its.toList
def SqT (K : PySem.W.Frag) (H : Hp) (a : Addr) (xs : List V) : Prop :=
  Rd H a (.tup xs) ∨
    ∃ (o : Obj) (its : Array Value) (n : Nat), K.lookup a = some o ∧ o.cls = .type "tuple" ∧ o.data = .seq its n ∧ its.size ≤ sizeLine ∧ Vals xs its.toList
def absV : Value → Option V
  | .none => some .non
  | .bool b => some (.bl b)
  | .int i _ => some (.int i)
  | .str x _ => some (.str x)
  | .bytes b _ => some (.byt b)
  | .float b _ => some (.flt b)
  | .ref a => some (.ref a)
  | .type n => some (.ty n)
  | _ => none
theorem RelV.abs {x : V} {u : Value} (r : RelV x u) : absV u = some x := by
  cases x with
  | non => cases r; rfl
  | bl _ => cases r; rfl
  | int _ => obtain ⟨t, rfl⟩ := r; rfl
  | str _ => obtain ⟨t, rfl⟩ := r; rfl
  | byt _ => obtain ⟨t, rfl⟩ := r; rfl
  | flt _ => obtain ⟨t, rfl⟩ := r; rfl
  | ref _ => cases r; rfl
  | ty _ => cases r; rfl
theorem RelV.inj {x y : V} {u : Value} (r : RelV x u) (q : RelV y u) : x = y := Option.some.inj (r.abs.symm.trans q.abs)
theorem Vals.inj : ∀ {xs ys : List V} {us : List Value}, Vals xs us → Vals ys us → xs = ys
  | _, _, _, .nil, .nil => rfl
  | _, _, _, .cons r t, .cons r' t' => by rw [r.inj r', Vals.inj t t']
section
variable {X : Cx} {pins : List (Addr × Obj)} {σ : St} {H : Hp} {s : Shared} {a : Addr} {xs ys : List V}
theorem SqL.of {K : PySem.W.Frag} (h : H a = some (.lst xs)) : SqL K H a xs := .inl (.inl h)
theorem SqT.of {K : PySem.W.Frag} (h : H a = some (.tup xs)) : SqT K H a xs := .inl (.inl h)
theorem Inv.list (I : Inv X pins σ H s) (h : SqL X.K H a xs) : ∃ its : List Value, Vals xs its ∧ PlainL s.heap a its.toArray ∧ xs.length ≤ sizeLine := by
  rcases h with h | ⟨o, its, n, hk, hc, hd, hs, hz, r⟩
  · obtain ⟨z, its, n, r, e⟩ := h.ok I.hok
    exact ⟨its, r, ⟨_, n, e, rfl, rfl, rfl⟩, z⟩
  · refine ⟨its.toList, r, ⟨o, n, I.kIn a o hk, hc, hd, by simpa using hs⟩, ?_⟩
    have e := r.length
    simp only [Array.length_toList] at e
    omega
theorem Inv.tuple (I : Inv X pins σ H s) (h : SqT X.K H a xs) : ∃ its : List Value, Vals xs its ∧ IsTup s.heap a its.toArray ∧ xs.length ≤ sizeLine := by
  rcases h with h | ⟨o, its, n, hk, hc, hs, hz, r⟩
  · obtain ⟨z, its, r, p⟩ := h.ok I.hok
    exact ⟨its, r, p, z⟩
  · refine ⟨its.toList, r, ⟨o, I.kIn a o hk, hc, n, by simpa using hs⟩, ?_⟩
    have e := r.length
    simp only [Array.length_toList] at e
    omega
theorem Inv.list_inj (I : Inv X pins σ H s) (h : SqL X.K H a xs) (h' : SqL X.K H a ys) : xs = ys := by
  obtain ⟨its, r, ⟨o, n, e, _, _, d⟩, _⟩ := I.list h
  obtain ⟨its', r', ⟨o', n', e', _, _, d'⟩, _⟩ := I.list h'
  rw [e] at e'; cases e'
  rw [d] at d'
  injection d' with d1 _
  have : its = its' := by simpa using congrArg Array.toList d1
  subst this
  exact r.inj r'
end
abbrev Cx.wish (X : Cx) (E : Value → Shared → Prop) : Cx := { X with xe := E }
abbrev Cx.nox (X : Cx) : Cx := X.wish fun _ _ => False
theorem Cx.Ok.wish {X : Cx} (ok : X.Ok) (E : Value → Shared → Prop) : (X.wish E).Ok :=
  ⟨ok.mod, ok.kind, ok.glob, ok.blt, ok.above, ok.inj, ok.has, ok.cab, ok.hd, ok.frames, ok.stk, ok.exf, ok.bs, ok.bsz, ok.noex, ok.exfs, ok.funs, ok.frf⟩
theorem Cx.Ok.unwish {X : Cx} {E : Value → Shared → Prop} (ok : (X.wish E).Ok) : X.Ok :=
  ⟨ok.mod, ok.kind, ok.glob, ok.blt, ok.above, ok.inj, ok.has, ok.cab, ok.hd, ok.frames, ok.stk, ok.exf, ok.bs, ok.bsz, ok.noex, ok.exfs, ok.funs, ok.frf⟩
section
variable {X : Cx} {pins : List (Addr × Obj)} {σ : St} {H : Hp} {s : Shared} {E : Value → Shared → Prop}
theorem Inv.wish (I : Inv X pins σ H s) (E : Value → Shared → Prop) : Inv (X.wish E) pins σ H s := ⟨I.ok.wish E, I.os, I.bare, I.base, I.loc, I.cell, I.free, I.freeC, I.pin, I.hok, I.len⟩
theorem Inv.unwish (I : Inv (X.wish E) pins σ H s) : Inv X pins σ H s := ⟨I.ok.unwish, I.os, I.bare, I.base, I.loc, I.cell, I.free, I.freeC, I.pin, I.hok, I.len⟩
theorem SP.unwish {D : Ends} {f : Flow} {s' : Shared} (h : SP (X.wish E) pins D f s') : SP X pins D f s' := by
  cases f with
  | next => obtain ⟨σ', H', I, q⟩ := h; exact ⟨σ', H', I.unwish, q⟩
  | brk => obtain ⟨σ', H', I, q⟩ := h; exact ⟨σ', H', I.unwish, q⟩
  | cont => obtain ⟨σ', H', I, q⟩ := h; exact ⟨σ', H', I.unwish, q⟩
  | ret u => obtain ⟨v, σ', H', I, r, q⟩ := h; exact ⟨v, σ', H', I.unwish, r, q⟩
theorem PE.nox {e : Expr} {t : TE} (h : PE X.nox e t) : PE X e t := fun pins s σ H Q I hw =>
  wpAny_mono (h pins s σ H Q (I.wish _) hw) (fun _ _ ⟨v, H', I', r, q⟩ => ⟨v, H', I'.unwish, r, q⟩) fun _ _ z => False.elim z
theorem PT.nox {e : Expr} {t : TT} (h : PT X.nox e t) : PT X e t := fun pins s σ H Q I hw =>
  wpAny_mono (h pins s σ H Q (I.wish _) hw) (fun _ _ ⟨H', I', q⟩ => ⟨H', I'.unwish, q⟩) fun _ _ z => False.elim z
theorem PSs.nox {st : List Stmt} {t : TS} (h : PSs X.nox st t) : PSs X st t := fun pins s σ H D I hw =>
  wpAny_mono (h pins s σ H D (I.wish _) hw) (fun _ _ q => q.unwish) fun _ _ z => False.elim z
end
section
variable {X : Cx} {st : Stmt} {rest : List Stmt} {t u : TS} {e : Expr} {te : TE} {pos : Pos}
def tNext : TS := fun D σ H => D.nx σ H
def tSeq (t u : TS) : TS := fun D σ H => t { D with nx := u D } σ H
theorem pss_nil : PSs X [] tNext := fun _ _ σ H _ I h => wpAny_execs_nil ⟨σ, H, I, h⟩
theorem pss_cons (h1 : PS X st t) (h2 : PSs X rest u) : PSs X (st :: rest) (tSeq t u) := by
  intro pins s σ H D I h
  refine wpAny_execs_cons (thn (h1 pins s σ H { D with nx := u D } I h) fun f s1 q => ?_)
  cases f with
  | next =>
    obtain ⟨σ', H', I', q⟩ := q
    exact h2 pins s1 σ' H' D I' q
  | ret v => exact q
  | brk => exact q
  | cont => exact q
theorem pss_one (h1 : PS X st t) : PSs X [st] t := by
  intro pins s σ H D I h
  refine wpAny_execs_cons (thn (h1 pins s σ H D I h) fun f s1 q => ?_)
  cases f with
  | next => exact wpAny_execs_nil q
  | ret v => exact q
  | brk => exact q
  | cont => exact q
def tBreak : TS := fun D σ H => D.bk σ H
theorem ps_break : PS X (.Break pos) tBreak := fun _ _ σ H _ I h => wpAny_Break ⟨σ, H, I, h⟩
theorem Inv.quiet {pins : List (Addr × Obj)} {σ : St} {H : Hp} {s : Shared} (I : Inv X pins σ H s) : interactive X.env = false := by simp [interactive, I.ok.kind]
def tDrop (te : TE) : TS := fun D σ H => te σ H fun _ H1 => D.nx σ H1
theorem ps_expr (he : PE X e te) (hs : swapsWith e none pos.line X.env = pure false := by rfl) : PS X (.Expr e pos) (tDrop te) := by
  intro pins s σ H D I h
  exact wpAny_Expr_any (thn (he pins s σ H _ I h) fun v s1 ⟨x, H1, I1, r1, q1⟩ => ⟨σ, H1, I1, q1⟩) I.quiet hs
def tRet (te : TE) : TS := fun D σ H => te σ H D.rt
theorem ps_ret (he : PE X e te) : PS X (.Return (some e) pos) (tRet te) := by
  intro pins s σ H D I h
  exact wpAny_Return_some (thn (he pins s σ H _ I h) fun v s1 ⟨x, H1, I1, r1, q1⟩ => ⟨x, σ, H1, I1, r1, q1⟩)
def tIfS (c : TT) (t u : TS) : TS := fun D σ H => c σ H fun b H1 => if b = true then t D σ H1 else u D σ H1
theorem ps_if {c : Expr} {a b : List Stmt} {tc : TT} (hc : PT X c tc) (ha : PSs X a t) (hb : PSs X b u) : PS X (.If c a b pos) (tIfS tc t u) := by
  intro pins s σ H D I h
  refine wpAny_If (thn (hc pins s σ H _ I h) fun d s1 ⟨H1, I1, q1⟩ => ?_)
  cases d with
  | true => exact ha pins s1 σ H1 D I1 q1
  | false => exact hb pins s1 σ H1 D I1 q1
end
abbrev TG := V → St → Hp → (St → Hp → Prop) → Prop
abbrev TGs := List V → St → Hp → (St → Hp → Prop) → Prop
def PG (X : Cx) (target : Expr) (t : TG) : Prop :=
  ∀ (pins : List (Addr × Obj)) (s : Shared) (σ : St) (H : Hp) (v : V) (u : Value) (Q : St → Hp → Prop), Inv X pins σ H s → RelV v u → t v σ H Q →
    wpAny (model X.prog X.w) X.A (assign target X.env u) (fun _ s' => ∃ σ' H', Inv X pins σ' H' s' ∧ Q σ' H') X.xe s
def PGs (X : Cx) (ts : List Expr) (t : TGs) : Prop :=
  ∀ (pins : List (Addr × Obj)) (s : Shared) (σ : St) (H : Hp) (vs : List V) (us : List Value) (Q : St → Hp → Prop), Inv X pins σ H s → Vals vs us → t vs σ H Q →
    wpAny (model X.prog X.w) X.A (assignInOrder ((assignEach ts X.env).map (·.2)) us) (fun _ s' => ∃ σ' H', Inv X pins σ' H' s' ∧ Q σ' H') X.xe s
abbrev TSet := V → V → V → Hp → (Hp → Prop) → Prop
def PSet (X : Cx) (t : TSet) : Prop :=
  ∀ (pins : List (Addr × Obj)) (s : Shared) (σ : St) (H : Hp) (o i v : V) (ov iv u : Value) (Q : Hp → Prop), Inv X pins σ H s → RelV o ov → RelV i iv → RelV v u → t o i v H Q →
    wpAny (model X.prog X.w) X.A (setItem ov iv u) (fun _ s' => ∃ H', Inv X pins σ H' s' ∧ Q H') X.xe s
section
variable {X : Cx} {pos : Pos}
def gName (i : Nat) : TG := fun v σ H Q => Q (σ.set i (some v)) H
theorem pg_name {i : Nat} {x : Str} (hN : X.N.Nodup) (hi : X.N[i]? = some x) (hx : Loc X.env.scope x) (hf : X.fn x = true ∨ X.env.scope.names.lookup x = some .local := by first | exact .inl rfl | exact .inr rfl | assumption) : PG X (.Name x pos) (gName i) := by
  intro pins s σ H v u Q I r h
  exact wpAny_assign_Name (store_ok I hN hi hx r (fun s' I' => ⟨_, H, I', h⟩) hf)
def gNil : TGs := fun vs σ H Q => vs = [] ∧ Q σ H
def gCons (t : TG) (u : TGs) : TGs := fun vs σ H Q => ∃ v r, vs = v :: r ∧ t v σ H fun σ' H' => u r σ' H' Q
theorem pgs_nil : PGs X [] gNil := by
  intro pins s σ H vs us Q I r h
  obtain ⟨e, h⟩ := h
  subst e
  cases r
  exact assignInOrder_nil ⟨σ, H, I, h⟩
theorem pgs_cons {e : Expr} {es : List Expr} {t : TG} {u : TGs} (h1 : PG X e t) (h2 : PGs X es u)
    (hs : (assignEach (e :: es) X.env).map (·.2) = assign e X.env :: (assignEach es X.env).map (·.2) := by rfl) : PGs X (e :: es) (gCons t u) := by
  intro pins s σ H vs us Q I r h
  obtain ⟨v, vr, e1, h⟩ := h
  subst e1
  cases r with
  | cons r rr =>
    rw [hs]
    refine assignInOrder_cons (thn (h1 pins s σ H _ _ _ I r h) fun _ s1 ⟨σ1, H1, I1, q1⟩ => ?_)
    exact h2 pins s1 σ1 H1 _ _ Q I1 rr q1
def gTup (K : PySem.W.Frag) (n : Nat) (t : TGs) : TG := fun v σ H Q => ∃ a xs, v = .ref a ∧ SqT K H a xs ∧ xs.length = n ∧ t xs σ H Q
theorem pg_tup {es : List Expr} {k : Nat} {t : TGs} {n : Nat} (hc : X.calm = true) (h : PGs X es t)
    (hn : (assignEach es X.env).length = n := by rfl) (hst : (assignEach es X.env).findIdx? (·.1) = none := by rfl) : PG X (.Tuple es k pos) (gTup X.K n t) := by
  intro pins s σ H v u Q I r hw
  obtain ⟨a, xs, e1, hq, hl, hw⟩ := hw
  subst e1
  cases r
  obtain ⟨its, rv, ht, hz⟩ := I.tuple hq
  refine assign_Tuple_tuple (I.ok.hd hc) ht (by simp [hn, ← hl, rv.length]) hst fun h' hx => ?_
  have I1 : Inv X pins σ H { s with heap := h' } := I.kept (t' := s.toks) fun b o e => hx b o (Nat.ne_of_lt (Heap.lt_size e)) e
  exact h pins _ σ H xs _ Q I1 (by simpa using rv) hw
def gSub (to ti : TE) (t : TSet) : TG := fun v σ H Q => to σ H fun o H1 => ti σ H1 fun i H2 => t o i v H2 fun H3 => Q σ H3
theorem pg_sub {o i : Expr} {to ti : TE} {t : TSet} (ho : PE X o to) (hi : PE X i ti) (hs : PSet X t)
    (ha : ∀ v, assign (.Subscript o i pos) X.env v = (do
      let ov ← holding [v] (eval o X.env)
      let iv ← holding [v, ov] (eval i X.env)
      standAt pos
      holding [v, ov, iv] (setItem ov iv v)
      release [v, ov, iv] []) := by intro _; rfl) : PG X (.Subscript o i pos) (gSub to ti t) := by
  intro pins s σ H v u Q I r h
  rw [ha]
  refine wpAny_bind (wpAny_holding (thn (ho pins s σ H _ I h) fun ov s1 ⟨x, H1, I1, r1, q1⟩ => ?_))
  refine wpAny_bind (wpAny_holding (thn (hi pins s1 σ H1 _ I1 q1) fun iv s2 ⟨y, H2, I2, r2, q2⟩ => ?_))
  refine wpAny_bind (wpAny_standAt (wpAny_bind (wpAny_holding (thn (hs pins s2 σ H2 x y v ov iv u _ I2 r1 r2 r q2) fun _ s3 ⟨H3, I3, q3⟩ => ?_))))
  exact wpAny_release ⟨σ, H3, I3, q3⟩
def tAsg (te : TE) (g : TG) : TS := fun D σ H => te σ H fun x H1 => g x σ H1 D.nx
theorem ps_asg {tg e : Expr} {te : TE} {g : TG} (he : PE X e te) (hg : PG X tg g) (hs : swapsWithSole [tg] e pos.line X.env = pure false := by rfl) (hw : swappedStores [tg] e X.env = pure none := by rfl)
    (h1 : (assignEach [tg] X.env).map (·.2) = [assign tg X.env] := by rfl) : PS X (.Assign [tg] e pos) (tAsg te g) := by
  intro pins s σ H D I h
  refine wpAny_Assign_stores (thn (he pins s σ H _ I h) fun v s1 ⟨x, H1, I1, r1, q1⟩ => ?_) hs hw
  rw [h1]
  exact thn (hg pins s1 σ H1 x v _ I1 r1 q1) fun _ s2 q => q
theorem ps_set {i : Nat} {x : Str} {e : Expr} {te : TE} {pos' : Pos} (hN : X.N.Nodup) (hi : X.N[i]? = some x) (hx : Loc X.env.scope x) (he : PE X e te) (hs : swapsWith e (some (.Name x pos')) pos.line X.env = pure false := by rfl) (hf : X.fn x = true ∨ X.env.scope.names.lookup x = some .local := by first | exact .inl rfl | exact .inr rfl | assumption) :
    PS X (.Assign [.Name x pos'] e pos) (tAsg te (gName i)) := by
  intro pins s σ H D I h
  refine wpAny_Assign_Name (thn (he pins s σ H _ I h) fun v s1 ⟨y, H1, I1, r1, q1⟩ => ?_) hs
  exact store_ok I1 hN hi hx r1 (fun s2 I2 => ⟨_, H1, I2, q1⟩) hf
end
section
variable {X : Cx} {pos : Pos}
def tWhile (c : TT) (tb : TS) : TS := fun D σ H => ∃ W : Nat → St → Hp → Prop, (∃ m, W m σ H) ∧ ∀ m σ H, W m σ H →
  c σ H fun b H1 => if b = true then ∃ N : St → Hp → Prop, (∀ σ' H', N σ' H' → ∃ m', m' < m ∧ W m' σ' H') ∧ tb { D with nx := N, ct := N, bk := D.nx } σ H1 else D.nx σ H1
theorem ps_while {c : Expr} {body : List Stmt} {tc : TT} {tb : TS} (hp : PassesOwn (model X.prog X.w) X.A X.env X.xe) (hc : PT X c tc) (hb : PSs X body tb) : PS X (.While c body [] pos) (tWhile tc tb) := by
  intro pins s σ H D I h
  obtain ⟨W, ⟨m0, w0⟩, turn⟩ := h
  refine wpAny_While (codeAny_whileLoop (fun n s' => ∃ σ' H', Inv X pins σ' H' s' ∧ W n σ' H') ?_ m0 ⟨σ, H, I, w0⟩)
  rintro n s1 ⟨σ1, H1, I1, w1⟩
  refine wpAny_passesOwn hp (thn (hc pins s1 σ1 H1 _ I1 (turn n σ1 H1 w1)) fun b s2 ⟨H2, I2, q2⟩ => ?_)
  cases b with
  | true =>
    obtain ⟨N, hN, q2⟩ := q2
    rw [if_pos rfl]
    refine wpAny_passesOwn hp (thn (hb pins s2 σ1 H2 _ I2 q2) fun f s3 q3 => ?_)
    cases f with
    | next =>
      obtain ⟨σ3, H3, I3, n3⟩ := q3
      obtain ⟨m', hm, w3⟩ := hN σ3 H3 n3
      exact ⟨m', hm, σ3, H3, I3, w3⟩
    | cont =>
      obtain ⟨σ3, H3, I3, n3⟩ := q3
      obtain ⟨m', hm, w3⟩ := hN σ3 H3 n3
      exact ⟨m', hm, σ3, H3, I3, w3⟩
    | brk => exact q3
    | ret v => exact q3
  | false =>
    rw [if_neg Bool.false_ne_true]
    exact wpAny_execs_nil ⟨σ1, H2, I2, q2⟩
end
structure It where
  go : Nat → Hp → Prop
  yld : Nat → Hp → V → Hp → Prop
  stop : Nat → Hp → Prop
def FpOk (X : Cx) (pins : List (Addr × Obj)) (H : Hp) (b : Addr) : Prop :=
  H b = none ∧ b ≠ X.env.locals ∧ b ∉ X.fs ∧ (b ∈ X.ex ∨ X.s₀.heap.objs.size ≤ b) ∧ (∀ x c, X.env.cells.lookup x = some c → c ≠ b) ∧ ∀ p ∈ X.pn ++ pins, p.1 ≠ b
theorem Inv.fpOk {X : Cx} {pins : List (Addr × Obj)} {σ : St} {H H' : Hp} {s : Shared} {b : Addr} (I : Inv X pins σ H s) (hb : s.heap.objs.size ≤ b) (hn : H' b = none) : FpOk X pins H' b := by
  refine ⟨hn, Nat.ne_of_gt (Nat.lt_of_lt_of_le I.lt hb), I.nofs hb, .inr (Nat.le_trans I.sz hb), fun x c e z => ?_, fun p hp z => ?_⟩
  · obtain ⟨v, q⟩ := I.cell x c e
    exact absurd (Nat.lt_of_lt_of_le q.lt (by rw [z]; exact hb)) (Nat.lt_irrefl _)
  · exact absurd (Nat.lt_of_lt_of_le (Heap.lt_size (I.pin p hp).1) (by rw [z]; exact hb)) (Nat.lt_irrefl _)
structure Turn (P : Program) (w : World) (K : PySem.W.Frag) (tg : Expr) (J : It) (fp : List Addr) (it : Addr) (tn : Nat → Heap → Prop) : Prop where
  mem : it ∈ fp
  obj : ∀ i h, tn i h → ∀ b ∈ fp, ∃ o, h.get? b = some o ∧ ∀ v, o.data ≠ .cell v
  keep : ∀ i h h', tn i h → (∀ b ∈ fp, ∀ o, h.get? b = some o → h'.get? b = some o) → tn i h'
  item : ∀ (X : Cx), X.prog = P → X.w = w → X.K = K → X.calm = true → ∀ (i : Nat) (pins : List (Addr × Obj)) (s : Shared) (σ : St) (H : Hp) (E : Value → Shared → Prop), Inv X pins σ H s → (∀ b ∈ fp, FpOk X pins H b) → tn i s.heap → J.go i H →
    wpAny (model P w) X.A (pyNext (.ref it)) (fun r s1 => ∃ u, r = some u ∧
      wpAny (model P w) X.A (letOwnedTupleGo tg (.ref it) u) (fun _ s2 => ∃ x H', Inv X pins σ H' s2 ∧ RelV x u ∧ J.yld i H x H' ∧ tn (i + 1) s2.heap ∧ ∀ b ∈ fp, H' b = none) E s1) E s
  done : ∀ (X : Cx), X.prog = P → X.w = w → X.K = K → X.calm = true → ∀ (i : Nat) (pins : List (Addr × Obj)) (s : Shared) (σ : St) (H : Hp) (E : Value → Shared → Prop), Inv X pins σ H s → (∀ b ∈ fp, FpOk X pins H b) → tn i s.heap → J.stop i H →
    wpAny (model P w) X.A (pyNext (.ref it)) (fun r s1 => r = none ∧ Inv X pins σ H s1) E s
  self : ∀ (A : Around) (i : Nat) (s : Shared) (Q : Value → Shared → Prop) (E : Value → Shared → Prop), tn i s.heap → Q (.ref it) s → wpAny (model P w) A (pyIter (.ref it)) Q E s
abbrev TI := St → Hp → (It → Hp → Prop) → Prop
def PIE (X : Cx) (pins : List (Addr × Obj)) (σ : St) (tg : Expr) (R : It → Hp → Prop) (itv : Value) (s2 : Shared) : Prop :=
  ∃ (it : Addr) (fp : List Addr) (tn : Nat → Heap → Prop) (J : It) (H' : Hp), itv = .ref it ∧ Inv X pins σ H' s2 ∧ Turn X.prog X.w X.K tg J fp it tn ∧ tn 0 s2.heap ∧ (∀ b ∈ fp, FpOk X pins H' b) ∧ R J H'
def PI (X : Cx) (tg iter : Expr) (wi : TI) : Prop :=
  ∀ (pins : List (Addr × Obj)) (s : Shared) (σ : St) (H : Hp) (R : It → Hp → Prop), Inv X pins σ H s → wi σ H R →
    wpAny (model X.prog X.w) X.A (eval iter X.env) (fun v s1 => wpAny (model X.prog X.w) X.A (pyIter v) (PIE X pins σ tg R) X.xe s1) X.xe s
theorem go_of {M : Model} {A : Around} {E : Value → Shared → Prop} {s : Shared} {tg : Expr} {it : Addr} {u : Value} {o : Obj} {n : String} {vs : Array Value} {Q : Unit → Shared → Prop} (ho : s.heap.get? it = some o) (hc : o.cls = .type n) (hd : o.data = .fields vs)
    (hn : ["enumerate", "zip", "dict_itemiterator", "dict_reverseitemiterator", "odict_iterator", "itertools.zip_longest", "itertools.pairwise"].contains n = false) (hQ : Q () s) : wpAny M A (letOwnedTupleGo tg (.ref it) u) Q E s := by
  unfold letOwnedTupleGo
  cases tg <;> first
    | exact wpAny_pure hQ
    | (cases u <;> first
        | exact wpAny_pure hQ
        | (refine wpAny_bind (wpAny_load ho ?_)
           rw [hc, hd]
           show wpAny M A (if (["enumerate", "zip", "dict_itemiterator", "dict_reverseitemiterator", "odict_iterator", "itertools.zip_longest", "itertools.pairwise"].contains n && vs[0]? == some (rawInt _)) = true then _ else _) Q E s
           rw [if_neg (by intro h; rw [hn, Bool.false_and] at h; cases h)]
           exact wpAny_pure hQ))
def Itl (K : PySem.W.Frag) (a : Addr) : It :=
  ⟨fun i H => ∃ xs x, SqL K H a xs ∧ xs[i]? = some x, fun i H x H' => H' = H ∧ ∀ xs, SqL K H a xs → xs[i]? = some x, fun i H => ∃ xs, SqL K H a xs ∧ xs.length ≤ i⟩
def Itr (lo : Int) (n : Nat) : It := ⟨fun i _ => i < n, fun i H x H' => H' = H ∧ x = .int (lo + i), fun i _ => n ≤ i⟩
theorem turn_list {P : Program} {w : World} {K : PySem.W.Frag} {tg : Expr} (a it : Addr) : Turn P w K tg (Itl K a) [it] it (fun i h => h.IsListIter it a i) where
  mem := by simp
  obj := fun i h st b hb => by
    have e : b = it := by simpa using hb
    subst e
    obtain ⟨o, e, c, d⟩ := st
    exact ⟨o, e, fun v z => by rw [d] at z; cases z⟩
  keep := fun i h h' st k => st.at fun o e => k it (by simp) o e
  item := by
    intro X hP hw hK hc i pins s σ H E I hf st hg
    subst hP hw hK
    obtain ⟨xs, x, hq, hx⟩ := hg
    obtain ⟨its, rv, p, hz⟩ := I.list hq
    obtain ⟨u, hu, ru⟩ := rv.get hx
    obtain ⟨f0, f1, f2, f3, f4, f5⟩ := hf it (by simp)
    refine wpAny_pyNext_list_item st p.isList (x := u) (by simpa using hu) fun h' st' sb => ?_
    have I1 : Inv X pins σ H { s with heap := h' } := I.turned (t' := s.toks) (fun b o hb e => (sb.2 b hb).trans e) f0 f1 f3 f4 f5
    obtain ⟨o, e, c, d⟩ := id st'
    exact ⟨u, rfl, go_of (s := { s with heap := h' }) e c d (by decide) ⟨x, H, I1, ru, ⟨rfl, fun ys hy => by rw [I.list_inj hy hq]; exact hx⟩, st', fun b hb => (hf b hb).1⟩⟩
  done := by
    intro X hP hw hK hc i pins s σ H E I hf st hg
    subst hP hw hK
    obtain ⟨xs, hq, hx⟩ := hg
    obtain ⟨its, rv, p, hz⟩ := I.list hq
    obtain ⟨f0, f1, f2, f3, f4, f5⟩ := hf it (by simp)
    have hl := rv.length
    exact wpAny_pyNext_list_end (I.ok.hd hc) st p.isList (by simp; omega) fun h' eb => ⟨rfl, I.turned (t' := s.toks) (fun b o hb e => eb b o hb e) f0 f1 f3 f4 f5⟩
  self := fun _ _ _ _ _ st h => wpAny_pyIter_listiter st h
theorem turn_range {P : Program} {w : World} {K : PySem.W.Frag} {tg : Expr} (it : Addr) (lo : Int) (n : Nat) : Turn P w K tg (Itr lo n) [it] it (fun i h => IsRangeIter h it (lo + (i : Nat) * 1) ((n : Int) - (i : Nat)) 1) where
  mem := by simp
  obj := fun i h st b hb => by
    have e : b = it := by simpa using hb
    subst e
    exact ⟨_, st, fun v z => by
      have z' : Data.fields _ = Data.cell v := z
      cases z'⟩
  keep := fun i h h' st k => k it (by simp) _ st
  item := by
    intro X hP hw hK hc i pins s σ H E I hf st hg
    subst hP hw hK
    obtain ⟨f0, f1, f2, f3, f4, f5⟩ := hf it (by simp)
    have W := Walks.range (prog := X.prog) (w := X.w) (I.ok.hd hc) it lo 1 n
    refine W.item i s _ _ hg st fun v h' tk hv st' kk => ?_
    obtain ⟨t, rfl⟩ := hv
    have I1 : Inv X pins σ H { s with heap := h', toks := tk } := I.turned (fun b o hb e => kk b o (by simpa using hb) e) f0 f1 f3 f4 f5
    refine ⟨_, rfl, go_of (s := { s with heap := h', toks := tk }) (n := "range_iterator") st' rfl rfl (by decide) ⟨.int (lo + i), H, I1, ⟨t, ?_⟩, ⟨rfl, rfl⟩, st', fun b hb => (hf b hb).1⟩⟩
    rw [Int.mul_one]
  done := by
    intro X hP hw hK hc i pins s σ H E I hf st hg
    subst hP hw hK
    obtain ⟨f0, f1, f2, f3, f4, f5⟩ := hf it (by simp)
    exact wpAny_pyNext_range_end (I.ok.hd hc) st (by have : n ≤ i := hg; omega) fun h' eb => ⟨rfl, I.turned (t' := s.toks) (fun b o hb e => eb b o hb e) f0 f1 f3 f4 f5⟩
  self := fun _ _ _ _ _ st h => wpAny_pyIter_rangeiter st h
end L2
namespace L2
open PySem PySem.Spec PyProof.Rows
section
variable {X : Cx} {tg : Expr}
def iList (K : PySem.W.Frag) (tl : TE) : TI := fun σ H R => tl σ H fun x H1 => ∃ a, x = .ref a ∧ (∃ xs, SqL K H1 a xs) ∧ R (Itl K a) H1
theorem pi_list {l : Expr} {tl : TE} (hl : PE X l tl) : PI X tg l (iList X.K tl) := by
  intro pins s σ H R I h
  refine thn (hl pins s σ H _ I h) fun v s1 ⟨x, H1, I1, r1, q1⟩ => ?_
  obtain ⟨a, e, ⟨xs, hq⟩, q⟩ := q1
  subst e
  cases r1
  obtain ⟨its, rv, p, hz⟩ := I1.list hq
  refine wpAny_pyIter_list p.isList ?_
  refine ⟨s1.heap.objs.size, [s1.heap.objs.size], _, _, H1, rfl, I1.kept (t' := s1.toks) fun b o e => Heap.get?_push_of_some _ e, turn_list a _, ⟨_, Heap.get?_push_size _ rfl, rfl, rfl⟩, fun b hb => ?_, q⟩
  have e : b = s1.heap.objs.size := by simpa using hb
  subst e
  exact I1.fpOk (Nat.le_refl _) (I1.hok.fresh (Nat.le_refl _))
theorem range_it {pins : List (Addr × Obj)} {σ : St} {H : Hp} {s : Shared} {R : It → Hp → Prop} {E : Value → Shared → Prop} {lo hi : Int} {t u v : Tok} {tk : Nat} (I : Inv X pins σ H s) (h1 : -(2 ^ 62) ≤ lo) (h2 : lo < 2 ^ 62) (h3 : -(2 ^ 62) ≤ hi) (h4 : hi < 2 ^ 62)
    (q : R (Itr lo (hi - lo).toNat) H) : wpAny (model X.prog X.w) X.A (pyIter (.ref s.heap.objs.size)) (PIE X pins σ tg R) E { s with heap := s.heap.push { cls := .type "range", data := .fields #[.int lo t, .int hi u, .int 1 v] }, toks := tk } := by
  refine wpAny_pyIter_range (IsRange.new ..) (small_one h1 h2 h3 h4) ?_
  have I1 : Inv X pins σ H { s with heap := s.heap.push { cls := .type "range", data := .fields #[.int lo t, .int hi u, .int 1 v] }, toks := tk } := I.kept fun b o e => Heap.get?_push_of_some _ e
  refine ⟨(s.heap.push { cls := .type "range", data := .fields #[.int lo t, .int hi u, .int 1 v] }).objs.size, [(s.heap.push { cls := .type "range", data := .fields #[.int lo t, .int hi u, .int 1 v] }).objs.size], _, _, H, rfl,
    I1.kept (t' := tk) fun b o e => Heap.get?_push_of_some _ e, turn_range _ lo (hi - lo).toNat, ?_, fun b hb => ?_, q⟩
  · have e1 : lo + ((0 : Nat) : Int) * 1 = lo := by simp
    have e2 : (((hi - lo).toNat : Nat) : Int) - ((0 : Nat) : Int) = Builtin.Range.rangeSize lo hi 1 := by rw [rangeSize_one]; split <;> omega
    show IsRangeIter _ _ (lo + ((0 : Nat) : Int) * 1) ((((hi - lo).toNat : Nat) : Int) - ((0 : Nat) : Int)) 1
    rw [e1, e2]
    exact Heap.get?_push_size _ rfl
  · have e : b = (s.heap.push { cls := .type "range", data := .fields #[.int lo t, .int hi u, .int 1 v] }).objs.size := by simpa using hb
    subst e
    exact I1.fpOk (Nat.le_refl _) (I1.hok.fresh (Nat.le_refl _))
def iRng1 (ta : TA) : TI := fun σ H R => ta σ H fun vs H1 => ∃ j : Int, vs = [.int j] ∧ -(2 ^ 62) ≤ j ∧ j < 2 ^ 62 ∧ R (Itr 0 j.toNat) H1
theorem pi_range1 {a : Expr} {ta : TA} {p pos : Pos} (hg : Gl X "range") (hm : X.mg "range" = none) (ha : PA X [a] ta) (hs : starEach [a] X.env = [(false, eval a X.env)] := by rfl) : PI X tg (.Call (.Name "range" p) [a] [] pos) (iRng1 ta) := by
  intro pins s σ H R I h
  refine Call_ (ld_blt I hg hm boot_range (PyProof.Rows.callWith_type1 (thn (ha pos pins s σ H _ I h) fun us s1 ⟨vs, H1, I1, r1, q1⟩ => ?_) hs rfl))
  obtain ⟨j, e, q1, q2, q⟩ := q1
  subst e
  cases r1 with
  | cons r rr =>
    cases rr
    obtain ⟨t, rfl⟩ := r
    exact call_range_1 (range_it I1 (by omega) (by omega) q1 q2 (by simpa using q))
def tFor (wi : TI) (g : TG) (tb : TS) : TS := fun D σ H => wi σ H fun J H1 => ∃ W : Nat → Nat → St → Hp → Prop, (∃ m, W 0 m σ H1) ∧ ∀ i m σ H, W i m σ H →
  (J.stop i H ∧ D.nx σ H) ∨ (J.go i H ∧ ∃ N : St → Hp → Prop, (∀ σ' H', N σ' H' → ∃ m', m' < m ∧ W (i + 1) m' σ' H') ∧ ∀ x H', J.yld i H x H' → g x σ H' fun σ2 H2 => tb { D with nx := N, ct := N, bk := D.nx } σ2 H2)
def pinsAt (fp : List Addr) (h : Heap) : List (Addr × Obj) := fp.filterMap fun b => (h.get? b).map fun o => (b, o)
theorem mem_pinsAt {fp : List Addr} {h : Heap} {b : Addr} {o : Obj} (hb : b ∈ fp) (e : h.get? b = some o) : (b, o) ∈ pinsAt fp h := List.mem_filterMap.mpr ⟨b, hb, by rw [e]; rfl⟩
theorem of_pinsAt {fp : List Addr} {h : Heap} {p : Addr × Obj} (hp : p ∈ pinsAt fp h) : p.1 ∈ fp ∧ h.get? p.1 = some p.2 := by
  obtain ⟨b, hb, e⟩ := List.mem_filterMap.mp hp
  cases q : h.get? b with
  | none => rw [q] at e; cases e
  | some o =>
    rw [q] at e
    have e' : (b, o) = p := Option.some.inj e
    subst e'
    exact ⟨hb, q⟩
theorem Inv.pinned {pins : List (Addr × Obj)} {σ : St} {H : Hp} {s : Shared} {fp : List Addr} (I : Inv X pins σ H s) (hf : ∀ b ∈ fp, FpOk X pins H b) (ho : ∀ b ∈ fp, ∃ o, s.heap.get? b = some o ∧ ∀ v, o.data ≠ .cell v) : Inv X (pins ++ pinsAt fp s.heap) σ H s :=
  I.pins_of fun p hp => (List.mem_append.mp hp).elim (fun z => I.pin p (List.mem_append_right _ z)) fun z => by
    obtain ⟨hb, e⟩ := of_pinsAt z
    obtain ⟨f0, f1, f2, _⟩ := hf p.1 hb
    obtain ⟨o, e', d⟩ := ho p.1 hb
    rw [e] at e'; cases e'
    exact ⟨e, f0, f1, f2, d⟩
theorem Inv.unpinned {pins pl : List (Addr × Obj)} {σ : St} {H : Hp} {s : Shared} (I : Inv X (pins ++ pl) σ H s) : Inv X pins σ H s := I.pins_of fun p hp => I.pin p (List.mem_append_right _ (List.mem_append_left _ hp))
theorem ps_for {iter : Expr} {body : List Stmt} {wi : TI} {g : TG} {tb : TS} {pos : Pos} (hp : PassesOwn (model X.prog X.w) X.A X.env X.xe) (hc : X.calm = true) (hi : PI X tg iter wi) (hg : PG X tg g) (hb : PSs X body tb)
    (hs : ∀ x, foldedSetIterable iter X.env x = pure x := by intro _; rfl) : PS X (.For tg iter body [] pos) (tFor wi g tb) := by
  intro pins s σ H D I h
  refine wpAny_For (thn (hi pins s σ H _ I h) fun v s1 h1 => thn h1 fun itv s2 h2 => ?_) hs
  obtain ⟨it, fp, tn, J, H2, e, I2, T, st2, f2, W, ⟨m0, w0⟩, turn⟩ := h2
  subst e
  have stat : ∀ {H' : Hp}, (∀ b ∈ fp, H' b = none) → ∀ b ∈ fp, FpOk X pins H' b := fun hn b hb => ⟨hn b hb, (f2 b hb).2⟩
  refine codeAny_forLoop_any (fun n s' => ∃ i σ' H', Inv X pins σ' H' s' ∧ tn i s'.heap ∧ (∀ b ∈ fp, H' b = none) ∧ W i n σ' H') ?_ m0 ⟨0, σ, H2, I2, st2, fun b hb => (f2 b hb).1, w0⟩
  rintro n s3 ⟨i, σ3, H3, I3, st3, fr3, w3⟩
  rcases turn i n σ3 H3 w3 with ⟨stop, qn⟩ | ⟨go, N, hN, step⟩
  · refine wpAny_passesOwn hp (thn (T.done X rfl rfl rfl hc i pins s3 σ3 H3 X.xe I3 (stat fr3) st3 stop) fun r s4 ⟨hr, I4⟩ => ?_)
    subst hr
    exact wpAny_execs_nil ⟨σ3, H3, I4, qn⟩
  · refine wpAny_passesOwn hp (thn (T.item X rfl rfl rfl hc i pins s3 σ3 H3 X.xe I3 (stat fr3) st3 go) fun r s4 ⟨u, hr, h4⟩ => ?_)
    subst hr
    refine wpAny_passesOwn hp (thn h4 fun _ s5 ⟨x, H5, I5, r5, y5, st5, fr5⟩ => ?_)
    have I5' := I5.pinned (stat fr5) (T.obj _ _ st5)
    refine wpAny_passesOwn hp (thn (hg _ s5 σ3 H5 x u _ I5' r5 (step x H5 y5)) fun _ s6 ⟨σ6, H6, I6, q6⟩ => ?_)
    refine wpAny_passesOwn hp (thn (hb _ s6 σ6 H6 _ I6 q6) fun f s7 q7 => ?_)
    have again : ∀ {σ7 : St} {H7 : Hp}, Inv X (pins ++ pinsAt fp s5.heap) σ7 H7 s7 → N σ7 H7 → ∃ m, m < n ∧ ∃ i σ' H', Inv X pins σ' H' s7 ∧ tn i s7.heap ∧ (∀ b ∈ fp, H' b = none) ∧ W i m σ' H' := fun {σ7 H7} I7 n7 => by
      obtain ⟨m', hm, w7⟩ := hN σ7 H7 n7
      refine ⟨m', hm, i + 1, σ7, H7, I7.unpinned, T.keep _ _ _ st5 fun b hb o e => (I7.pin (b, o) (List.mem_append_right _ (List.mem_append_right _ (mem_pinsAt hb e)))).1, fun b hb => ?_, w7⟩
      obtain ⟨o, e, d⟩ := T.obj _ _ st5 b hb
      exact (I7.pin (b, o) (List.mem_append_right _ (List.mem_append_right _ (mem_pinsAt hb e)))).2.1
    cases f with
    | next => obtain ⟨σ7, H7, I7, n7⟩ := q7; exact again I7 n7
    | cont => obtain ⟨σ7, H7, I7, n7⟩ := q7; exact again I7 n7
    | brk => obtain ⟨σ7, H7, I7, q7⟩ := q7; exact ⟨σ7, H7, I7.unpinned, q7⟩
    | ret v => obtain ⟨x7, σ7, H7, I7, r7, q7⟩ := q7; exact ⟨x7, σ7, H7, I7.unpinned, r7, q7⟩
end
theorem for_list {K : PySem.W.Frag} {a : Addr} {xs : List V} {g : TG} {tb : TS} {D : Ends} {σ : St} {H : Hp} (Pv : Nat → St → Hp → Prop) (h0 : Pv 0 σ H) (hl : ∀ i σ H, i ≤ xs.length → Pv i σ H → SqL K H a xs)
    (hs : ∀ i x σ H, xs[i]? = some x → Pv i σ H → g x σ H fun σ2 H2 => tb { D with nx := Pv (i + 1), ct := Pv (i + 1), bk := D.nx } σ2 H2) (hd : ∀ σ H, Pv xs.length σ H → D.nx σ H) :
    ∃ W : Nat → Nat → St → Hp → Prop, (∃ m, W 0 m σ H) ∧ ∀ i m σ H, W i m σ H →
      ((Itl K a).stop i H ∧ D.nx σ H) ∨ ((Itl K a).go i H ∧ ∃ N : St → Hp → Prop, (∀ σ' H', N σ' H' → ∃ m', m' < m ∧ W (i + 1) m' σ' H') ∧ ∀ x H', (Itl K a).yld i H x H' → g x σ H' fun σ2 H2 => tb { D with nx := N, ct := N, bk := D.nx } σ2 H2) := by
  refine ⟨fun i m σ H => m = xs.length - i ∧ i ≤ xs.length ∧ Pv i σ H, ⟨xs.length, by simp, Nat.zero_le _, h0⟩, ?_⟩
  rintro i m σ H ⟨rfl, hi, p⟩
  have q := hl i σ H hi p
  by_cases hlt : i < xs.length
  · refine .inr ⟨⟨xs, xs[i], q, by simp [hlt]⟩, Pv (i + 1), fun σ' H' p' => ⟨xs.length - (i + 1), by omega, rfl, hlt, p'⟩, fun x H' y => ?_⟩
    obtain ⟨e, y⟩ := y
    subst e
    exact hs i x σ _ (y xs q) p
  · have e : i = xs.length := by omega
    subst e
    exact .inl ⟨⟨xs, q, Nat.le_refl _⟩, hd σ H p⟩
theorem for_range {lo : Int} {n : Nat} {g : TG} {tb : TS} {D : Ends} {σ : St} {H : Hp} (Pv : Nat → St → Hp → Prop) (h0 : Pv 0 σ H)
    (hs : ∀ i σ H, i < n → Pv i σ H → g (.int (lo + i)) σ H fun σ2 H2 => tb { D with nx := Pv (i + 1), ct := Pv (i + 1), bk := D.nx } σ2 H2) (hd : ∀ σ H, Pv n σ H → D.nx σ H) :
    ∃ W : Nat → Nat → St → Hp → Prop, (∃ m, W 0 m σ H) ∧ ∀ i m σ H, W i m σ H →
      ((Itr lo n).stop i H ∧ D.nx σ H) ∨ ((Itr lo n).go i H ∧ ∃ N : St → Hp → Prop, (∀ σ' H', N σ' H' → ∃ m', m' < m ∧ W (i + 1) m' σ' H') ∧ ∀ x H', (Itr lo n).yld i H x H' → g x σ H' fun σ2 H2 => tb { D with nx := N, ct := N, bk := D.nx } σ2 H2) := by
  refine ⟨fun i m σ H => m = n - i ∧ i ≤ n ∧ Pv i σ H, ⟨n, by simp, Nat.zero_le _, h0⟩, ?_⟩
  rintro i m σ H ⟨rfl, hi, p⟩
  by_cases hlt : i < n
  · refine .inr ⟨hlt, Pv (i + 1), fun σ' H' p' => ⟨n - (i + 1), by omega, rfl, hlt, p'⟩, fun x H' y => ?_⟩
    obtain ⟨e, y⟩ := y
    subst e y
    exact hs i σ _ hlt p
  · have e : i = n := by omega
    subst e
    exact .inl ⟨Nat.le_refl _, hd σ H p⟩
end L2
namespace L2
open PySem PySem.Spec PyProof.Rows
abbrev R2 := V → V → Hp → VK → Prop
def OpR (X : Cx) (f : Value → Value → Sem Value) (r : R2) : Prop :=
  ∀ (pins : List (Addr × Obj)) (s : Shared) (σ : St) (H : Hp) (x y : V) (v u : Value) (Q : VK), Inv X pins σ H s → RelV x v → RelV y u → r x y H Q →
    wpAny (model X.prog X.w) X.A (f v u) (EP X pins σ Q) X.xe s
def UnR (X : Cx) (f : Value → Sem Value) (r : V → Hp → VK → Prop) : Prop :=
  ∀ (pins : List (Addr × Obj)) (s : Shared) (σ : St) (H : Hp) (x : V) (v : Value) (Q : VK), Inv X pins σ H s → RelV x v → r x H Q →
    wpAny (model X.prog X.w) X.A (f v) (EP X pins σ Q) X.xe s
def CallR (X : Cx) (f : Value) (r : List V → Hp → VK → Prop) : Prop :=
  ∀ (pins : List (Addr × Obj)) (s : Shared) (σ : St) (H : Hp) (xs : List V) (us : List Value) (Q : VK), Inv X pins σ H s → Vals xs us → r xs H Q →
    wpAny (model X.prog X.w) X.A (call f us) (EP X pins σ Q) X.xe s
def tOp (r : R2) (ta tb : TE) : TE := fun σ H Q => ta σ H fun x H1 => tb σ H1 fun y H2 => r x y H2 Q
def tUn (r : V → Hp → VK → Prop) (ta : TE) : TE := fun σ H Q => ta σ H fun x H1 => r x H1 Q
def rI (C : Int → Int → Prop) (g : Int → Int → V) : R2 := fun x y H Q => ∃ i j, x = .int i ∧ y = .int j ∧ C i j ∧ Q (g i j) H
def rI0 (g : Int → Int → V) : R2 := fun x y H Q => ∃ i j, x = .int i ∧ y = .int j ∧ Q (g i j) H
def rU (g : Int → V) : V → Hp → VK → Prop := fun x H Q => ∃ i, x = .int i ∧ Q (g i) H
section
variable {X : Cx} {a b c : Expr} {ta tb tc : TE} {pos : Pos}
theorem binT (ha : PE X a ta) (hb : PE X b tb) {pins : List (Addr × Obj)} {s : Shared} {σ : St} {H : Hp} {R : V → V → Hp → Prop} (I : Inv X pins σ H s)
    (h : ta σ H fun x H1 => tb σ H1 fun y H2 => R x y H2) {Q : Value → Shared → Prop} {f : Value → Value → Sem Value}
    (hf : ∀ v u s2 x y H2, Inv X pins σ H2 s2 → RelV x v → RelV y u → R x y H2 → wpAny (model X.prog X.w) X.A (f v u) Q X.xe s2) :
    wpAny (model X.prog X.w) X.A (eval a X.env) (fun v s₁ => wpAny (model X.prog X.w) X.A (eval b X.env) (fun u s₂ => wpAny (model X.prog X.w) X.A (f v u) Q X.xe s₂) X.xe s₁) X.xe s := by
  refine thn (ha pins s σ H _ I h) fun v s1 ⟨x, H1, I1, r1, q1⟩ => ?_
  refine thn (hb pins s1 σ H1 _ I1 q1) fun u s2 ⟨y, H2, I2, r2, q2⟩ => ?_
  exact hf v u s2 x y H2 I2 r1 r2 q2
theorem pe_op {op : Operator} {r : R2} (ho : OpR X (binaryOp op) r) (ha : PE X a ta) (hb : PE X b tb) : PE X (.BinOp a op b pos) (tOp r ta tb) := by
  intro pins s σ H Q I h
  exact wpAny_BinOp (binT ha hb I h fun v u s2 x y H2 I2 rx ry q => ho pins s2 σ H2 x y v u Q I2 rx ry q)
theorem pe_un {op : UnaryOp} {r : V → Hp → VK → Prop} (ho : UnR X (unaryOp op) r) (ha : PE X a ta) : PE X (.UnaryOp op a pos) (tUn r ta) := by
  intro pins s σ H Q I h
  exact UnaryOp_ (thn (ha pins s σ H _ I h) fun v s1 ⟨x, H1, I1, r1, q1⟩ => ho pins s1 σ H1 x v Q I1 r1 q1)
theorem opI {f : Value → Value → Sem Value} {C : Int → Int → Prop} {g : Int → Int → Int}
    (rule : ∀ (i j : Int) (t u : Tok) (s : Shared) (Q : Value → Shared → Prop) (E : Value → Shared → Prop), C i j → Q (.int (g i j) s.toks) { s with toks := s.toks + 1 } → wpAny (model X.prog X.w) X.A (f (.int i t) (.int j u)) Q E s) :
    OpR X f (rI C fun i j => .int (g i j)) := by
  intro pins s σ H x y v u Q I rx ry h
  obtain ⟨i, j, rfl, rfl, hc, q⟩ := h
  obtain ⟨t, rfl⟩ := rx
  obtain ⟨t', rfl⟩ := ry
  exact rule i j t t' s _ _ hc ⟨.int (g i j), H, I.tok _, ⟨_, rfl⟩, q⟩
theorem opI0 {f : Value → Value → Sem Value} {g : Int → Int → Int}
    (rule : ∀ (i j : Int) (t u : Tok) (s : Shared) (Q : Value → Shared → Prop) (E : Value → Shared → Prop), Q (.int (g i j) s.toks) { s with toks := s.toks + 1 } → wpAny (model X.prog X.w) X.A (f (.int i t) (.int j u)) Q E s) :
    OpR X f (rI0 fun i j => .int (g i j)) := by
  intro pins s σ H x y v u Q I rx ry h
  obtain ⟨i, j, rfl, rfl, q⟩ := h
  obtain ⟨t, rfl⟩ := rx
  obtain ⟨t', rfl⟩ := ry
  exact rule i j t t' s _ _ ⟨.int (g i j), H, I.tok _, ⟨_, rfl⟩, q⟩
theorem opB0 {f : Value → Value → Sem Value} {g : Int → Int → Bool}
    (rule : ∀ (i j : Int) (t u : Tok) (s : Shared) (Q : Value → Shared → Prop) (E : Value → Shared → Prop), Q (.bool (g i j)) s → wpAny (model X.prog X.w) X.A (f (.int i t) (.int j u)) Q E s) :
    OpR X f (rI0 fun i j => .bl (g i j)) := by
  intro pins s σ H x y v u Q I rx ry h
  obtain ⟨i, j, rfl, rfl, q⟩ := h
  obtain ⟨t, rfl⟩ := rx
  obtain ⟨t', rfl⟩ := ry
  exact rule i j t t' s _ _ ⟨.bl (g i j), H, I, rfl, q⟩
def CMul (i j : Int) : Prop := (-(2 ^ 64) < i ∧ i < 2 ^ 64) ∨ (-(2 ^ 64) < j ∧ j < 2 ^ 64)
theorem CMul.ok {i j : Int} (h : CMul i j) : IntMulOk i j := by
  rcases h with ⟨h1, h2⟩ | ⟨h1, h2⟩
  · exact .of_left (intBits_le_64 h1 h2)
  · exact .of_right (intBits_le_64 h1 h2)
theorem op_add : OpR X (binaryOp .Add) (rI0 fun i j => .int (i + j)) := opI0 fun _ _ _ _ _ _ _ q => add_int q
theorem op_mul : OpR X (binaryOp .Mult) (rI CMul fun i j => .int (i * j)) := opI fun _ _ _ _ _ _ _ hc q => mul_int q hc.ok
theorem op_mod : OpR X (binaryOp .Mod) (rI (fun _ j => 0 < j) fun i j => .int (i % j)) := opI fun i j _ _ _ _ _ hc q => by
  have h1 : (0 : Int) < j := hc
  exact mod_int' (by omega) (by rw [Int.fmod_eq_emod_of_nonneg i (by omega)]; exact q)
theorem unI {f : Value → Sem Value} {g : Int → Int}
    (rule : ∀ (i : Int) (t : Tok) (s : Shared) (Q : Value → Shared → Prop) (E : Value → Shared → Prop), Q (.int (g i) s.toks) { s with toks := s.toks + 1 } → wpAny (model X.prog X.w) X.A (f (.int i t)) Q E s) :
    UnR X f (rU fun i => .int (g i)) := by
  intro pins s σ H x v Q I rx h
  obtain ⟨i, rfl, q⟩ := h
  obtain ⟨t, rfl⟩ := rx
  exact rule i t s _ _ ⟨.int (g i), H, I.tok _, ⟨_, rfl⟩, q⟩
theorem un_neg : UnR X (unaryOp .USub) (rU fun i => .int (-i)) := unI fun _ _ _ _ _ q => neg_int q
end
def scal : V → V → Bool
  | .non, .non => true | .non, .int _ => true | .int _, .non => true | .non, .bl _ => true | .bl _, .non => true | .non, .str _ => true | .str _, .non => true
  | .int _, .int _ => true | .bl _, .bl _ => true | .str _, .str _ => true | .byt _, .byt _ => true
  | .int _, .str _ => true | .str _, .int _ => true | .bl _, .str _ => true | .str _, .bl _ => true
  | _, _ => false
def rEq : R2 := fun x y H Q => scal x y = true ∧ Q (.bl (decide (x = y))) H
def rNe : R2 := fun x y H Q => scal x y = true ∧ Q (.bl (!decide (x = y))) H
theorem dec_int {i j : Int} : decide (V.int i = V.int j) = (i == j) := by
  rw [Bool.eq_iff_iff]
  simp
theorem dec_bl {i j : Bool} : decide (V.bl i = V.bl j) = (i == j) := by
  rw [Bool.eq_iff_iff]
  simp
theorem dec_str {i j : Str} : decide (V.str i = V.str j) = (i == j) := by
  rw [Bool.eq_iff_iff]
  simp
theorem dec_byt {i j : Array UInt8} : decide (V.byt i = V.byt j) = (i.toList == j.toList) := by
  rw [Bool.eq_iff_iff]
  cases i
  cases j
  simp
section
variable {X : Cx} {a b c : Expr} {ta tb tc : TE} {pos : Pos}
theorem fin_bl {pins : List (Addr × Obj)} {σ : St} {H : Hp} {s : Shared} {Q : VK} {k k' : Bool} (I : Inv X pins σ H s) (q : Q (.bl k) H) (e : k = k') : EP X pins σ Q (.bool k') s := by
  subst e
  exact ⟨.bl k, H, I, rfl, q⟩
theorem op_eq : OpR X (compareOp .Eq) rEq := by
  intro pins s σ H x y v u Q I rx ry h
  obtain ⟨hs, q⟩ := h
  cases x with
  | non =>
    cases rx
    cases y with
    | non => cases ry; exact PySem.EqNone.eq_none_none (fin_bl I q (by simp))
    | bl j => cases ry; exact PySem.EqNone.eq_none_bool (fin_bl I q (by simp))
    | int j => obtain ⟨t', rfl⟩ := ry; exact PySem.EqNone.eq_none_int (fin_bl I q (by simp))
    | str j => obtain ⟨t', rfl⟩ := ry; exact PySem.EqNone.eq_none_str (fin_bl I q (by simp))
    | _ => exact absurd (show false = true from hs) Bool.false_ne_true
  | bl i =>
    cases rx
    cases y with
    | non => cases ry; exact PySem.EqNone.eq_bool_none (fin_bl I q (by simp))
    | bl j => cases ry; exact eq_bool (fin_bl I q dec_bl)
    | str j => obtain ⟨t', rfl⟩ := ry; exact PySem.EqMixed.eq_bool_str (fin_bl I q (by simp))
    | _ => exact absurd (show false = true from hs) Bool.false_ne_true
  | int i =>
    obtain ⟨t, rfl⟩ := rx
    cases y with
    | non => cases ry; exact PySem.EqNone.eq_int_none (fin_bl I q (by simp))
    | int j => obtain ⟨t', rfl⟩ := ry; exact eq_int (fin_bl I q dec_int)
    | str j => obtain ⟨t', rfl⟩ := ry; exact PySem.EqMixed.eq_int_str (fin_bl I q (by simp))
    | _ => exact absurd (show false = true from hs) Bool.false_ne_true
  | str i =>
    obtain ⟨t, rfl⟩ := rx
    cases y with
    | non => cases ry; exact PySem.EqNone.eq_str_none (fin_bl I q (by simp))
    | bl j => cases ry; exact PySem.EqMixed.eq_str_bool (fin_bl I q (by simp))
    | int j => obtain ⟨t', rfl⟩ := ry; exact PySem.EqMixed.eq_str_int (fin_bl I q (by simp))
    | str j => obtain ⟨t', rfl⟩ := ry; exact eq_str (fin_bl I q dec_str)
    | _ => exact absurd (show false = true from hs) Bool.false_ne_true
  | byt i =>
    obtain ⟨t, rfl⟩ := rx
    cases y with
    | byt j => obtain ⟨t', rfl⟩ := ry; exact PySem.W.eq_bytes (fin_bl I q dec_byt)
    | _ => exact absurd (show false = true from hs) Bool.false_ne_true
  | _ => cases y <;> exact absurd (show false = true from hs) Bool.false_ne_true
theorem op_ne : OpR X (compareOp .NotEq) rNe := by
  intro pins s σ H x y v u Q I rx ry h
  obtain ⟨hs, q⟩ := h
  cases x with
  | non =>
    cases rx
    cases y with
    | non => cases ry; exact PySem.EqNone.ne_none_none (fin_bl I q (by simp))
    | bl j => cases ry; exact PySem.EqNone.ne_none_bool (fin_bl I q (by simp))
    | int j => obtain ⟨t', rfl⟩ := ry; exact PySem.EqNone.ne_none_int (fin_bl I q (by simp))
    | str j => obtain ⟨t', rfl⟩ := ry; exact PySem.EqNone.ne_none_str (fin_bl I q (by simp))
    | _ => exact absurd (show false = true from hs) Bool.false_ne_true
  | bl i =>
    cases rx
    cases y with
    | non => cases ry; exact PySem.EqNone.ne_bool_none (fin_bl I q (by simp))
    | bl j => cases ry; exact ne_bool (fin_bl I q (congrArg not dec_bl))
    | str j => obtain ⟨t', rfl⟩ := ry; exact PySem.EqMixed.ne_bool_str (fin_bl I q (by simp))
    | _ => exact absurd (show false = true from hs) Bool.false_ne_true
  | int i =>
    obtain ⟨t, rfl⟩ := rx
    cases y with
    | non => cases ry; exact PySem.EqNone.ne_int_none (fin_bl I q (by simp))
    | int j => obtain ⟨t', rfl⟩ := ry; exact ne_int (fin_bl I q (congrArg not dec_int))
    | str j => obtain ⟨t', rfl⟩ := ry; exact PySem.EqMixed.ne_int_str (fin_bl I q (by simp))
    | _ => exact absurd (show false = true from hs) Bool.false_ne_true
  | str i =>
    obtain ⟨t, rfl⟩ := rx
    cases y with
    | non => cases ry; exact PySem.EqNone.ne_str_none (fin_bl I q (by simp))
    | bl j => cases ry; exact PySem.EqMixed.ne_str_bool (fin_bl I q (by simp))
    | int j => obtain ⟨t', rfl⟩ := ry; exact PySem.EqMixed.ne_str_int (fin_bl I q (by simp))
    | str j => obtain ⟨t', rfl⟩ := ry; exact ne_str (fin_bl I q (congrArg not dec_str))
    | _ => exact absurd (show false = true from hs) Bool.false_ne_true
  | byt i =>
    obtain ⟨t, rfl⟩ := rx
    cases y with
    | byt j => obtain ⟨t', rfl⟩ := ry; exact PySem.W.ne_bytes (fin_bl I q (congrArg not dec_byt))
    | _ => exact absurd (show false = true from hs) Bool.false_ne_true
  | _ => cases y <;> exact absurd (show false = true from hs) Bool.false_ne_true
theorem op_lt : OpR X (compareOp .Lt) (rI0 fun i j => .bl (decide (i < j))) := opB0 fun _ _ _ _ _ _ _ q => lt_int q
theorem op_gt : OpR X (compareOp .Gt) (rI0 fun i j => .bl (decide (j < i))) := opB0 fun _ _ _ _ _ _ _ q => gt_int q
theorem nomark (b : Expr) {op : CmpOp} (h : op ≠ .In := by decide) (h2 : op ≠ .NotIn := by decide) : behindInMarks op b = false := by
  have e1 : (op == CmpOp.In) = false := by cases op <;> first | rfl | exact absurd rfl h
  have e2 : (op == CmpOp.NotIn) = false := by cases op <;> first | rfl | exact absurd rfl h2
  cases b <;> simp [behindInMarks, e1, e2]
theorem pe_cmpR {op : CmpOp} {r : R2} (ho : OpR X (compareOp op) r) (ha : PE X a ta) (hb : PE X b tb) (hm : behindInMarks op b = false) : PE X (.Compare a [op] [b] pos) (tOp r ta tb) := by
  intro pins s σ H Q I h
  exact wpAny_Compare1 (binT ha hb I h fun v u s2 x y H2 I2 rx ry q => ho pins s2 σ H2 x y v u Q I2 rx ry q) hm
def tTest (t : TE) : TT := fun σ H Q => t σ H fun x H' => ∃ k, x = .bl k ∧ Q k H'
theorem pt_cmpR {op : CmpOp} {r : R2} (ho : OpR X (compareOp op) r) (ha : PE X a ta) (hb : PE X b tb) (hm : behindInMarks op b = false) : PT X (.Compare a [op] [b] pos) (tTest (tOp r ta tb)) := by
  intro pins s σ H Q I h
  refine wpAny_isTrue_Compare1 (thn (ha pins s σ H _ I h) fun v s1 ⟨x, H1, I1, r1, q1⟩ => thn (hb pins s1 σ H1 _ I1 q1) fun u s2 ⟨y, H2, I2, r2, q2⟩ =>
    thn (ho pins s2 σ H2 x y v u _ I2 r1 r2 q2) fun c s3 ⟨z, H3, I3, r3, k, e, q3⟩ => ?_) hm
  subst e
  cases r3
  exact wpAny_truthy_bool ⟨H3, I3, q3⟩
theorem line63 : (sizeLine : Nat) < 2 ^ 63 := by rw [sizeLine_eq]; decide
theorem vals1 {x : V} {us : List Value} (r : Vals [x] us) : ∃ u, us = [u] ∧ RelV x u := by
  cases r with
  | cons r1 r2 => cases r2; exact ⟨_, rfl, r1⟩
theorem vals2 {x y : V} {us : List Value} (r : Vals [x, y] us) : ∃ u w', us = [u, w'] ∧ RelV x u ∧ RelV y w' := by
  cases r with
  | cons r1 r2 =>
    cases r2 with
    | cons r3 r4 => cases r4; exact ⟨_, _, rfl, r1, r3⟩
theorem call_int1 : CallR X (.type "int") (fun xs H Q => (∃ i, xs = [.int i] ∧ Q (.int i) H) ∨ ∃ k, xs = [.bl k] ∧ Q (.int (if k then 1 else 0)) H) := by
  intro pins s σ H xs us Q I r h
  rcases h with ⟨i, rfl, q⟩ | ⟨k, rfl, q⟩
  · obtain ⟨u, rfl, t, rfl⟩ := vals1 r
    exact call_int_int ⟨.int i, H, I, ⟨_, rfl⟩, q⟩
  · obtain ⟨u, rfl, r1⟩ := vals1 r
    cases r1
    exact call_int_bool ⟨.int (if k then 1 else 0), H, I.tok _, ⟨_, rfl⟩, q⟩
end
end L2
namespace L2
open PySem PySem.Spec PyProof.Rows
structure ObjM (h : Heap) (x dx C : Addr) (mA : Str → Option Value) : Prop where
  obj : h.get? x = some (PySem.W.instObj C dx)
  ns : h.Ns1 dx mA
  ne : dx ≠ x
theorem lookIn_ns {h : Heap} {dx : Addr} {mA : Str → Option Value} (n : h.Ns1 dx mA) : ∃ od, h.get? dx = some od ∧ ∀ name, PySem.W.lookIn name od = some (mA name) := by
  obtain ⟨o, es, ep, ho, hd, hk, _, hm⟩ := n
  refine ⟨o, ho, fun name => ?_⟩
  have e := hm name
  unfold nsFind findBy at e
  rw [← Array.find?_toList] at e
  unfold PySem.W.lookIn
  rw [hd]
  dsimp only
  split
  · rename_i y q
    rw [q] at e
    exact congrArg some e
  · rename_i q
    rw [q] at e
    have a : es.toList.any (·.refKey) = false := by
      rw [List.any_eq_false]
      intro y hy
      obtain ⟨z, t, hkey⟩ := hk y (Array.mem_toList_iff.mp hy)
      simp [DictEntry.refKey, hkey]
    have a' : ¬ es.toList.any (·.refKey) = true := by rw [a]; exact Bool.false_ne_true
    rw [if_neg a']
    exact congrArg some e
theorem ObjM.look {h : Heap} {x dx C : Addr} {mA : Str → Option Value} (I : ObjM h x dx C mA) : ∃ od, PySem.W.InstAt h x (PySem.W.instObj C dx) C (some od) ∧ ∀ name, PySem.W.lookIn name od = some (mA name) :=
  let ⟨od, ho, hl⟩ := lookIn_ns I.ns
  ⟨od, ⟨I.obj, rfl, rfl, ho⟩, hl⟩
section
variable {prog : Program} {w : World} {A : Around} {E : Value → Shared → Prop} {s : Shared} {K : PySem.W.Frag} {x dx C f : Addr} {mA : Str → Option Value} {name : Str} {v : Value}
end
theorem RelO.some_of {v : V} {o : Option Value} (r : RelO (some v) o) : ∃ u, o = some u ∧ RelV v u := by
  cases o with
  | none => exact (show False from r).elim
  | some u => exact ⟨u, rfl, r⟩
section
variable {P : Program} {w : World} {H H' : Hp} {h h' : Heap} {a C dx : Addr} {fs fs' : List (Str × V)}
theorem ins_get (hok : HOk P w H h) (e : H a = some (.ins C dx fs)) : ∃ mA, ObjM h a dx C mA ∧ (∀ f, RelO (fs.lookup f) (mA f)) ∧ PySem.Within mA (fs.map (·.1)) ∧ fs.length ≤ 1000 ∧ H dx = some (.own a) := by
  obtain ⟨d, z, ne, ob, mA, n, r, q⟩ := (show ObjOk P w H h a (.ins C dx fs) from hok a _ e)
  exact ⟨mA, ⟨ob, n, ne⟩, r, q, z, d⟩
end
structure Cls (K : PySem.W.Frag) (C : Addr) : Prop where
  pg : PySem.W.plainGet K C Str.empty = true
  hd : PySem.W.hasDictIn K C = true
  po : PySem.W.plainOver K C = true
  sa : PySem.W.findIn K (.ref C) "__setattr__" = some (some (.builtin "object.__setattr__"))
theorem Cls.get {K : PySem.W.Frag} {C : Addr} (c : Cls K C) (f : Str) : PySem.W.plainGet K C f = true := c.pg
structure Con (K : PySem.W.Frag) (C : Addr) (f : Str) (v : V) (u : Value) : Prop where
  at_ : PySem.W.findIn K (.ref C) f = some (some u)
  rel : RelV v u
  get : PySem.W.specialIn K u "__get__" = some none
  cp : PySem.W.copiedNames.contains f = false
structure Meth (K : PySem.W.Frag) (C : Addr) (m : Str) (f : Addr) : Prop where
  at_ : PySem.W.findIn K (.ref C) m = some (some (.ref f))
  fn : PySem.W.isFn K (.ref f) = true
  kp : PySem.W.keepIn K (.ref f) = true
section
variable {X : Cx} {pins : List (Addr × Obj)} {σ : St} {H : Hp} {s : Shared} {a C dx : Addr} {fs : List (Str × V)} {f : Str} {v : V} {A : Around} {E : Value → Shared → Prop}
end
section
variable {X : Cx} {o e value : Expr} {f : Str} {pos pos' tpos : Pos} {ta tv : TE}
end
section
variable {X : Cx} {pins : List (Addr × Obj)} {σ : St} {H : Hp} {s : Shared} {A : Around} {E : Value → Shared → Prop} {Q : Value → Shared → Prop} {c : Value} {b : Bool}
inductive TyOf (K : PySem.W.Frag) (H : Hp) : V → Value → Prop where
  | non : TyOf K H .non (.type "NoneType")
  | bl (x : Bool) : TyOf K H (.bl x) (.type "bool")
  | int (i : Int) : TyOf K H (.int i) (.type "int")
  | str (x : Str) : TyOf K H (.str x) (.type "str")
  | flt (x : UInt64) : TyOf K H (.flt x) (.type "float")
  | lst {a : Addr} {xs : List V} (e : H a = some (.lst xs)) : TyOf K H (.ref a) (.type "list")
  | frz {a : Addr} {o : Obj} {xs : List V} (e : H a = some (.frz o (.lst xs))) : TyOf K H (.ref a) (.type "list")
  | tup {a : Addr} {xs : List V} (e : H a = some (.tup xs)) : TyOf K H (.ref a) (.type "tuple")
  | dK {a : Addr} {kvs : List (Key × V)} (e : H a = some (.dK kvs)) : TyOf K H (.ref a) (.type "dict")
  | dT {a : Addr} {kvs : List (List Key × V)} (e : H a = some (.dT kvs)) : TyOf K H (.ref a) (.type "dict")
  | ins {a C dx : Addr} {fs : List (Str × V)} (e : H a = some (.ins C dx fs)) (cl : Cls K C) (ha : PySem.W.findIn K (.ref C) "__class__" = some (some (.builtin "object.__class__")))
      (hn : PySem.W.specialIn K (.builtin "object.__class__") "__get__" = some (some (.builtin "getset_descriptor.__get__"))) (htk : PySem.W.takesIn K (.builtin "object.__class__") = some true)
      (hm : PySem.W.mroIn K C (.type "object") = some true) : TyOf K H (.ref a) (.ref C)
theorem isinst_ok {x : V} {u t : Value} (I : Inv X pins σ H s) (rx : RelV x u) (ty : TyOf X.K H x t) (e : PySem.W.kitOne X.K t c = some b) (h : ∀ tk, Q (.bool b) { s with toks := tk }) :
    wpAny (model X.prog X.w) A (call (.builtin "isinstance") [u, c]) Q E s := by
  cases ty with
  | non => cases (show u = Value.none from rx); exact PySem.W.kia_one PySem.W.kitx_none I.kIn True.intro e (fun z => nomatch z) h
  | bl y => cases (show u = Value.bool y from rx); exact PySem.W.kia_one PySem.W.kitx_bool I.kIn True.intro e (fun z => nomatch z) h
  | int i => obtain ⟨t, q⟩ := (show ∃ t, u = Value.int i t from rx); cases q; exact PySem.W.kia_one PySem.W.kitx_int I.kIn True.intro e (fun z => nomatch z) h
  | str y => obtain ⟨t, q⟩ := (show ∃ t, u = Value.str y t from rx); cases q; exact PySem.W.kia_one PySem.W.kitx_str I.kIn True.intro e (fun z => nomatch z) h
  | flt y => obtain ⟨t, q⟩ := (show ∃ t, u = Value.float y t from rx); cases q; exact PySem.W.kia_one PySem.W.kitx_float I.kIn True.intro e (fun z => nomatch z) h
  | @lst a xs ea =>
    cases (show u = Value.ref a from rx)
    obtain ⟨_, _, n, _, h1⟩ := (show ObjOk X.prog X.w H s.heap a (.lst xs) from I.hok a _ ea)
    exact PySem.W.kia_one PySem.W.kitx_list I.kIn ⟨_, h1, rfl⟩ e (fun z => nomatch z) h
  | @frz a ob xs ea =>
    cases (show u = Value.ref a from rx)
    obtain ⟨_, _, _, n, _, h1⟩ := (show ObjOk X.prog X.w H s.heap a (.frz ob (.lst xs)) from I.hok a _ ea)
    exact PySem.W.kia_one PySem.W.kitx_list I.kIn ⟨_, h1, rfl⟩ e (fun z => nomatch z) h
  | @tup a xs ea =>
    cases (show u = Value.ref a from rx)
    obtain ⟨_, _, _, p⟩ := (show ObjOk X.prog X.w H s.heap a (.tup xs) from I.hok a _ ea)
    obtain ⟨o, h1, h2, _⟩ := p
    exact PySem.W.kia_one PySem.W.kitx_tuple I.kIn ⟨o, h1, h2⟩ e (fun z => nomatch z) h
  | @dK a kvs ea =>
    cases (show u = Value.ref a from rx)
    obtain ⟨_, _, vs, _, p⟩ := (show ObjOk X.prog X.w H s.heap a (.dK kvs) from I.hok a _ ea)
    obtain ⟨o, es, ep, h1, h2, _⟩ := p
    exact PySem.W.kia_one PySem.W.kitx_dict I.kIn ⟨o, h1, h2.1⟩ e (fun z => nomatch z) h
  | @dT a kvs ea =>
    cases (show u = Value.ref a from rx)
    obtain ⟨_, _, xs, _, o, es, ep, h1, h2, _⟩ := (show ObjOk X.prog X.w H s.heap a (.dT kvs) from I.hok a _ ea)
    exact PySem.W.kia_one PySem.W.kitx_dict I.kIn ⟨o, h1, h2.1⟩ e (fun z => nomatch z) h
  | @ins a C dx fs ea cl ha hn htk hm =>
    cases (show u = Value.ref a from rx)
    obtain ⟨mA, O, _⟩ := ins_get I.hok ea
    obtain ⟨od, J, _⟩ := O.look
    exact PySem.W.kia_one (PySem.W.kitx_own (cl.get _) cl.hd ha hn htk hm) I.kIn J e (fun z => nomatch z) h
end
end L2
namespace L2
open PySem PySem.Spec PyProof.Rows
structure Room (k : Nat) (A : Around) : Prop where
  hd : A.handled = none
  dp : A.depth + 3 * k + 5 < recursionLimit
  un : A.units + 16 * k + 200 < cLine
theorem Room.mono {j k : Nat} {A : Around} (r : Room k A) (h : j ≤ k) : Room j A := ⟨r.hd, by have := r.dp; omega, by have := r.un; omega⟩
theorem Room.deeper {k : Nat} {A : Around} (r : Room (k + 1) A) (env : Env) : Room k (A.deeper env) :=
  ⟨r.hd, by have := r.dp; show A.depth + 1 + 3 * k + 5 < _; omega, by have := r.un; show A.units + 3 + 16 * k + 200 < _; omega⟩
theorem Room.in1 {k : Nat} {A : Around} (r : Room (k + 1) A) : Room k A.in1 :=
  ⟨r.hd, by have := r.dp; show A.depth + 3 * k + 5 < _; omega, by have := r.un; show A.units + 1 + 16 * k + 200 < _; omega⟩
theorem Room.depth {k : Nat} {A : Around} (r : Room k A) : A.depth < recursionLimit := by have := r.dp; omega
theorem Room.units {k : Nat} {A : Around} (r : Room k A) : A.units + 64 < cLine := by have := r.un; omega
def tNil : TA := fun _ H Q => Q [] H
def tCons (ta : TE) (tr : TA) : TA := fun σ H Q => ta σ H fun x H1 => tr σ H1 fun xs H2 => Q (x :: xs) H2
section
variable {X : Cx} {e : Expr} {es : List Expr} {te : TE} {t : TA} {pos : Pos}
theorem pa_nil : PA X [] tNil := fun _ _ _ _ H Q I h => Calls.spliced_nil ⟨[], H, I, .nil, h⟩
theorem pa_cons (ha : PE X e te) (hr : PA X es t) (hs : starEach (e :: es) X.env = (false, eval e X.env) :: starEach es X.env := by rfl) : PA X (e :: es) (tCons te t) := by
  intro pos pins s σ H Q I h
  rw [hs]
  show wpAny _ _ (spliced ((false, eval e X.env) :: backTo pos (starEach es X.env))) _ _ s
  refine Calls.spliced_cons (thn (ha pins s σ H _ I h) fun u s1 ⟨x, H1, I1, r1, q1⟩ => ?_)
  exact thn (hr pos pins s1 σ H1 _ I1 q1) fun us s2 ⟨xs, H2, I2, r2, q2⟩ => ⟨x :: xs, H2, I2, .cons r1 r2, q2⟩
def tTup (t : TA) : TE := fun σ H Q => t σ H fun xs H1 => xs.length ≤ sizeLine ∧ ∀ p, H1 p = none → Q (.ref p) (upd H1 p (.tup xs))
def tLst (t : TA) : TE := fun σ H Q => t σ H fun xs H1 => xs.length ≤ sizeLine ∧ ∀ p, H1 p = none → Q (.ref p) (upd H1 p (.lst xs))
theorem pe_tup {x1} (h : PA X es t) : PE X (.Tuple es x1 pos) (tTup t) := by
  intro pins s σ H Q I hq
  refine wpAny_Tuple_spliced (thn (h pos pins s σ H _ I hq) fun us s1 ⟨xs, H1, I1, r, z, q⟩ => ⟨by rw [← r.length]; exact z, ?_⟩)
  have hf : H1 s1.heap.objs.size = none := I1.hok.fresh (Nat.le_refl _)
  refine ⟨.ref s1.heap.objs.size, upd H1 s1.heap.objs.size (.tup xs), I1.laid (t' := s1.toks) (fun b u e => Heap.get?_push_of_some _ e) (Nat.le_refl _) ?_, rfl, q _ hf⟩
  exact ⟨z, us, r, ⟨_, Heap.get?_push_size _ rfl, rfl, _, rfl⟩⟩
theorem pe_lst (h : PA X es t) : PE X (.List es pos) (tLst t) := by
  intro pins s σ H Q I hq
  refine wpAny_List_spliced (thn (h pos pins s σ H _ I hq) fun us s1 ⟨xs, H1, I1, r, z, q⟩ => ⟨by rw [← r.length]; exact z, ?_⟩)
  have hf : H1 s1.heap.objs.size = none := I1.hok.fresh (Nat.le_refl _)
  refine ⟨.ref s1.heap.objs.size, upd H1 s1.heap.objs.size (.lst xs), I1.laid (t' := s1.toks) (fun b u e => Heap.get?_push_of_some _ e) (Nat.le_refl _) ?_, rfl, q _ hf⟩
  exact ⟨z, us, 0, r, Heap.get?_push_size _ rfl⟩
end
abbrev Sp := List V → Hp → VK → XK → Prop
abbrev CXT := List Env → Hp → Shared → XK → Value → Shared → Prop
structure Env0 (P : Program) (w : World) (K : PySem.W.Frag) (mg : Str → Option Value) (base : Heap) (A : Around) (outer : List Env) (s : Shared) (H : Hp) : Prop where
  frames : A.frames = some outer
  mod : Mod K mg base
  bs : ∀ b o, base.get? b = some o → s.heap.get? b = some o ∧ H b = none
  bsz : base.objs.size ≤ s.heap.objs.size
  funs : s.heap.FunFrames base outer
  frf : ∀ b ∈ frs outer, H b = none
  hok : HOk P w H s.heap
  bare : AllBare s.gens
def CE (outer : List Env) (P : Program) (w : World) (H : Hp) (s : Shared) (Q : VK) (u : Value) (s' : Shared) : Prop :=
  ∃ v H', s'.os = s.os ∧ AllBare s'.gens ∧ Un (frs outer) [] H H' s.heap s'.heap ∧ HOk P w H' s'.heap ∧ RelV v u ∧ Q v H'
def CR (CX : CXT) (outer : List Env) (P : Program) (w : World) (H : Hp) (s : Shared) (Q : VK) (E : XK) (r : Result) (s' : Shared) : Prop :=
  match r with
  | .ok (.ret u) => CE outer P w H s Q u s'
  | .ok _ => False
  | .error e => CX outer H s E e s'
structure FnOk (P : Program) (w : World) (K : PySem.W.Frag) (mg : Str → Option Value) (base : Heap) (CX : CXT) (k : Nat) (f : Addr) (fd : FuncData) (ps : List Str) (sp : Sp) : Prop where
  len : ∀ vs H Q E, sp vs H Q E → vs.length = ps.length
  run : ∀ (A : Around) (outer : List Env) (s : Shared) (H : Hp) (args : Args) (us : List Value) (vs : List V) (Q : VK) (E : XK), Room k A → Env0 P w K mg base A outer s H → BindsTo s fd args (ps.zip us) → Vals vs us → sp vs H Q E →
    codeAny (model P w) A (.call (.ref f) args) (CR CX outer P w H s Q E) s
theorem FnOk.mono {P : Program} {w : World} {K : PySem.W.Frag} {mg : Str → Option Value} {base : Heap} {CX : CXT} {j k : Nat} {f : Addr} {fd : FuncData} {ps : List Str} {sp : Sp} (F : FnOk P w K mg base CX j f fd ps sp) (h : j ≤ k) :
    FnOk P w K mg base CX k f fd ps sp := ⟨F.len, fun A outer s H args us vs Q E hr => F.run A outer s H args us vs Q E (hr.mono h)⟩
theorem Env0.in1 {P : Program} {w : World} {K : PySem.W.Frag} {mg : Str → Option Value} {base : Heap} {A : Around} {outer : List Env} {s : Shared} {H : Hp} (e : Env0 P w K mg base A outer s H) :
    Env0 P w K mg base A.in1 outer s H := ⟨e.frames, e.mod, e.bs, e.bsz, e.funs, e.frf, e.hok, e.bare⟩
section
variable {X : Cx} {pins : List (Addr × Obj)} {σ : St} {H : Hp} {s s' : Shared}
theorem Inv.env0 (I : Inv X pins σ H s) : Env0 X.prog X.w X.K X.mg X.base X.A X.stack s H :=
  ⟨I.ok.frames, I.ok.mod, I.bs, Nat.le_trans I.ok.bsz I.sz, I.stack, I.stkFree, I.hok, I.bare⟩
theorem Inv.after {Q : VK} {u : Value} (I : Inv X pins σ H s) (h : CE X.stack X.prog X.w H s Q u s') : EP X pins σ Q u s' := by
  obtain ⟨v, H', os, bare, un, hok, r, q⟩ := h
  obtain ⟨hh, g, d, t, os'⟩ := s'
  obtain rfl : os' = s.os := os
  exact ⟨v, H', I.call (h' := hh) (g' := g) (d' := d) (t' := t) (ch := []) un hok bare (fun b z => absurd z (by simp)), r, q⟩
end
def tCall (sp : Sp) (dvs : List V) (E : XK) (t : TA) : TE := fun σ H Q => t σ H fun vs H1 => sp (vs ++ dvs) H1 Q E
def Binds (K : PySem.W.Frag) (fd : FuncData) (ps : List Str) (ds : List Value) : Prop :=
  ∀ (s : Shared) (us : List Value), K.In s.heap → (us ++ ds).length = ps.length → BindsTo s fd ⟨us, []⟩ (ps.zip (us ++ ds))
theorem Binds.all {K : PySem.W.Frag} {fd : FuncData} {ps : List Str} (h : ∀ us : List Value, us.length = ps.length → bindArgs fd ⟨us, []⟩ = pure (ps.zip us)) : Binds K fd ps [] := fun s us _ hl => by
  rw [List.append_nil] at hl ⊢
  exact .of_eq (h us hl)
def Passes (CX : CXT) (X : Cx) (E : XK) : Prop := ∀ (pins : List (Addr × Obj)) (σ : St) (H : Hp) (s : Shared) (e : Value) (s' : Shared), Inv X pins σ H s → CX X.stack H s E e s' → X.xe e s'
section
variable {X : Cx} {CX : CXT} {k : Nat} {f C : Addr} {fd : FuncData} {ps : List Str} {sp : Sp} {dvs : List V} {ds : List Value} {E : XK} {x m : Str} {p pos apos : Pos} {e o : Expr} {es : List Expr} {ta : TE} {t : TA}
theorem run_fn {pins : List (Addr × Obj)} {σ : St} {H : Hp} {s : Shared} {Q : VK} {us : List Value} {vs : List V} (F : FnOk X.prog X.w X.K X.mg X.base CX k f fd ps sp) (hr : Room k X.A) (hb : Binds X.K fd ps ds) (hd : Vals dvs ds) (hx : Passes CX X E)
    (I : Inv X pins σ H s) (r : Vals vs us) (h : sp (vs ++ dvs) H Q E) : wpAny (model X.prog X.w) X.A (call (.ref f) us) (EP X pins σ Q) X.xe s := by
  have r2 : Vals (vs ++ dvs) (us ++ ds) := r.append hd
  have hl : (us ++ ds).length = ps.length := by rw [← r2.length]; exact F.len _ _ _ _ h
  refine wpAny_call (codeAny_mono (F.run X.A X.stack s H ⟨us, []⟩ (us ++ ds) (vs ++ dvs) Q E hr I.env0 (hb s us I.kIn hl) r2 h) fun r s' hq => ?_)
  cases r with
  | error e => exact hx pins σ H s e s' I hq
  | ok fl =>
    cases fl with
    | ret u => exact I.after hq
    | next => exact False.elim hq
    | brk => exact False.elim hq
    | cont => exact False.elim hq
theorem pe_call (F : FnOk X.prog X.w X.K X.mg X.base CX k f fd ps sp) (hr : Room k X.A) (hg : Gl X x) (hm : X.mg x = some (.ref f)) (hk : PySem.W.keepIn X.K (.ref f) = true) (hb : Binds X.K fd ps ds) (hd : Vals dvs ds) (hx : Passes CX X E)
    (ha : PA X (e :: es) t) (hdb : (x == ("__debug__" : Str)) = false := by decide) (he : starEach (e :: es) X.env = (false, eval e X.env) :: starEach es X.env := by rfl) (hpl : (backTo pos (starEach es X.env)).any (·.1) = false := by rfl) :
    PE X (.Call (.Name x p) (e :: es) [] pos) (tCall sp dvs E t) := by
  intro pins s σ H Q I h
  refine wpAny_Call_Name_kw (ld_glob I hg hm ?_ hdb)
  refine PySem.W.callWith_K (h₀ := X.base) I.ok.mod.kin hk (thn (ha pos pins s σ H _ I h) fun us s1 ⟨vs, H1, I1, r, q⟩ => ⟨I1.kIn, ?_⟩) he hpl
  exact run_fn F hr hb hd hx I1 r q
structure Mk (K : PySem.W.Frag) (C f : Addr) : Prop where
  makes : PySem.W.makesIn K C = true
  init : PySem.W.findIn K (.ref C) "__init__" = some (some (.ref f))
  fn : PySem.W.isFn K (.ref f) = true
  kp : PySem.W.keepIn K (.ref C) = true
end
section
variable {X : Cx} {CX : CXT} {k : Nat} {f C : Addr} {fd : FuncData} {ps ks : List Str} {sp : Sp} {E : XK} {x m : Str} {p pos apos kpos : Pos} {e o : Expr} {es : List Expr} {kws : List Keyword} {te ta : TE} {t tk : TA} {nm : Option Str}
structure KBinds (K : PySem.W.Frag) (fd : FuncData) (ps ks : List Str) (g : List Value → List Value → List Value) (gV : List V → List V → List V) : Prop where
  to : ∀ (s : Shared) (us ws : List Value), K.In s.heap → (g us ws).length = ps.length → BindsTo s fd ⟨us, ks.zip ws⟩ (ps.zip (g us ws))
  rel : ∀ {vs : List V} {us : List Value} {zs : List V} {ws : List Value}, Vals vs us → Vals zs ws → Vals (gV vs zs) (g us ws)
variable {g : List Value → List Value → List Value} {gV : List V → List V → List V}
end
structure FnScope (N P : List Str) (sc : Scope) : Prop where
  kind : sc.kind = .function
  co : sc.isCoroutine = false
  gen : sc.isGenerator = false
  nd : N.Nodup
  pre : N.take P.length = P
  par : ∀ x ∈ P, sc.names.lookup x = some .local ∨ sc.names.lookup x = some .cell
  nofree : ∀ y ∈ sc.names, y.2 ≠ .free
theorem bindL_out {kindOf : Str → Option NameKind} {x : Str} : ∀ {binds : List (Str × Value)} {m : Str → Option Value}, (∀ v, (x, v) ∉ binds) → bindL kindOf binds m x = m x
  | [], _, _ => rfl
  | (n, v) :: r, m, h => by
    unfold bindL
    rw [bindL_out fun w hw => h w (List.mem_cons_of_mem _ hw)]
    split
    · have : x ≠ n := by rintro rfl; exact h v List.mem_cons_self
      simp [this]
    · rfl
theorem bindC_out {kindOf : Str → Option NameKind} {x : Str} : ∀ {binds : List (Str × Value)} {m : Str → Option Value}, (∀ v, (x, v) ∉ binds) → bindC kindOf binds m x = m x
  | [], _, _ => rfl
  | (n, v) :: r, m, h => by
    unfold bindC
    rw [bindC_out fun w hw => h w (List.mem_cons_of_mem _ hw)]
    split
    · rfl
    · have : x ≠ n := by rintro rfl; exact h v List.mem_cons_self
      simp [this]
theorem bindL_get {kindOf : Str → Option NameKind} {x : Str} {v : Value} : ∀ {P : List Str} {vs : List Value} {i : Nat} {m : Str → Option Value}, P.Nodup → P[i]? = some x → vs[i]? = some v → kindOf x = some .local →
    bindL kindOf (P.zip vs) m x = some v
  | [], _, _, _, _, h, _, _ => by simp at h
  | _ :: _, [], _, _, _, _, h, _ => by simp at h
  | p :: P, w :: vs, 0, m, nd, h1, h2, hk => by
    simp at h1 h2; subst h1; subst h2
    show bindL kindOf ((p, w) :: P.zip vs) m p = _
    unfold bindL
    rw [bindL_out fun v hv => (List.nodup_cons.mp nd).1 (List.of_mem_zip hv).1, if_pos hk]
    simp
  | p :: P, w :: vs, i + 1, m, nd, h1, h2, hk => by
    show bindL kindOf ((p, w) :: P.zip vs) m x = _
    unfold bindL
    exact bindL_get (i := i) (List.nodup_cons.mp nd).2 (by simpa using h1) (by simpa using h2) hk
theorem bindC_get {kindOf : Str → Option NameKind} {x : Str} {v : Value} : ∀ {P : List Str} {vs : List Value} {i : Nat} {m : Str → Option Value}, P.Nodup → P[i]? = some x → vs[i]? = some v → kindOf x ≠ some .local →
    bindC kindOf (P.zip vs) m x = some v
  | [], _, _, _, _, h, _, _ => by simp at h
  | _ :: _, [], _, _, _, _, h, _ => by simp at h
  | p :: P, w :: vs, 0, m, nd, h1, h2, hk => by
    simp at h1 h2; subst h1; subst h2
    show bindC kindOf ((p, w) :: P.zip vs) m p = _
    unfold bindC
    rw [bindC_out fun v hv => (List.nodup_cons.mp nd).1 (List.of_mem_zip hv).1, if_neg hk]
    simp
  | p :: P, w :: vs, i + 1, m, nd, h1, h2, hk => by
    show bindC kindOf ((p, w) :: P.zip vs) m x = _
    unfold bindC
    exact bindC_get (i := i) (List.nodup_cons.mp nd).2 (by simpa using h1) (by simpa using h2) hk
def start (N : List Str) (vs : List V) : St := vs.map some ++ List.replicate (N.length - vs.length) none
def cxOf (CX : CXT) (P : Program) (w : World) (K : PySem.W.Frag) (mg : Str → Option Value) (base : Heap) (N : List Str) (qual : Str) (scope : Scope) (f : Addr) (cd : Value) (A : Around) (outer : List Env) (s : Shared) (H : Hp) (E : XK) : Cx where
  prog := P
  w := w
  K := K
  mg := mg
  base := base
  A := A.deeper (envOfC qual scope s.heap.objs.size f cd)
  N := N
  s₀ := s
  H₀ := H
  env := envOfC qual scope s.heap.objs.size f cd
  outer := outer
  stack := envOfC qual scope s.heap.objs.size f cd :: outer
  ex := []
  calm := true
  fn := fun _ => true
  pn := []
  xe := fun e s' => wpAny (model P w) (A.deeper (envOfC qual scope s.heap.objs.size f cd)) (leaving (envOfC qual scope s.heap.objs.size f cd) e) (fun _ s'' => CX outer H s E e s'') (fun e' s'' => CX outer H s E e' s'') s'
theorem cell_has {sc : Scope} {n : Nat} {x : Str} (h : sc.names.lookup x = some .cell) : ∃ c, (cellsFrom n sc.names []).lookup x = some c := by
  have q := PySem.W.cellsFrom_some sc.names n [] (.inl h)
  exact Option.isSome_iff_exists.mp q
theorem inv_start {CX : CXT} {P : Program} {w : World} {K : PySem.W.Frag} {mg : Str → Option Value} {base : Heap} {N ps : List Str} {qual : Str} {scope : Scope} {f : Addr} {cd : Value} {A : Around} {outer : List Env} {s s1 : Shared} {H : Hp} {E : XK} {us : List Value} {vs : List V}
    (S : FnScope N ps scope) (hd : A.handled = none) (e0 : Env0 P w K mg base A outer s H) (hl : vs.length = ps.length) (r : Vals vs us)
    (x : InCallC s s.heap.objs.size (bindL (envOfC qual scope s.heap.objs.size f cd).kindOf (ps.zip us) fun _ => none) (cellsFrom (s.heap.objs.size + 1) scope.names []) (bindC (envOfC qual scope s.heap.objs.size f cd).kindOf (ps.zip us) fun _ => none) s1) :
    Inv (cxOf CX P w K mg base N qual scope f cd A outer s H E) [] (start N vs) H s1 := by
  have hpl : ps.length ≤ N.length := by have := congrArg List.length S.pre; rw [List.length_take] at this; omega
  obtain ⟨h1, tk, rfl, hk⟩ := x.done
  have noA : ∀ b : Addr, b ∉ (cxOf CX P w K mg base N qual scope f cd A outer s H E).ex := fun b z => absurd (show b ∈ ([] : List Addr) from z) (by simp)
  refine ⟨⟨e0.mod, S.kind, rfl, rfl, Nat.le_refl _, fun y z c h1 h2 => ?_, fun y hy => ?_, fun y c _ h => ?_, fun _ => hd, Around.frames_deeper e0.frames, .inr ⟨rfl, rfl⟩, fun b z => absurd z (noA b), e0.bs, e0.bsz, fun b _ _ => noA b, fun b z => absurd z (noA b), e0.funs, e0.frf⟩,
    rfl, e0.bare, Un.kept hk, ⟨_, x.toInCall.ns, fun i y v h1 h2 h3 => ?_⟩, fun y c h => ⟨_, x.cell y c h⟩, e0.hok.fresh (Nat.le_refl _), fun y c h => ?_, fun p hp => absurd (show p ∈ ([] : List (Addr × Obj)) from hp) (by simp), e0.hok.kept hk, ?_⟩
  · exact name_of_addr x.apart (PySem.mem_of_lookup h1) (PySem.mem_of_lookup h2)
  · have hy : scope.names.lookup y = some .cell ∨ scope.names.lookup y = some .free := hy
    rcases hy with hy | hy
    · exact cell_has hy
    · exact absurd rfl (S.nofree _ (PySem.mem_of_lookup hy))
  · exact Nat.le_of_lt (x.above y c (PySem.mem_of_lookup h))
  · have hi : i < vs.length := by
      unfold start at h2
      by_cases hi : i < vs.length
      · exact hi
      · rw [List.getElem?_append_right (by simpa using hi)] at h2
        rw [List.getElem?_replicate] at h2
        split at h2 <;> cases h2
    have ha : vs[i]? = some v := by
      unfold start at h2
      rw [List.getElem?_append_left (by simpa using hi), List.getElem?_map] at h2
      cases e : vs[i]? with
      | none => rw [e] at h2; cases h2
      | some a => rw [e] at h2; cases h2; rfl
    obtain ⟨u, hu, rv⟩ := r.get ha
    have hp : ps[i]? = some y := by
      rw [← S.pre, List.getElem?_take_of_lt (by omega)]; exact h1
    have ndP : ps.Nodup := by rw [← S.pre]; exact S.nd.sublist (List.take_sublist _ _)
    refine ⟨u, rv, ?_⟩
    rcases S.par y (List.mem_of_getElem? hp) with k | k
    · exact .inl ⟨k, bindL_get ndP hp hu k⟩
    · obtain ⟨c, e⟩ := cell_has (n := s.heap.objs.size + 1) k
      refine .inr ⟨.inl k, c, e, ?_⟩
      have q := x.cell y c e
      rw [bindC_get ndP hp hu (by show scope.names.lookup y ≠ _; rw [k]; decide)] at q
      exact q
  · exact e0.hok.fresh (Nat.le_of_lt (x.above y c (PySem.mem_of_lookup h)))
  · unfold start
    show _ = N.length
    rw [List.length_append, List.length_map, List.length_replicate]
    omega
theorem fn_of {CX : CXT} {P : Program} {w : World} {K : PySem.W.Frag} {mg : Str → Option Value} {base : Heap} {k : Nat} {f : Addr} {name qual : Str} {params : Arguments} {body : List Stmt} {scope : Scope} {dV kV doc pm cdv ct oc : Value} {an od : Option Addr}
    {osl : Array (Option Value)} {N ps : List Str} {sp : Sp} (lk : K.lookup f = some ⟨oc, od, .func (PySem.W.fnOf name qual params body scope dV kV doc pm an cdv ct), osl⟩) (hcd : PySem.W.codeIn K cdv qual = true) (S : FnScope N ps scope)
    (len : ∀ vs H Q E, sp vs H Q E → vs.length = ps.length)
    (hbody : ∀ (A : Around) (outer : List Env) (s : Shared) (H : Hp) (vs : List V) (Q : VK) (E : XK), Room k (A.deeper (envOfC qual scope s.heap.objs.size f cdv)) → sp vs H Q E →
      ∃ t, PSs (cxOf CX P w K mg base N qual scope f cdv A outer s H E) body t ∧ t { nx := fun _ H' => Q .non H', rt := Q } (start N vs) H) :
    FnOk P w K mg base CX (k + 1) f (PySem.W.fnOf name qual params body scope dV kV doc pm an cdv ct) ps sp := by
  refine ⟨len, fun A outer s H args us vs Q E hr e0 hb r hsp => ?_⟩
  have hl := len _ _ _ _ hsp
  have KX : K.In s.heap := e0.mod.kin.keeps fun b o e => (e0.bs b o e).1
  have lim : s.heap.NoLimit := e0.mod.nolimit.keeps fun b o e => (e0.bs b o e).1
  have hkind : ∀ y ∈ ps.zip us, scope.names.lookup y.1 = some .local ∨ (scope.names.lookup y.1 = some .cell ∧ ((cellsFrom (s.heap.objs.size + 1) scope.names []).lookup y.1).isSome = true) := fun ⟨n, v⟩ hy => by
    rcases S.par n (List.of_mem_zip hy).1 with q | q
    · exact .inl q
    · exact .inr ⟨q, PySem.W.cellsFrom_some _ _ _ (.inl q)⟩
  refine codeAny_call_function hr.depth (KX _ _ lk) rfl S.co S.gen rfl (PySem.W.codeRec_of KX hcd) (hb _ _ _ _ ?_)
  refine wpAny_newFunctionEnv_cells S.kind hkind fun env he s1 x => ?_
  subst he
  refine ⟨lim.keeps x.toInCall.keep, codeAny_func ?_⟩
  obtain ⟨t, ht, hq⟩ := hbody A outer s H vs Q E (hr.deeper _) hsp
  have I : Inv (cxOf CX P w K mg base N qual scope f cdv A outer s H E) [] (start N vs) H s1 := inv_start S hr.hd e0 hl r x
  refine wpAny_mono (ht [] s1 (start N vs) H _ I hq) (fun fl s' hs => ?_) fun e s' hs => hs
  have fin : ∀ {σ' : St} {H' : Hp} {v : V} {u : Value}, Inv (cxOf CX P w K mg base N qual scope f cdv A outer s H E) [] σ' H' s' → RelV v u → Q v H' → CE outer P w H s Q u s' :=
    fun {σ' H' v u} J rv q => ⟨v, H', J.os, J.bare, J.base, J.hok, rv, q⟩
  cases fl with
  | ret u =>
    obtain ⟨v, σ', H', J, rv, q⟩ := hs
    exact fin J rv q
  | next =>
    obtain ⟨σ', H', J, q⟩ := hs
    exact fin (v := V.non) (u := Value.none) J rfl q
  | brk =>
    obtain ⟨_, _, _, q⟩ := hs
    exact False.elim q
  | cont =>
    obtain ⟨_, _, _, q⟩ := hs
    exact False.elim q
end L2
namespace L2
open PySem PySem.Spec PyProof.Rows
section
variable {X : Cx} {x : Str} {p pos : Pos} {e : Expr} {es : List Expr} {t : TA} {id T : String} {r : List V → Hp → VK → Prop}
def tCB (r : List V → Hp → VK → Prop) (t : TA) : TE := fun σ H Q => t σ H fun vs H1 => r vs H1 Q
theorem pe_callB (hc : CallR X (.builtin id) r) (hg : Gl X x) (hm : X.mg x = none) (hv : bootBuiltins x = some (.builtin id)) (ha : PA X (e :: es) t) (hn : x ≠ "__name__" := by decide) (hdb : (x == ("__debug__" : Str)) = false := by decide)
    (he : starEach (e :: es) X.env = (false, eval e X.env) :: starEach es X.env := by rfl) (hpl : (backTo pos (starEach es X.env)).any (·.1) = false := by rfl) : PE X (.Call (.Name x p) (e :: es) [] pos) (tCB r t) := by
  intro pins s σ H Q I h
  refine wpAny_Call_Name_kw (ld_blt I hg hm hv ?_ hn hdb)
  exact PyProof.Rows.callWith_builtin1 (thn (ha pos pins s σ H _ I h) fun us s1 ⟨vs, H1, I1, r1, q1⟩ => hc pins s1 σ H1 vs us Q I1 r1 q1) he hpl
theorem pe_callTy (hc : CallR X (.type T) r) (hg : Gl X x) (hm : X.mg x = none) (hv : bootBuiltins x = some (.type T)) (ha : PA X (e :: es) t) (hn : x ≠ "__name__" := by decide) (hdb : (x == ("__debug__" : Str)) = false := by decide)
    (he : starEach (e :: es) X.env = (false, eval e X.env) :: starEach es X.env := by rfl) (hpl : (backTo pos (starEach es X.env)).any (·.1) = false := by rfl) : PE X (.Call (.Name x p) (e :: es) [] pos) (tCB r t) := by
  intro pins s σ H Q I h
  refine wpAny_Call_Name_kw (ld_blt I hg hm hv ?_ hn hdb)
  exact PyProof.Rows.callWith_type1 (thn (ha pos pins s σ H _ I h) fun us s1 ⟨vs, H1, I1, r1, q1⟩ => hc pins s1 σ H1 vs us Q I1 r1 q1) he hpl
end
end L2
namespace HT
open PySem PyProof.Rows
section
open PySem.SeqAt
open PySem.AutoSeq1 (wpAny_loadPart')
open PySem.MeetsSeq PySem.MeetsSeq2 PySem.MeetsSeq3
end
section
variable {prog : Program} {w : World} {A : Around} {E : Value → Shared → Prop} {s : Shared}
def sIx (n d : Nat) : Option Int → Nat
  | none => d
  | some v => if v < 0 then (v + (n : Int)).toNat else min v.toNat n
theorem sIx_none (n d : Nat) : sIx n d none = d := rfl
theorem sIx_nat (n d k : Nat) : sIx n d (some (k : Int)) = min k n := by
  show (if (k : Int) < 0 then ((k : Int) + (n : Int)).toNat else min (k : Int).toNat n) = min k n
  rw [if_neg (by omega), Int.toNat_natCast]
end
end HT
namespace L2
open PySem PySem.Spec PyProof.Rows
abbrev TO := St → Hp → (Option Int → Hp → Prop) → Prop
def PO (X : Cx) (e : Option Expr) (t : TO) : Prop :=
  ∀ (pins : List (Addr × Obj)) (s : Shared) (σ : St) (H : Hp) (Q : Option Int → Hp → Prop), Inv X pins σ H s → t σ H Q →
    wpAny (model X.prog X.w) X.A (evalPart e X.env) (fun u s' => ∃ o H', Inv X pins σ H' s' ∧ IsPart u o ∧ Q o H') X.xe s
def tNoPart : TO := fun _ H Q => Q none H
def tPart (t : TE) : TO := fun σ H Q => t σ H fun x H1 => ∃ i, x = .int i ∧ Q (some i) H1
section
variable {X : Cx} {e : Expr} {te : TE} {lo hi : Option Expr} {tl th : TO} {pos p2 : Pos}
theorem po_none : PO X none tNoPart := by
  intro pins s σ H Q I h
  rw [evalPart_none]
  exact wpAny_pure ⟨none, H, I, .none, h⟩
theorem po_some (h : PE X e te) : PO X (some e) (tPart te) := by
  intro pins s σ H Q I hw
  rw [evalPart_some]
  refine thn (h pins s σ H _ I hw) fun u s1 ⟨x, H1, I1, r1, q1⟩ => ?_
  obtain ⟨i, rfl, q⟩ := q1
  obtain ⟨t, rfl⟩ := r1
  exact ⟨some i, H1, I1, .int i t, q⟩
def SlR (X : Cx) (r : V → Option Int → Option Int → Hp → VK → Prop) : Prop :=
  ∀ (pins : List (Addr × Obj)) (s : Shared) (σ : St) (H : Hp) (x : V) (v vl vu : Value) (lo hi : Option Int) (sl : Addr) (Q : VK), Inv X pins σ H s → RelV x v → s.heap.IsSliceOf sl vl vu .none → IsPart vl lo → IsPart vu hi → r x lo hi H Q →
    ∃ T id, typeLookup (.type T) "__getitem__" = pure (some (.builtin id)) ∧ s.TypeIs v T ∧ wpAny (model X.prog X.w) X.A (getItem v (.ref sl)) (EP X pins σ Q) X.xe s
def tSl (r : V → Option Int → Option Int → Hp → VK → Prop) (te : TE) (tl th : TO) : TE := fun σ H Q => te σ H fun x H1 => tl σ H1 fun l H2 => th σ H2 fun u H3 => r x l u H3 Q
theorem pe_slice {r : V → Option Int → Option Int → Hp → VK → Prop} (hr : SlR X r) (he : PE X e te) (hl : PO X lo tl) (hu : PO X hi th) : PE X (.Subscript e (.Slice lo hi none p2) pos) (tSl r te tl th) := by
  intro pins s σ H Q I h
  refine Subscript_ (thn (he pins s σ H _ I h) fun v s1 ⟨x, H1, I1, r1, q1⟩ => ?_)
  refine wpAny_Slice (thn (hl pins s1 σ H1 _ I1 q1) fun vl s2 ⟨l, H2, I2, pl, q2⟩ => thn (hu pins s2 σ H2 _ I2 q2) fun vu s3 ⟨u, H3, I3, pu, q3⟩ => ?_)
  rw [evalPart_none]
  refine wpAny_pure ?_
  have I4 : Inv X pins σ H3 { s3 with heap := s3.heap.push { cls := .type "slice", data := .fields #[vl, vu, .none] } } := I3.kept (t' := s3.toks) fun b ob q => Heap.get?_push_of_some _ q
  obtain ⟨T, id, hT, ht, hg⟩ := hr pins { s3 with heap := s3.heap.push { cls := .type "slice", data := .fields #[vl, vu, .none] } } σ H3 x v vl vu l u s3.heap.objs.size Q I4 r1 (Heap.IsSliceOf.new ..) pl pu q3
  show wpAny (model X.prog X.w) X.A (subscriptTail e (.Slice lo hi none p2) v (.ref s3.heap.objs.size)) (EP X pins σ Q) X.xe { s3 with heap := s3.heap.push { cls := .type "slice", data := .fields #[vl, vu, .none] } }
  exact tail_any (ops := [.ref s3.heap.objs.size, v]) ht hT hg (by with_unfolding_all rfl)
def cutV (xs : List V) (lo hi : Option Int) : List V := (xs.drop (HT.sIx xs.length 0 lo)).take (HT.sIx xs.length xs.length hi - HT.sIx xs.length 0 lo)
theorem cutV_length (xs : List V) (lo hi : Option Int) : (cutV xs lo hi).length ≤ xs.length := by
  unfold cutV
  rw [List.length_take, List.length_drop]
  omega
end
end L2
namespace L2
open PySem PySem.Spec PyProof.Rows
def ixN (n : Nat) (i : Int) : Option Nat := if 0 ≤ i then (if i < n then some i.toNat else none) else if -(n : Int) ≤ i then some (i + n).toNat else none
def atI {α : Type} (xs : List α) (i : Int) : Option α := (ixN xs.length i).bind fun j => xs[j]?
theorem ixN_seq {n : Nat} {i : Int} {j : Nat} (h : ixN n i = some j) : seqIndex? i n = some j ∧ j < n ∧ -(n : Int) ≤ i ∧ i < n := by
  unfold ixN at h
  by_cases h0 : 0 ≤ i
  · rw [if_pos h0] at h
    by_cases h1 : i < n
    · rw [if_pos h1] at h
      have e : i.toNat = j := Option.some.inj h
      exact ⟨by rw [seqIndex_of h0 h1, e], by omega, by omega, h1⟩
    · rw [if_neg h1] at h; cases h
  · rw [if_neg h0] at h
    by_cases h1 : -(n : Int) ≤ i
    · rw [if_pos h1] at h
      have e : (i + n).toNat = j := Option.some.inj h
      exact ⟨by rw [seqIndex_neg (by omega) h1, e], by omega, h1, by omega⟩
    · rw [if_neg h1] at h; cases h
theorem atI_get {α : Type} {xs : List α} {i : Int} {v : α} (h : atI xs i = some v) : ∃ j, seqIndex? i xs.length = some j ∧ xs[j]? = some v ∧ j < xs.length ∧ -(xs.length : Int) ≤ i ∧ i < xs.length := by
  unfold atI at h
  cases e : ixN xs.length i with
  | none => rw [e] at h; cases h
  | some j =>
    rw [e] at h
    obtain ⟨h1, h2, h3, h4⟩ := ixN_seq e
    exact ⟨j, h1, h, h2, h3, h4⟩
theorem atI_nat {α : Type} {xs : List α} {j : Nat} {v : α} (h : xs[j]? = some v) : atI xs (j : Int) = some v := by
  have hj : j < xs.length := (List.getElem?_eq_some_iff.mp h).1
  have e : ixN xs.length (j : Int) = some j := by
    unfold ixN
    rw [if_pos (by omega), if_pos (by omega)]; simp
  unfold atI; rw [e]; exact h
theorem atI_last {α : Type} (xs : List α) (v : α) : atI (xs ++ [v]) (-1) = some v := by
  have hl : (xs ++ [v]).length = xs.length + 1 := by simp
  have e : ixN (xs ++ [v]).length (-1) = some xs.length := by
    unfold ixN
    rw [hl, if_neg (by decide), if_pos (by omega)]
    congr 1
    omega
  unfold atI
  rw [e]
  show (xs ++ [v])[xs.length]? = some v
  simp
def PlainIx (b : Expr) : Prop := ∀ o i, subscripted b false o i = operate [o, i] (getItem o i)
def IxR (X : Cx) (r : R2) : Prop :=
  ∀ (value slice : Expr) (pins : List (Addr × Obj)) (s : Shared) (σ : St) (H : Hp) (x y : V) (v u : Value) (Q : VK), Inv X pins σ H s → RelV x v → RelV y u → r x y H Q →
    subscripted slice false v u = operate [v, u] (getItem v u) → wpAny (model X.prog X.w) X.A (subscriptTail value slice v u) (EP X pins σ Q) X.xe s
def MtR (X : Cx) (id : String) (r : V → List V → Hp → VK → Prop) : Prop :=
  ∀ (pins : List (Addr × Obj)) (s : Shared) (σ : St) (H : Hp) (x : V) (xs : List V) (v : Value) (us : List Value) (Q : VK), Inv X pins σ H s → RelV x v → Vals xs us → r x xs H Q →
    wpAny (model X.prog X.w) X.A (call (.builtin id) (v :: us)) (EP X pins σ Q) X.xe s
section
variable {X : Cx} {a b : Expr} {ta tb : TE} {pos : Pos}
theorem pe_ix {r : R2} (hr : IxR X r) (ha : PE X a ta) (hb : PE X b tb) (hs : PlainIx b) : PE X (.Subscript a b pos) (tOp r ta tb) := by
  intro pins s σ H Q I h
  exact Subscript_ (binT ha hb I h fun v u s2 x y H2 I2 rx ry q => hr a b pins s2 σ H2 x y v u Q I2 rx ry q (hs _ _))
def rIxL (K : PySem.W.Frag) : R2 := fun x y H Q => ∃ p xs i v, x = .ref p ∧ y = .int i ∧ SqL K H p xs ∧ atI xs i = some v ∧ Q v H
def rIxT (K : PySem.W.Frag) : R2 := fun x y H Q => ∃ p xs i v, x = .ref p ∧ y = .int i ∧ SqT K H p xs ∧ atI xs i = some v ∧ Q v H
theorem ix_list : IxR X (rIxL X.K) := by
  intro value slice pins s σ H x y v u Q I rx ry h hs
  obtain ⟨p, xs, i, z, rfl, rfl, hq, he, q⟩ := h
  cases rx
  obtain ⟨t, rfl⟩ := ry
  obtain ⟨its, r, pl, hz⟩ := I.list hq
  obtain ⟨j, h1, h2, h3, h4, h5⟩ := atI_get he
  obtain ⟨w, ew, rw'⟩ := r.get h2
  have hl := r.length
  have hn := line63
  have fin : EP X pins σ Q w s := ⟨z, H, I, rw', q⟩
  by_cases h0 : 0 ≤ i
  · have hj : i.toNat = j := by
      rw [seqIndex_of h0 h5] at h1
      exact Option.some.inj h1
    exact item_listR pl.isList h0 (by omega) (by rw [hj]; simpa using ew) fin hs
  · have hj : (i + (its.toArray.size : Int)).toNat = j := by
      rw [seqIndex_neg (by omega) h4] at h1
      rw [List.size_toArray, ← hl]
      exact Option.some.inj h1
    exact subscriptTail_builtinR (x := w) pl.isList.typeIs slot_list_getitem.lookup
      (wpAny_getItem_list_neg (Q := fun r s' => r = w ∧ EP X pins σ Q r s') pl.isList (by omega) (by rw [List.size_toArray] <;> omega) (by omega) (by rw [hj]; simpa using ew) ⟨rfl, fin⟩) hs
theorem ix_tup : IxR X (rIxT X.K) := by
  intro value slice pins s σ H x y v u Q I rx ry h hs
  obtain ⟨p, xs, i, z, rfl, rfl, hq, he, q⟩ := h
  cases rx
  obtain ⟨t, rfl⟩ := ry
  obtain ⟨its, r, pl, hz⟩ := I.tuple hq
  obtain ⟨j, h1, h2, h3, h4, h5⟩ := atI_get he
  obtain ⟨w, ew, rw'⟩ := r.get h2
  have hl := r.length
  have hn := line63
  have fin : EP X pins σ Q w s := ⟨z, H, I, rw', q⟩
  exact subscriptTail_builtinR (x := w) pl.typeIs slot_tuple_getitem.lookup
    (getItem_tuple (j := j) (Q := fun r s' => r = w ∧ EP X pins σ Q r s') pl (by omega) (by omega) (by rw [List.size_toArray, ← hl]; exact h1) (by simpa using ew) ⟨rfl, fin⟩) hs
theorem mapSeq_set (its : List Value) (n j : Nat) (u : Value) : Obj.mapSeq (·.setIfInBounds j u) { cls := .type "list", data := .seq its.toArray n } = { cls := .type "list", data := .seq (its.set j u).toArray n } := by
  simp [Obj.mapSeq]
theorem Inv.lst {pins : List (Addr × Obj)} {σ : St} {H : Hp} {s : Shared} {p : Addr} {xs : List V} (I : Inv X pins σ H s) (h : H p = some (.lst xs)) :
    ∃ (its : List Value) (n : Nat), Vals xs its ∧ s.heap.get? p = some { cls := .type "list", data := .seq its.toArray n } ∧ xs.length ≤ sizeLine := by
  obtain ⟨z, its, n, r, e⟩ := I.hok p _ h
  exact ⟨its, n, r, e, z⟩
theorem Inv.lstUpd {pins : List (Addr × Obj)} {σ : St} {H : Hp} {s : Shared} {p : Addr} {xs ys : List V} {its its' : List Value} {n n' : Nat} {f : Obj → Obj} (I : Inv X pins σ H s) (h : H p = some (.lst xs))
    (ho : s.heap.get? p = some { cls := .type "list", data := .seq its.toArray n }) (hf : f { cls := .type "list", data := .seq its.toArray n } = { cls := .type "list", data := .seq its'.toArray n' }) (r : Vals ys its') (hz : ys.length ≤ sizeLine) (t : Nat) :
    Inv X pins σ (upd H p (.lst ys)) { s with heap := s.heap.update p f, toks := t } := by
  have e : (s.heap.update p f).get? p = some { cls := .type "list", data := .seq its'.toArray n' } := by
    rw [Heap.get?_update_self f ho (by rw [hf] <;> rfl), hf]
  refine I.write (x := p) (e := p) (by rw [h]; trivial) (.inl rfl) (fun b u hb q => (Heap.get?_update_other _ _ (Ne.symm hb)).trans q) ⟨_, e⟩ ?_
  exact ⟨hz, its', n', r, e⟩
def rSetL : V → V → V → Hp → (Hp → Prop) → Prop := fun o i v H Q => ∃ p xs k j, o = .ref p ∧ i = .int k ∧ H p = some (.lst xs) ∧ ixN xs.length k = some j ∧ Q (upd H p (.lst (xs.set j v)))
theorem set_list : PSet X rSetL := by
  intro pins s σ H o i v ov iv u Q I ro ri rv h
  obtain ⟨p, xs, k, j, rfl, rfl, hp, hj, q⟩ := h
  cases ro
  obtain ⟨t, rfl⟩ := ri
  obtain ⟨its, n, r, ho, hz⟩ := I.lst hp
  obtain ⟨h1, h2, h3, h4⟩ := ixN_seq hj
  have hl := r.length
  have hn := line63
  have I' : Inv X pins σ (upd H p (.lst (xs.set j v))) { s with heap := s.heap.update p (Obj.mapSeq (·.setIfInBounds j u)) } :=
    I.lstUpd hp ho (mapSeq_set its n j u) (r.set rv j) (by rw [List.length_set]; exact hz) s.toks
  by_cases h0 : 0 ≤ k
  · have hk : k.toNat = j := by
      rw [seqIndex_of h0 h4] at h1
      exact Option.some.inj h1
    exact PySem.W.ki_setAt ho h0 (by omega) (by rw [List.size_toArray, ← hl]; exact h4) (by rw [hk]; exact ⟨_, I', q⟩)
  · have hk : (k + (its.toArray.size : Int)).toNat = j := by
      rw [seqIndex_neg (by omega) h3] at h1
      rw [List.size_toArray, ← hl]
      exact Option.some.inj h1
    exact PySem.W.ki_setBack ho (by omega) (by rw [List.size_toArray, ← hl]; exact h3) (by omega) (by rw [hk]; exact ⟨_, I', q⟩)
theorem slice_bounds (lo hi : Option Int) (n : Nat) : (sliceBounds lo hi none n).1 = ((HT.sIx n 0 lo : Nat) : Int) ∧ (sliceBounds lo hi none n).2.1 = ((HT.sIx n n hi : Nat) : Int) ∧ (sliceBounds lo hi none n).2.2 = 1 := by
  refine ⟨?_, ?_, rfl⟩
  · cases lo with
    | none => simp [sliceBounds, HT.sIx]
    | some i =>
      simp only [sliceBounds, HT.sIx, Option.getD_none, show (1 : Int) > 0 by decide, if_true]
      by_cases h : i < 0
      · simp only [h, if_true] <;> omega
      · simp only [h, if_false] <;> omega
  · cases hi with
    | none => simp [sliceBounds, HT.sIx]
    | some i =>
      simp only [sliceBounds, HT.sIx, Option.getD_none, show (1 : Int) > 0 by decide, if_true]
      by_cases h : i < 0
      · simp only [h, if_true] <;> omega
      · simp only [h, if_false] <;> omega
theorem slicePick_cut (its : List Value) (lo hi : Option Int) : slicePick its.toArray lo hi none = ((its.drop (HT.sIx its.length 0 lo)).take (HT.sIx its.length its.length hi - HT.sIx its.length 0 lo)).toArray := by
  obtain ⟨h1, h2, h3⟩ := slice_bounds lo hi its.toArray.size
  unfold slicePick
  rw [h1, h2, h3]
  simp only [sliceRange_one, pick_run, List.size_toArray] <;> rfl
def rSlL (K : PySem.W.Frag) : V → Option Int → Option Int → Hp → VK → Prop := fun x lo hi H Q => ∃ a xs, x = .ref a ∧ SqL K H a xs ∧ ∀ p, H p = none → Q (.ref p) (upd H p (.lst (cutV xs lo hi)))
theorem sl_list : SlR X (rSlL X.K) := by
  intro pins s σ H x v vl vu lo hi sl Q I rx hs pl pu h
  obtain ⟨a, xs, rfl, hx, q⟩ := h
  cases rx
  obtain ⟨its, r, ht, hz⟩ := I.list hx
  have hlen := r.length
  refine ⟨"list", _, slot_list_getitem.lookup, ht.isList.typeIs, ?_⟩
  refine wpAny_getItem_list_slice ht.isList hs pl pu .none (by simp) ?_ (by rw [List.size_toArray] <;> omega)
  rw [slicePick_cut, ← hlen]
  refine ⟨.ref s.heap.objs.size, _, I.laid (t' := s.toks) (o := .lst (cutV xs lo hi)) (fun b ob q => Heap.get?_push_of_some _ q) (Nat.le_refl _) ?_, rfl, q _ (I.hok.fresh (Nat.le_refl _))⟩
  exact ⟨Nat.le_trans (cutV_length xs lo hi) hz, _, 0, (r.drop (HT.sIx xs.length 0 lo)).take (HT.sIx xs.length xs.length hi - HT.sIx xs.length 0 lo), Heap.get?_push_size _ rfl⟩
def flatV : V → Bool
  | .non => true
  | .bl _ => true
  | .int _ => true
  | .str _ => true
  | _ => false
def eqV : V → V → Bool
  | .non, .non => true
  | .bl a, .bl b => a == b
  | .bl a, .int b => (if a then 1 else 0) == b
  | .int a, .bl b => a == (if b then 1 else 0)
  | .int a, .int b => a == b
  | .str a, .str b => a == b
  | _, _ => false
theorem eqAt_V {A : Around} {s : Shared} {y x : V} {u v : Value} (ry : RelV y u) (rx : RelV x v) (fy : flatV y = true) (fx : flatV x = true) : SeqAt.EqAt A s u v (eqV y x) := by
  cases y with
  | non =>
    cases ry
    cases x with
    | non => cases rx; exact SeqAt.EqAt.same _
    | bl b => cases rx; exact SeqAt.EqAt.none_bool b
    | int b => obtain ⟨t, rfl⟩ := rx; exact SeqAt.EqAt.none_int b t
    | str b => obtain ⟨t, rfl⟩ := rx; exact SeqAt.EqAt.none_str b t
    | _ => exact absurd (show false = true from fx) Bool.false_ne_true
  | bl a =>
    cases ry
    cases x with
    | non => cases rx; exact SeqAt.EqAt.bool_none a
    | bl b => cases rx; exact SeqAt.EqAt.bool_bool a b
    | int b => obtain ⟨t, rfl⟩ := rx; exact SeqAt.EqAt.bool_int a b t
    | str b => obtain ⟨t, rfl⟩ := rx; exact SeqAt.EqAt.bool_str a b t
    | _ => exact absurd (show false = true from fx) Bool.false_ne_true
  | int a =>
    obtain ⟨t', rfl⟩ := ry
    cases x with
    | non => cases rx; exact SeqAt.EqAt.int_none a t'
    | bl b => cases rx; exact SeqAt.EqAt.int_bool a t' b
    | int b => obtain ⟨t, rfl⟩ := rx; exact SeqAt.EqAt.int_int a t' b t
    | str b => obtain ⟨t, rfl⟩ := rx; exact SeqAt.EqAt.int_str a t' b t
    | _ => exact absurd (show false = true from fx) Bool.false_ne_true
  | str a =>
    obtain ⟨t', rfl⟩ := ry
    cases x with
    | non => cases rx; exact SeqAt.EqAt.str_none a t'
    | bl b => cases rx; exact SeqAt.EqAt.str_bool a t' b
    | int b => obtain ⟨t, rfl⟩ := rx; exact SeqAt.EqAt.str_int a t' b t
    | str b => obtain ⟨t, rfl⟩ := rx; exact SeqAt.EqAt.str_str a t' b t
    | _ => exact absurd (show false = true from fx) Bool.false_ne_true
  | _ => exact absurd (show false = true from fy) Bool.false_ne_true
def eqU (x : V) (u : Value) : Bool := match u with
  | .none => eqV .non x
  | .bool b => eqV (.bl b) x
  | .int i _ => eqV (.int i) x
  | .str z _ => eqV (.str z) x
  | _ => false
theorem eqU_of {x y : V} {u : Value} (r : RelV y u) (f : flatV y = true) : eqU x u = eqV y x := by
  cases y with
  | non => cases r; rfl
  | bl b => cases r; rfl
  | int i => obtain ⟨t, rfl⟩ := r; rfl
  | str z => obtain ⟨t, rfl⟩ := r; rfl
  | _ => exact absurd (show false = true from f) Bool.false_ne_true
theorem any_eqU {x : V} : ∀ {xs : List V} {us : List Value}, Vals xs us → xs.all flatV = true → us.any (eqU x) = xs.any fun y => eqV y x
  | _, _, .nil, _ => rfl
  | y :: xs, u :: us, .cons r t, f => by
    rw [List.all_cons, Bool.and_eq_true] at f
    rw [List.any_cons, List.any_cons, eqU_of r f.1, any_eqU t f.2]
theorem mem_eqAt {A : Around} {s : Shared} {x : V} {v : Value} (rx : RelV x v) (fx : flatV x = true) : ∀ {xs : List V} {us : List Value}, Vals xs us → xs.all flatV = true → ∀ u ∈ us, SeqAt.EqAt A s u v (eqU x u)
  | _, _, .nil, _ => fun u hu => by cases hu
  | y :: xs, u :: us, .cons r t, f => fun u' hu => by
    rw [List.all_cons, Bool.and_eq_true] at f
    rcases List.mem_cons.mp hu with rfl | hu
    · rw [eqU_of r f.1]; exact eqAt_V r rx f.1 fx
    · exact mem_eqAt rx fx t f.2 u' hu
def inV (x : V) (xs : List V) : Bool := xs.any fun y => eqV y x
def rIn (K : PySem.W.Frag) (neg : Bool) : R2 := fun x y H Q => ∃ p xs, y = .ref p ∧ (SqL K H p xs ∨ SqT K H p xs) ∧ flatV x = true ∧ xs.all flatV = true ∧ Q (.bl (if neg then !inV x xs else inV x xs)) H
theorem op_in_seq : OpR X (compareOp .In) (rIn X.K false) := by
  intro pins s σ H x y v u Q I rx ry h
  obtain ⟨p, xs, rfl, hq, fx, fs, q⟩ := h
  cases ry
  rcases hq with hq | hq
  · obtain ⟨its, r, pl, hz⟩ := I.list hq
    refine SeqAt.in_listAt (eqU x) pl.isList (fun w hw => mem_eqAt rx fx r fs w (by simpa using hw)) ⟨.bl _, H, I, rfl, ?_⟩
    rw [show its.toArray.any (eqU x) = its.any (eqU x) by simp, any_eqU r fs]
    exact q
  · obtain ⟨its, r, pl, hz⟩ := I.tuple hq
    refine SeqAt.in_tupleAt (eqU x) pl (fun w hw => mem_eqAt rx fx r fs w (by simpa using hw)) ⟨.bl _, H, I, rfl, ?_⟩
    rw [show its.toArray.any (eqU x) = its.any (eqU x) by simp, any_eqU r fs]
    exact q
theorem op_notIn_seq : OpR X (compareOp .NotIn) (rIn X.K true) := by
  intro pins s σ H x y v u Q I rx ry h
  obtain ⟨p, xs, rfl, hq, fx, fs, q⟩ := h
  cases ry
  rcases hq with hq | hq
  · obtain ⟨its, r, pl, hz⟩ := I.list hq
    refine SeqAt.notIn_listAt (eqU x) pl.isList (fun w hw => mem_eqAt rx fx r fs w (by simpa using hw)) ⟨.bl _, H, I, rfl, ?_⟩
    rw [show its.toArray.any (eqU x) = its.any (eqU x) by simp, any_eqU r fs]
    exact q
  · obtain ⟨its, r, pl, hz⟩ := I.tuple hq
    refine SeqAt.notIn_tupleAt (eqU x) pl (fun w hw => mem_eqAt rx fx r fs w (by simpa using hw)) ⟨.bl _, H, I, rfl, ?_⟩
    rw [show its.toArray.any (eqU x) = its.any (eqU x) by simp, any_eqU r fs]
    exact q
theorem call_len_seq : CallR X (.builtin "len") (fun xs H Q => ∃ p ys, xs = [.ref p] ∧ (SqL X.K H p ys ∨ SqT X.K H p ys) ∧ Q (.int ys.length) H) := by
  intro pins s σ H xs us Q I r h
  obtain ⟨p, ys, rfl, hq, q⟩ := h
  obtain ⟨u, rfl, rx⟩ := vals1 r
  cases rx
  have hn := line63
  rcases hq with hq | hq
  · obtain ⟨its, r', pl, hz⟩ := I.list hq
    have hlen := r'.length
    exact Calls.call_len_list pl.isList (by simp only [List.size_toArray] <;> omega) ⟨.int ys.length, H, I.tok _, ⟨s.toks + 1, by rw [List.size_toArray, hlen]⟩, q⟩
  · obtain ⟨its, r', pl, hz⟩ := I.tuple hq
    have hlen := r'.length
    exact len_tuple pl (by simp only [List.size_toArray] <;> omega) ⟨.int ys.length, H, I.tok _, ⟨s.toks + 1, by rw [List.size_toArray, hlen]⟩, q⟩
theorem call_list_of : CallR X (.type "list") (fun xs H Q => ∃ p ys, xs = [.ref p] ∧ (SqL X.K H p ys ∨ SqT X.K H p ys) ∧ ∀ l, H l = none → Q (.ref l) (upd H l (.lst ys))) := by
  intro pins s σ H xs us Q I r h
  obtain ⟨p, ys, rfl, hq, q⟩ := h
  obtain ⟨u, rfl, rx⟩ := vals1 r
  cases rx
  have fin : ∀ (its : List Value), Vals ys its → ys.length ≤ sizeLine → ∀ (h' : Heap) (c' : Nat), (∀ b o', s.heap.get? b = some o' → h'.get? b = some o') →
      h'.get? s.heap.objs.size = some { cls := .type "list", dict := none, data := .seq its.toArray c', slots := #[] } → EP X pins σ Q (.ref s.heap.objs.size) { s with heap := h' } := fun its r' hz h' c' kp e =>
    ⟨.ref s.heap.objs.size, _, I.laid (t' := s.toks) kp (Nat.le_refl _) (show ObjOk X.prog X.w _ h' _ (.lst ys) from ⟨hz, its, c', r', e⟩), rfl, q _ (I.hok.fresh (Nat.le_refl _))⟩
  rcases hq with hq | hq
  · obtain ⟨its, r', pl, hz⟩ := I.list hq
    have hlen := r'.length
    obtain ⟨o, ho, hc, n, hd⟩ := pl.isList
    exact call_list_seq p (.inl rfl) ho hc hd (fun h' c' kp e => fin its r' hz h' c' kp e) (by simp only [List.size_toArray] <;> omega)
  · obtain ⟨its, r', pl, hz⟩ := I.tuple hq
    have hlen := r'.length
    obtain ⟨o, ho, hc, n, hd⟩ := pl
    exact call_list_seq p (.inr rfl) ho hc hd (fun h' c' kp e => fin its r' hz h' c' kp e) (by simp only [List.size_toArray] <;> omega)
def tyV (K : PySem.W.Frag) (T : String) (x : V) (H : Hp) : Prop := match x with
  | .str _ => T = "str"
  | .int _ => T = "int"
  | .ref p => (T = "list" ∧ ∃ xs, SqL K H p xs) ∨ (T = "tuple" ∧ ∃ o, K.lookup p = some o ∧ o.cls = .type "tuple" ∧ o.dict = none) ∨
      (T = "dict" ∧ ((∃ kvs, H p = some (.dK kvs)) ∨ ∃ kvs, H p = some (.dT kvs))) ∨ (T = "set" ∧ ∃ S n, H p = some (.set S n))
  | _ => False
theorem tyV_is {pins : List (Addr × Obj)} {σ : St} {H : Hp} {s : Shared} {T : String} {x : V} {v : Value} (I : Inv X pins σ H s) (r : RelV x v) (ty : tyV X.K T x H) :
    s.TypeIs v T ∧ ∀ a, v = .ref a → ∃ ob, s.heap.get? a = some ob ∧ ob.dict = none := by
  cases x with
  | str z =>
    obtain ⟨t, rfl⟩ := r
    cases (show T = "str" from ty)
    exact ⟨typeIs_str s z t, fun _ e => nomatch e⟩
  | int i =>
    obtain ⟨t, rfl⟩ := r
    cases (show T = "int" from ty)
    exact ⟨typeIs_int s i t, fun _ e => nomatch e⟩
  | ref p =>
    cases r
    rcases ty with ⟨rfl, xs, hq⟩ | ⟨rfl, o, hk, hc, hd⟩ | ⟨rfl, hk⟩ | ⟨rfl, S, n, hk⟩
    · obtain ⟨its, _, pl, _⟩ := I.list hq
      refine ⟨pl.isList.typeIs, fun a e => ?_⟩
      cases e
      obtain ⟨o, n, e, c, hd, _⟩ := pl
      exact ⟨o, e, hd⟩
    · refine ⟨⟨o, I.kIn p o hk, hc⟩, fun a e => ?_⟩
      cases e
      exact ⟨o, I.kIn _ o hk, hd⟩
    · have z : ∃ o, s.heap.get? p = some o ∧ o.ExactDict := by
        rcases hk with ⟨kvs, hk⟩ | ⟨kvs, hk⟩
        · obtain ⟨_, _, _, _, o, _, _, e, ex, _⟩ := I.hok p _ hk
          exact ⟨o, e, ex⟩
        · obtain ⟨_, _, _, _, o, _, _, e, ex, _⟩ := I.hok p _ hk
          exact ⟨o, e, ex⟩
      obtain ⟨o, e, ex⟩ := z
      refine ⟨⟨o, e, ex.1⟩, fun a e2 => ?_⟩
      cases e2
      exact ⟨o, e, ex.2.1⟩
    · obtain ⟨o, _, _, _, e, ex, _⟩ := I.hok p _ hk
      refine ⟨⟨o, e, ex.1⟩, fun a e2 => ?_⟩
      cases e2
      exact ⟨o, e, ex.2.1⟩
  | _ => exact False.elim ty
variable {o e : Expr} {es : List Expr} {to : TE} {t : TA} {name : Str} {apos cpos : Pos} {T id : String} {r : V → List V → Hp → VK → Prop}
end
end L2
namespace L2
open PySem PySem.Spec PyProof.Rows
def MtM (X : Cx) (id : String) (r : V → List V → Hp → VK → Prop) : Prop :=
  ∀ (pins : List (Addr × Obj)) (s : Shared) (σ : St) (H : Hp) (x : V) (xs : List V) (v : Value) (us : List Value) (Q : VK), Inv X pins σ H s → RelV x v → Vals xs us → r x xs H Q →
    wpAny (model X.prog X.w) X.A (call (.builtin id) (v :: us)) (EP X pins σ Q) X.xe s
theorem Vals.one : ∀ {x : V} {us : List Value}, Vals [x] us → ∃ u, us = [u] ∧ RelV x u
  | _, _, .cons r .nil => ⟨_, rfl, r⟩
theorem Vals.zero : ∀ {us : List Value}, Vals [] us → us = []
  | _, .nil => rfl
theorem Vals.dropLast {xs : List V} {us : List Value} (h : Vals xs us) : Vals xs.dropLast us.dropLast := by
  induction h with
  | nil => exact .nil
  | cons r t ih =>
    cases t with
    | nil => exact .nil
    | cons q t' => exact .cons r ih
theorem Vals.eraseIdx : ∀ {xs : List V} {us : List Value} (i : Nat), Vals xs us → Vals (xs.eraseIdx i) (us.eraseIdx i)
  | _, _, _, .nil => .nil
  | _, _, 0, .cons _ t => t
  | _, _, i + 1, .cons r t => .cons r (Vals.eraseIdx i t)
theorem Vals.reverse {xs : List V} {us : List Value} (h : Vals xs us) : Vals xs.reverse us.reverse := by
  induction h with
  | nil => exact .nil
  | cons r t ih => rw [List.reverse_cons, List.reverse_cons]; exact Vals.append ih (.cons r .nil)
theorem Vals.rep {xs : List V} {us : List Value} (h : Vals xs us) : ∀ k : Nat, Vals (List.replicate k xs).flatten (List.replicate k us).flatten
  | 0 => .nil
  | k + 1 => by
    rw [List.replicate_succ, List.replicate_succ, List.flatten_cons, List.flatten_cons]
    exact Vals.append h (Vals.rep h k)
theorem erase_last {α : Type} (l : List α) : l.eraseIdx (l.length - 1) = l.dropLast := by
  induction l with
  | nil => rfl
  | cons a r ih =>
    cases r with
    | nil => rfl
    | cons b r =>
      have e : (a :: b :: r).length - 1 = ((b :: r).length - 1) + 1 := by
        have h1 : (a :: b :: r).length = r.length + 2 := rfl
        have h2 : (b :: r).length = r.length + 1 := rfl
        omega
      rw [e, List.eraseIdx_cons_succ, ih]
      all_goals rfl
theorem len_erase {α : Type} : ∀ (l : List α) (i : Nat), (l.eraseIdx i).length ≤ l.length
  | [], _ => Nat.le_refl _
  | _ :: _, 0 => Nat.le_succ _
  | _ :: r, i + 1 => Nat.succ_le_succ (len_erase r i)
theorem foldl_rep (its : List Value) : ∀ (k : Nat) (acc : List Value),
    List.foldl (fun x1 x2 => x1 ++ x2) acc.toArray (List.replicate k its.toArray) = (acc ++ (List.replicate k its).flatten).toArray
  | 0, acc => by simp
  | k + 1, acc => by
    have e : acc.toArray ++ its.toArray = (acc ++ its).toArray := by simp
    have e2 : (acc ++ its) ++ (List.replicate k its).flatten = acc ++ (List.replicate (k + 1) its).flatten := by
      rw [List.replicate_succ, List.flatten_cons, List.append_assoc]
    rw [← e2, ← foldl_rep its k (acc ++ its), ← e, List.replicate_succ, List.foldl_cons]
section
variable {X : Cx} {pins : List (Addr × Obj)} {σ : St} {H : Hp} {s : Shared} {l b : Addr} {xs ys zs : List V}
theorem Inv.lset {its its' : List Value} {n : Nat} {f : Array Value → Array Value} {t' : Nat} (I : Inv X pins σ H s) (hH : H l = some (.lst xs))
    (e : s.heap.get? l = some { cls := .type "list", data := .seq its.toArray n }) (hf : f its.toArray = its'.toArray) (hv : Vals ys its') (hz : ys.length ≤ sizeLine) :
    Inv X pins σ (upd H l (.lst ys)) { s with heap := s.heap.update l (Obj.mapSeq f), toks := t' } := by
  have q := PySem.IsL.update e f
  rw [hf] at q
  refine I.write (x := l) (e := l) (by rw [hH]; exact trivial) (.inl rfl) (fun b' u hb hu => (Heap.get?_update_other s.heap (Obj.mapSeq f) (Ne.symm hb)).trans hu) ⟨_, q⟩ ?_
  exact ⟨hz, its', _, hv, q⟩
theorem Inv.lnew {its : List Value} {t' : Nat} (I : Inv X pins σ H s) (hv : Vals ys its) (hz : ys.length ≤ sizeLine) :
    Inv X pins σ (upd H s.heap.objs.size (.lst ys)) { s with heap := s.heap.push { cls := .type "list", data := .seq its.toArray }, toks := t' } :=
  I.laid (fun _ _ q => Heap.get?_push_of_some _ q) (Nat.le_refl _) ⟨hz, its, 0, hv, Heap.get?_push_size _ rfl⟩
theorem Inv.fresh (I : Inv X pins σ H s) : H s.heap.objs.size = none := I.hok.fresh (Nat.le_refl _)
theorem Inv.lstM (I : Inv X pins σ H s) (hH : H l = some (.lst xs)) : xs.length ≤ sizeLine ∧ ∃ (its : List Value) (n : Nat), Vals xs its ∧ xs.length = its.length ∧ s.heap.get? l = some { cls := .type "list", data := .seq its.toArray n } := by
  obtain ⟨z, its, n, r, e⟩ := I.hok l _ hH
  exact ⟨z, its, n, r, r.length, e⟩
theorem notLongL {n : Nat} (h : n ≤ sizeLine) : Builtin.List.listTooLong n = false := by
  unfold Builtin.List.listTooLong
  exact decide_eq_false (by omega)
end
section
variable {X : Cx}
def rAppend : V → List V → Hp → VK → Prop := fun x vs H Q => ∃ l xs y, x = .ref l ∧ vs = [y] ∧ H l = some (.lst xs) ∧ xs.length < sizeLine ∧ Q .non (upd H l (.lst (xs ++ [y])))
theorem mt_append : MtM X "list.append" rAppend := by
  intro pins s σ H x vs v us Q I rx rv h
  obtain ⟨l, xs, y, rfl, rfl, hH, hz, q⟩ := h
  cases rx
  obtain ⟨u, rfl, ru⟩ := rv.one
  obtain ⟨z, its, n, r, hl, e⟩ := I.lstM hH
  refine call_meets F.slot_list_append ⟨_, e, rfl⟩ F.entry_list_append (F.args_list_append_2 _ _) (PySem.list_append l its.toArray n u (by rw [List.size_toArray]; omega)) ⟨e, ?_⟩
  refine ⟨.non, _, I.lset (its' := its ++ [u]) hH e (by simp) (r.append (.cons ru .nil)) ?_, rfl, q⟩
  rw [List.length_append, List.length_singleton]
  omega
def rExtend : V → List V → Hp → VK → Prop := fun x vs H Q => ∃ l b xs zs, x = .ref l ∧ vs = [.ref b] ∧ H l = some (.lst xs) ∧ H b = some (.lst zs) ∧ xs.length + zs.length ≤ sizeLine ∧ Q .non (upd H l (.lst (xs ++ zs)))
theorem mt_extend : MtM X "list.extend" rExtend := by
  intro pins s σ H x vs v us Q I rx rv h
  obtain ⟨l, b, xs, zs, rfl, rfl, hH, hB, hz, q⟩ := h
  cases rx
  obtain ⟨u, rfl, ru⟩ := rv.one
  cases ru
  obtain ⟨z, its, n, r, hl, e⟩ := I.lstM hH
  obtain ⟨z2, its2, n2, r2, hl2, e2⟩ := I.lstM hB
  have hsz : its.toArray.size + its2.toArray.size ≤ sizeLine := by rw [List.size_toArray, List.size_toArray]; omega
  have hlong : ¬ (!its.toArray.isEmpty && Builtin.List.listTooLong (its.toArray.size + its2.toArray.size)) = true := by
    rw [notLongL hsz, Bool.and_false]
    exact Bool.false_ne_true
  refine call_meets F.slot_list_extend ⟨_, e, rfl⟩ F.entry_list_extend (F.args_list_extend_2 _ _)
    (AutoSeq1.list_extend_list_list_0 l its.toArray n b its2.toArray n2 hlong (by rw [List.size_toArray]; omega) (by omega)) ⟨e, e2, ?_⟩
  refine ⟨.non, _, I.lset (its' := its ++ its2) hH e (by simp) (r.append r2) ?_, rfl, q⟩
  rw [List.length_append]
  omega
def rPop : V → List V → Hp → VK → Prop := fun x vs H Q => ∃ l xs y, x = .ref l ∧ vs = [] ∧ H l = some (.lst xs) ∧ xs[xs.length - 1]? = some y ∧ Q y (upd H l (.lst xs.dropLast))
theorem mt_pop : MtM X "list.pop" rPop := by
  intro pins s σ H x vs v us Q I rx rv h
  obtain ⟨l, xs, y, rfl, rfl, hH, hy, q⟩ := h
  cases rx
  have hus := rv.zero
  subst hus
  obtain ⟨z, its, n, r, hl, e⟩ := I.lstM hH
  obtain ⟨u, hu, ru⟩ := r.get hy
  have hy' : its.toArray[its.toArray.size - 1]? = some u := by
    show its.toArray[its.length - 1]? = some u
    rw [← Array.getElem?_toList, ← hl]
    exact hu
  refine call_meets F.slot_list_pop ⟨_, e, rfl⟩ F.entry_list_pop (F.args_list_pop_1 _) (MeetsSeq.list_pop_last l its.toArray n u hy' (by rw [List.size_toArray]; omega)) ⟨e, ?_⟩
  refine ⟨y, _, I.lset (its' := its.dropLast) hH e ?_ r.dropLast ?_, ru, q⟩
  · show its.toArray.eraseIdxIfInBounds (its.toArray.size - 1) = its.dropLast.toArray
    rw [List.size_toArray, List.eraseIdxIfInBounds_toArray, erase_last]
  · rw [List.length_dropLast]
    omega
def rPopAt : V → List V → Hp → VK → Prop := fun x vs H Q => ∃ l xs i k y, x = .ref l ∧ vs = [.int i] ∧ H l = some (.lst xs) ∧ -(2 ^ 63) ≤ i ∧ i < 2 ^ 63 ∧ seqIndex? i xs.length = some k ∧ xs[k]? = some y ∧ Q y (upd H l (.lst (xs.eraseIdx k)))
theorem mt_popAt : MtM X "list.pop" rPopAt := by
  intro pins s σ H x vs v us Q I rx rv h
  obtain ⟨l, xs, i, k, y, rfl, rfl, hH, h1, h2, hk, hy, q⟩ := h
  cases rx
  obtain ⟨u, rfl, ru⟩ := rv.one
  obtain ⟨t, rfl⟩ := ru
  obtain ⟨z, its, n, r, hl, e⟩ := I.lstM hH
  obtain ⟨w, hw, rw'⟩ := r.get hy
  refine call_meets F.slot_list_pop ⟨_, e, rfl⟩ F.entry_list_pop (F.args_list_pop_2 _ _)
    (MeetsSeq.list_pop_at l its.toArray n i t k w (fitsIndex_both h1 h2) (by rw [List.size_toArray, ← hl]; exact hk) (by rw [← Array.getElem?_toList]; exact hw) (by rw [List.size_toArray]; omega)) ⟨e, ?_⟩
  refine ⟨y, _, I.lset (its' := its.eraseIdx k) hH e ?_ (r.eraseIdx k) ?_, rw', q⟩
  · show its.toArray.eraseIdxIfInBounds k = (its.eraseIdx k).toArray
    rw [List.eraseIdxIfInBounds_toArray]
  · have := len_erase xs k
    omega
def rClear : V → List V → Hp → VK → Prop := fun x vs H Q => ∃ l xs, x = .ref l ∧ vs = [] ∧ H l = some (.lst xs) ∧ Q .non (upd H l (.lst []))
theorem mt_clear : MtM X "list.clear" rClear := by
  intro pins s σ H x vs v us Q I rx rv h
  obtain ⟨l, xs, rfl, rfl, hH, q⟩ := h
  cases rx
  have hus := rv.zero
  subst hus
  obtain ⟨z, its, n, r, hl, e⟩ := I.lstM hH
  refine call_meets F.slot_list_clear ⟨_, e, rfl⟩ F.entry_list_clear (F.args_list_clear_1 _) (AutoSeq1.list_clear_list_0 l its.toArray n (by rw [List.size_toArray]; omega)) ⟨e, ?_⟩
  exact ⟨.non, _, I.lset (its' := []) (ys := []) hH e rfl .nil (Nat.zero_le _), rfl, q⟩
def rCat : R2 := fun x y H Q => ∃ l b xs zs, x = .ref l ∧ y = .ref b ∧ H l = some (.lst xs) ∧ H b = some (.lst zs) ∧ xs.length + zs.length ≤ sizeLine ∧ ∀ p, H p = none → Q (.ref p) (upd H p (.lst (xs ++ zs)))
theorem op_cat : OpR X (binaryOp .Add) rCat := by
  intro pins s σ H x y v u Q I rx ry h
  obtain ⟨l, b, xs, zs, rfl, rfl, hH, hB, hz, q⟩ := h
  cases rx
  cases ry
  obtain ⟨z, its, n, r, hl, e⟩ := I.lstM hH
  obtain ⟨z2, its2, n2, r2, hl2, e2⟩ := I.lstM hB
  refine PySem.P.add_list e e2 ?_ (by rw [List.size_toArray, List.size_toArray]; omega)
  have ea : its.toArray ++ its2.toArray = (its ++ its2).toArray := by simp
  rw [ea]
  exact ⟨.ref _, _, I.lnew (t' := s.toks) (r.append r2) (by rw [List.length_append]; omega), rfl, q _ I.fresh⟩
def rRep : R2 := fun x y H Q => ∃ l k xs, x = .ref l ∧ y = .int k ∧ H l = some (.lst xs) ∧ -(2 ^ 63) ≤ k ∧ k < 2 ^ 63 ∧ xs.length * k.toNat ≤ sizeLine ∧
  ∀ p, H p = none → Q (.ref p) (upd H p (.lst (List.replicate k.toNat xs).flatten))
theorem len_rep {α : Type} (xs : List α) (k : Nat) : (List.replicate k xs).flatten.length = k * xs.length := by
  induction k with
  | zero => simp
  | succ k ih => rw [List.replicate_succ, List.flatten_cons, List.length_append, ih, Nat.succ_mul, Nat.add_comm]
theorem op_rep : OpR X (binaryOp .Mult) rRep := by
  intro pins s σ H x y v u Q I rx ry h
  obtain ⟨l, k, xs, rfl, rfl, hH, h1, h2, hz, q⟩ := h
  cases rx
  obtain ⟨t, rfl⟩ := ry
  obtain ⟨z, its, n, r, hl, e⟩ := I.lstM hH
  have hlen : its.toArray.size * k.toNat ≤ sizeLine := by rw [List.size_toArray, ← hl]; exact hz
  have hcap : ¬ its.toArray.size * k.toNat > (2 ^ 63 - 1) / 8 := by
    have : (sizeLine : Nat) ≤ (2 ^ 63 - 1) / 8 := by decide
    omega
  have hfit : ¬ (!Builtin.List.listFitsIndex k) = true := by
    rw [fitsIndex_both h1 h2]
    exact Bool.false_ne_true
  have hlong : ¬ Builtin.List.listTooLong (its.toArray.size * k.toNat) = true := by
    rw [notLongL hlen]
    exact Bool.false_ne_true
  have hnew : List.foldl (fun x1 x2 => x1 ++ x2) #[] (List.replicate (if its.toArray.isEmpty = true then 0 else k.toNat) its.toArray) = (List.replicate k.toNat its).flatten.toArray := by
    have f0 : ∀ m : Nat, List.foldl (fun x1 x2 => x1 ++ x2) #[] (List.replicate m its.toArray) = (List.replicate m its).flatten.toArray := fun m => by
      have := foldl_rep its m []
      rw [List.nil_append] at this
      exact this
    rw [f0]
    cases its with
    | nil => simp
    | cons a r' => rw [if_neg (by simp)]
  refine wpAny_binaryOp_repeat_ref (T := "list") (U := "int") (by decide) ⟨_, e, rfl⟩ (fun s' => typeIs_int s' k t) noFill_list_mul F.fills_int_mul F.slot_int_rmul repeat_list F.slot_int_index.lookup
    (call_meets F.slot_int_rmul (typeIs_int s k t) F.entry_int_rmul (F.args_int_rmul_2 _ _) (int___rmul___int_list k t l its.toArray n)
      ⟨e, rfl, ⟨_, e, rfl⟩, call_meets F.slot_list_mul ⟨_, e, rfl⟩ F.entry_list_mul (F.args_list_mul_2 _ _) (AutoListH.list___mul___list_int_3 l its.toArray n k t hfit hcap hlong) ⟨e, ?_⟩⟩)
  rw [hnew]
  exact ⟨.ref _, _, I.lnew (t' := s.toks) (r.rep k.toNat) (by rw [len_rep, Nat.mul_comm]; exact hz), rfl, q _ I.fresh⟩
end
section
variable {prog : Program} {w : World} {A : Around} {E : Value → Shared → Prop} {s : Shared}
end
section
variable {X : Cx}
end
end L2
namespace L2
open PySem PySem.Spec PyProof.Rows
section
variable {κ : Type} [DecidableEq κ]
def valV (kvs : List (κ × V)) (k : κ) : Option V := (kvs.find? fun kv => decide (kv.1 = k)).map (·.2)
def putK (kvs : List (κ × V)) (k : κ) (v : V) : List (κ × V) :=
  if (kvs.any fun kv => decide (kv.1 = k)) = true then kvs.map (fun kv => if kv.1 = k then (kv.1, v) else kv) else kvs ++ [(k, v)]
def dropK (kvs : List (κ × V)) (k : κ) : List (κ × V) := kvs.filter fun kv => decide (kv.1 ≠ k)
theorem valV_pos {p : κ × V} {r : List (κ × V)} {k : κ} (e : p.1 = k) : valV (p :: r) k = some p.2 := by simp [valV, List.find?_cons, e]
theorem valV_neg {p : κ × V} {r : List (κ × V)} {k : κ} (e : ¬ p.1 = k) : valV (p :: r) k = valV r k := by simp [valV, List.find?_cons, e]
theorem valV_any (k : κ) : ∀ kvs : List (κ × V), (kvs.any fun kv => decide (kv.1 = k)) = (valV kvs k).isSome
  | [] => rfl
  | p :: r => by
    rw [List.any_cons]
    by_cases e : p.1 = k
    · simp only [valV_pos e, decide_eq_true e, Bool.true_or, Option.isSome_some]
    · rw [valV_neg e, decide_eq_false e, Bool.false_or]; exact valV_any k r
theorem valV_map (k j : κ) (y : V) : ∀ kvs : List (κ × V), valV (kvs.map fun kv => if kv.1 = k then (kv.1, y) else kv) j = (valV kvs j).map fun x => if j = k then y else x
  | [] => rfl
  | p :: r => by
    have ih := valV_map k j y r
    rw [List.map_cons]
    by_cases h : p.1 = k
    · rw [if_pos h]
      by_cases e : p.1 = j
      · rw [valV_pos (p := (p.1, y)) e, valV_pos e, Option.map_some, if_pos (e.symm.trans h)]
      · rw [valV_neg (p := (p.1, y)) e, valV_neg e, ih]
    · rw [if_neg h]
      by_cases e : p.1 = j
      · rw [valV_pos (p := p) e, valV_pos e, Option.map_some, if_neg (fun z => h (e.trans z))]
      · rw [valV_neg (p := p) e, valV_neg e, ih]
theorem valV_snoc (k j : κ) (y : V) : ∀ kvs : List (κ × V), valV kvs k = none → valV (kvs ++ [(k, y)]) j = if j = k then some y else valV kvs j
  | [], _ => by
    by_cases e : k = j
    · rw [if_pos e.symm]; exact valV_pos (p := (k, y)) e
    · rw [if_neg (fun z => e z.symm)]; exact valV_neg (p := (k, y)) e
  | p :: r, hn => by
    rw [List.cons_append]
    have hk : ¬ p.1 = k := fun z => by rw [valV_pos z] at hn; cases hn
    rw [valV_neg hk] at hn
    have ih := valV_snoc k j y r hn
    by_cases e : p.1 = j
    · rw [valV_pos e, valV_pos e, if_neg (fun z => hk (e.trans z))]
    · rw [valV_neg e, valV_neg e, ih]
theorem valV_put (kvs : List (κ × V)) (k j : κ) (y : V) : valV (putK kvs k y) j = if j = k then some y else valV kvs j := by
  unfold putK
  by_cases a : (kvs.any fun kv => decide (kv.1 = k)) = true
  · rw [if_pos a, valV_map]
    rw [valV_any] at a
    by_cases e : j = k
    · obtain ⟨x, hx⟩ := Option.isSome_iff_exists.mp a
      rw [if_pos e, e, hx, Option.map_some, if_pos rfl]
    · rw [if_neg e]
      cases valV kvs j with
      | none => rfl
      | some x => rw [Option.map_some, if_neg e]
  · rw [if_neg a]
    refine valV_snoc k j y kvs ?_
    rw [valV_any] at a
    cases q : valV kvs k with
    | none => rfl
    | some x => rw [q] at a; exact (a rfl).elim
theorem length_putK (kvs : List (κ × V)) (k : κ) (v : V) : (putK kvs k v).length ≤ kvs.length + 1 := by
  unfold putK
  split
  · rw [List.length_map]; omega
  · rw [List.length_append, List.length_cons, List.length_nil]; omega
theorem RelO.isSome_eq {o : Option V} {u : Option Value} (r : RelO o u) : o.isSome = u.isSome := by
  cases o with
  | none => cases u with
    | none => rfl
    | some _ => exact (show False from r).elim
  | some _ => cases u with
    | none => exact (show False from r).elim
    | some _ => rfl
theorem RelO.getD {o : Option V} {u : Option Value} {d : V} {d' : Value} (r : RelO o u) (rd : RelV d d') : RelV (o.getD d) (u.getD d') := by
  cases o with
  | none => cases u with
    | none => exact rd
    | some _ => exact (show False from r).elim
  | some _ => cases u with
    | none => exact (show False from r).elim
    | some _ => exact r
theorem KV.val {kvs : List (κ × V)} {vs : List (κ × Value)} (r : KV kvs vs) (k : κ) : RelO (valV kvs k) (valueAt vs k) := by
  unfold KV at r
  induction r with
  | nil => exact True.intro
  | @cons p q ps qs h t ih =>
    obtain ⟨h1, h2⟩ := h
    by_cases e : p.1 = k
    · have e' : q.1 = k := h1.symm.trans e
      have b : valueAt (q :: qs) k = some q.2 := by simp [valueAt, List.find?_cons, e']
      rw [valV_pos e, b]; exact h2
    · have e' : ¬ q.1 = k := fun z => e (h1.trans z)
      have b : valueAt (q :: qs) k = valueAt qs k := by simp [valueAt, List.find?_cons, e']
      rw [valV_neg e, b]; exact ih
theorem KV.any {kvs : List (κ × V)} {vs : List (κ × Value)} (r : KV kvs vs) (k : κ) : (kvs.any fun kv => decide (kv.1 = k)) = vs.any fun kv => decide (kv.1 = k) := by
  unfold KV at r
  induction r with
  | nil => rfl
  | cons h t ih => rw [List.any_cons, List.any_cons, ih, h.1]
theorem KV.repl {kvs : List (κ × V)} {vs : List (κ × Value)} (r : KV kvs vs) (k : κ) {y : V} {u : Value} (ry : RelV y u) :
    KV (kvs.map fun kv => if kv.1 = k then (kv.1, y) else kv) (vs.map fun kv => if kv.1 = k then (kv.1, u) else kv) := by
  unfold KV at r ⊢
  induction r with
  | nil => exact .nil
  | @cons p q ps qs h t ih =>
    rw [List.map_cons, List.map_cons]
    refine .cons ?_ ih
    obtain ⟨h1, h2⟩ := h
    by_cases e : p.1 = k
    · rw [if_pos e, if_pos (h1.symm.trans e)]; exact ⟨h1, ry⟩
    · rw [if_neg e, if_neg (fun z => e (h1.trans z))]; exact ⟨h1, h2⟩
theorem KV.put {kvs : List (κ × V)} {vs : List (κ × Value)} (r : KV kvs vs) (k : κ) {y : V} {u : Value} (ry : RelV y u) : KV (putK kvs k y) (stored vs k u) := by
  unfold putK stored
  rw [r.any k]
  by_cases e : (vs.any fun kv => decide (kv.1 = k)) = true
  · rw [if_pos e, if_pos e]; exact r.repl k ry
  · rw [if_neg e, if_neg e]; exact Paired.snoc r ⟨rfl, ry⟩
theorem KV.drop {kvs : List (κ × V)} {vs : List (κ × Value)} (r : KV kvs vs) (k : κ) : KV (dropK kvs k) (without vs k) := by
  unfold KV at r ⊢
  unfold dropK without
  induction r with
  | nil => exact .nil
  | @cons p q ps qs h t ih =>
    obtain ⟨h1, h2⟩ := h
    rw [List.filter_cons, List.filter_cons]
    by_cases e : p.1 = k
    · have a : ¬ decide (p.1 ≠ k) = true := by simp [e]
      have b : ¬ decide (q.1 ≠ k) = true := by simp [h1.symm.trans e]
      rw [if_neg a, if_neg b]; exact ih
    · have e' : ¬ q.1 = k := fun z => e (h1.trans z)
      have a : decide (p.1 ≠ k) = true := by simp [e]
      have b : decide (q.1 ≠ k) = true := by simp [e']
      rw [if_pos a, if_pos b]; exact .cons ⟨h1, h2⟩ ih
theorem KV.keys {kvs : List (κ × V)} {vs : List (κ × Value)} (r : KV kvs vs) : kvs.map (·.1) = vs.map (·.1) := by
  unfold KV at r
  induction r with
  | nil => rfl
  | cons h t ih => rw [List.map_cons, List.map_cons, ih, h.1]
theorem KV.length {kvs : List (κ × V)} {vs : List (κ × Value)} (r : KV kvs vs) : kvs.length = vs.length := Paired.length r
end
theorem kV_is {P : Program} {w : World} {k : Key} {u : Value} (r : RelV (kV k) u) : (mixKind P w).is k u = true := by
  cases k with
  | inl i => obtain ⟨t, e⟩ := (show ∃ t, u = Value.int i t from r); subst e; exact mixKind_int P w i t
  | inr x => obtain ⟨t, e⟩ := (show ∃ t, u = Value.str x t from r); subst e; exact mixKind_str P w x t
theorem items_are {P : Program} {w : World} : ∀ {ks : List Key} {us : List Value}, Vals (ks.map kV) us → ItemsAre (mixKind P w) ks us
  | [], _, r => by rw [List.map_nil] at r; cases r; exact .nil
  | k :: ks, _, r => by
    rw [List.map_cons] at r
    cases r with
    | cons h t => exact .cons (kV_is h) (items_are t)
abbrev KT (H : Hp) : List (List Key × V) → List (List Key × Addr × Value) → Prop := Paired fun p q => p.1 = q.1 ∧ H q.2.1 = some (.tup (p.1.map kV)) ∧ RelV p.2 q.2.2
theorem KT.val {H : Hp} {kvs : List (List Key × V)} {xs : List (List Key × Addr × Value)} (r : KT H kvs xs) (k : List Key) : RelO (valV kvs k) ((atKey xs k).map (·.2)) := by
  induction r with
  | nil => exact True.intro
  | @cons p q ps qs h t ih =>
    obtain ⟨h1, _, h2⟩ := h
    by_cases e : p.1 = k
    · have e' : q.1 = k := h1.symm.trans e
      have b : atKey (q :: qs) k = some q.2 := by simp [atKey, List.find?_cons, e']
      rw [valV_pos e, b]; exact h2
    · have e' : ¬ q.1 = k := fun z => e (h1.trans z)
      have b : atKey (q :: qs) k = atKey qs k := by simp [atKey, List.find?_cons, e']
      rw [valV_neg e, b]; exact ih
theorem KT.repl {H : Hp} {kvs : List (List Key × V)} {xs : List (List Key × Addr × Value)} (r : KT H kvs xs) (k : List Key) {y : V} {u : Value} (ry : RelV y u) :
    KT H (kvs.map fun kv => if kv.1 = k then (kv.1, y) else kv) (xs.map (putAt k u)) := by
  induction r with
  | nil => exact .nil
  | @cons p q ps qs h t ih =>
    rw [List.map_cons, List.map_cons]
    refine .cons ?_ ih
    obtain ⟨h1, h2, h3⟩ := h
    unfold putAt
    by_cases e : p.1 = k
    · rw [if_pos e, if_pos (h1.symm.trans e)]; exact ⟨h1, h2, ry⟩
    · rw [if_neg e, if_neg (fun z => e (h1.trans z))]; exact ⟨h1, h2, h3⟩
theorem KT.put {H : Hp} {kvs : List (List Key × V)} {xs : List (List Key × Addr × Value)} (r : KT H kvs xs) (k : List Key) {b : Addr} {y : V} {u : Value} (hb : H b = some (.tup (k.map kV))) (ry : RelV y u) :
    KT H (putK kvs k y) (storedH xs k b u) := by
  have e : (kvs.any fun kv => decide (kv.1 = k)) = (atKey xs k).isSome := by
    rw [valV_any, (r.val k).isSome_eq, Option.isSome_map]
  unfold putK storedH
  rw [e]
  by_cases q : (atKey xs k).isSome = true
  · rw [if_pos q, if_pos q]; exact r.repl k ry
  · rw [if_neg q, if_neg q]; exact Paired.snoc r ⟨rfl, hb, ry⟩
theorem KT.keeps {H H' : Hp} {kvs : List (List Key × V)} {xs : List (List Key × Addr × Value)} (r : KT H kvs xs) (ht : ∀ b ys, H b = some (.tup ys) → H' b = some (.tup ys)) : KT H' kvs xs :=
  Paired.mapP r fun _ _ z => ⟨z.1, ht _ _ z.2.1, z.2.2⟩
section
variable {P : Program} {w : World} {H : Hp} {h : Heap} {a : Addr}
theorem rd_of {u : HO} (ok : HOk P w H h) (e : Rd H a u) : ObjOk P w H h a u := e.ok ok
theorem dk_rd {kvs : List (Key × V)} (ok : HOk P w H h) (e : Rd H a (.dK kvs)) : kvs.length ≤ sizeLine ∧ (a == sysModules) = false ∧ ∃ vs, KV kvs vs ∧ h.DictOf (mixKind P w) a vs :=
  show ObjOk P w H h a (.dK kvs) from rd_of ok e
theorem dk_of {kvs : List (Key × V)} (ok : HOk P w H h) (e : H a = some (.dK kvs)) : kvs.length ≤ sizeLine ∧ (a == sysModules) = false ∧ ∃ vs, KV kvs vs ∧ h.DictOf (mixKind P w) a vs := dk_rd ok (.inl e)
theorem key_of {ks : List Key} (ok : HOk P w H h) (e : H a = some (.tup (ks.map kV))) : (tupleKind (mixKind P w)).is h ks a := by
  obtain ⟨_, its, r, o, h1, h2, n, h3⟩ := (show ObjOk P w H h a (.tup (ks.map kV)) from ok a _ e)
  exact ⟨o, its.toArray, n, h1, h2, h3, by simpa using items_are r⟩
theorem dt_rd {kvs : List (List Key × V)} (ok : HOk P w H h) (e : Rd H a (.dT kvs)) : kvs.length ≤ sizeLine ∧ (a == sysModules) = false ∧
    ∃ xs, KT H kvs xs ∧ h.DictOfH (tupleKind (mixKind P w)) a xs := by
  obtain ⟨z, y, xs, r, o, es, ep, h1, h2, h3, h4, h5⟩ := (show ObjOk P w H h a (.dT kvs) from rd_of ok e)
  refine ⟨z, y, xs, r, o, es, ep, h1, h2, h3, h4, fun x hx => ?_, h5⟩
  have all : ∀ {l : List (List Key × V)} {m : List (List Key × Addr × Value)}, KT H l m → ∀ x ∈ m, (tupleKind (mixKind P w)).is h x.1 x.2.1 := by
    intro l m q
    induction q with
    | nil => intro x hx; exact nomatch hx
    | @cons p q ps qs hq t ih =>
      intro x hx
      rcases List.mem_cons.mp hx with e | hx
      · subst e
        exact key_of ok (by rw [← hq.1]; exact hq.2.1)
      · exact ih x hx
  exact all r x hx
theorem dt_of {kvs : List (List Key × V)} (ok : HOk P w H h) (e : H a = some (.dT kvs)) : kvs.length ≤ sizeLine ∧ (a == sysModules) = false ∧
    ∃ xs, KT H kvs xs ∧ h.DictOfH (tupleKind (mixKind P w)) a xs := dt_rd ok (.inl e)
end
def DGet (H : Hp) (a : Addr) (y : V) (r : Option V) : Prop :=
  (∃ kvs k, Rd H a (.dK kvs) ∧ y = kV k ∧ r = valV kvs k) ∨ ∃ kvs k b, Rd H a (.dT kvs) ∧ y = .ref b ∧ H b = some (.tup (k.map kV)) ∧ r = valV kvs k
def DPut (H : Hp) (a : Addr) (y v : V) (H' : Hp) : Prop :=
  (∃ kvs k, H a = some (.dK kvs) ∧ y = kV k ∧ kvs.length < sizeLine ∧ H' = upd H a (.dK (putK kvs k v))) ∨
  ∃ kvs k b, H a = some (.dT kvs) ∧ y = .ref b ∧ H b = some (.tup (k.map kV)) ∧ kvs.length < sizeLine ∧ H' = upd H a (.dT (putK kvs k v))
theorem DGet.k {H : Hp} {a : Addr} {kvs : List (Key × V)} {k : Key} (e : H a = some (.dK kvs)) : DGet H a (kV k) (valV kvs k) := .inl ⟨kvs, k, .inl e, rfl, rfl⟩
theorem DGet.t {H : Hp} {a b : Addr} {kvs : List (List Key × V)} {k : List Key} (e : H a = some (.dT kvs)) (eb : H b = some (.tup (k.map kV))) : DGet H a (.ref b) (valV kvs k) := .inr ⟨kvs, k, b, .inl e, rfl, eb, rfl⟩
theorem DPut.k {H : Hp} {a : Addr} {kvs : List (Key × V)} {k : Key} {v : V} (e : H a = some (.dK kvs)) (hl : kvs.length < sizeLine) : DPut H a (kV k) v (upd H a (.dK (putK kvs k v))) := .inl ⟨kvs, k, e, rfl, hl, rfl⟩
theorem DPut.t {H : Hp} {a b : Addr} {kvs : List (List Key × V)} {k : List Key} {v : V} (e : H a = some (.dT kvs)) (eb : H b = some (.tup (k.map kV))) (hl : kvs.length < sizeLine) :
    DPut H a (.ref b) v (upd H a (.dT (putK kvs k v))) := .inr ⟨kvs, k, b, e, rfl, eb, hl, rfl⟩
section
variable {X : Cx} {pins : List (Addr × Obj)} {σ : St} {H : Hp} {s : Shared} {a : Addr} {y v : V} {u r : Value} {o : Option V} {A : Around} {E : Value → Shared → Prop}
theorem Inv.big (I : Inv X pins σ H s) : sysModules < s.heap.objs.size := by
  have h : mainGlobals < s.heap.objs.size := (I.mod.glob.keeps I.bk).lt
  exact Nat.lt_trans (by decide) h
theorem d_getItem {Q : Value → Shared → Prop} (hu : A.units + 1 < cLine) (I : Inv X pins σ H s) (g : DGet H a y (some v)) (ry : RelV y u) (h : ∀ w' s', Inv X pins σ H s' → RelV v w' → Q w' s') :
    wpAny (model X.prog X.w) A (getItem (.ref a) u) Q E s := by
  rcases g with ⟨kvs, k, e, ey, l⟩ | ⟨kvs, k, b, e, ey, eb, l⟩
  · subst ey
    obtain ⟨z, hd, vs, rel, dd⟩ := dk_rd I.hok e
    obtain ⟨w', hw, rw'⟩ := RelO.some_of (v := v) (o := valueAt vs k) (by rw [l]; exact rel.val k)
    exact wpAny_getItem_of (kV_is ry) dd.mapOf hw (h w' _ (I.tok _) rw')
  · subst ey
    cases (show u = Value.ref b from ry)
    obtain ⟨z, hd, xs, rel, dd⟩ := dt_rd I.hok e
    obtain ⟨w', hw, rw'⟩ := RelO.some_of (v := v) (o := (atKey xs k).map (·.2)) (by rw [l]; exact rel.val k)
    obtain ⟨p, hp, hp2⟩ := Option.map_eq_some_iff.mp hw
    refine wpAny_getItem_heap (tupleKind_room_in1 hu) (key_of I.hok eb) dd hp ?_
    rw [hp2]
    exact h w' _ (I.tok _) rw'
theorem d_in {Q : Value → Shared → Prop} (hu : A.units + 1 < cLine) (I : Inv X pins σ H s) (g : DGet H a y o) (ry : RelV y u) (h : ∀ s', Inv X pins σ H s' → Q (.bool o.isSome) s') :
    wpAny (model X.prog X.w) A (compareOp .In u (.ref a)) Q E s := by
  rcases g with ⟨kvs, k, e, ey, l⟩ | ⟨kvs, k, b, e, ey, eb, l⟩
  · subst ey
    obtain ⟨z, hd, vs, rel, dd⟩ := dk_rd I.hok e
    refine wpAny_in_of (kV_is ry) hd dd.mapOf ?_
    rw [← (rel.val k).isSome_eq, ← l]
    exact h _ (I.tok _)
  · subst ey
    cases (show u = Value.ref b from ry)
    obtain ⟨z, hd, xs, rel, dd⟩ := dt_rd I.hok e
    refine wpAny_in_heap (tupleKind_room_in1 hu) (key_of I.hok eb) hd dd ?_
    have q := (rel.val k).isSome_eq
    rw [Option.isSome_map] at q
    rw [← q, ← l]
    exact h _ (I.tok _)
theorem d_write {h' : Heap} {t' : Nat} {ob : HO} (I : Inv X pins σ H s) (mu : Mut (H a)) (hs : Heap.SameBut a s.heap h') (he : ∃ q, h'.get? a = some q) (new : ObjOk X.prog X.w (upd H a ob) h' a ob) :
    Inv X pins σ (upd H a ob) { s with heap := h', toks := t' } :=
  I.write (x := a) (e := a) mu (.inl rfl) (fun b q hb z => (hs.2 b hb).trans z) he new
theorem dk_new {P : Program} {w : World} {H' : Hp} {h' : Heap} {kvs : List (Key × V)} {vs : List (Key × Value)} (z : kvs.length ≤ sizeLine) (hd : (a == sysModules) = false) (rel : KV kvs vs) (dd : h'.DictOf (mixKind P w) a vs) :
    ObjOk P w H' h' a (.dK kvs) := ⟨z, hd, vs, rel, dd⟩
theorem d_setItem {H' : Hp} {Q : Unit → Shared → Prop} (hu : A.units + 1 < cLine) (I : Inv X pins σ H s) (g : DPut H a y v H') (ry : RelV y u) (rv : RelV v r) (h : ∀ s', Inv X pins σ H' s' → Q () s') :
    wpAny (model X.prog X.w) A (setItem (.ref a) u r) Q E s := by
  rcases g with ⟨kvs, k, e, ey, l, eH⟩ | ⟨kvs, k, b, e, ey, eb, l, eH⟩
  · subst ey eH
    obtain ⟨z, hd, vs, rel, dd⟩ := dk_of I.hok e
    have hz : vs.length ≤ sizeLine := by rw [← rel.length]; exact z
    have hl : (putK kvs k v).length ≤ sizeLine := by have := length_putK kvs k v; omega
    refine wpAny_setItem_pairs (hsz := hz) (kV_is ry) dd fun h' dd' hs => h _ ?_
    have he : ∃ q, h'.get? a = some q := let ⟨q, _, _, hq, _⟩ := dd'; ⟨q, hq⟩
    exact d_write I (by rw [e]; exact True.intro) hs he (dk_new hl hd (rel.put k rv) dd')
  · subst ey eH
    cases (show u = Value.ref b from ry)
    obtain ⟨z, hd, xs, rel, dd⟩ := dt_of I.hok e
    have hz : xs.length ≤ sizeLine := by rw [← Paired.length rel]; exact z
    have hl : (putK kvs k v).length ≤ sizeLine := by have := length_putK kvs k v; omega
    refine wpAny_setItem_heap (hsz := hz) (tupleKind_room_in1 hu) (key_of I.hok eb) dd fun h' dd' hs => h _ ?_
    obtain ⟨q, es, ep, hq, h2, h3, h4, _, h5⟩ := dd'
    refine d_write I (by rw [e]; exact True.intro) hs ⟨q, hq⟩ ⟨hl, hd, _, (rel.put k eb rv).keeps fun c ys ec => ?_, q, es, ep, hq, h2, h3, h4, h5⟩
    rw [upd_ne (ne_of ec e (fun z => nomatch z))]
    exact ec
end
section
variable {X : Cx} {pins : List (Addr × Obj)} {σ : St} {H : Hp} {s : Shared} {a : Addr} {kvs : List (Key × V)} {k : Key} {u : Value} {A : Around} {E : Value → Shared → Prop}
end
def NoSl (i : Expr) : Prop := ∀ ov iv, subscripted i false ov iv = operate [ov, iv] (getItem ov iv)
theorem subD_of {prog : Program} {w : World} {A : Around} {E : Value → Shared → Prop} {s : Shared} {env : Env} {value slice : Expr} {pos : Pos} {T id : String} {Q : Value → Shared → Prop}
    (hl : typeLookup (.type T) "__getitem__" = pure (some (.builtin id))) (hs : NoSl slice)
    (h : wpAny (model prog w) A (eval value env) (fun o s₁ => wpAny (model prog w) A (eval slice env) (fun i s₂ => s₂.TypeIs o T ∧ wpAny (model prog w) A (getItem o i) Q E s₂) E s₁) E s) :
    wpAny (model prog w) A (eval (.Subscript value slice pos) env) Q E s := by
  refine Subscript_ (wpAny_mono h (fun o s₁ h₁ => wpAny_mono h₁ (fun i s₂ h₂ => ?_) fun _ _ x => x) fun _ _ x => x)
  obtain ⟨hT, h₂⟩ := h₂
  unfold subscriptTail
  refine wpAny_bind ?_
  rw [getitemInPython_of_ne hT.not_modules]
  refine wpAny_bind (wpAny_specialOf hT hl ?_)
  have fin : wpAny (model prog w) A (subscripted slice false o i) (fun r s₃ => wpAny (model prog w) A (letTemporaryGo value o r >>= fun _ => pure r) Q E s₃) E s₂ := by
    rw [hs o i]
    exact wpAny_operating (wpAny_mono h₂ (fun r s₃ h₃ => wpAny_bind (wpAny_letTemporaryGo (wpAny_pure h₃))) fun _ _ x => x)
  first
    | exact wpAny_pure (wpAny_bind fin)
    | exact wpAny_bind (wpAny_pure (wpAny_bind fin))
    | exact wpAny_bind fin
theorem dict_typeIs {X : Cx} {pins : List (Addr × Obj)} {σ : St} {H : Hp} {s : Shared} {a : Addr} {y : V} {o : Option V} (I : Inv X pins σ H s) (g : DGet H a y o) : s.TypeIs (.ref a) "dict" := by
  rcases g with ⟨kvs, k, e, _, _⟩ | ⟨kvs, k, b, e, _, _, _⟩
  · obtain ⟨_, _, vs, _, dd⟩ := dk_rd I.hok e
    exact dd.typeIs
  · obtain ⟨_, _, xs, _, dd⟩ := dt_rd I.hok e
    exact dd.typeIs
def tDGet (td ty : TE) : TE := fun σ H Q => td σ H fun x H1 => ty σ H1 fun y H2 => ∃ a v, x = .ref a ∧ DGet H2 a y (some v) ∧ Q v H2
def tDIn (ty td : TE) : TE := fun σ H Q => ty σ H fun y H1 => td σ H1 fun x H2 => ∃ a o, x = .ref a ∧ DGet H2 a y o ∧ Q (.bl o.isSome) H2
def tDNotIn (ty td : TE) : TE := fun σ H Q => ty σ H fun y H1 => td σ H1 fun x H2 => ∃ a o, x = .ref a ∧ DGet H2 a y o ∧ Q (.bl (!o.isSome)) H2
def sDPut (td ty tv : TE) : TS := fun D σ H => tv σ H fun v H1 => td σ H1 fun x H2 => ty σ H2 fun y H3 => ∃ a H4, x = .ref a ∧ DPut H3 a y v H4 ∧ D.nx σ H4
section
variable {X : Cx} {o i e value : Expr} {pos pos' tpos : Pos} {td ty tv : TE}
theorem pe_dget (hu : X.A.units + 1 < cLine) (ho : PE X o td) (hi : PE X i ty) (hs : NoSl i) : PE X (.Subscript o i pos) (tDGet td ty) := by
  intro pins s σ H Q I h
  refine subD_of PySem.F.slot_dict_getitem.lookup hs (thn (ho pins s σ H _ I h) fun u s1 ⟨x, H1, I1, rx, q1⟩ => thn (hi pins s1 σ H1 _ I1 q1) fun iv s2 ⟨y, H2, I2, ry, a, v, ex, g, q2⟩ => ?_)
  subst ex
  obtain rfl : u = Value.ref a := rx
  exact ⟨dict_typeIs I2 g, d_getItem hu I2 g ry fun w' s3 I3 rw' => ⟨v, H2, I3, rw', q2⟩⟩
theorem pc_din (hu : X.A.units + 1 < cLine) (hi : PE X i ty) (ho : PE X o td) : PC X .In i o (tDIn ty td) := by
  intro pins s σ H Q I h
  refine thn (hi pins s σ H _ I h) fun iv s1 ⟨y, H1, I1, ry, q1⟩ => thn (ho pins s1 σ H1 _ I1 q1) fun u s2 ⟨x, H2, I2, rx, a, ov, ex, g, q2⟩ => ?_
  subst ex
  obtain rfl : u = Value.ref a := rx
  exact d_in hu I2 g ry fun s3 I3 => ⟨.bl ov.isSome, H2, I3, rfl, q2⟩
theorem ps_dput (hu : X.A.units + 1 < cLine) (ho : PE X o td) (hi : PE X i ty) (hv : PE X value tv) (hs : swapsWith value (some (.Subscript o i pos')) pos.line X.env = pure false) :
    PS X (.Assign [.Subscript o i pos'] value pos) (sDPut td ty tv) := by
  intro pins s σ H D I h
  refine wpAny_Assign_Subscript (thn (hv pins s σ H _ I h) fun r s1 ⟨v, H1, I1, rv, q1⟩ => thn (ho pins s1 σ H1 _ I1 q1) fun u s2 ⟨x, H2, I2, rx, q2⟩ => thn (hi pins s2 σ H2 _ I2 q2) fun iv s3 ⟨y, H3, I3, ry, a, H4, ex, g, q3⟩ => ?_) hs
  subst ex
  obtain rfl : u = Value.ref a := rx
  exact d_setItem hu I3 g ry rv fun s4 I4 => ⟨σ, H4, I4, q3⟩
end
theorem dk_empty {P : Program} {w : World} {H : Hp} (h : Heap) (hb : sysModules < h.objs.size) : ObjOk P w H (h.push { cls := .type "dict", data := .dict #[] }) h.objs.size (.dK []) :=
  ⟨Nat.zero_le _, beq_eq_false_iff_ne.mpr (Ne.symm (Nat.ne_of_lt hb)), [], .nil, Heap.DictOf.new h⟩
def tDNewK : TE := fun _ H Q => ∀ p, H p = none → Q (.ref p) (upd H p (.dK []))
section
variable {X : Cx} {pos : Pos}
theorem pe_dnewK : PE X (.Dict [] [] pos) tDNewK := fun pins s σ H Q I h =>
  wpAny_Dict_empty ⟨.ref s.heap.objs.size, _, I.laid (a := s.heap.objs.size) (o := .dK []) (t' := s.toks) (fun _ _ q => Heap.get?_push_of_some _ q) (Nat.le_refl _) (dk_empty s.heap I.big), rfl, h _ (I.hok.fresh (Nat.le_refl _))⟩
end
structure M1 (X : Cx) (o : Expr) (m : Str) (apos : Pos) (e : Expr) (cpos : Pos) : Prop where
  base : attributeBase o m X.env (eval o X.env) = eval o X.env
  few : ((backTo cpos (starEach [e] X.env)).all (fun x => !x.1) && (backToKw cpos (keywordEach [] X.env)).all (fun x => x.1.isSome)
    && decide (([e] : List Expr).length + ([] : List Keyword).length + (if ([] : List Keyword).isEmpty then 0 else 1) < 30)) = true
  line : (apos.endLine == cpos.line) = true
  trees : backTo cpos (starEach [e] X.env) = [(false, eval e X.env)]
structure M2 (X : Cx) (o : Expr) (m : Str) (apos : Pos) (e f : Expr) (cpos : Pos) : Prop where
  base : attributeBase o m X.env (eval o X.env) = eval o X.env
  few : ((backTo cpos (starEach [e, f] X.env)).all (fun x => !x.1) && (backToKw cpos (keywordEach [] X.env)).all (fun x => x.1.isSome)
    && decide (([e, f] : List Expr).length + ([] : List Keyword).length + (if ([] : List Keyword).isEmpty then 0 else 1) < 30)) = true
  line : (apos.endLine == cpos.line) = true
  trees : backTo cpos (starEach [e, f] X.env) = [(false, eval e X.env), (false, eval f X.env)]
def IsD (H : Hp) (a : Addr) : Prop := (∃ kvs, Rd H a (.dK kvs)) ∨ ∃ kvs, Rd H a (.dT kvs)
theorem isD_at {X : Cx} {pins : List (Addr × Obj)} {σ : St} {H : Hp} {s : Shared} {a : Addr} (I : Inv X pins σ H s) (d : IsD H a) :
    s.TypeIs (.ref a) "dict" ∧ (∀ b, Value.ref a = .ref b → ∃ ob, s.heap.get? b = some ob ∧ ob.dict = none) ∧ (a == sysModules) = false := by
  rcases d with ⟨kvs, e⟩ | ⟨kvs, e⟩
  · obtain ⟨_, hd, vs, _, dd⟩ := dk_rd I.hok e
    refine ⟨dd.typeIs, fun b q => ?_, hd⟩
    cases q
    obtain ⟨ob, _, _, h1, h2, _⟩ := dd
    exact ⟨ob, h1, h2.2.1⟩
  · obtain ⟨_, hd, xs, _, dd⟩ := dt_rd I.hok e
    refine ⟨dd.typeIs, fun b q => ?_, hd⟩
    cases q
    obtain ⟨ob, _, _, h1, h2, _⟩ := dd
    exact ⟨ob, h1, h2.2.1⟩
section
variable {X : Cx} {pins : List (Addr × Obj)} {σ : St} {H : Hp} {s : Shared} {a : Addr} {y d : V} {u r : Value} {o : Option V} {A : Around} {E : Value → Shared → Prop}
end
section
variable {X : Cx} {o e f : Expr} {apos cpos : Pos} {td ty tx : TE}
end
section
variable {X : Cx} {pins : List (Addr × Obj)} {σ : St} {H : Hp} {s : Shared} {a : Addr} {kvs : List (Key × V)} {A : Around} {E : Value → Shared → Prop}
end
section
variable {X : Cx} {pins : List (Addr × Obj)} {σ : St} {H : Hp} {s : Shared} {a : Addr} {y : V} {u : Value} {A : Around} {E : Value → Shared → Prop}
end
end L2
namespace Att
open PySem PySem.W PySem.Calls PyProof.Rows
theorem ints_of_wellAll {P : Params} {h : Heap} : ∀ (ns : List Int) (vs : List Value), WellAll P h vs (ns.map WData.int) → IntsAre vs ns := by
  intro ns
  induction ns with
  | nil =>
    intro vs w
    rw [List.map_nil] at w
    cases w
    exact .nil
  | cons n ns ih =>
    intro vs w
    rw [List.map_cons] at w
    cases w with
    | cons a b =>
      cases a
      exact .cons _ _ (ih _ b)
theorem script_of {l : OpenLaw} {n : Nat} (hn : l.most = some n) {P : Params} {h : Heap} {args : List WData} {vals : List Value}
    (hpre : l.row.toRowW.claim.pre args = true) (hwl : WellAll P h vals args) :
    ∃ a vs ns, vals = [Value.ref a] ∧ args = [WData.list (ns.map WData.int)] ∧ h.get? a = some { cls := .type "list", data := .seq vs.toArray } ∧ IntsAre vs ns ∧ ns.length ≤ n := by
  have hsh : WShape.hasAll [] args [.list .int] = true := (pre_splitW hpre).1
  have hc : l.pre.holds [] { args := args } = true := (pre_splitW hpre).2
  obtain ⟨d, r, rfl, h1, h2⟩ := hasAllW_cons hsh
  obtain rfl := hasAllW_nil h2
  obtain ⟨xs, rfl, h3⟩ := hasW_list h1
  obtain ⟨ns, rfl⟩ := items_int h3
  have hlen : ns.length ≤ n := by
    unfold OpenLaw.pre at hc
    have h4 : (WTm.not (.lt (.lit (.int (n : Int))) (.len (.arg 0)))).holds [] { args := [.list (ns.map .int)] } = true := by
      have h4 := (holds_andW hc).1
      rw [hn] at h4
      exact h4
    have h5 := condW_of h4 (w_not (w_lt w_lit (w_len_list (w_arg rfl))))
    rw [List.length_map] at h5
    refine Nat.le_of_not_lt fun q => ?_
    have q' : (n : Int) < ((ns.length : Nat) : Int) := by omega
    first
      | (rw [decide_eq_true q'] at h5; exact absurd h5 (by decide))
      | (simp at h5; omega)
  cases hwl with
  | cons w1 w2 =>
    cases w2
    cases w1 with
    | list ho hall => exact ⟨_, _, ns, rfl, rfl, ho, ints_of_wellAll ns _ hall, hlen⟩
theorem post_true (l : OpenLaw) (args : List WData) : l.row.toRowW.claim.post args (.bool true) args = true :=
  postW_of (r := l.row.toRowW) (X := (true == true))
    (show WShape.has [] (.bool true) .bool = true by first | rfl | decide | simp [WShape.has, WShape.arms, WShape.armsAll])
    (show (WTm.eq .res (.lit (.bool true))).value [] { args := args, res := some (.bool true), after := args } = some (.bool (true == true)) from w_eq_bool (w_res rfl) w_lit) rfl
theorem attach_call {l : OpenLaw} {n : Nat} {q : Program} {loose : List Str} {XP : (Str → Option Value) → Heap → Prop} {YP : World → Heap → Prop} {d : DefRec}
    (hn : l.most = some n) (hdf : d.params.defaults = [])
    (call : ∀ (w : World) (s₀ s₁ : Shared) (mg mb : Str → Option Value) (fa : Addr) (o : Obj) (pm cd doc : Value) (a : Addr) (vs : List Value) (ns : List Int),
      Ground q loose [] XP w s₀ mg mb s₁.heap → YP w s₁.heap →
      s₁.heap.get? fa = some o → o.data = .func (docDef d.name d.params d.body d.scope pm cd doc) → s₁.heap.CodeRec cd d.name → mg d.name = some (.ref fa) →
      s₁.heap.get? a = some { cls := .type "list", data := .seq vs.toArray } → IntsAre vs ns → ns.length ≤ n → s₁.gens = #[] →
      codeAny (model l.prog w) callerA (.call (.ref fa) ⟨[.ref a], []⟩) (fun r s' => r = .ok (.ret (.bool true)) ∧ OldK s₁.heap s'.heap ∧ s'.os = s₁.os ∧ AllBare s'.gens) s₁) :
    WalkO q loose XP YP l.row.toRowW d [] (fun f vs => PySem.call f vs) := by
  intro w s₀ s₁ mg mb G Y fa o pm cd doc dV kV ho hd hcd hD hmg hg args vals as hpre hlay hrd hwl hlo
  obtain rfl : dV = .none := Dflts.none hD hdf
  obtain rfl : kV = .none := Dflts.noKw hD
  obtain ⟨a, vs, ns, rfl, rfl, hobj, hints, hlen⟩ := script_of hn hpre hwl
  refine enter_call (codeAny_mono (call w s₀ s₁ mg mb fa o pm cd doc a vs ns G Y ho (fd_plain hd) hcd hmg hobj hints hlen hg) fun r s' hq => ?_)
  obtain ⟨rfl, h2, h3, h4⟩ := hq
  exact ⟨.inl ⟨.bool true, .bool true, [], rfl, fun _ => rfl, .bool true, post_true l _, fun _ => ⟨List.Pairwise.nil, fun _ hm => (nomatch hm)⟩⟩, h2, h3, h4⟩
section
variable {prog : Program} {w : World} {A : Around} {E : Value → Shared → Prop} {s : Shared} {K : Frag}
end
end Att
namespace L2
open PySem PySem.Spec PyProof.Rows
theorem vals_ints : ∀ {vs : List Value} {ns : List Int}, IntsAre vs ns → Vals (ns.map V.int) vs
  | _, _, .nil => .nil
  | _, _, .cons n t h => .cons ⟨t, rfl⟩ (vals_ints h)
def Only (H : Hp) : Prop := ∀ b, H b = none ∨ ∃ o xs, H b = some (.frz o (.lst xs))
theorem law_call {P : Program} {w : World} {K : PySem.W.Frag} {mg mb : Str → Option Value} {CX : CXT} {k : Nat} {fa a : Addr} {fd : FuncData} {x : Str} {sp : Sp} {s₁ : Shared} {vs : List Value} {ns : List Int}
    (KX : K.In s₁.heap) (hns : s₁.heap.Ns mainGlobals mg) (hb : s₁.heap.Ns builtinsNs mb) (hbb : ∀ x : Str, x ≠ "__name__" → mb x = bootBuiltins x) (hlim : s₁.heap.NoLimit) (hg : s₁.gens = #[])
    (ha : s₁.heap.get? a = some { cls := .type "list", data := .seq vs.toArray }) (hi : IntsAre vs ns) (hl : ns.length ≤ sizeLine) (hr : Room k callerA)
    (F : ∀ base : Heap, K.In base → base.Ns mainGlobals mg → FnOk P w K mg base CX k fa fd [x] sp) (hbind : ∀ (s : Shared) (u : Value), BindsTo s fd ⟨[u], []⟩ [(x, u)])
    (hsp : ∀ H : Hp, Only H → SqL K H a (ns.map V.int) → sp [.ref a] H (fun v _ => v = .bl true) fun _ _ _ => False)
    (hCX : ∀ H e s', CX [] H s₁ (fun _ _ _ => False) e s' → False) :
    codeAny (model P w) callerA (.call (.ref fa) ⟨[.ref a], []⟩) (fun r s' => r = .ok (.ret (.bool true)) ∧ OldK s₁.heap s'.heap ∧ s'.os = s₁.os ∧ AllBare s'.gens) s₁ := by
  have rv := vals_ints hi
  have lenV := hi.length
  have core : ∀ H : Hp, Only H → SqL K H a (ns.map V.int) → HOk P w H s₁.heap → (∀ b, H b ≠ none → b = a) → (H a ≠ none → K.lookup a = none) →
      codeAny (model P w) callerA (.call (.ref fa) ⟨[.ref a], []⟩) (fun r s' => r = .ok (.ret (.bool true)) ∧ OldK s₁.heap s'.heap ∧ s'.os = s₁.os ∧ AllBare s'.gens) s₁ := by
    intro H hO hS hok hA hK
    have base_of : ∀ {b : Addr} {o : Obj}, s₁.heap.get? b = some o → H b = none → (hidT s₁.heap H).get? b = some o := fun e n => hidT_get e n
    have noA : ∀ {b : Addr} {o : Obj} {es : Array DictEntry} {ep : Nat}, s₁.heap.get? b = some o → o.data = .dict es ep → H b = none := fun {b o es ep} e d => by
      cases q : H b with
      | none => rfl
      | some u =>
        have e' : b = a := hA b (by rw [q]; simp)
        subst e'
        rw [ha] at e; cases e
        have d' : Data.seq vs.toArray _ = Data.dict es ep := d
        cases d'
    have nsK : ∀ {b : Addr} {m : Str → Option Value}, s₁.heap.Ns b m → (hidT s₁.heap H).Ns b m := fun {b m} ⟨o, es, ep, e, d, r⟩ => ⟨o, es, ep, base_of e (noA e d), d, r⟩
    have hKb : K.In (hidT s₁.heap H) := fun b o e => base_of (KX b o e) (by
      cases q : H b with
      | none => rfl
      | some u =>
        have e' : b = a := hA b (by rw [q]; simp)
        subst e'
        rw [hK (by rw [q]; simp)] at e; cases e)
    have hM : Mod K mg (hidT s₁.heap H) := ⟨hKb, nsK hns, ⟨mb, nsK hb, hbb⟩, let ⟨mc, h1, h2⟩ := hlim; ⟨mc, nsK h1, h2⟩⟩
    have e0 : Env0 P w K mg (hidT s₁.heap H) callerA [] s₁ H := ⟨rfl, hM, fun b o e => of_hidT e, Nat.le_of_eq (hidT_size _ _), trivial, fun b hb => absurd (show b ∈ ([] : List Addr) from hb) (by simp), hok, .of_eq hg⟩
    refine codeAny_mono ((F _ hKb (nsK hns)).run callerA [] s₁ H ⟨[.ref a], []⟩ [.ref a] [.ref a] _ _ hr e0 (hbind s₁ (.ref a)) (.cons rfl .nil) (hsp H hO hS)) fun r s' h => ?_
    cases r with
    | error e => exact (hCX H e s' h).elim
    | ok fl =>
      cases fl with
      | next => exact False.elim h
      | brk => exact False.elim h
      | cont => exact False.elim h
      | ret u =>
        obtain ⟨v, H', os, bare, un, hok', r', q⟩ := h
        have q' : v = .bl true := q
        subst q'
        obtain rfl : u = Value.bool true := r'
        refine ⟨rfl, OldK.of_keep fun b o e => ?_, os, bare⟩
        cases q : H b with
        | none => exact un.keep b o e q (by intro z; exact absurd (show b ∈ ([] : List Addr) from z) (by simp)) (by simp)
        | some u =>
          rcases hO b with z | ⟨ob, xs, z⟩
          · rw [q] at z; cases z
          · have z2 := un.frzs b ob _ z
            obtain ⟨e1, _⟩ := hok b _ z
            obtain ⟨e2, _⟩ := hok' b _ z2
            rw [e] at e1; cases e1
            exact e2
  cases hk : K.lookup a with
  | some o =>
    have e := KX a o hk
    rw [ha] at e
    cases e
    refine core (fun _ => none) (fun _ => .inl rfl) (.inr ⟨_, vs.toArray, _, hk, rfl, rfl, rfl, by rw [List.size_toArray, lenV]; exact hl, by simpa using rv⟩) (fun b u z => by have z' : (none : Option HO) = some u := z; cases z') (fun b z => absurd rfl z) fun z => absurd rfl z
  | none =>
    refine core (fun b => if b = a then some (.frz { cls := .type "list", data := .seq vs.toArray } (.lst (ns.map V.int))) else none) (fun b => ?_) (.inl (.inr ⟨{ cls := .type "list", data := .seq vs.toArray }, if_pos rfl⟩)) (fun b u z => ?_) (fun b z => ?_) fun _ => hk
    · by_cases hb : b = a
      · exact .inr ⟨_, _, if_pos hb⟩
      · exact .inl (if_neg hb)
    · by_cases hb : b = a
      · have z' := (if_pos hb).symm.trans z
        cases z'
        subst hb
        exact ⟨ha, by rw [List.length_map]; exact hl, vs, _, rv, ha⟩
      · have z' := (if_neg hb).symm.trans z
        cases z'
    · by_cases hb : b = a
      · exact hb
      · exact absurd (if_neg hb) z
end L2
namespace L2
open PySem PySem.Spec PyProof.Rows
theorem walk_of {l : PySem.W.OpenLaw} {n k : Nat} {q : Program} {loose : List Str} {XP : (Str → Option Value) → Heap → Prop} {YP : World → Heap → Prop} {d : DefRec} {K : Params → PySem.W.Frag} {CX : World → CXT} {sp : World → Sp} {x : Str}
    (hn : l.most = some n) (hn2 : n ≤ sizeLine) (hdf : d.params.defaults = []) (hr : Room k callerA)
    (hY : ∀ (w : World) (h : Heap), YP w h → (K w.params).In h)
    (F : ∀ (w : World) (mg : Str → Option Value) (fa : Addr) (h : Heap), (K w.params).In h → h.Ns mainGlobals mg → mg d.name = some (.ref fa) →
      ∃ fd : FuncData, (∀ (s : Shared) (u : Value), BindsTo s fd ⟨[u], []⟩ [(x, u)]) ∧
        ∀ base : Heap, (K w.params).In base → base.Ns mainGlobals mg → FnOk l.prog w (K w.params) mg base (CX w) k fa fd [x] (sp w))
    (hsp : ∀ (w : World) (H : Hp) (a : Addr) (ns : List Int), ns.length ≤ n → Only H → SqL (K w.params) H a (ns.map V.int) → sp w [.ref a] H (fun v _ => v = .bl true) fun _ _ _ => False)
    (hCX : ∀ (w : World) (H : Hp) (s : Shared) (e : Value) (s' : Shared), CX w [] H s (fun _ _ _ => False) e s' → False) :
    PySem.W.WalkO q loose XP YP l.row.toRowW d [] (fun f vs => PySem.call f vs) := by
  refine Att.attach_call hn hdf fun w s₀ s₁ mg mb fa o pm cd doc a vs ns G Y ho hd hcd hmg hobj hints hlen hg => ?_
  have KX := hY w _ Y
  obtain ⟨fd, hb, hF⟩ := F w mg fa _ KX G.T.g hmg
  exact law_call KX G.T.g G.T.b G.T.builtins G.T.nolimit hg hobj hints (Nat.le_trans hlen hn2) hr hF hb (fun H hO hS => hsp w H a ns hlen hO hS) fun H e s' => hCX w H s₁ e s'
theorem walk_ofK {l : PySem.W.OpenLaw} {n k : Nat} {q : Program} {loose : List Str} {XP : (Str → Option Value) → Heap → Prop} {YP : World → Heap → Prop} {d : DefRec} {K : Params → PySem.W.Frag} {CX : CXT} {sp : PySem.W.Frag → Sp} {x : Str}
    (hn : l.most = some n) (hn2 : n ≤ sizeLine) (hdf : d.params.defaults = []) (hr : Room k callerA)
    (hY : ∀ (w : World) (h : Heap), YP w h → (K w.params).In h)
    (F : ∀ (w : World) (mg : Str → Option Value) (fa : Addr) (h : Heap), (K w.params).In h → h.Ns mainGlobals mg → mg d.name = some (.ref fa) →
      ∃ fd : FuncData, (∀ (s : Shared) (u : Value), BindsTo s fd ⟨[u], []⟩ [(x, u)]) ∧
        ∀ base : Heap, (K w.params).In base → base.Ns mainGlobals mg → FnOk l.prog w (K w.params) mg base CX k fa fd [x] (sp (K w.params)))
    (hsp : ∀ (K : PySem.W.Frag) (H : Hp) (a : Addr) (ns : List Int), ns.length ≤ n → Only H → SqL K H a (ns.map V.int) → sp K [.ref a] H (fun v _ => v = .bl true) fun _ _ _ => False)
    (hCX : ∀ (H : Hp) (s : Shared) (e : Value) (s' : Shared), CX [] H s (fun _ _ _ => False) e s' → False) :
    PySem.W.WalkO q loose XP YP l.row.toRowW d [] (fun f vs => PySem.call f vs) :=
  walk_of (K := K) (CX := fun _ => CX) (sp := fun w => sp (K w.params)) hn hn2 hdf hr hY F (fun w H a ns h1 h2 h3 => hsp (K w.params) H a ns h1 h2 h3) fun _ H s e s' => hCX H s e s'
end L2
namespace L2
open PySem PySem.Spec PyProof.Rows
def defArgs (s : Stmt) : Arguments := match s with
  | .FunctionDef _ a _ _ _ _ _ _ _ _ => a
  | _ => { posonlyargs := [], args := [], vararg := none, kwonlyargs := [], kw_defaults := [], kwarg := none, defaults := [] }
def defBody (s : Stmt) : List Stmt := match s with
  | .FunctionDef _ _ b _ _ _ _ _ _ _ => b
  | _ => []
def defScope (s : Stmt) : Scope := match s with
  | .FunctionDef _ _ _ _ _ _ sc _ _ _ => sc
  | _ => { kind := .function, names := [], isGenerator := false, isCoroutine := false }
abbrev CX0 : CXT := fun _ _ _ _ _ _ => False
abbrev E0 : XK := fun _ _ _ => False
theorem pass0 {X : Cx} : Passes CX0 X E0 := fun _ _ _ _ _ _ _ h => h.elim
structure Fun (K : PySem.W.Frag) (x qual : Str) (st : Stmt) (f : Addr) (fd : FuncData) : Prop where
  ex : ∃ (oc : Value) (od : Option Addr) (kV doc pm : Value) (an : Option Addr) (cdv ct : Value) (osl : Array (Option Value)),
    fd = PySem.W.fnOf x qual (defArgs st) (defBody st) (defScope st) .none kV doc pm an cdv ct ∧ K.lookup f = some ⟨oc, od, .func fd, osl⟩ ∧ PySem.W.codeIn K cdv qual = true
  kp : PySem.W.keepIn K (.ref f) = true
section
variable {P : Program} {w : World} {K : PySem.W.Frag} {mg : Str → Option Value} {base : Heap}
theorem Fun.ok {x qual : Str} {st : Stmt} {f : Addr} {fd : FuncData} {N ps : List Str} {k : Nat} {sp : Sp} (F : Fun K x qual st f fd) (S : FnScope N ps (defScope st)) (len : ∀ vs H Q E, sp vs H Q E → vs.length = ps.length)
    (hbody : ∀ (cdv : Value) (A : Around) (outer : List Env) (s : Shared) (H : Hp) (vs : List V) (Q : VK) (E : XK), Room k (A.deeper (envOfC qual (defScope st) s.heap.objs.size f cdv)) → sp vs H Q E →
      ∃ t, PSs (cxOf CX0 P w K mg base N qual (defScope st) f cdv A outer s H E).nox (defBody st) t ∧ t { nx := fun _ H' => Q .non H', rt := Q } (start N vs) H) : FnOk P w K mg base CX0 (k + 1) f fd ps sp := by
  obtain ⟨oc, od, kV, doc, pm, an, cdv, ct, osl, rfl, lk, hcd⟩ := F.ex
  refine fn_of lk hcd S len fun A outer s H vs Q E hr hsp => ?_
  obtain ⟨t, h, q⟩ := hbody cdv A outer s H vs Q E hr hsp
  exact ⟨t, h.nox, q⟩
theorem Fun.binds {x qual : Str} {st : Stmt} {f : Addr} {fd : FuncData} {ps : List Str} (F : Fun K x qual st f fd)
    (h : ∀ (kV doc pm : Value) (an : Option Addr) (cdv ct : Value) (us : List Value), us.length = ps.length → bindArgs (PySem.W.fnOf x qual (defArgs st) (defBody st) (defScope st) .none kV doc pm an cdv ct) ⟨us, []⟩ = pure (ps.zip us)) : Binds K fd ps [] := by
  obtain ⟨oc, od, kV, doc, pm, an, cdv, ct, osl, rfl, lk, hcd⟩ := F.ex
  exact .all (h kV doc pm an cdv ct)
theorem fun_mk {x qual : Str} {st : Stmt} {f : Addr} {oc : Value} {od an : Option Addr} {osl : Array (Option Value)} {kV doc pm cdv ct : Value} (l : K.lookup f = some ⟨oc, od, .func (PySem.W.fnOf x qual (defArgs st) (defBody st) (defScope st) .none kV doc pm an cdv ct), osl⟩)
    (c : PySem.W.codeIn K cdv qual = true) (k : PySem.W.keepIn K (.ref f) = true) : Fun K x qual st f (PySem.W.fnOf x qual (defArgs st) (defBody st) (defScope st) .none kV doc pm an cdv ct) := ⟨⟨oc, od, kV, doc, pm, an, cdv, ct, osl, rfl, l, c⟩, k⟩
end
section
variable {X : Cx}
theorem pv (i : Nat) {x : Str} {pos : Pos} (hN : X.N[i]? = some x := by rfl) (hv : Vis X.env.scope x := by first | exact Or.inl rfl | exact Or.inr (Or.inl rfl) | exact Or.inr (Or.inr rfl)) (hd : (x == ("__debug__" : Str)) = false := by decide)
    (hcd : (x == ("__classdict__" : Str)) = false := by decide) : PE X (.Name x pos) (tVar i) := pe_var hN hv hd hcd
end
theorem ite2 {c A B : Prop} [Decidable c] (h1 : c → A) (h2 : ¬ c → B) : if c then A else B := by
  by_cases h : c
  · rw [if_pos h]
    exact h1 h
  · rw [if_neg h]
    exact h2 h
def Same (H H' : Hp) : Prop := ∀ b o, H b = some o → H' b = some o
theorem Same.refl (H : Hp) : Same H H := fun _ _ h => h
theorem Same.trans {H H1 H2 : Hp} (a : Same H H1) (b : Same H1 H2) : Same H H2 := fun c o h => b c o (a c o h)
theorem Same.free {H H' : Hp} (e : Same H H') {l : Addr} (h : H' l = Option.none) : H l = Option.none := by
  cases q : H l with
  | none => rfl
  | some o =>
    rw [e l o q] at h
    cases h
theorem Same.seq {K : PySem.W.Frag} {H H' : Hp} {a : Addr} {xs : List V} (e : Same H H') (h : SqL K H a xs) : SqL K H' a xs := by
  rcases h with (h | ⟨o, h⟩) | h
  · exact .inl (.inl (e _ _ h))
  · exact .inl (.inr ⟨o, e _ _ h⟩)
  · exact .inr h
section
variable {κ : Type} [DecidableEq κ]
end
end L2
namespace L2
open PySem PySem.Spec PyProof.Rows
section
variable {X : Cx}
theorem op_fdivL : OpR X (binaryOp .FloorDiv) (rI (fun _ j => 0 < j ∧ j.natAbs.log2 < 9000) fun i j => .int (i / j)) := opI fun i j _ _ _ _ _ hc q => by
  have h1 : (0 : Int) < j := hc.1
  exact floordiv_int (by omega) (by rw [Int.fdiv_eq_ediv_of_nonneg i (by omega)]; exact q) (.inl (PyProof.noPylong_of_log2 hc.2))
theorem call_isinst {K : PySem.W.Frag} (hK : X.K = K) : CallR X (.builtin "isinstance") (fun xs H Q => ∃ x T t b, xs = [x, .ty T] ∧ TyOf K H x t ∧ PySem.W.kitOne K t (.type T) = some b ∧ Q (.bl b) H) := by
  subst hK
  intro pins s σ H xs us Q I r h
  obtain ⟨x, T, t, b, rfl, ty, e, q⟩ := h
  obtain ⟨u, w', rfl, rx, rt⟩ := vals2 r
  cases (show w' = Value.type T from rt)
  exact isinst_ok I rx ty e fun tk => ⟨.bl b, H, I.tok tk, rfl, q⟩
end
section
variable {prog : Program} {w : World} {A : Around} {E : Value → Shared → Prop} {s : Shared}
end
def closL : List (Str × NameKind) → List (Str × Addr) → List (Str × Addr) → List (Str × Addr)
  | [], _, cs => cs
  | (n, k) :: r, cells, cs => closL r cells (if k == .free then (n, (cells.lookup n).getD 0) :: cs else cs)
def clStep (env : Env) (x : Str × NameKind) (r : List (Str × Addr)) : Sem (ForInStep (List (Str × Addr))) :=
  if (x.2 == NameKind.free) = true then cellOf env x.1 >>= fun a => pure (ForInStep.yield ((x.1, a) :: r)) else pure (ForInStep.yield r)
theorem closureFor_eq {scope : Scope} {env : Env} (h : ∀ y ∈ scope.names, y.2 = .free → ∃ c, env.cells.lookup y.1 = some c) : closureFor scope env = pure (closL scope.names env.cells []) := by
  have key : ∀ (l : List (Str × NameKind)) (cs : List (Str × Addr)), (∀ y ∈ l, y.2 = .free → ∃ c, env.cells.lookup y.1 = some c) → (forIn l cs (clStep env) : Sem (List (Str × Addr))) = pure (closL l env.cells cs) := by
    intro l
    induction l with
    | nil => intro cs _; rfl
    | cons y r ih =>
      intro cs hl
      obtain ⟨n, k⟩ := y
      rw [List.forIn_cons]
      by_cases hk : (k == NameKind.free) = true
      · obtain ⟨c, hc⟩ := hl (n, k) List.mem_cons_self (by simpa using hk)
        have hc' : env.cells.lookup n = some c := hc
        have e : clStep env (n, k) cs = pure (ForInStep.yield ((n, c) :: cs)) := by simp only [clStep, hk, if_true, cellOf, hc', pure_bind]
        rw [e, pure_bind]
        show forIn r ((n, c) :: cs) (clStep env) = _
        rw [ih _ fun y hy => hl y (List.mem_cons_of_mem _ hy)]
        simp [closL, hk, hc']
      · have e : clStep env (n, k) cs = pure (ForInStep.yield cs) := by simp only [clStep, hk, if_false]; rfl
        rw [e, pure_bind]
        show forIn r cs (clStep env) = _
        rw [ih _ fun y hy => hl y (List.mem_cons_of_mem _ hy)]
        simp [closL, hk]
  have e0 : closureFor scope env = (forIn scope.names [] (clStep env) : Sem (List (Str × Addr))) >>= fun cs => pure cs := by rfl
  rw [e0, key _ _ h, pure_bind]
theorem closL_lookup {cells : List (Str × Addr)} {y : Str} {c : Addr} : ∀ (l : List (Str × NameKind)) (cs : List (Str × Addr)), (∀ z ∈ l, z.2 = .free → ∃ c, cells.lookup z.1 = some c) → (cs.lookup y = some c → cells.lookup y = some c) →
    (closL l cells cs).lookup y = some c → cells.lookup y = some c
  | [], cs, _, h, e => h e
  | (n, k) :: r, cs, hl, h, e => by
    refine closL_lookup r _ (fun z hz => hl z (List.mem_cons_of_mem _ hz)) (fun e' => ?_) e
    by_cases hk : (k == NameKind.free) = true
    · rw [if_pos hk] at e'
      obtain ⟨c', hc⟩ := hl (n, k) List.mem_cons_self (by simpa using hk)
      have hc' : cells.lookup n = some c' := hc
      rw [List.lookup_cons, hc'] at e'
      by_cases hy : (y == n) = true
      · simp only [hy] at e'
        rw [eq_of_beq hy, hc']
        exact e'
      · simp only [hy] at e'
        exact h e'
    · rw [if_neg hk] at e'
      exact h e'
theorem closL_has {cells : List (Str × Addr)} {y : Str} : ∀ (l : List (Str × NameKind)) (cs : List (Str × Addr)), (y, NameKind.free) ∈ l ∨ (cs.lookup y).isSome = true → ((closL l cells cs).lookup y).isSome = true
  | [], cs, h => by
    rcases h with h | h
    · cases h
    · exact h
  | (n, k) :: r, cs, h => by
    refine closL_has r _ ?_
    rcases h with h | h
    · rcases List.mem_cons.mp h with h | h
      · cases h
        refine .inr ?_
        simp
      · exact .inl h
    · refine .inr ?_
      by_cases hk : (k == NameKind.free) = true
      · rw [if_pos hk, List.lookup_cons]
        cases hy : y == n
        · exact h
        · rfl
      · rw [if_neg hk]; exact h
theorem lookup_mem {y : Str} {k : NameKind} : ∀ {l : List (Str × NameKind)}, l.lookup y = some k → (y, k) ∈ l
  | [], h => by cases h
  | (n, k') :: r, h => by
    rw [List.lookup_cons] at h
    cases hy : y == n
    · rw [hy] at h; exact List.mem_cons_of_mem _ (lookup_mem h)
    · rw [hy] at h; cases h; rw [eq_of_beq hy]; exact List.mem_cons_self
theorem relabel_was {scope : Scope} {env : Env} {y : Str} {k : NameKind} (h : (relabel scope env).names.lookup y = some k) : scope.names.lookup y = some k ∨ (k = .cell ∧ scope.names.lookup y = some .free) := by
  have key : ∀ l : List (Str × NameKind), (l.map fun (n, k) => if (k == NameKind.free && env.scope.kind == .function && env.kindOf n == some .cell) then (n, NameKind.cell) else (n, k)).lookup y = some k → l.lookup y = some k ∨ (k = .cell ∧ l.lookup y = some .free) := by
    intro l
    induction l with
    | nil => intro h; simp at h
    | cons z r ih =>
      obtain ⟨n, k'⟩ := z
      intro h
      rw [List.map_cons] at h
      rw [List.lookup_cons]
      by_cases hc : (k' == NameKind.free && env.scope.kind == .function && env.kindOf n == some .cell) = true
      · have e : (match (n, k') with | (n, k) => if (k == NameKind.free && env.scope.kind == .function && env.kindOf n == some .cell) = true then (n, NameKind.cell) else (n, k)) = (n, NameKind.cell) := by simp only [hc, if_true]
        rw [e, List.lookup_cons] at h
        cases hy : y == n
        · rw [hy] at h; exact ih h
        · rw [hy] at h
          have hk : k' = .free := by simp at hc; exact hc.1.1
          cases h
          exact .inr ⟨rfl, by rw [hk]⟩
      · have e : (match (n, k') with | (n, k) => if (k == NameKind.free && env.scope.kind == .function && env.kindOf n == some .cell) = true then (n, NameKind.cell) else (n, k)) = (n, k') := by simp only [hc, if_false]; rfl
        rw [e, List.lookup_cons] at h
        cases hy : y == n
        · rw [hy] at h; exact ih h
        · rw [hy] at h; exact .inl h
  exact key _ h
theorem relabel_free {scope : Scope} {env : Env} {y : Str} (h : scope.names.lookup y = some .free) : (relabel scope env).names.lookup y = some .cell ∨ (relabel scope env).names.lookup y = some .free := by
  have key : ∀ l : List (Str × NameKind), l.lookup y = some .free → (l.map fun (n, k) => if (k == NameKind.free && env.scope.kind == .function && env.kindOf n == some .cell) then (n, NameKind.cell) else (n, k)).lookup y = some .cell ∨
     (l.map fun (n, k) => if (k == NameKind.free && env.scope.kind == .function && env.kindOf n == some .cell) then (n, NameKind.cell) else (n, k)).lookup y = some .free := by
    intro l
    induction l with
    | nil => intro h; simp at h
    | cons z r ih =>
      obtain ⟨n, k'⟩ := z
      intro h
      rw [List.lookup_cons] at h
      rw [List.map_cons]
      cases hy : y == n
      · rw [hy] at h
        rcases ih h with q | q
        · left; rw [List.lookup_cons]
          split
          · rename_i hb; split at hb <;> (simp only at hb; rw [hy] at hb; cases hb)
          · exact q
        · right; rw [List.lookup_cons]
          split
          · rename_i hb; split at hb <;> (simp only at hb; rw [hy] at hb; cases hb)
          · exact q
      · rw [hy] at h
        cases h
        by_cases hc : (NameKind.free == NameKind.free && env.scope.kind == .function && env.kindOf n == some .cell) = true
        · left; simp only [hc, if_true, List.lookup_cons, hy]
        · right
          show List.lookup y ((if (NameKind.free == NameKind.free && env.scope.kind == .function && env.kindOf n == some .cell) = true then (n, NameKind.cell) else (n, NameKind.free)) :: _) = _
          rw [if_neg hc, List.lookup_cons, hy]
  exact key _ h
def PF (X : Cx) (ifs : List Expr) (t : TT) : Prop :=
  ∀ (pins : List (Addr × Obj)) (s : Shared) (σ : St) (H : Hp) (Q : Bool → Hp → Prop), Inv X pins σ H s → t σ H Q →
    wpAny (model X.prog X.w) X.A (forIn ifs true fun c r => if r = true then do let ok ← isTrue c X.env (eval c X.env); pure (ForInStep.yield ok) else pure (ForInStep.yield r)) (TP X pins σ Q) X.xe s
def tYes : TT := fun _ H Q => Q true H
theorem pf_nil {X : Cx} : PF X [] tYes := fun _ _ _ H _ I h => wpAny_pure ⟨H, I, h⟩
theorem pf_one {X : Cx} {c : Expr} {t : TT} (h : PT X c t) : PF X [c] t := fun pins s σ H Q I q => wpAny_tests_one (h pins s σ H Q I q)
def compCx (X : Cx) (scope : Scope) (N : List Str) (pins : List (Addr × Obj)) (ex : List Addr) (H₀ : Hp) (s₀ : Shared) (C : Addr) : Cx :=
  { X with N := N, s₀ := s₀, H₀ := H₀, env := compEnvC scope (closL scope.names X.env.cells []) C X.env, outer := X.stack, stack := X.stack, ex := ex, fn := fun _ => false, pn := X.pn ++ pins, xe := fun _ _ => False }
def namesOk (sc : Scope) : List Str → List Str → Bool
  | [], [] => true
  | n :: N, m :: M => (sc.names.lookup m == none || (m == n && sc.names.lookup m == some .free)) && namesOk sc N M
  | _, _ => false
theorem namesOk.get {sc : Scope} : ∀ {N M : List Str}, namesOk sc N M = true → N.length = M.length ∧ ∀ (i : Nat) (y : Str), M[i]? = some y → sc.names.lookup y = none ∨ (N[i]? = some y ∧ sc.names.lookup y = some .free)
  | [], [], _ => ⟨rfl, fun i y h => by simp at h⟩
  | n :: N, m :: M, h => by
    rw [namesOk, Bool.and_eq_true] at h
    obtain ⟨h1, h2⟩ := h
    obtain ⟨l, ih⟩ := namesOk.get h2
    refine ⟨by simp [l], fun i y e => ?_⟩
    cases i with
    | zero =>
      have e' : m = y := by simpa using e
      subst e'
      rcases (Bool.or_eq_true _ _).mp h1 with h | h
      · exact .inl (by simpa using h)
      · obtain ⟨h3, h4⟩ := (Bool.and_eq_true _ _).mp h
        exact .inr ⟨by rw [eq_of_beq h3]; rfl, by simpa using h4⟩
    | succ i => simpa using ih i y (by simpa using e)
  | [], _ :: _, h => by cases h
  | _ :: _, [], h => by cases h
structure CScope (osc : Scope) (N : List Str) (x : Str) (sc : Scope) (M : List Str) : Prop where
  kind : sc.kind = .function
  cell : ∀ y ∈ sc.names, y.2 ≠ .cell
  names : ∀ y ∈ sc.names, y.2 = .local → sc.names.lookup y.1 = some .local
  hx : sc.names.lookup x = some .local
  free : ∀ y ∈ sc.names, y.2 = .free → osc.names.lookup y.1 = some .cell ∨ osc.names.lookup y.1 = some .free
  nd : (x :: M).Nodup
  ok : namesOk sc N M = true
section
variable {X : Cx}
end
inductive EqT (H : Hp) : Nat → V → V → Prop
  | int {n : Nat} (i : Int) : EqT H n (.int i) (.int i)
  | str {n : Nat} (x : Str) : EqT H n (.str x) (.str x)
  | lst {n : Nat} {a b : Addr} {xs ys : List V} (ha : H a = some (.lst xs)) (hb : H b = some (.lst ys)) (hl : xs.length = ys.length) (h : ∀ (i : Nat) x y, xs[i]? = some x → ys[i]? = some y → EqT H n x y) : EqT H (n + 1) (.ref a) (.ref b)
  | tup {n : Nat} {a b : Addr} {xs ys : List V} (ha : H a = some (.tup xs)) (hb : H b = some (.tup ys)) (hl : xs.length = ys.length) (h : ∀ (i : Nat) x y, xs[i]? = some x → ys[i]? = some y → EqT H n x y) : EqT H (n + 1) (.ref a) (.ref b)
theorem all_true (n : Nat) : (List.range n).all (fun _ => true) = true := by simp
theorem EqT.items {X : Cx} {H : Hp} {n : Nat} {A : Around} {s : Shared} {xs ys : List V} {us ws : List Value} (r1 : Vals xs us) (r2 : Vals ys ws) (hl : xs.length = ys.length)
    (ih : ∀ (i : Nat) x y, xs[i]? = some x → ys[i]? = some y → ∀ {v' u' : Value}, RelV x v' → RelV y u' → SeqAt.EqAt A.in1 s v' u' true) (j : Nat) (h1 : j < us.toArray.size) (h2 : j < ws.toArray.size) : SeqAt.EqAt A.in1 s us.toArray[j] ws.toArray[j] true := by
  have l1 := r1.length
  have l2 := r2.length
  have hj : j < xs.length := by simpa [l1] using h1
  have hj2 : j < ys.length := by omega
  obtain ⟨u, e1, q1⟩ := r1.get (i := j) (x := xs[j]) (by simp [hj])
  obtain ⟨w', e2, q2⟩ := r2.get (i := j) (x := ys[j]) (by simp [hj2])
  have z1 : us.toArray[j] = u := by
    have : us[j]? = some (us.toArray[j]) := by simp at h1; simp [h1]
    rw [this] at e1; exact Option.some.inj e1
  have z2 : ws.toArray[j] = w' := by
    have : ws[j]? = some (ws.toArray[j]) := by simp at h2; simp [h2]
    rw [this] at e2; exact Option.some.inj e2
  rw [z1, z2]
  exact ih j xs[j] ys[j] (by simp [hj]) (by simp [hj2]) q1 q2
theorem EqT.at {X : Cx} {pins : List (Addr × Obj)} {σ : St} {H : Hp} {s : Shared} (I : Inv X pins σ H s) {n : Nat} {v u : V} (h : EqT H n v u) : ∀ {A : Around} {v' u' : Value}, RelV v v' → RelV u u' → A.units + n < cLine → SeqAt.EqAt A s v' u' true := by
  induction h with
  | int i =>
    intro A v' u' r1 r2 _
    obtain ⟨t, rfl⟩ := r1
    obtain ⟨t', rfl⟩ := r2
    have q := SeqAt.EqAt.int_int (A := A) (s := s) i t i t'
    rw [beq_self_eq_true] at q
    exact q
  | str x =>
    intro A v' u' r1 r2 _
    obtain ⟨t, rfl⟩ := r1
    obtain ⟨t', rfl⟩ := r2
    have q := SeqAt.EqAt.str_str (A := A) (s := s) x t x t'
    rw [beq_self_eq_true] at q
    exact q
  | @lst n a b xs ys ha hb hl h ih =>
    intro A v' u' r1 r2 hu
    cases r1
    cases r2
    by_cases hab : a = b
    · subst hab; exact SeqAt.EqAt.same _
    · obtain ⟨us, ru, pu, _⟩ := I.list (SqL.of ha)
      obtain ⟨ws, rw', pw, _⟩ := I.list (SqL.of hb)
      have q := SeqAt.RcAt.lists (A := A) (e := fun _ => true) pu.isList pw.isList (by simp [← ru.length, ← rw'.length, hl]) (by omega) (fun j h1 h2 => EqT.items (X := X) (H := H) (n := n) ru rw' hl (fun i x y e1 e2 _ _ q1 q2 => ih i x y e1 e2 q1 q2 (by show A.units + 1 + n < cLine; omega)) j h1 h2)
      rw [all_true] at q
      exact SeqAt.EqAt.of_refs hab q
  | @tup n a b xs ys ha hb hl h ih =>
    intro A v' u' r1 r2 hu
    cases r1
    cases r2
    by_cases hab : a = b
    · subst hab; exact SeqAt.EqAt.same _
    · obtain ⟨us, ru, pu, _⟩ := I.tuple (SqT.of ha)
      obtain ⟨ws, rw', pw, _⟩ := I.tuple (SqT.of hb)
      have q := SeqAt.RcAt.tuples (A := A) (e := fun _ => true) (show s.heap.IsTuple a us.toArray from pu) (show s.heap.IsTuple b ws.toArray from pw) (by omega) (fun j h1 h2 => EqT.items (X := X) (H := H) (n := n) ru rw' hl (fun i x y e1 e2 _ _ q1 q2 => ih i x y e1 e2 q1 q2 (by show A.units + 1 + n < cLine; omega)) j h1 h2)
      have e : us.toArray.size = ws.toArray.size := by simp [← ru.length, ← rw'.length, hl]
      rw [all_true, e, beq_self_eq_true, Bool.true_and] at q
      exact SeqAt.EqAt.of_refs hab q
theorem op_eq_tree {X : Cx} : OpR X (compareOp .Eq) (fun x y H Q => ∃ n a b xs ys, x = .ref a ∧ y = .ref b ∧ H a = some (.lst xs) ∧ H b = some (.lst ys) ∧ xs.length = ys.length ∧ (∀ (i : Nat) x y, xs[i]? = some x → ys[i]? = some y → EqT H n x y) ∧ X.A.units + n + 1 < cLine ∧ Q (.bl true) H) := by
  intro pins s σ H x y v u Q I rx ry h
  obtain ⟨n, a, b, xs, ys, rfl, rfl, ha, hb, hl, h, hu, q⟩ := h
  cases rx
  cases ry
  obtain ⟨us, ru, pu, _⟩ := I.list (SqL.of ha)
  obtain ⟨ws, rw', pw, _⟩ := I.list (SqL.of hb)
  refine SeqAt.eq_listAt (e := fun _ => true) pu.isList pw.isList (by simp [← ru.length, ← rw'.length, hl]) (by omega) (fun j h1 h2 => EqT.items (X := X) (H := H) (n := n) ru rw' hl (fun i x y e1 e2 _ _ q1 q2 => (h i x y e1 e2).at I q1 q2 (by show X.A.units + 1 + n < cLine; omega)) j h1 h2) ?_
  rw [all_true]
  exact ⟨.bl true, H, I, rfl, q⟩
def LoopR (lo : Int) (n : Nat) (g : TG) (tb : TS) (D : Ends) (σ : St) (H : Hp) : Prop := ∃ W : Nat → Nat → St → Hp → Prop, (∃ m, W 0 m σ H) ∧ ∀ i m σ H, W i m σ H →
  ((Itr lo n).stop i H ∧ D.nx σ H) ∨ ((Itr lo n).go i H ∧ ∃ N : St → Hp → Prop, (∀ σ' H', N σ' H' → ∃ m', m' < m ∧ W (i + 1) m' σ' H') ∧ ∀ x H', (Itr lo n).yld i H x H' → g x σ H' fun σ2 H2 => tb { D with nx := N, ct := N, bk := D.nx } σ2 H2)
def LoopL (K : PySem.W.Frag) (a : Addr) (g : TG) (tb : TS) (D : Ends) (σ : St) (H : Hp) : Prop := ∃ W : Nat → Nat → St → Hp → Prop, (∃ m, W 0 m σ H) ∧ ∀ i m σ H, W i m σ H →
  ((Itl K a).stop i H ∧ D.nx σ H) ∨ ((Itl K a).go i H ∧ ∃ N : St → Hp → Prop, (∀ σ' H', N σ' H' → ∃ m', m' < m ∧ W (i + 1) m' σ' H') ∧ ∀ x H', (Itl K a).yld i H x H' → g x σ H' fun σ2 H2 => tb { D with nx := N, ct := N, bk := D.nx } σ2 H2)
theorem tFor_r1 {ta : TA} {g : TG} {tb : TS} {D : Ends} {σ : St} {H : Hp} : tFor (iRng1 ta) g tb D σ H = ta σ H fun vs H1 => ∃ j : Int, vs = [.int j] ∧ -(2 ^ 62) ≤ j ∧ j < 2 ^ 62 ∧ LoopR 0 j.toNat g tb D σ H1 := rfl
theorem tFor_l {K : PySem.W.Frag} {tl : TE} {g : TG} {tb : TS} {D : Ends} {σ : St} {H : Hp} : tFor (iList K tl) g tb D σ H = tl σ H fun x H1 => ∃ a, x = .ref a ∧ (∃ xs, SqL K H1 a xs) ∧ LoopL K a g tb D σ H1 := rfl
theorem loopR {lo : Int} {n : Nat} {g : TG} {tb : TS} {D : Ends} {σ : St} {H : Hp} (Pv : Nat → St → Hp → Prop) (h0 : Pv 0 σ H)
    (hs : ∀ i σ H, i < n → Pv i σ H → g (.int (lo + i)) σ H fun σ2 H2 => tb { D with nx := Pv (i + 1), ct := Pv (i + 1), bk := D.nx } σ2 H2) (hd : ∀ σ H, Pv n σ H → D.nx σ H) : LoopR lo n g tb D σ H := for_range Pv h0 hs hd
theorem loopL {K : PySem.W.Frag} {a : Addr} {xs : List V} {g : TG} {tb : TS} {D : Ends} {σ : St} {H : Hp} (Pv : Nat → St → Hp → Prop) (h0 : Pv 0 σ H) (hl : ∀ i σ H, i ≤ xs.length → Pv i σ H → SqL K H a xs)
    (hs : ∀ i x σ H, xs[i]? = some x → Pv i σ H → g x σ H fun σ2 H2 => tb { D with nx := Pv (i + 1), ct := Pv (i + 1), bk := D.nx } σ2 H2) (hd : ∀ σ H, Pv xs.length σ H → D.nx σ H) : LoopL K a g tb D σ H := for_list Pv h0 hl hs hd
theorem Same.upd {H H' : Hp} {a : Addr} {o : HO} (s : Same H H') (h : H a = none) : Same H (upd H' a o) := fun b u e => by
  rw [upd_ne (ne_of_none e h)]; exact s b u e
theorem Same.of_new {H : Hp} {a : Addr} {o : HO} (h : H a = none) : Same H (L2.upd H a o) := (Same.refl H).upd h
theorem cxOf_K {CX : CXT} {P : Program} {w : World} {K : PySem.W.Frag} {mg : Str → Option Value} {base : Heap} {N : List Str} {qual : Str} {scope : Scope} {f : Addr} {cd : Value} {A : Around} {outer : List Env} {s : Shared} {H : Hp} {E : XK} : (cxOf CX P w K mg base N qual scope f cd A outer s H E).K = K := rfl
theorem cxOf_A {CX : CXT} {P : Program} {w : World} {K : PySem.W.Frag} {mg : Str → Option Value} {base : Heap} {N : List Str} {qual : Str} {scope : Scope} {f : Addr} {cd : Value} {A : Around} {outer : List Env} {s : Shared} {H : Hp} {E : XK} : (cxOf CX P w K mg base N qual scope f cd A outer s H E).A = A.deeper (envOfC qual scope s.heap.objs.size f cd) := rfl
section
variable {X : Cx}
theorem ix_lst : IxR X (fun x y H Q => ∃ p i, x = .ref p ∧ y = .int i ∧ ∃ xs, H p = some (.lst xs) ∧ ∃ v, atI xs i = some v ∧ Q v H) := fun value slice pins s σ H x y v u Q I rx ry h hs =>
  ix_list value slice pins s σ H x y v u Q I rx ry (by obtain ⟨p, i, e1, e2, xs, e3, v, e4, q⟩ := h; exact ⟨p, xs, i, v, e1, e2, SqL.of e3, e4, q⟩) hs
theorem ix_tp : IxR X (fun x y H Q => ∃ p i, x = .ref p ∧ y = .int i ∧ ∃ xs, H p = some (.tup xs) ∧ ∃ v, atI xs i = some v ∧ Q v H) := fun value slice pins s σ H x y v u Q I rx ry h hs =>
  ix_tup value slice pins s σ H x y v u Q I rx ry (by obtain ⟨p, i, e1, e2, xs, e3, v, e4, q⟩ := h; exact ⟨p, xs, i, v, e1, e2, SqT.of e3, e4, q⟩) hs
theorem call_len_lst : CallR X (.builtin "len") (fun xs H Q => ∃ p, xs = [.ref p] ∧ ∃ ys, H p = some (.lst ys) ∧ Q (.int ys.length) H) := fun pins s σ H xs us Q I r h =>
  call_len_seq pins s σ H xs us Q I r (by obtain ⟨p, e, ys, e2, q⟩ := h; exact ⟨p, ys, e, .inl (SqL.of e2), q⟩)
theorem call_list_lst : CallR X (.type "list") (fun xs H Q => ∃ p, xs = [.ref p] ∧ ∃ ys, H p = some (.lst ys) ∧ ∀ l, H l = none → Q (.ref l) (upd H l (.lst ys))) := fun pins s σ H xs us Q I r h =>
  call_list_of pins s σ H xs us Q I r (by obtain ⟨p, e, ys, e2, q⟩ := h; exact ⟨p, ys, e, .inl (SqL.of e2), q⟩)
theorem sl_lst : SlR X (fun x lo hi H Q => ∃ a, x = .ref a ∧ ∃ xs, H a = some (.lst xs) ∧ ∀ p, H p = none → Q (.ref p) (upd H p (.lst (cutV xs lo hi)))) := fun pins s σ H x v vl vu lo hi sl Q I rx hs pl pu h =>
  sl_list pins s σ H x v vl vu lo hi sl Q I rx hs pl pu (by obtain ⟨a, e, xs, e2, q⟩ := h; exact ⟨a, xs, e, SqL.of e2, q⟩)
theorem tyV_lst {K : PySem.W.Frag} {H : Hp} {p : Addr} {xs : List V} (h : H p = some (.lst xs)) : tyV K "list" (.ref p) H := .inl ⟨rfl, _, SqL.of h⟩
variable {o e : Expr} {es : List Expr} {to : TE} {t : TA} {name : Str} {apos cpos : Pos} {id : String} {r : V → List V → Hp → VK → Prop}
def tLM (r : V → List V → Hp → VK → Prop) (to : TE) (t : TA) : TE := fun σ H Q => to σ H fun x H1 => ∃ p, x = .ref p ∧ (∃ xs, H1 p = some (.lst xs)) ∧ t σ H1 fun vs H2 => r (.ref p) vs H2 Q
def tLM0 (r : V → List V → Hp → VK → Prop) (to : TE) : TE := fun σ H Q => to σ H fun x H1 => ∃ p, x = .ref p ∧ (∃ xs, H1 p = some (.lst xs)) ∧ r (.ref p) [] H1 Q
theorem pe_lm0 (slot : Slot "list" name id) (hty : typeOf (.builtin id) = pure (.type "method_descriptor")) (hm : MtR X id r) (ho : PE X o to)
    (hbase : attributeBase o name X.env (eval o X.env) = eval o X.env := by rfl) (hline : (apos.endLine == cpos.line) = true := by rfl) : PE X (.Call (.Attribute o name apos) [] [] cpos) (tLM0 r to) := by
  intro pins s σ H Q I h
  refine wpAny_Call_method0_late hbase hline (thn (ho pins s σ H _ I h) fun v s1 ⟨x, H1, I1, r1, p, e1, ⟨xs, hx⟩, q1⟩ => ?_)
  subst e1
  obtain ⟨h1, h2⟩ := tyV_is I1 r1 (tyV_lst hx)
  exact ⟨"list", id, PySem.F.plainAttrs_list, slot, hty, h1, h2, Calls.callWith_builtin rfl (PySem.evalArgs_none (hm pins s1 σ H1 _ [] v [] Q I1 r1 .nil q1))⟩
theorem pe_lm (slot : Slot "list" name id) (hty : typeOf (.builtin id) = pure (.type "method_descriptor")) (hm : MtR X id r) (ho : PE X o to) (ha : PA X (e :: es) t)
    (hbase : attributeBase o name X.env (eval o X.env) = eval o X.env := by rfl)
    (hfew : ((backTo cpos (starEach (e :: es) X.env)).all (fun x => !x.1) && (backToKw cpos (keywordEach [] X.env)).all (fun x => x.1.isSome)
      && decide ((e :: es).length + ([] : List Keyword).length + (if ([] : List Keyword).isEmpty then 0 else 1) < 30)) = true := by rfl)
    (hline : (apos.endLine == cpos.line) = true := by rfl) (hs : starEach (e :: es) X.env = (false, eval e X.env) :: starEach es X.env := by rfl) (hplain : (backTo cpos (starEach es X.env)).any (·.1) = false := by rfl) :
    PE X (.Call (.Attribute o name apos) (e :: es) [] cpos) (tLM r to t) := by
  intro pins s σ H Q I h
  refine wpAny_Call_method_late hbase hfew hline rfl (thn (ho pins s σ H _ I h) fun v s1 ⟨x, H1, I1, r1, p, e1, ⟨xs, hx⟩, q1⟩ => ?_)
  subst e1
  obtain ⟨h1, h2⟩ := tyV_is I1 r1 (tyV_lst hx)
  refine ⟨"list", id, PySem.F.plainAttrs_list, slot, hty, h1, h2, ?_⟩
  have hA := ha cpos pins s1 σ H1 _ I1 q1
  rw [hs] at hA ⊢
  refine Calls.callWith_builtin (by show (false || (backTo cpos (starEach es X.env)).any (·.1)) = false; rw [hplain] <;> rfl) (Calls.evalArgs_plain ?_)
  exact thn hA fun us s2 ⟨vs, H2, I2, r2, q2⟩ => hm pins s2 σ H2 _ vs v us Q I2 r1 r2 q2
theorem upd_app {H : Hp} {a b : Addr} {o : HO} : upd H a o b = if b = a then some o else H b := rfl
theorem upd_none {H : Hp} {a b : Addr} {o : HO} : upd H a o b = none ↔ b ≠ a ∧ H b = none := by
  rw [upd_app]
  by_cases h : b = a <;> simp [h]
theorem atI0 {α : Type} {a : α} {l : List α} : atI (a :: l) 0 = some a := by
  have := atI_nat (xs := a :: l) (j := 0) (v := a) rfl
  simpa using this
theorem atI1 {α : Type} {a b : α} {l : List α} : atI (a :: b :: l) 1 = some b := by
  have := atI_nat (xs := a :: b :: l) (j := 1) (v := b) rfl
  simpa using this
theorem atI2 {α : Type} {a b c : α} {l : List α} : atI (a :: b :: c :: l) 2 = some c := by
  have := atI_nat (xs := a :: b :: c :: l) (j := 2) (v := c) rfl
  simpa using this
theorem sizeL24 : sizeLine = 16777216 := sizeLine_eq
end
end L2
namespace L2
open PySem PySem.Spec PyProof.Rows PySem.SeqAt
theorem eqloop_plain : plainId "list.__eq__.loop" = true := by decide +kernel
theorem eqloop_entry : entryFor table "list.__eq__.loop" = some Builtin.«list.__eq__.loop» := entryFor_of_tree (by kernel_rfl)
open AutoSeq1 (wpAny_loadPart')
theorem ne_loop_same (l b : Addr) (us ws : Array Value) (n n2 : Nat) (hsz : us.size = ws.size) (k : Nat) :
    ∀ i : Nat, us.size - i = k → Meets (Builtin.«list.__eq__.loop» ⟨[.ref l, .ref b, rawInt i, rawInt 3], []⟩)
      (fun A R s => s.heap.get? l = some { cls := .type "list", data := .seq us n } ∧ s.heap.get? b = some { cls := .type "list", data := .seq ws n2 } ∧
        (∀ j (h1 : j < us.size) (h2 : j < ws.size), EqAt A.in1 s us[j] ws[j] true) ∧ R (.ok (.ret (.bool false))) s) := by
  induction k with
  | zero =>
    intro i hk prog w A R s h
    obtain ⟨hp, g, d, tk, os⟩ := s
    obtain ⟨hl, hb, he, h⟩ := h
    wp_walk using wpAny_loadPart' hl, wpAny_loadPart' hb
    have hi1 : us[((i : Nat) : Int).toNat]? = none := by simp; omega
    have hi2 : ws[((i : Nat) : Int).toNat]? = none := by simp; omega
    rw [hi1, hi2]
    wp_walk using wpAny_loadPart' hl, wpAny_loadPart' hb
    show R (.ok (.ret (.bool (us.size != ws.size)))) _
    rw [hsz]
    simpa using h
  | succ k ih =>
    intro i hk prog w A R s h
    obtain ⟨hp, g, d, tk, os⟩ := s
    obtain ⟨hl, hb, he, h⟩ := h
    wp_walk using wpAny_loadPart' hl, wpAny_loadPart' hb
    have hlt : i < us.size := by omega
    have hlt2 : i < ws.size := by omega
    have hi1 : us[((i : Nat) : Int).toNat]? = some us[i] := by simp [hlt]
    have hi2 : ws[((i : Nat) : Int).toNat]? = some ws[i] := by simp [hlt2]
    have hc : ((i : Int) + 1) = ((i + 1 : Nat) : Int) := by omega
    rw [hi1, hi2]
    refine wpAny_bind (he i hlt hlt2 prog w _ _ ?_)
    wp_walk
    rw [hc]
    exact ⟨plainId_quiet eqloop_plain _, codeAny_builtin eqloop_entry (by
      rw [Around.under_plainId eqloop_plain _]
      exact ih (i + 1) (by omega) prog w A R _ ⟨hl, hb, he, h⟩)⟩
theorem list_ne_same (l b : Addr) (us ws : Array Value) (n n2 : Nat) (hsz : us.size = ws.size) :
    Meets (Builtin.«list.__ne__» ⟨[.ref l, .ref b], []⟩)
      (fun A R s => s.heap.get? l = some { cls := .type "list", data := .seq us n } ∧ s.heap.get? b = some { cls := .type "list", data := .seq ws n2 } ∧
        (∀ j (h1 : j < us.size) (h2 : j < ws.size), EqAt A.in1 s us[j] ws[j] true) ∧ R (.ok (.ret (.bool false))) s) := by
  intro prog w A R s h
  obtain ⟨hp, g, d, tk, os⟩ := s
  obtain ⟨hl, hb, he, h⟩ := h
  have f3 := AutoSeq1.sub_list_list
  have hne : ¬ (us.size != ws.size) = true := by simp [hsz]
  wp_walk using wpAny_loadPart' hl, wpAny_loadPart' hb
  exact ⟨plainId_quiet eqloop_plain _, codeAny_builtin eqloop_entry (by
    rw [Around.under_plainId eqloop_plain _]
    exact ne_loop_same l b us ws n n2 hsz _ 0 rfl prog w A R _ ⟨hl, hb, he, h⟩)⟩
theorem list_ne_len (l b : Addr) (us ws : Array Value) (n n2 : Nat) (hc0 : (us.size != ws.size) = true) :
    Meets (Builtin.«list.__ne__» ⟨[.ref l, .ref b], []⟩)
      (fun _ R s => s.heap.get? l = some { cls := .type "list", data := .seq us n } ∧ s.heap.get? b = some { cls := .type "list", data := .seq ws n2 } ∧ R (.ok (.ret (.bool true))) s) :=
  .of_wp fun prog w A R s h => by
    obtain ⟨hp, g, d, tk, os⟩ := s
    obtain ⟨hl, hb, h⟩ := h
    have f3 := AutoSeq1.sub_list_list
    wp_walk using wpAny_loadPart' hl, wpAny_loadPart' hb
    exact ⟨_, rfl, h⟩
section
variable {X : Cx}
theorem Inv.plainL {pins : List (Addr × Obj)} {σ : St} {H : Hp} {s : Shared} {p : Addr} {xs : List V} (I : Inv X pins σ H s) (h : H p = some (.lst xs)) :
    ∃ (its : List Value) (n : Nat), Vals xs its ∧ s.heap.get? p = some { cls := .type "list", data := .seq its.toArray n } := by
  obtain ⟨_, its, n, r, e⟩ := I.hok p _ h
  exact ⟨its, n, r, e⟩
theorem op_ne_tree : OpR X (compareOp .NotEq) (fun x y H Q => ∃ a b, x = .ref a ∧ y = .ref b ∧ ∃ xs, H a = some (.lst xs) ∧ ∃ ys, H b = some (.lst ys) ∧ X.A.units < cLine ∧
    ((xs.length ≠ ys.length ∧ Q (.bl true) H) ∨ (xs.length = ys.length ∧ (∃ n, (∀ (i : Nat) x y, xs[i]? = some x → ys[i]? = some y → EqT H n x y) ∧ X.A.units + n + 1 < cLine) ∧ Q (.bl false) H))) := by
  intro pins s σ H x y v u Q I rx ry h
  obtain ⟨a, b, rfl, rfl, xs, ha, ys, hb, hu, h⟩ := h
  cases rx
  cases ry
  obtain ⟨us, n1, ru, eu⟩ := I.plainL ha
  obtain ⟨ws, n2, rw', ew⟩ := I.plainL hb
  have l1 := ru.length
  have l2 := rw'.length
  rcases h with ⟨hl, q⟩ | ⟨hl, ⟨n, h, hn⟩, q⟩
  · exact richCompare_meets_room (op := .NotEq) ⟨_, eu, rfl⟩ ⟨_, ew, rfl⟩ F.slot_list_ne F.entry_list_ne (F.args_list_ne_2 _ _) (list_ne_len a b us.toArray ws.toArray n1 n2 (by simp; omega))
      ⟨eu, ew, (show Value.bool true ≠ Value.notImplemented ∧ EP X pins σ Q (.bool true) s from ⟨(fun z => nomatch z), ⟨.bl true, H, I, rfl, q⟩⟩)⟩ hu
  · exact richCompare_meets_room (op := .NotEq) ⟨_, eu, rfl⟩ ⟨_, ew, rfl⟩ F.slot_list_ne F.entry_list_ne (F.args_list_ne_2 _ _) (list_ne_same a b us.toArray ws.toArray n1 n2 (by simp; omega))
      ⟨eu, ew, fun j h1 h2 => EqT.items (X := X) (H := H) (n := n) ru rw' hl (fun i x y e1 e2 _ _ q1 q2 => (h i x y e1 e2).at I q1 q2 (by show X.A.units + 1 + n < cLine; omega)) j h1 h2, (show Value.bool false ≠ Value.notImplemented ∧ EP X pins σ Q (.bool false) s from ⟨(fun z => nomatch z), ⟨.bl false, H, I, rfl, q⟩⟩)⟩ hu
theorem op_eq_len : OpR X (compareOp .Eq) (fun x y H Q => ∃ a b, x = .ref a ∧ y = .ref b ∧ ∃ xs, H a = some (.lst xs) ∧ ∃ ys, H b = some (.lst ys) ∧ X.A.units < cLine ∧
    ((xs.length ≠ ys.length ∧ Q (.bl false) H) ∨ (xs.length = ys.length ∧ (∃ n, (∀ (i : Nat) x y, xs[i]? = some x → ys[i]? = some y → EqT H n x y) ∧ X.A.units + n + 1 < cLine) ∧ Q (.bl true) H))) := by
  intro pins s σ H x y v u Q I rx ry h
  obtain ⟨a, b, rfl, rfl, xs, ha, ys, hb, hu, h⟩ := h
  rcases h with ⟨hl, q⟩ | ⟨hl, ⟨n, h, hn⟩, q⟩
  · cases rx
    cases ry
    obtain ⟨us, ru, pu, _⟩ := I.list (SqL.of ha)
    obtain ⟨ws, rw', pw, _⟩ := I.list (SqL.of hb)
    exact SeqAt.eq_list_lengthsAt pu.isList pw.isList (by simp [← ru.length, ← rw'.length, hl]) hu ⟨.bl false, H, I, rfl, q⟩
  · exact op_eq_tree pins s σ H _ _ v u Q I rx ry ⟨n, a, b, xs, ys, rfl, rfl, ha, hb, hl, h, hn, q⟩
theorem op_eq_tup : OpR X (compareOp .Eq) (fun x y H Q => ∃ n a b, x = .ref a ∧ y = .ref b ∧ ∃ xs, H a = some (.tup xs) ∧ ∃ ys, H b = some (.tup ys) ∧ xs.length = ys.length ∧ (∀ (i : Nat) x y, xs[i]? = some x → ys[i]? = some y → EqT H n x y) ∧ X.A.units + n + 1 < cLine ∧ Q (.bl true) H) := by
  intro pins s σ H x y v u Q I rx ry h
  obtain ⟨n, a, b, rfl, rfl, xs, ha, ys, hb, hl, h, hu, q⟩ := h
  cases rx
  cases ry
  obtain ⟨us, ru, pu, _⟩ := I.tuple (SqT.of ha)
  obtain ⟨ws, rw', pw, _⟩ := I.tuple (SqT.of hb)
  refine SeqAt.eq_tupleAt (e := fun _ => true) (show s.heap.IsTuple a us.toArray from pu) (show s.heap.IsTuple b ws.toArray from pw) (by omega) (fun j h1 h2 => EqT.items (X := X) (H := H) (n := n) ru rw' hl (fun i x y e1 e2 _ _ q1 q2 => (h i x y e1 e2).at I q1 q2 (by show X.A.units + 1 + n < cLine; omega)) j h1 h2) ?_
  have e : us.toArray.size = ws.toArray.size := by simp [← ru.length, ← rw'.length, hl]
  rw [all_true, e, beq_self_eq_true, Bool.true_and]
  exact ⟨.bl true, H, I, rfl, q⟩
theorem op_in_tp : OpR X (compareOp .In) (fun x y H Q => ∃ p, y = .ref p ∧ ∃ xs, H p = some (.tup xs) ∧ flatV x = true ∧ xs.all flatV = true ∧ Q (.bl (inV x xs)) H) := fun pins s σ H x y v u Q I rx ry h =>
  op_in_seq pins s σ H x y v u Q I rx ry (by obtain ⟨p, e, xs, e2, h1, h2, q⟩ := h; exact ⟨p, xs, e, .inr (SqT.of e2), h1, h2, q⟩)
theorem op_in_lst : OpR X (compareOp .In) (fun x y H Q => ∃ p, y = .ref p ∧ ∃ xs, H p = some (.lst xs) ∧ flatV x = true ∧ xs.all flatV = true ∧ Q (.bl (inV x xs)) H) := fun pins s σ H x y v u Q I rx ry h =>
  op_in_seq pins s σ H x y v u Q I rx ry (by obtain ⟨p, e, xs, e2, h1, h2, q⟩ := h; exact ⟨p, xs, e, .inl (SqL.of e2), h1, h2, q⟩)
theorem op_notIn_lst : OpR X (compareOp .NotIn) (fun x y H Q => ∃ p, y = .ref p ∧ ∃ xs, H p = some (.lst xs) ∧ flatV x = true ∧ xs.all flatV = true ∧ Q (.bl (!inV x xs)) H) := fun pins s σ H x y v u Q I rx ry h =>
  op_notIn_seq pins s σ H x y v u Q I rx ry (by obtain ⟨p, e, xs, e2, h1, h2, q⟩ := h; exact ⟨p, xs, e, .inl (SqL.of e2), h1, h2, q⟩)
theorem inV_strs (k : Str) (ks : List Str) : inV (.str k) (ks.map V.str) = decide (k ∈ ks) := by
  unfold inV
  induction ks with
  | nil => simp
  | cons a r ih =>
    rw [List.map_cons, List.any_cons, ih, Bool.eq_iff_iff]
    simp [eqV, @eq_comm _ a k]
theorem flat_strs (ks : List Str) : (ks.map V.str).all flatV = true := by
  induction ks with
  | nil => rfl
  | cons a r ih => rw [List.map_cons, List.all_cons, ih]; rfl
theorem truth_bools {prog : Program} {w : World} {A : Around} {its : List Value} {bs : List Bool} (r : Vals (bs.map V.bl) its) : TruthOf prog w A (fun i v => its.toArray[i]? = some v) (fun i => bs.getD i false) := by
  intro i v s Q E hP hq
  have e : its[i]? = some v := by simpa using hP
  have hi : i < bs.length := by
    have := (List.getElem?_eq_some_iff.mp e).1
    have := r.length
    simp at this
    omega
  obtain ⟨u, eu, ru⟩ := r.get (i := i) (x := .bl bs[i]) (by simp [hi])
  rw [e] at eu
  cases eu
  cases (show v = Value.bool bs[i] from ru)
  refine wpAny_truthy_bool ?_
  simpa [hi] using hq
theorem range_all (bs : List Bool) (n : Nat) (h : n = bs.length) : (List.range n).all (fun i => bs.getD i false) = bs.all id := by
  subst h
  induction bs with
  | nil => rfl
  | cons b r ih =>
    rw [List.length_cons, List.range_succ_eq_map, List.all_cons, List.all_map, List.all_cons]
    congr 1
theorem range_any (bs : List Bool) (n : Nat) (h : n = bs.length) : (List.range n).any (fun i => bs.getD i false) = bs.any id := by
  subst h
  induction bs with
  | nil => rfl
  | cons b r ih =>
    rw [List.length_cons, List.range_succ_eq_map, List.any_cons, List.any_map, List.any_cons]
    congr 1
theorem call_all_lst (hc : X.calm = true) : CallR X (.builtin "all") (fun xs H Q => ∃ p, xs = [.ref p] ∧ ∃ bs : List Bool, H p = some (.lst (bs.map V.bl)) ∧ Q (.bl (bs.all id)) H) := by
  intro pins s σ H xs us Q I r h
  obtain ⟨p, rfl, bs, hp, q⟩ := h
  obtain ⟨u, rfl, ru⟩ := vals1 r
  cases ru
  obtain ⟨its, rv, pl, hz⟩ := I.list (SqL.of hp)
  obtain ⟨ol, hol, _⟩ := id pl.isList
  have hlt := Heap.lt_size hol
  refine call_all_walk (wpAny_pyIter_list pl.isList ⟨s.heap.objs.size, _, _, _, _, _, _, rfl, Walks.list (A := X.A.in1) (I.ok.hd hc) s.heap.objs.size p (Nat.ne_of_lt hlt) its.toArray, ⟨⟨_, Heap.get?_push_size _ rfl, rfl, rfl⟩, pl.isList.push _⟩, truth_bools rv, fun h' tk hk => ?_⟩)
  rw [range_all bs _ (by have := rv.length; simp at this; simp [this])]
  have hk' : ∀ b o, s.heap.get? b = some o → h'.get? b = some o := fun b o e => hk b o (by simpa using Nat.ne_of_lt (Heap.lt_size e)) (Heap.get?_push_of_some _ e)
  exact ⟨.bl (bs.all id), H, I.kept hk', rfl, q⟩
theorem call_any_lst (hc : X.calm = true) : CallR X (.builtin "any") (fun xs H Q => ∃ p, xs = [.ref p] ∧ ∃ bs : List Bool, H p = some (.lst (bs.map V.bl)) ∧ Q (.bl (bs.any id)) H) := by
  intro pins s σ H xs us Q I r h
  obtain ⟨p, rfl, bs, hp, q⟩ := h
  obtain ⟨u, rfl, ru⟩ := vals1 r
  cases ru
  obtain ⟨its, rv, pl, hz⟩ := I.list (SqL.of hp)
  obtain ⟨ol, hol, _⟩ := id pl.isList
  have hlt := Heap.lt_size hol
  refine call_any_walk (wpAny_pyIter_list pl.isList ⟨s.heap.objs.size, _, _, _, _, _, _, rfl, Walks.list (A := X.A.in1) (I.ok.hd hc) s.heap.objs.size p (Nat.ne_of_lt hlt) its.toArray, ⟨⟨_, Heap.get?_push_size _ rfl, rfl, rfl⟩, pl.isList.push _⟩, truth_bools rv, fun h' tk hk => ?_⟩)
  rw [range_any bs _ (by have := rv.length; simp at this; simp [this])]
  have hk' : ∀ b o, s.heap.get? b = some o → h'.get? b = some o := fun b o e => hk b o (by simpa using Nat.ne_of_lt (Heap.lt_size e)) (Heap.get?_push_of_some _ e)
  exact ⟨.bl (bs.any id), H, I.kept hk', rfl, q⟩
end
end L2
namespace L2
open PySem PySem.Spec PyProof.Rows PySem.SeqAt
section
variable {X : Cx}
theorem DGet.s {H : Hp} {a : Addr} {kvs : List (Key × V)} {k : Str} {v : V} (e : H a = some (.dK kvs)) (h : valV kvs (Sum.inr k) = some v) : DGet H a (.str k) (some v) := by
  rw [← h]; exact DGet.k (k := Sum.inr k) e
theorem DGet.o {H : Hp} {a : Addr} {kvs : List (Key × V)} {k : Str} (e : H a = some (.dK kvs)) : DGet H a (.str k) (valV kvs (Sum.inr k)) := DGet.k (k := Sum.inr k) e
theorem DPut.s {H : Hp} {a : Addr} {kvs : List (Key × V)} {k : Str} {v : V} (e : H a = some (.dK kvs)) (hl : kvs.length < sizeLine) : DPut H a (.str k) v (upd H a (.dK (putK kvs (Sum.inr k) v))) := DPut.k (k := Sum.inr k) e hl
theorem preSum_list (ns : List Int) : ∀ k, k ≤ ns.length → preSum (fun i => ns.getD i 0) k = (ns.take k).sum
  | 0, _ => by simp [preSum]
  | k + 1, h => by
    have e : ns.take (k + 1) = ns.take k ++ [ns.getD k 0] := by
      rw [List.take_add_one, List.getElem?_eq_getElem (by omega)]
      simp [List.getD_eq_getElem?_getD, List.getElem?_eq_getElem (show k < ns.length by omega)]
    rw [preSum, preSum_list ns k (by omega), e, List.sum_append]
    simp
theorem sum_bound (ns : List Int) (hb : ∀ x ∈ ns, 0 ≤ x ∧ x < 4294967296) : 0 ≤ ns.sum ∧ ns.sum ≤ 4294967296 * ns.length := by
  induction ns with
  | nil => simp
  | cons a r ih =>
    have h1 := hb a List.mem_cons_self
    have h2 := ih fun x hx => hb x (List.mem_cons_of_mem _ hx)
    simp only [List.sum_cons, List.length_cons]
    omega
theorem call_sum_lst (hc : X.calm = true) : CallR X (.builtin "sum") (fun xs H Q => ∃ p, xs = [.ref p] ∧ ∃ ns : List Int, H p = some (.lst (ns.map V.int)) ∧ ns.length ≤ 1000 ∧ (∀ x ∈ ns, 0 ≤ x ∧ x < 4294967296) ∧ Q (.int ns.sum) H) := by
  intro pins s σ H xs us Q I r h
  obtain ⟨p, rfl, ns, hp, hlen, hb, q⟩ := h
  obtain ⟨u, rfl, ru⟩ := vals1 r
  cases ru
  obtain ⟨its, rv, pl, hz⟩ := I.list (SqL.of hp)
  obtain ⟨ol, hol, _⟩ := id pl.isList
  have hlt := Heap.lt_size hol
  have hsz : its.toArray.size = ns.length := by have := rv.length; simp at this; simp [this]
  refine call_sum_walk (wpAny_pyIter_list pl.isList ⟨s.heap.objs.size, _, _, _, _, _, fun i => ns.getD i 0, rfl, Walks.list (A := X.A.in1) (I.ok.hd hc) s.heap.objs.size p (Nat.ne_of_lt hlt) its.toArray, ⟨⟨_, Heap.get?_push_size _ rfl, rfl, rfl⟩, pl.isList.push _⟩, ?_, ?_, ?_, fun h' tk t' hk => ?_⟩)
  · intro b hb'
    show b < (s.heap.push _).objs.size
    rw [Heap.size_push]
    rcases List.mem_cons.mp hb' with rfl | hb'
    · exact Nat.lt_succ_self _
    · rw [List.mem_singleton.mp hb']; exact Nat.lt_succ_of_lt hlt
  · intro i v hP
    have e : its[i]? = some v := by simpa using hP
    have hi : i < ns.length := by
      have := (List.getElem?_eq_some_iff.mp e).1
      have := rv.length
      simp at this
      omega
    obtain ⟨u, eu, ru⟩ := rv.get (i := i) (x := .int (ns.getD i 0)) (by simp [hi])
    rw [e] at eu
    cases eu
    exact ru
  · intro j hj
    rw [hsz] at hj
    have m : ns.getD j 0 ∈ ns := by
      rw [List.getD_eq_getElem?_getD, List.getElem?_eq_getElem hj]
      exact List.getElem_mem hj
    have b1 := hb _ m
    rw [preSum_list ns (j + 1) (by omega)]
    have b2 := sum_bound (ns.take (j + 1)) fun x hx => hb x (List.mem_of_mem_take hx)
    have b3 : (ns.take (j + 1)).length ≤ 1000 := by rw [List.length_take]; omega
    show InLong (ns.getD j 0) ∧ _
    exact ⟨⟨by omega, by omega⟩, ⟨by omega, by omega⟩⟩
  · have hk' : ∀ b o, s.heap.get? b = some o → h'.get? b = some o := fun b o e => hk b o (by simpa using Nat.ne_of_lt (Heap.lt_size e)) (Heap.get?_push_of_some _ e)
    rw [hsz, preSum_list ns _ (Nat.le_refl _), List.take_length]
    exact ⟨.int ns.sum, H, I.kept hk', ⟨_, rfl⟩, q⟩
def Itv (a : Addr) (n : Nat) : It := ⟨fun i H => ∃ xs x, H a = some (.lst xs) ∧ i < n ∧ xs[n - 1 - i]? = some x, fun i H x H' => H' = H ∧ ∀ xs, H a = some (.lst xs) → xs[n - 1 - i]? = some x, fun i _ => i = n⟩
theorem turn_rev {P : Program} {w : World} {K : PySem.W.Frag} {tg : Expr} (a it : Addr) (n : Nat) : Turn P w K tg (Itv a n) [it] it (fun i h => i ≤ n ∧ h.IsRevIter it a ((n : Int) - 1 - (i : Int))) where
  mem := by simp
  obj := fun i h st b hb => by
    have e : b = it := by simpa using hb
    subst e
    obtain ⟨o, e, c, d⟩ := st.2
    exact ⟨o, e, fun v z => by rw [d] at z; cases z⟩
  keep := fun i h h' st k => ⟨st.1, st.2.at fun o e => k it (by simp) o e⟩
  item := by
    intro X hP hw hK hc i pins s σ H E I hf st hg
    subst hP hw hK
    obtain ⟨xs, x, hq, hi, hx⟩ := hg
    obtain ⟨its, rv, p, hz⟩ := I.list (SqL.of hq)
    obtain ⟨u, hu, ru⟩ := rv.get hx
    obtain ⟨f0, f1, f2, f3, f4, f5⟩ := hf it (by simp)
    have e : ((n : Int) - 1 - (i : Int)) = ((n - 1 - i : Nat) : Int) := by omega
    have st2 := st.2
    rw [e] at st2
    refine wpAny_pyNext_rev_item st2 p.isList (x := u) (by simpa using hu) fun h' st' sb => ?_
    have I1 : Inv X pins σ H { s with heap := h' } := I.turned (t' := s.toks) (fun b o hb e => (sb.2 b hb).trans e) f0 f1 f3 f4 f5
    have e2 : (((n - 1 - i : Nat) : Int) - 1) = ((n : Int) - 1 - ((i + 1 : Nat) : Int)) := by omega
    rw [e2] at st'
    obtain ⟨o, e, c, d⟩ := id st'
    exact ⟨u, rfl, go_of (s := { s with heap := h' }) e c d (by decide) ⟨x, H, I1, ru, ⟨rfl, fun ys hy => by rw [hq] at hy; cases hy; exact hx⟩, ⟨hi, st'⟩, fun b hb => (hf b hb).1⟩⟩
  done := by
    intro X hP hw hK hc i pins s σ H E I hf st hg
    subst hP hw hK
    have hg' : i = n := hg
    subst hg'
    obtain ⟨f0, f1, f2, f3, f4, f5⟩ := hf it (by simp)
    have st2 := st.2
    rw [show ((i : Int) - 1 - (i : Int)) = -1 by omega] at st2
    exact wpAny_pyNext_rev_end (I.ok.hd hc) st2 fun h' eb => ⟨rfl, I.turned (t' := s.toks) (fun b o hb e => eb b o hb e) f0 f1 f3 f4 f5⟩
  self := fun _ _ _ _ _ st h => wpAny_pyIter_revIter st.2 h
def iRev (tl : TE) : TI := fun σ H R => tl σ H fun x H1 => ∃ a, x = .ref a ∧ ∃ xs, H1 a = some (.lst xs) ∧ R (Itv a xs.length) H1
theorem pi_rev {tg l : Expr} {tl : TE} {p2 p3 : Pos} (hgR : Gl X "reversed") (hmR : X.mg "reversed" = none) (hl : PE X l tl) (hs2 : starEach [l] X.env = [(false, eval l X.env)] := by rfl) : PI X tg (.Call (.Name "reversed" p2) [l] [] p3) (iRev tl) := by
  intro pins s σ H R I h
  refine wpAny_Call_Name_kw (ld_blt I hgR hmR PyProof.Rows.boot_reversed ?_)
  refine PyProof.Rows.callWith_type1 ?_ hs2 rfl
  rw [hs2]
  show wpAny _ _ (spliced ((false, eval l X.env) :: [])) _ _ s
  refine Calls.spliced_cons (thn (hl pins s σ H _ I h) fun v s1 ⟨x, H1, I1, r1, q1⟩ => Calls.spliced_nil ?_)
  obtain ⟨a, rfl, xs, hq, q⟩ := q1
  cases r1
  obtain ⟨its, rv, pl, hz⟩ := I1.list (SqL.of hq)
  have hlen := rv.length
  refine call_reversed_list pl.isList ?_
  have hn : ((its.toArray.size : Nat) : Int) - 1 = ((xs.length : Nat) : Int) - 1 - ((0 : Nat) : Int) := by simp [hlen]
  rw [hn]
  have hit : (s1.heap.push (revObj a ((xs.length : Int) - 1 - ((0 : Nat) : Int)))).IsRevIter s1.heap.objs.size a ((xs.length : Int) - 1 - ((0 : Nat) : Int)) := ⟨_, Heap.get?_push_size _ rfl, rfl, rfl⟩
  refine wpAny_pyIter_revIter hit ?_
  refine ⟨s1.heap.objs.size, [s1.heap.objs.size], _, _, H1, rfl, I1.kept (t' := s1.toks) fun b o e => Heap.get?_push_of_some _ e, turn_rev a _ xs.length, ⟨Nat.zero_le _, hit⟩, fun b hb => ?_, q⟩
  have e : b = s1.heap.objs.size := by simpa using hb
  subst e
  exact I1.fpOk (Nat.le_refl _) I1.fresh
end
end L2
namespace L2
open PySem PySem.Spec PyProof.Rows PySem.SeqAt
section
variable {X : Cx}
end
end L2
namespace L2
open PySem PySem.Spec PyProof.Rows
structure CScopeG (osc : Scope) (N : List Str) (xs : List Str) (sc : Scope) (M : List Str) : Prop where
  kind : sc.kind = .function
  cell : ∀ y ∈ sc.names, y.2 ≠ .cell
  names : ∀ y ∈ sc.names, y.2 = .local → sc.names.lookup y.1 = some .local
  free : ∀ y ∈ sc.names, y.2 = .free → osc.names.lookup y.1 = some .cell ∨ osc.names.lookup y.1 = some .free
  ok : namesOk sc N M = true
def tCompG (n : Nat) (wi : TI) (g : TG) (tc : TT) (te : TE) : TE := fun σ H Q => wi σ H fun J H1 => ∀ D, H1 D = none → ∃ W : Nat → Nat → List V → Hp → Prop, (∃ m, W 0 m [] (upd H1 D (.lst []))) ∧ ∀ i m ys H2, W i m ys H2 →
  H2 D = some (.lst ys) ∧ ((J.stop i H2 ∧ Q (.ref D) H2) ∨ (J.go i H2 ∧ ∃ N : List V → Hp → Prop, (∀ ys' H', N ys' H' → ∃ m', m' < m ∧ W (i + 1) m' ys' H') ∧ ∀ v H3, J.yld i H2 v H3 → ∀ τ : L2.St, τ.length = n → g v (τ ++ σ) H3 fun σ4 H4 => (∃ τ' : L2.St, τ'.length = n ∧ σ4 = τ' ++ σ) ∧ tc σ4 H4 fun b H5 => if b = true then te σ4 H5 fun y H6 => H6 D = some (.lst ys) ∧ ys.length < sizeLine ∧ N (ys ++ [y]) (upd H6 D (.lst (ys ++ [y])))
      else N ys H5))
theorem codeAny_compLoop_testsG {prog : Program} {w : World} {A : Around} {R : Result → Shared → Prop} {s : Shared} {elt target iter : Expr} {ifs : List Expr} {scope : Scope} {pos : Pos} {it acc : Value} {env : Env} (I : Nat → Shared → Prop)
    (turn : ∀ n s, I n s → wpAny (model prog w) A (pyNext it) (fun r s₁ => match r with
      | none => R (.ok .next) s₁
      | some v => wpAny (model prog w) A (letOwnedTupleGo target it v >>= fun _ => assign target env v) (fun _ s₂ =>
          wpAny (model prog w) A (forIn ifs true fun c r => if r = true then do let ok ← isTrue c env (eval c env); pure (ForInStep.yield ok) else pure (ForInStep.yield r)) (fun ok s₃ =>
            if ok = true then wpAny (model prog w) A (eval elt env) (fun x s₄ =>
              wpAny (model prog w) A (call (.builtin "list.append") [acc, x]) (fun _ s₅ => ∃ m, m < n ∧ I m s₅) (notedBy (model prog w) A env fun e s' => R (.error e) s') s₄) (notedBy (model prog w) A env fun e s' => R (.error e) s') s₃
            else ∃ m, m < n ∧ I m s₃) (notedBy (model prog w) A env fun e s' => R (.error e) s') s₂) (notedBy (model prog w) A env fun e s' => R (.error e) s') s₁) (notedBy (model prog w) A env fun e s' => R (.error e) s') s)
    (n : Nat) (h : I n s) :
    codeAny (model prog w) A (.compLoop (.ListComp elt [⟨target, iter, ifs, 0⟩] scope pos) 0 it acc env) R s := by
  refine codeAny_loop rfl I (fun n s hI => ?_) n h
  show wpAny _ A ((compTurn (.ListComp elt [⟨target, iter, ifs, 0⟩] scope pos) 0 it acc env).onRaise (fun x => do noteFrame x env; theTreesLotGoes x)) _ _ s
  refine wpAny_noted ?_
  rw [compTurn_list]
  refine wpAny_bind (wpAny_standAt (wpAny_bind (wpAny_mono (turn n s hI) (fun r s₁ h₁ => ?_) fun _ _ h' => h')))
  cases r with
  | none => exact wpAny_pure h₁
  | some v =>
    show wpAny _ A (letOwnedTupleGo target it v >>= fun _ => assign target env v >>= _) _ _ s₁
    rw [← bind_assoc]
    refine wpAny_bind (wpAny_mono h₁ (fun _ s₂ h₂ => wpAny_bind (wpAny_mono h₂ (fun ok s₃ h₃ => ?_) fun _ _ h' => h')) fun _ _ h' => h')
    cases ok with
    | false => exact wpAny_pure ⟨rfl, h₃⟩
    | true =>
      exact wpAny_bind (wpAny_bind (wpAny_mono h₃ (fun x s₄ h₄ => wpAny_bind (wpAny_mono h₄ (fun _ s₅ h₅ => wpAny_pure (wpAny_pure ⟨rfl, h₅⟩)) fun _ _ h' => h')) fun _ _ h' => h'))
section
variable {X : Cx}
theorem comp_runG {elt iter tg : Expr} {xs : List Str} {pos : Pos} {ifs : List Expr} {sc : Scope} {M : List Str} {pins : List (Addr × Obj)} {σ : L2.St} {H2 : Hp} {s2 : Shared} {it : Addr} {fp : List Addr} {tn : Nat → Heap → Prop} {J : It} {g : TG} {tc : TT} {te : TE} {Q : VK}
    {RR : Value → Addr → Result → Shared → Prop} {E : Value → Shared → Prop}
    (hc : X.calm = true) (hg : ∀ pins ex H₀ s₀ C, PG (compCx X sc (xs ++ M) pins ex H₀ s₀ C) tg g) (S : CScopeG X.env.scope X.N xs sc M)
    (ht : ∀ pins ex H₀ s₀ C, PF (compCx X sc (xs ++ M) pins ex H₀ s₀ C) ifs tc) (he : ∀ pins ex H₀ s₀ C, PE (compCx X sc (xs ++ M) pins ex H₀ s₀ C) elt te)
    (I2 : Inv X pins σ H2 s2) (T : Turn X.prog X.w X.K tg J fp it tn) (st2 : tn 0 s2.heap) (f2 : ∀ b ∈ fp, FpOk X pins H2 b)
    (hw : ∀ D, H2 D = none → ∃ W : Nat → Nat → List V → Hp → Prop, (∃ m, W 0 m [] (upd H2 D (.lst []))) ∧ ∀ i m ys H2, W i m ys H2 →
      H2 D = some (.lst ys) ∧ ((J.stop i H2 ∧ Q (.ref D) H2) ∨ (J.go i H2 ∧ ∃ N : List V → Hp → Prop, (∀ ys' H', N ys' H' → ∃ m', m' < m ∧ W (i + 1) m' ys' H') ∧ ∀ v H3, J.yld i H2 v H3 → ∀ τ : L2.St, τ.length = xs.length → g v (τ ++ σ) H3 fun σ4 H4 => (∃ τ' : L2.St, τ'.length = xs.length ∧ σ4 = τ' ++ σ) ∧ tc σ4 H4 fun b H5 => if b = true then te σ4 H5 fun y H6 => H6 D = some (.lst ys) ∧ ys.length < sizeLine ∧ N (ys ++ [y]) (upd H6 D (.lst (ys ++ [y])))
      else N ys H5)))
    (hRR : ∀ (D C : Addr) (s' : Shared) (H' : Hp) (m : Str → Option Value), Inv X pins σ H' s' → s'.heap.Ns C m → H' C = none → s2.heap.objs.size ≤ C → Q (.ref D) H' → RR (.ref D) C (.ok .next) s') :
    wpAny (model X.prog X.w) X.A (newList []) (fun acc s₃ => wpAny (model X.prog X.w) X.A (newFunctionEnv sc X.env.globals (closL sc.names X.env.cells []) [] X.env.qual none .none (some X.env)) (fun cenv s₄ =>
      codeAny (model X.prog X.w) X.A (.compStart (.ListComp elt [⟨tg, iter, ifs, 0⟩] sc pos) 0 (.ref it) acc { cenv with scope := relabel sc X.env }) (RR acc cenv.locals) s₄) E s₃) E s2 := by
  obtain ⟨W, ⟨m0, w0⟩, turn⟩ := hw s2.heap.objs.size I2.fresh
  have hfreeC : ∀ y ∈ sc.names, y.2 = .free → ∃ c, X.env.cells.lookup y.1 = some c := fun y hy hf => I2.ok.has y.1 (S.free y hy hf)
  have clk : ∀ {y : Str} {c : Addr}, (closL sc.names X.env.cells []).lookup y = some c → X.env.cells.lookup y = some c := fun {y c} e => closL_lookup sc.names [] hfreeC (fun z => by cases z) e
  obtain ⟨nlen, nget⟩ := namesOk.get S.ok
  have I3 : Inv X pins σ (upd H2 s2.heap.objs.size (.lst [])) { s2 with heap := s2.heap.push { cls := .type "list", data := .seq ([] : List Value).toArray } } := I2.lnew (its := []) (t' := s2.toks) .nil (Nat.zero_le _)
  refine wpAny_newObj_type ?_
  generalize hs3 : ({ s2 with heap := s2.heap.push { cls := .type "list", data := .seq ([] : List Value).toArray } } : Shared) = s3 at I3
  have e3 : s3.heap = s2.heap.push { cls := .type "list", data := .seq ([] : List Value).toArray } := by rw [← hs3]
  have sz3 : s3.heap.objs.size = s2.heap.objs.size + 1 := by rw [e3, Heap.size_push]
  have up3 : ∀ b o, s2.heap.get? b = some o → s3.heap.get? b = some o := fun b o e => by rw [e3]; exact Heap.get?_push_of_some _ e
  have st3 : tn 0 s3.heap := T.keep _ _ _ st2 fun b _ o e => up3 b o e
  have fpL : ∀ b ∈ fp, b < s2.heap.objs.size := fun b hb => let ⟨_, e, _⟩ := T.obj _ _ st2 b hb; Heap.lt_size e
  have f3 : ∀ b ∈ fp, FpOk X pins (upd H2 s2.heap.objs.size (.lst [])) b := fun b hb => ⟨by rw [upd_ne (Nat.ne_of_lt (fpL b hb))]; exact (f2 b hb).1, (f2 b hb).2⟩
  show wpAny _ _ (newFunctionEnv sc X.env.globals (closL sc.names X.env.cells []) [] X.env.qual none .none (some X.env)) _ _ s3
  refine wpAny_newFunctionEnv S.cell (by intro y hy; simp at hy) (fun h₁ hns₁ hsb₁ => ?_) S.kind
  have old : ∀ b o, s3.heap.get? b = some o → h₁.get? b = some o := fun b o e => hsb₁.extBut b o (Nat.ne_of_lt (Heap.lt_size e)) (Heap.get?_push_of_some _ e)
  have cellLt : ∀ {y : Str} {c : Addr}, X.env.cells.lookup y = some c → c < s3.heap.objs.size := fun {y c} e => let ⟨_, z⟩ := I3.cell y c e; z.lt
  have locLt := I3.lt
  generalize hC : s3.heap.objs.size = C at hns₁ hsb₁ cellLt locLt ⊢
  have hle : s2.heap.objs.size ≤ C := by rw [← hC, sz3]; exact Nat.le_succ _
  let X' : Cx := compCx X sc (xs ++ M) pins fp (upd H2 s2.heap.objs.size (.lst [])) s3 C
  have ok' : X'.Ok := {
    mod := I3.ok.mod
    kind := S.kind
    glob := I3.ok.glob
    blt := I3.ok.blt
    above := Nat.le_of_eq hC
    inj := fun y z c e1 e2 => I3.ok.inj y z c (clk e1) (clk e2)
    has := fun y hy => by
      have hf : sc.names.lookup y = some .free := by
        rcases hy with hy | hy
        · rcases relabel_was hy with q | ⟨_, q⟩
          · exact absurd rfl (S.cell _ (lookup_mem q))
          · exact q
        · rcases relabel_was hy with q | ⟨q, _⟩
          · exact q
          · cases q
      exact Option.isSome_iff_exists.mp (closL_has sc.names [] (.inl (lookup_mem hf)))
    cab := fun y c h _ => by cases h
    hd := I3.ok.hd
    frames := I3.ok.frames
    stk := .inl rfl
    exf := fun b hb => ⟨Nat.ne_of_lt (Nat.lt_of_lt_of_le (fpL b hb) hle), fun y c e => (f3 b hb).2.2.2.2.1 y c (clk e)⟩
    bs := I3.bs
    bsz := Nat.le_trans I3.ok.bsz I3.sz
    noex := fun b o e hb => by
      rcases (f3 b hb).2.2.2.1 with z | z
      · exact I3.ok.noex b o e z
      · exact absurd (Nat.lt_of_lt_of_le (Heap.lt_size e) (Nat.le_trans I3.ok.bsz z)) (Nat.lt_irrefl _)
    exfs := fun b hb z => by
      rcases List.mem_cons.mp (I3.stkSub b z) with q | q
      · exact (f3 b hb).2.1 q
      · exact (f3 b hb).2.2.1 q
    funs := I3.stack
    frf := I3.stkFree }
  have seen : ∀ {h' : Heap} {m : Str → Option Value}, (∀ b o, s3.heap.get? b = some o → h'.get? b = some o) → ∀ (i : Nat) (y : Str) (v : V), (xs ++ M)[i]? = some y → (List.replicate xs.length none ++ σ)[i]? = some (some v) → Vis (relabel sc X.env) y → ∃ u, RelV v u ∧ Look (compEnvC sc (closL sc.names X.env.cells []) C X.env) h' m y u := by
    intro h' m kp i y v e1 e2 e3
    by_cases hi : i < xs.length
    · rw [List.getElem?_append_left (by simpa using hi), List.getElem?_replicate, if_pos hi] at e2
      cases e2
    · obtain ⟨i, rfl⟩ : ∃ k, i = xs.length + k := ⟨i - xs.length, by omega⟩
      have e1' : M[i]? = some y := by rw [List.getElem?_append_right (by omega)] at e1; simpa using e1
      have e2' : σ[i]? = some (some v) := by rw [List.getElem?_append_right (by simp)] at e2; simpa using e2
      rcases nget i y e1' with q | ⟨q1, q2⟩
      · rcases e3 with z | z | z <;> rcases relabel_was z with z | ⟨_, z⟩ <;> rw [q] at z <;> cases z
      · have ofree := S.free (y, .free) (lookup_mem q2) rfl
        obtain ⟨mo, _, hl⟩ := I3.loc
        obtain ⟨u, r, l⟩ := hl i y v q1 e2' (by rcases ofree with z | z; exact .inr (.inl z); exact .inr (.inr z))
        refine ⟨u, r, .inr ⟨relabel_free q2, ?_⟩⟩
        rcases l with ⟨z, _⟩ | ⟨_, c, z1, z2⟩
        · have z' : X.env.scope.names.lookup y = some .local := z
          rcases ofree with q | q <;> rw [z'] at q <;> cases q
        · obtain ⟨c', hc'⟩ := Option.isSome_iff_exists.mp (closL_has (cells := X.env.cells) (y := y) sc.names [] (.inl (lookup_mem q2)))
          have z3 := clk hc'
          rw [z1] at z3
          cases z3
          obtain ⟨o, ho, hd⟩ := z2
          exact ⟨c, hc', o, kp c o ho, hd⟩
  have I4 : Inv X' [] (List.replicate xs.length none ++ σ) (upd H2 s2.heap.objs.size (.lst [])) { s3 with heap := h₁, toks := s3.toks + ([] : List (Str × Value)).length } := {
    ok := ok'
    os := rfl
    bare := I3.bare
    base := Un.kept old
    loc := ⟨_, hns₁, fun i y v e1 e2 e3 => seen old i y v e1 e2 e3⟩
    cell := fun y c e => by
      obtain ⟨v, o, ho, hd⟩ := I3.cell y c (clk e)
      exact ⟨v, o, old c o ho, hd⟩
    free := I3.hok.fresh (Nat.le_of_eq hC)
    freeC := fun y c e => I3.freeC y c (clk e)
    pin := fun p hp => by
      have hp' : p ∈ X.pn ++ pins := by simpa [X', compCx] using hp
      obtain ⟨e, n, ne, nf, d⟩ := I3.pin p hp'
      refine ⟨old _ _ e, n, ?_, fun z => ?_, d⟩
      · exact Nat.ne_of_lt (Nat.lt_of_lt_of_le (Heap.lt_size e) (Nat.le_of_eq hC))
      · rcases List.mem_cons.mp (I3.stkSub p.1 z) with q | q
        · exact ne q
        · exact nf q
    hok := I3.hok.kept old
    len := by
      have l3 := I3.len
      show (List.replicate xs.length none ++ σ).length = (xs ++ M).length
      rw [List.length_append, List.length_append, List.length_replicate, l3, nlen] }
  have fx : ∀ {H' : Hp}, (∀ b ∈ fp, H' b = none) → ∀ b ∈ fp, FpOk X' [] H' b := fun hn b hb => by
    refine ⟨hn b hb, (ok'.exf b hb).1, ok'.exfs b hb, .inl hb, (ok'.exf b hb).2, fun p hp => ?_⟩
    exact (f3 b hb).2.2.2.2.2 p (by simpa [X', compCx] using hp)
  have envE : ({ newEnv sc C X.env.globals (closL sc.names X.env.cells []) X.env.qual none .none (some X.env) builtinsNs with scope := relabel sc X.env } : Env) = compEnvC sc (closL sc.names X.env.cells []) C X.env := rfl
  have loop : codeAny (model X.prog X.w) X.A (.compLoop (.ListComp elt [⟨tg, iter, ifs, 0⟩] sc pos) 0 (.ref it) (.ref s2.heap.objs.size) (compEnvC sc (closL sc.names X.env.cells []) C X.env)) (RR (.ref s2.heap.objs.size) C)
      { s3 with heap := h₁, toks := s3.toks + ([] : List (Str × Value)).length } := by
    refine codeAny_compLoop_testsG (fun n s' => ∃ i ys τ H', τ.length = xs.length ∧ Inv X' [] (τ ++ σ) H' s' ∧ tn i s'.heap ∧ (∀ b ∈ fp, H' b = none) ∧ W i n ys H') ?_ m0 ⟨0, [], List.replicate xs.length none, _, by simp, I4, T.keep _ _ _ st3 fun b _ o e => old b o e, fun b hb => (f3 b hb).1, w0⟩
    rintro n s' ⟨i, ys, τ0, H', hτ, I', st', fr', w'⟩
    obtain ⟨hD, step⟩ := turn i n ys H' w'
    rcases step with ⟨stop, q⟩ | ⟨go, N, hN, step⟩
    · refine thn (T.done X' rfl rfl rfl hc i [] s' _ H' _ I' (fx fr') st' stop) fun r s5 ⟨hr, I5⟩ => ?_
      subst hr
      obtain ⟨m5, hn5, _⟩ := I5.loc
      refine hRR _ C s5 H' m5 ?_ hn5 I5.free hle q
      refine I3.call' (ch := fp) I5.os I5.base I5.hok I5.bare fun b hb => ?_
      obtain ⟨_, z1, _, z3, z4, z5⟩ := f3 b hb
      exact ⟨z3, z1, z4, z5⟩
    · refine thn (T.item X' rfl rfl rfl hc i [] s' _ H' _ I' (fx fr') st' go) fun r s5 ⟨u, hr, h5⟩ => ?_
      subst hr
      have h6 : wpAny (model X.prog X.w) X.A (letOwnedTupleGo tg (.ref it) u >>= fun _ => assign tg X'.env u) (fun _ s7 => ∃ (σ7 : L2.St) (H7 : Hp) (s6 : Shared), Inv X' ([] ++ pinsAt fp s6.heap) σ7 H7 s7 ∧ tn (i + 1) s6.heap ∧ (∃ τ' : L2.St, τ'.length = xs.length ∧ σ7 = τ' ++ σ) ∧ tc σ7 H7 fun b H5 => if b = true then te σ7 H5 fun y H6 => H6 s2.heap.objs.size = some (.lst ys) ∧ ys.length < sizeLine ∧ N (ys ++ [y]) (upd H6 s2.heap.objs.size (.lst (ys ++ [y]))) else N ys H5)
          (notedBy (model X.prog X.w) X.A (compEnvC sc (closL sc.names X.env.cells []) C X.env) fun e s' => RR (.ref s2.heap.objs.size) C (.error e) s') s5 := by
        refine wpAny_bind (thn h5 fun _ s6 ⟨v, H6, I6, r6, y6, st6, fr6⟩ => ?_)
        have I6' := I6.pinned (fx fr6) (T.obj _ _ st6)
        refine wpAny_mono (hg pins fp _ s3 C _ s6 _ H6 v u _ I6' r6 (step v H6 y6 τ0 hτ)) (fun _ s7 ⟨σ7, H7, I7, q7⟩ => ?_) fun _ _ z => z.elim
        exact ⟨σ7, H7, s6, I7, st6, q7⟩
      refine wpAny_mono h6 (fun _ s7 ⟨σ7, H7, s6, I7, st6, ⟨τ', hτ', eσ⟩, q7⟩ => ?_) fun _ _ z => z
      subst eσ
      have again : ∀ {σ8 : L2.St} {H7 : Hp} {s8 : Shared}, Inv X' ([] ++ pinsAt fp s6.heap) σ8 H7 s8 → tn (i + 1) s8.heap ∧ ∀ b ∈ fp, H7 b = none := fun {σ8 H7 s8} I8 => by
        refine ⟨T.keep _ _ _ st6 fun b hb o e => (I8.pin (b, o) (List.mem_append_right _ (List.mem_append_right _ (mem_pinsAt hb e)))).1, fun b hb => ?_⟩
        obtain ⟨o, e, d⟩ := T.obj _ _ st6 b hb
        exact (I8.pin (b, o) (List.mem_append_right _ (List.mem_append_right _ (mem_pinsAt hb e)))).2.1
      refine wpAny_mono (ht pins fp _ s3 C _ s7 _ H7 _ I7 q7) (fun ok s8 ⟨H8, I8, q8⟩ => ?_) fun _ _ z => z.elim
      cases ok with
      | false =>
        rw [if_neg Bool.false_ne_true] at q8 ⊢
        obtain ⟨m', hm, w8⟩ := hN _ _ q8
        obtain ⟨t8, n8⟩ := again I8
        exact ⟨m', hm, i + 1, ys, τ', H8, hτ', I8.unpinned, t8, n8, w8⟩
      | true =>
        rw [if_pos rfl] at q8 ⊢
        refine wpAny_mono (he pins fp _ s3 C _ s8 _ H8 _ I8 q8) (fun y s9 ⟨vy, H9, I9, r9, hD9, hz, q9⟩ => ?_) fun _ _ z => z.elim
        refine wpAny_mono (mt_append (X := X') _ s9 _ H9 (.ref s2.heap.objs.size) [vy] (.ref s2.heap.objs.size) [y] (fun _ H' => H' = upd H9 s2.heap.objs.size (.lst (ys ++ [vy]))) I9 rfl (.cons r9 .nil) ⟨_, ys, vy, rfl, rfl, hD9, hz, rfl⟩) (fun _ s10 ⟨_, H10, I10, _, e10⟩ => ?_) fun _ _ z => z.elim
        subst e10
        obtain ⟨t10, n10⟩ := again I10
        obtain ⟨m', hm, w9⟩ := hN _ _ q9
        exact ⟨m', hm, i + 1, ys ++ [vy], τ', _, hτ', I10.unpinned, t10, n10, w9⟩
  exact codeAny_compStart_list loop (T.self _ 0 _ _ _ (T.keep _ _ _ st3 fun b _ o e => old b o e) loop)
theorem pe_compG {elt iter tg : Expr} (xs : List Str) {pos : Pos} {ifs : List Expr} {sc : Scope} (M : List Str) {wi : TI} {g : TG} {tc : TT} {te : TE} (hc : X.calm = true) (hg : ∀ pins ex H₀ s₀ C, PG (compCx X sc (xs ++ M) pins ex H₀ s₀ C) tg g) (S : CScopeG X.env.scope X.N xs sc M) (hi : PI X tg iter wi)
    (ht : ∀ pins ex H₀ s₀ C, PF (compCx X sc (xs ++ M) pins ex H₀ s₀ C) ifs tc) (he : ∀ pins ex H₀ s₀ C, PE (compCx X sc (xs ++ M) pins ex H₀ s₀ C) elt te)
    (hs : ∀ v, foldedSetIterable iter X.env v = pure v := by intro _; rfl) : PE X (.ListComp elt [⟨tg, iter, ifs, 0⟩] sc pos) (tCompG xs.length wi g tc te) := by
  intro pins s σ H Q I h
  rw [eval_ListComp]
  refine wpAny_comprehension_free (use := none) rfl hs (closureFor_eq fun y hy hf => I.ok.has y.1 (S.free y hy hf)) S.kind S.names (thn (hi pins s σ H _ I h) fun v s1 h1 => thn h1 fun itv s2 h2 => ?_)
  obtain ⟨it, fp, tn, J, H2, rfl, I2, T, st2, f2, hw⟩ := h2
  refine comp_runG (RR := fun acc C => compPost (model X.prog X.w) X.A X.xe none (EP X pins σ Q) acc C) hc hg S ht he I2 T st2 f2 hw fun D C s' H' m I' hn hC hle q => ?_
  refine ⟨m, hn, fun h' hs' => ⟨.ref D, H', ?_, rfl, q⟩⟩
  have fC := I2.fpOk (H' := H') hle hC
  exact I'.turned (t' := s'.toks) (fun b o hb e => (hs'.2 b hb).trans e) hC fC.2.1 fC.2.2.2.1 fC.2.2.2.2.1 fC.2.2.2.2.2
theorem ps_compG {elt iter tg : Expr} {y : Str} (xs : List Str) {py pos spos : Pos} {ifs : List Expr} {sc : Scope} {j : Nat} (M : List Str) {wi : TI} {g : TG} {tc : TT} {te : TE} (hN : X.N.Nodup) (hj : X.N[j]? = some y) (hy : X.env.scope.names.lookup y = some .local) (hc : X.calm = true) (hg : ∀ pins ex H₀ s₀ C, PG (compCx X sc (xs ++ M) pins ex H₀ s₀ C) tg g) (S : CScopeG X.env.scope X.N xs sc M) (hi : PI X tg iter wi)
    (ht : ∀ pins ex H₀ s₀ C, PF (compCx X sc (xs ++ M) pins ex H₀ s₀ C) ifs tc) (he : ∀ pins ex H₀ s₀ C, PE (compCx X sc (xs ++ M) pins ex H₀ s₀ C) elt te)
    (hsw : swapsWith (.ListComp elt [⟨tg, iter, ifs, 0⟩] sc pos) (some (.Name y py)) spos.line X.env = pure true := by rfl)
    (hs : ∀ v, foldedSetIterable iter X.env v = pure v := by intro _; rfl) : PS X (.Assign [.Name y py] (.ListComp elt [⟨tg, iter, ifs, 0⟩] sc pos) spos) (tAsg (tCompG xs.length wi g tc te) (gName j)) := by
  intro pins s σ H D I h
  rw [exec_Assign_Name_used _ _ _ _ hsw]
  refine wpAny_bind (wpAny_standAt (wpAny_bind ?_))
  show wpAny _ _ (do let _ ← comprehension (.ListComp elt [⟨tg, iter, ifs, 0⟩] sc pos) sc X.env _ (newList []) false (eval iter X.env) (some (assign (.Name y py) X.env))) _ _ s
  refine wpAny_bind (wpAny_mono (wpAny_comprehension_free (use := some (assign (.Name y py) X.env)) (Q := fun _ s' => SP X pins D .next s') rfl hs (closureFor_eq fun y hy hf => I.ok.has y.1 (S.free y hy hf)) S.kind S.names
    (thn (hi pins s σ H _ I h) fun v s1 h1 => thn h1 fun itv s2 h2 => ?_)) (fun _ s' hq => wpAny_pure (wpAny_pure hq)) fun _ _ e => e)
  obtain ⟨it, fp, tn, J, H2, rfl, I2, T, st2, f2, hw⟩ := h2
  refine comp_runG (Q := fun x H1 => gName j x σ H1 D.nx) (RR := fun acc C => compPost (model X.prog X.w) X.A X.xe (some (assign (.Name y py) X.env)) (fun _ s' => SP X pins D .next s') acc C) hc hg S ht he I2 T st2 f2 hw fun D' C s' H' m I' hn hC hle q => ?_
  have fC := I2.fpOk (H' := H') hle hC
  show wpAny _ _ (assign (.Name y py) X.env (.ref D')) _ _ s'
  refine wpAny_assign_Name (store_ok2 (v := .ref D') I' hN hj (.inl hy) rfl (fun s3 I3 ⟨a, sb, ha⟩ => ?_) (.inr hy))
  have haC : C ≠ a := by
    rcases ha with rfl | ha
    · exact fC.2.1
    · exact fun z => fC.2.2.2.2.1 y a ha z.symm
  refine ⟨m, hn.sameBut sb haC, fun h' hs' => ⟨_, H', ?_, q⟩⟩
  exact I3.turned (t' := s3.toks) (fun b o hb e => (hs'.2 b hb).trans e) hC fC.2.1 fC.2.2.2.1 fC.2.2.2.2.1 fC.2.2.2.2.2
end
end L2
namespace L2
open PySem PySem.Spec PyProof.Rows
section
variable {X : Cx}
end
end L2
namespace L2
open PySem PySem.Spec PyProof.Rows
section
variable {prog : Program} {w : World} {A : Around} {R : Result → Shared → Prop}
end
section
variable {X : Cx}
end
end L2
namespace L2
open PySem PySem.Spec PyProof.Rows
def Itd (a : Addr) (ob : Obj) (kvs : List (Key × V)) : It := ⟨fun i H => H a = some (.frz ob (.dK kvs)) ∧ i < kvs.length, fun i H x H' => H' = H ∧ ∃ kv, kvs[i]? = some kv ∧ x = kV kv.1, fun i H => H a = some (.frz ob (.dK kvs)) ∧ i = kvs.length⟩
theorem kV_of {k : Key} {u : Value} (h : keyIs k u = true) : RelV (kV k) u := by
  rcases keyIs_shape h with ⟨i, t, rfl, rfl⟩ | ⟨x, t, rfl, rfl⟩
  · exact ⟨t, rfl⟩
  · exact ⟨t, rfl⟩
theorem paired_at {α β : Type} {R : α → β → Prop} : ∀ {xs : List α} {ys : List β} {i : Nat} {x : α}, Paired R xs ys → xs[i]? = some x → ∃ y, ys[i]? = some y ∧ R x y
  | _, _, _, _, .nil, e => by simp at e
  | _, _, 0, _, .cons r _, e => by simp at e; subst e; exact ⟨_, rfl, r⟩
  | _, _, i + 1, x, .cons _ t, e => by
    obtain ⟨u, h1, h2⟩ := paired_at (i := i) (x := x) t (by simpa using e)
    exact ⟨u, by simpa using h1, h2⟩
theorem dictAt_of {X : Cx} {pins : List (Addr × Obj)} {σ : St} {H : Hp} {s : Shared} {a : Addr} {ob : Obj} {kvs : List (Key × V)} {es : Array DictEntry} {ep : Nat} (I : Inv X pins σ H s) (e : H a = some (.frz ob (.dK kvs))) (ed : ob.data = .dict es ep) : ∃ vs, KV kvs vs ∧ vs.length = kvs.length ∧ s.heap.DictAt (mixKind X.prog X.w) a vs ep := by
  obtain ⟨g, z, hd, vs, rel, o', es', ep', g', x1, x2, x3⟩ := (show ObjOk X.prog X.w H s.heap a (.frz ob (.dK kvs)) from I.hok a _ e)
  rw [g] at g'
  cases g'
  rw [ed] at x2
  cases x2
  exact ⟨vs, rel, rel.length.symm, ob, es, g, x1, ed, x3⟩
theorem turn_dict {P : Program} {w : World} {K : PySem.W.Frag} {tg : Expr} (a it : Addr) (ob : Obj) (kvs : List (Key × V)) : Turn P w K tg (Itd a ob kvs) [it] it (fun i h => ∃ es ep, ob.data = .dict es ep ∧ h.IsKeyIter it a i kvs.length ep) where
  mem := by simp
  obj := fun i h st b hb => by
    have e : b = it := by simpa using hb
    subst e
    obtain ⟨es, ep, _, o, e, c, d⟩ := st
    exact ⟨o, e, fun v z => by rw [d] at z; cases z⟩
  keep := fun i h h' st k => by
    obtain ⟨es, ep, ed, o, e, c, d⟩ := st
    exact ⟨es, ep, ed, o, k it (by simp) o e, c, d⟩
  item := by
    intro X hP hw hK hc i pins s σ H E I hf st hg
    subst hP hw hK
    obtain ⟨es, ep, ed, st⟩ := st
    obtain ⟨hq, hi⟩ := hg
    obtain ⟨vs, rel, hl, da⟩ := dictAt_of I hq ed
    obtain ⟨f0, f1, f2, f3, f4, f5⟩ := hf it (by simp)
    rw [← hl] at st hi
    have e1 : vs[i]? = some (vs[i].1, vs[i].2) := List.getElem?_eq_getElem hi
    refine wpAny_pyNext_dict_item st da e1 fun key h' hk st' sb => ?_
    have I1 : Inv X pins σ H { s with heap := h' } := I.turned (t' := s.toks) (fun b o hb e => (sb.2 b hb).trans e) f0 f1 f3 f4 f5
    obtain ⟨o, e, c, d⟩ := id st'
    rw [hl] at st'
    have hi' : i < kvs.length := by omega
    have e2 : kvs[i]? = some kvs[i] := List.getElem?_eq_getElem hi'
    have ek : kvs[i].1 = vs[i].1 := by
      obtain ⟨q, g1, g2, _⟩ := paired_at rel e2
      rw [e1] at g1; cases g1
      exact g2
    exact ⟨key, rfl, go_of (s := { s with heap := h' }) e c d (by decide) ⟨kV kvs[i].1, H, I1, by rw [ek]; exact kV_of hk, ⟨rfl, _, e2, rfl⟩, ⟨es, ep, ed, st'⟩, fun b hb => (hf b hb).1⟩⟩
  done := by
    intro X hP hw hK hc i pins s σ H E I hf st hg
    subst hP hw hK
    obtain ⟨es, ep, ed, st⟩ := st
    obtain ⟨hq, hi⟩ := hg
    obtain ⟨vs, rel, hl, da⟩ := dictAt_of I hq ed
    obtain ⟨f0, f1, f2, f3, f4, f5⟩ := hf it (by simp)
    rw [← hl] at st hi
    exact wpAny_pyNext_dict_end (I.ok.hd hc) st da (by rw [hi]; simp) fun h' eb => ⟨rfl, I.turned (t' := s.toks) (fun b o hb e => eb b o hb e) f0 f1 f3 f4 f5⟩
  self := fun A i s Q E st h => by
    obtain ⟨es, ep, ed, st⟩ := st
    exact wpAny_pyIter_keyiter st h
section
variable {X : Cx}
end
end L2
namespace VL
open PySem L2
inductive D where
  | non | bl (b : Bool) | int (i : Int) | str (x : Str) | ty (n : String)
  | lst (xs : List D) | tup (xs : List D) | dct (kvs : List (Key × D))
mutual
def Rep (F : Hp) : D → V → Prop
  | .non, v => v = .non
  | .bl b, v => v = .bl b
  | .int i, v => v = .int i
  | .str x, v => v = .str x
  | .ty n, v => v = .ty n
  | .lst ds, v => ∃ a vs, v = .ref a ∧ F a = some (.lst vs) ∧ Reps F ds vs
  | .tup ds, v => ∃ a vs, v = .ref a ∧ F a = some (.tup vs) ∧ Reps F ds vs
  | .dct kds, v => ∃ a kvs, v = .ref a ∧ F a = some (.dK kvs) ∧ RepK F kds kvs
def Reps (F : Hp) : List D → List V → Prop
  | [], vs => vs = []
  | d :: ds, vs => ∃ v r, vs = v :: r ∧ Rep F d v ∧ Reps F ds r
def RepK (F : Hp) : List (Key × D) → List (Key × V) → Prop
  | [], vs => vs = []
  | p :: ds, vs => ∃ v r, vs = v :: r ∧ RepP F p v ∧ RepK F ds r
def RepP (F : Hp) : Key × D → Key × V → Prop
  | (k, d), q => q.1 = k ∧ Rep F d q.2
end
mutual
theorem Rep.mono {F F' : Hp} (s : Same F F') : ∀ (d : D) (v : V), Rep F d v → Rep F' d v
  | .non, v, h => h
  | .bl b, v, h => h
  | .int i, v, h => h
  | .str x, v, h => h
  | .ty n, v, h => h
  | .lst ds, v, h => by obtain ⟨a, vs, e, h1, h2⟩ := h; exact ⟨a, vs, e, s _ _ h1, Reps.mono s ds vs h2⟩
  | .tup ds, v, h => by obtain ⟨a, vs, e, h1, h2⟩ := h; exact ⟨a, vs, e, s _ _ h1, Reps.mono s ds vs h2⟩
  | .dct kds, v, h => by obtain ⟨a, vs, e, h1, h2⟩ := h; exact ⟨a, vs, e, s _ _ h1, RepK.mono s kds vs h2⟩
theorem Reps.mono {F F' : Hp} (s : Same F F') : ∀ (ds : List D) (vs : List V), Reps F ds vs → Reps F' ds vs
  | [], vs, h => h
  | d :: ds, vs, h => by obtain ⟨v, r, e, h1, h2⟩ := h; exact ⟨v, r, e, Rep.mono s d v h1, Reps.mono s ds r h2⟩
theorem RepK.mono {F F' : Hp} (s : Same F F') : ∀ (ds : List (Key × D)) (vs : List (Key × V)), RepK F ds vs → RepK F' ds vs
  | [], vs, h => h
  | p :: ds, vs, h => by obtain ⟨v, r, e, h1, h2⟩ := h; exact ⟨v, r, e, RepP.mono s p v h1, RepK.mono s ds r h2⟩
theorem RepP.mono {F F' : Hp} (s : Same F F') : ∀ (p : Key × D) (q : Key × V), RepP F p q → RepP F' p q
  | (k, d), q, h => ⟨h.1, Rep.mono s d q.2 h.2⟩
end
theorem Reps.len {F : Hp} : ∀ {ds : List D} {vs : List V}, Reps F ds vs → ds.length = vs.length
  | [], vs, h => by cases (show vs = [] from h); rfl
  | d :: ds, vs, h => by obtain ⟨v, r, rfl, h1, h2⟩ := h; simp [Reps.len h2]
theorem Reps.get {F : Hp} : ∀ {ds : List D} {vs : List V} {i : Nat} {d : D}, Reps F ds vs → ds[i]? = some d → ∃ v, vs[i]? = some v ∧ Rep F d v
  | [], vs, i, d, h, e => by simp at e
  | d :: ds, vs, 0, d', h, e => by obtain ⟨v, r, rfl, h1, h2⟩ := h; simp at e; subst e; exact ⟨v, rfl, h1⟩
  | d :: ds, vs, i + 1, d', h, e => by obtain ⟨v, r, rfl, h1, h2⟩ := h; simpa using Reps.get h2 (by simpa using e)
theorem Reps.get' {F : Hp} : ∀ {ds : List D} {vs : List V} {i : Nat} {v : V}, Reps F ds vs → vs[i]? = some v → ∃ d, ds[i]? = some d ∧ Rep F d v
  | [], vs, i, d, h, e => by cases (show vs = [] from h); simp at e
  | d :: ds, vs, 0, d', h, e => by obtain ⟨v, r, rfl, h1, h2⟩ := h; simp at e; subst e; exact ⟨d, rfl, h1⟩
  | d :: ds, vs, i + 1, d', h, e => by obtain ⟨v, r, rfl, h1, h2⟩ := h; simpa using Reps.get' h2 (by simpa using e)
theorem Reps.app {F : Hp} : ∀ {ds es : List D} {vs us : List V}, Reps F ds vs → Reps F es us → Reps F (ds ++ es) (vs ++ us)
  | [], es, vs, us, h, h' => by cases (show vs = [] from h); exact h'
  | d :: ds, es, vs, us, h, h' => by obtain ⟨v, r, rfl, h1, h2⟩ := h; exact ⟨v, r ++ us, rfl, h1, Reps.app h2 h'⟩
theorem Reps.one {F : Hp} {d : D} {v : V} (h : Rep F d v) : Reps F [d] [v] := ⟨v, [], rfl, h, rfl⟩
theorem Reps.take {F : Hp} : ∀ {ds : List D} {vs : List V} (n : Nat), Reps F ds vs → Reps F (ds.take n) (vs.take n)
  | _, _, 0, _ => by rw [List.take_zero, List.take_zero]; rfl
  | [], vs, n + 1, h => by cases (show vs = [] from h); rfl
  | d :: ds, vs, n + 1, h => by obtain ⟨v, r, rfl, h1, h2⟩ := h; exact ⟨v, r.take n, rfl, h1, Reps.take n h2⟩
theorem Reps.drop {F : Hp} : ∀ {ds : List D} {vs : List V} (n : Nat), Reps F ds vs → Reps F (ds.drop n) (vs.drop n)
  | _, _, 0, h => h
  | [], vs, n + 1, h => by cases (show vs = [] from h); rfl
  | d :: ds, vs, n + 1, h => by obtain ⟨v, r, rfl, h1, h2⟩ := h; exact Reps.drop n h2
theorem Reps.set {F : Hp} {d : D} {v : V} (h : Rep F d v) : ∀ {ds : List D} {vs : List V} (n : Nat), Reps F ds vs → Reps F (ds.set n d) (vs.set n v)
  | [], vs, n, h => by cases (show vs = [] from h); rfl
  | d :: ds, vs, 0, h => by obtain ⟨v', r, rfl, h1, h2⟩ := h; exact ⟨_, r, rfl, by assumption, h2⟩
  | d :: ds, vs, n + 1, h => by obtain ⟨v', r, rfl, h1, h2⟩ := h; exact ⟨v', r.set n v, rfl, h1, Reps.set (by assumption) n h2⟩
theorem Reps.rev {F : Hp} : ∀ {ds : List D} {vs : List V}, Reps F ds vs → Reps F ds.reverse vs.reverse
  | [], vs, h => by cases (show vs = [] from h); rfl
  | d :: ds, vs, h => by
    obtain ⟨v', r, rfl, h1, h2⟩ := h
    rw [List.reverse_cons, List.reverse_cons]
    exact (Reps.rev h2).app (.one h1)
theorem Reps.dropLast {F : Hp} {ds : List D} {vs : List V} (h : Reps F ds vs) : Reps F ds.dropLast vs.dropLast := by
  rw [List.dropLast_eq_take, List.dropLast_eq_take, h.len]; exact h.take _
theorem Reps.eraseIdx {F : Hp} {ds : List D} {vs : List V} (n : Nat) (h : Reps F ds vs) : Reps F (ds.eraseIdx n) (vs.eraseIdx n) := by
  rw [List.eraseIdx_eq_take_drop_succ, List.eraseIdx_eq_take_drop_succ]; exact (h.take _).app (h.drop _)
inductive Slot where
  | no
  | fz (d : D)
  | ob (io : Bool) (c : D)
  | sc (K : PySem.W.Frag) (ns : List Int)
def Cont (F H : Hp) (a : Addr) : D → Prop
  | .lst ds => ∃ vs, H a = some (.lst vs) ∧ Reps F ds vs
  | .dct kds => ∃ kvs, H a = some (.dK kvs) ∧ RepK F kds kvs
  | _ => False
theorem Cont.mono {F F' H H' : Hp} {a : Addr} {c : D} (s : Same F F') (e : ∀ o, H a = some o → H' a = some o) (h : Cont F H a c) : Cont F' H' a c := by
  cases c with
  | lst ds => obtain ⟨vs, h1, h2⟩ := h; exact ⟨vs, e _ h1, Reps.mono s _ _ h2⟩
  | dct ds => obtain ⟨vs, h1, h2⟩ := h; exact ⟨vs, e _ h1, RepK.mono s _ _ h2⟩
  | _ => exact h.elim
theorem Cont.some {F H : Hp} {a : Addr} {c : D} (h : Cont F H a c) : ∃ o, H a = some o := by
  cases c with
  | lst ds => obtain ⟨vs, h1, h2⟩ := h; exact ⟨_, h1⟩
  | dct ds => obtain ⟨vs, h1, h2⟩ := h; exact ⟨_, h1⟩
  | _ => exact h.elim
theorem Cont.rep {F H : Hp} {a : Addr} {c : D} (h : Cont F H a c) (hf : F a = none) : ∃ o, H a = Option.some o ∧ Rep (upd F a o) c (.ref a) := by
  have s : ∀ o, Same F (upd F a o) := fun o => Same.of_new hf
  cases c with
  | lst ds => obtain ⟨vs, h1, h2⟩ := h; exact ⟨_, h1, a, vs, rfl, upd_same, Reps.mono (s _) _ _ h2⟩
  | dct ds => obtain ⟨vs, h1, h2⟩ := h; exact ⟨_, h1, a, vs, rfl, upd_same, RepK.mono (s _) _ _ h2⟩
  | _ => exact h.elim
def SOk (H0 F H : Hp) (io : Option Addr) (o : Option V) : Slot → Prop
  | .no => True
  | .fz d => ∃ v, o = some v ∧ Rep F d v
  | .ob b c => ∃ a, o = some (.ref a) ∧ H0 a = none ∧ F a = none ∧ Cont F H a c ∧ (b = true → io = some a)
  | .sc K ns => ∃ a, o = some (.ref a) ∧ SqL K F a (ns.map V.int)
structure EI (io : List (Option Addr)) (H0 F0 F : Hp) (δ : List Slot) (σ : St) (H : Hp) : Prop where
  base : Same H0 H
  sub : Same F H
  ext : Same F0 F
  new : ∀ b o, F b = some o → F0 b = none → H0 b = none
  len : δ.length = σ.length
  get : ∀ i s, δ[i]? = some s → SOk H0 F H (io.getD i none) (σ.getD i none) s
  apart : ∀ i j b c b' c' a, i ≠ j → δ[i]? = some (.ob b c) → δ[j]? = some (.ob b' c') → σ.getD i none = some (.ref a) → σ.getD j none = some (.ref a) → False
def rsl : Bool → D → Slot
  | true, d => .ob false d
  | false, d => .fz d
section
variable {io : List (Option Addr)} {H0 F0 F : Hp} {δ : List Slot} {σ : St} {H : Hp}
theorem SOk.mono {F' H' : Hp} {i : Option Addr} {o : Option V} {s : Slot} (sf : Same F F') (h : SOk H0 F H i o s) (hn : ∀ a b c, s = .ob b c → o = some (.ref a) → F' a = none ∧ ∀ u, H a = some u → H' a = some u) : SOk H0 F' H' i o s := by
  cases s with
  | no => trivial
  | fz d => obtain ⟨v, e, r⟩ := h; exact ⟨v, e, Rep.mono sf _ _ r⟩
  | sc K ns => obtain ⟨a, e, r⟩ := h; exact ⟨a, e, sf.seq r⟩
  | ob b c =>
    obtain ⟨a, e, h1, h2, h3, h4⟩ := h
    obtain ⟨n1, n2⟩ := hn a b c rfl e
    exact ⟨a, e, h1, n1, h3.mono sf n2, h4⟩
theorem EI.alloc {p : Addr} {o : HO} (I : EI io H0 F0 F δ σ H) (hp : H p = none) : EI io H0 F0 F δ σ (upd H p o) where
  base := I.base.upd (I.base.free hp)
  sub := I.sub.upd (I.sub.free hp)
  ext := I.ext
  new := I.new
  len := I.len
  get := fun i s e => (I.get i s e).mono (Same.refl _) fun a b c es eo => by
    have h := I.get i s e
    subst es
    obtain ⟨a', e1, h1, h2, h3, h4⟩ := h
    rw [eo] at e1; cases e1
    obtain ⟨u, hu⟩ := h3.some
    exact ⟨h2, fun u' hu' => by rw [upd_ne (ne_of_none hu hp)]; exact hu'⟩
  apart := I.apart
theorem EI.allocF {p : Addr} {o : HO} (I : EI io H0 F0 F δ σ H) (hp : H p = none) : EI io H0 F0 (upd F p o) δ σ (upd H p o) where
  base := I.base.upd (I.base.free hp)
  sub := fun b u e => by
    by_cases hb : b = p
    · subst hb; rw [upd_same] at e ⊢; exact e
    · rw [upd_ne hb] at e ⊢; exact I.sub b u e
  ext := I.ext.upd (I.ext.free (I.sub.free hp))
  new := fun b u e h => by
    by_cases hb : b = p
    · subst hb; exact I.base.free hp
    · rw [upd_ne hb] at e; exact I.new b u e h
  len := I.len
  get := fun i s e => (I.get i s e).mono (Same.of_new (I.sub.free hp)) fun a b c es eo => by
    have h := I.get i s e
    subst es
    obtain ⟨a', e1, h1, h2, h3, h4⟩ := h
    rw [eo] at e1; cases e1
    obtain ⟨u, hu⟩ := h3.some
    have ne := ne_of_none hu hp
    exact ⟨by rw [upd_ne ne]; exact h2, fun u' hu' => by rw [upd_ne ne]; exact hu'⟩
  apart := I.apart
theorem EI.push {s : Slot} {v : V} (I : EI io H0 F0 F δ σ H) (h : SOk H0 F H none (some v) s) (ha : ∀ b c a, s = .ob b c → v = .ref a → ∀ j b' c', δ[j]? = some (.ob b' c') → σ.getD j none = some (.ref a) → False) : EI (none :: io) H0 F0 F (s :: δ) (some v :: σ) H where
  base := I.base
  sub := I.sub
  ext := I.ext
  new := I.new
  len := by simp [I.len]
  get := fun i t e => by
    cases i with
    | zero => simp at e; subst e; exact h
    | succ i => simpa using I.get i t (by simpa using e)
  apart := fun i j b c b' c' a ne e1 e2 e3 e4 => by
    cases i with
    | zero =>
      cases j with
      | zero => exact ne rfl
      | succ j =>
        simp at e1 e2 e3 e4
        exact ha b c a e1 e3 j b' c' e2 (by simpa using e4)
    | succ i =>
      cases j with
      | zero =>
        simp at e1 e2 e3 e4
        exact ha b' c' a e2 e4 i b c e1 (by simpa using e3)
      | succ j =>
        simp at e1 e2 e3 e4
        exact I.apart i j b c b' c' a (by omega) e1 e2 (by simpa using e3) (by simpa using e4)
theorem EI.pushF {d : D} {v : V} (I : EI io H0 F0 F δ σ H) (h : Rep F d v) : EI (none :: io) H0 F0 F (.fz d :: δ) (some v :: σ) H :=
  I.push ⟨v, rfl, h⟩ fun b c a e => by cases e
theorem EI.pop {x : Option Addr} {s : Slot} {o : Option V} (I : EI (x :: io) H0 F0 F (s :: δ) (o :: σ) H) : EI io H0 F0 F δ σ H where
  base := I.base
  sub := I.sub
  ext := I.ext
  new := I.new
  len := by simpa using I.len
  get := fun i t e => by simpa using I.get (i + 1) t (by simpa using e)
  apart := fun i j b c b' c' a ne e1 e2 e3 e4 => I.apart (i + 1) (j + 1) b c b' c' a (by omega) (by simpa using e1) (by simpa using e2) (by simpa using e3) (by simpa using e4)
theorem EI.freeze {i : Nat} {c : D} (I : EI io H0 F0 F δ σ H) (e : δ[i]? = some (.ob false c)) : ∃ F' a, Same F F' ∧ EI io H0 F0 F' (δ.set i (.fz c)) σ H ∧ σ.getD i none = some (.ref a) ∧ Rep F' c (.ref a) := by
  obtain ⟨a, e1, h1, h2, h3, _⟩ := I.get i _ e
  obtain ⟨o, ho, hr⟩ := h3.rep h2
  have hs : Same F (upd F a o) := Same.of_new h2
  refine ⟨upd F a o, a, hs, ⟨I.base, fun b u eb => ?_, I.ext.trans hs, fun b u eb hb => ?_, by simp [I.len], fun j s ej => ?_, fun j k b c1 b' c' a' ne e1 e2 e3 e4 => ?_⟩, e1, hr⟩
  · by_cases hb : b = a
    · subst hb; rw [upd_same] at eb; cases eb; exact ho
    · rw [upd_ne hb] at eb; exact I.sub b u eb
  · by_cases hb' : b = a
    · subst hb'; exact h1
    · rw [upd_ne hb'] at eb; exact I.new b u eb hb
  · rw [List.getElem?_set] at ej
    split at ej
    · rename_i hij
      subst hij
      split at ej
      · cases ej
        exact ⟨_, e1, hr⟩
      · cases ej
    · rename_i hij
      refine (I.get j s ej).mono hs fun a' b' c' es eo => ?_
      subst es
      obtain ⟨a'', q1, q2, q3, q4, _⟩ := I.get j _ ej
      rw [eo] at q1; cases q1
      refine ⟨?_, fun u hu => hu⟩
      rw [upd_ne]
      · exact q3
      · rintro rfl
        exact I.apart i j _ _ _ _ _ hij e ej e1 eo
  · rw [List.getElem?_set] at e1 e2
    split at e1
    · split at e1 <;> cases e1
    · split at e2
      · split at e2 <;> cases e2
      · exact I.apart j k b c1 b' c' a' ne e1 e2 e3 e4
theorem EI.fr {b : Bool} {d : D} {v : V} (I : EI (none :: io) H0 F0 F (rsl b d :: δ) (some v :: σ) H) : ∃ F', Same F F' ∧ EI io H0 F0 F' δ σ H ∧ Rep F' d v := by
  cases b with
  | false =>
    obtain ⟨v', e, r⟩ := I.get 0 _ rfl
    simp at e; subst e
    exact ⟨F, Same.refl _, I.pop, r⟩
  | true =>
    obtain ⟨F', a, hs, I', e, r⟩ := I.freeze (i := 0) (c := d) rfl
    simp at e; subst e
    exact ⟨F', hs, I'.pop, r⟩
def peek (δ : List Slot) (i : Nat) : Option D :=
  match δ[i]? with
  | some (.fz d) => some d
  | some (.ob _ c) => some c
  | _ => none
def Pk (F H : Hp) (d : D) (v : V) : Prop := Rep F d v ∨ ∃ a, v = .ref a ∧ Cont F H a d
theorem EI.pk {i : Nat} {d : D} (I : EI io H0 F0 F δ σ H) (e : peek δ i = some d) : ∃ v, σ[i]? = some (some v) ∧ Pk F H d v := by
  unfold peek at e
  split at e
  · rename_i d' h
    cases e
    obtain ⟨v, e1, r⟩ := I.get i _ h
    refine ⟨v, ?_, .inl r⟩
    rw [List.getD_eq_getElem?_getD] at e1
    cases q : σ[i]? with
    | none => rw [q] at e1; cases e1
    | some o => rw [q] at e1; simp at e1; rw [e1]
  · rename_i b c h
    cases e
    obtain ⟨a, e1, _, _, h3, _⟩ := I.get i _ h
    refine ⟨.ref a, ?_, .inr ⟨a, rfl, h3⟩⟩
    rw [List.getD_eq_getElem?_getD] at e1
    cases q : σ[i]? with
    | none => rw [q] at e1; cases e1
    | some o => rw [q] at e1; simp at e1; rw [e1]
  · cases e
theorem Pk.lst {ds : List D} {v : V} (I : EI io H0 F0 F δ σ H) (h : Pk F H (.lst ds) v) : ∃ a vs, v = .ref a ∧ H a = some (.lst vs) ∧ Reps F ds vs := by
  rcases h with ⟨a, vs, e, h1, h2⟩ | ⟨a, e, vs, h1, h2⟩
  · exact ⟨a, vs, e, I.sub _ _ h1, h2⟩
  · exact ⟨a, vs, e, h1, h2⟩
theorem Pk.tup {ds : List D} {v : V} (I : EI io H0 F0 F δ σ H) (h : Pk F H (.tup ds) v) : ∃ a vs, v = .ref a ∧ H a = some (.tup vs) ∧ Reps F ds vs := by
  rcases h with ⟨a, vs, e, h1, h2⟩ | ⟨a, e, h⟩
  · exact ⟨a, vs, e, I.sub _ _ h1, h2⟩
  · exact h.elim
theorem Pk.dct {ds : List (Key × D)} {v : V} (I : EI io H0 F0 F δ σ H) (h : Pk F H (.dct ds) v) : ∃ a vs, v = .ref a ∧ H a = some (.dK vs) ∧ RepK F ds vs := by
  rcases h with ⟨a, vs, e, h1, h2⟩ | ⟨a, e, vs, h1, h2⟩
  · exact ⟨a, vs, e, I.sub _ _ h1, h2⟩
  · exact ⟨a, vs, e, h1, h2⟩
theorem Pk.int {i : Int} {v : V} (h : Pk F H (.int i) v) : v = .int i := by
  rcases h with h | ⟨a, e, h⟩
  · exact h
  · exact h.elim
theorem Pk.str {x : Str} {v : V} (h : Pk F H (.str x) v) : v = .str x := by
  rcases h with h | ⟨a, e, h⟩
  · exact h
  · exact h.elim
theorem Pk.bl {x : Bool} {v : V} (h : Pk F H (.bl x) v) : v = .bl x := by
  rcases h with h | ⟨a, e, h⟩
  · exact h
  · exact h.elim
theorem Pk.non {v : V} (h : Pk F H .non v) : v = .non := by
  rcases h with h | ⟨a, e, h⟩
  · exact h
  · exact h.elim
theorem EI.setv {i : Nat} {b : Bool} {d : D} {v : V} (I : EI (none :: io) H0 F0 F (rsl b d :: δ) (some v :: σ) H) (hn : ∀ c, δ[i]? ≠ some (.ob true c)) (hi : i < δ.length) : EI io H0 F0 F (δ.set i (rsl b d)) (σ.set i (some v)) H := by
  have J := I.pop
  refine ⟨I.base, I.sub, I.ext, I.new, by simpa using J.len, fun j s e => ?_, fun j k b1 c1 b2 c2 a ne e1 e2 e3 e4 => ?_⟩
  · rw [List.getElem?_set] at e
    split at e
    · rename_i hij
      subst hij
      cases e
      have hl : i < σ.length := by rw [← J.len]; exact hi
      have h0 := I.get 0 _ rfl
      simp [List.getD_eq_getElem?_getD, hl]
      cases b with
      | false => obtain ⟨v', e', r⟩ := h0; simp at e'; subst e'; exact ⟨v, rfl, r⟩
      | true => obtain ⟨a, e', h1, h2, h3, h4⟩ := h0; simp at e'; subst e'; exact ⟨a, rfl, h1, h2, h3, fun z => by cases z⟩
    · rename_i hij
      have := J.get j s e
      simp only [List.getD_eq_getElem?_getD] at this ⊢
      rw [List.getElem?_set_ne hij]
      exact this
  · have hl : i < σ.length := by rw [← J.len]; exact hi
    have key : ∀ {j : Nat} {b' c' b1 c1 a}, j ≠ i → (rsl b d) = .ob b1 c1 → δ[j]? = some (.ob b' c') → v = .ref a → σ.getD j none = some (.ref a) → False := fun {j b' c' b1 c1 a} hj e1 e2 e3 e4 =>
      I.apart 0 (j + 1) b1 c1 b' c' a (by omega) (by simp [e1]) (by simpa using e2) (by simp [e3]) (by simpa using e4)
    rw [List.getElem?_set] at e1 e2
    rw [List.getD_eq_getElem?_getD, List.getElem?_set] at e3 e4
    by_cases hj : i = j
    · subst hj
      by_cases hk : i = k
      · exact ne hk
      · rw [if_pos rfl, if_pos hi] at e1
        rw [if_pos rfl, if_pos hl] at e3
        rw [if_neg hk] at e2 e4
        exact key (fun z => hk z.symm) (Option.some.inj e1) e2 (by simpa using e3) (by simpa [List.getD_eq_getElem?_getD] using e4)
    · rw [if_neg hj] at e1 e3
      by_cases hk : i = k
      · subst hk
        rw [if_pos rfl, if_pos hi] at e2
        rw [if_pos rfl, if_pos hl] at e4
        exact key (fun z => hj z.symm) (Option.some.inj e2) e1 (by simpa using e4) (by simpa [List.getD_eq_getElem?_getD] using e3)
      · rw [if_neg hk] at e2 e4
        exact J.apart j k b1 c1 b2 c2 a ne e1 e2 (by simpa [List.getD_eq_getElem?_getD] using e3) (by simpa [List.getD_eq_getElem?_getD] using e4)
theorem EI.forget {i : Nat} (I : EI io H0 F0 F δ σ H) : EI io H0 F0 F (δ.set i .no) σ H := by
  refine ⟨I.base, I.sub, I.ext, I.new, by simpa using I.len, fun j s e => ?_, fun j k b1 c1 b2 c2 a ne e1 e2 e3 e4 => ?_⟩
  · rw [List.getElem?_set] at e
    split at e
    · split at e
      · cases e; trivial
      · cases e
    · exact I.get j s e
  · rw [List.getElem?_set] at e1 e2
    split at e1
    · split at e1 <;> cases e1
    · split at e2
      · split at e2 <;> cases e2
      · exact I.apart j k b1 c1 b2 c2 a ne e1 e2 e3 e4
theorem EI.change {i : Nat} {b : Bool} {c c' : D} {a : Addr} {o : HO} (I : EI io H0 F0 F δ σ H) (e : δ[i]? = some (.ob b c)) (ea : σ.getD i none = some (.ref a)) (hc : Cont F (upd H a o) a c') : EI io H0 F0 F (δ.set i (.ob b c')) σ (upd H a o) := by
  obtain ⟨a', e1, h1, h2, h3, h4⟩ := I.get i _ e
  rw [ea] at e1; cases e1
  refine ⟨I.base.upd h1, I.sub.upd h2, I.ext, I.new, by simpa using I.len, fun j s ej => ?_, fun j k b1 c1 b2 c2 a' ne e1 e2 e3 e4 => ?_⟩
  · rw [List.getElem?_set] at ej
    split at ej
    · rename_i hij
      subst hij
      split at ej
      · cases ej
        exact ⟨a, ea, h1, h2, hc, h4⟩
      · cases ej
    · rename_i hij
      refine (I.get j s ej).mono (Same.refl _) fun a' b' c' es eo => ?_
      subst es
      obtain ⟨a'', q1, q2, q3, q4, _⟩ := I.get j _ ej
      rw [eo] at q1; cases q1
      refine ⟨q3, fun u hu => ?_⟩
      rw [upd_ne]
      · exact hu
      · rintro rfl
        exact I.apart i j _ _ _ _ _ hij e ej ea eo
  · have key : ∀ {j : Nat} {b1 : Bool} {c1 : D}, (δ.set i (.ob b c'))[j]? = some (Slot.ob b1 c1) → ∃ b2 c2, δ[j]? = some (Slot.ob b2 c2) := fun {j b1 c1} h => by
      rw [List.getElem?_set] at h
      split at h
      · rename_i hij; subst hij; exact ⟨_, _, e⟩
      · exact ⟨_, _, h⟩
    obtain ⟨b3, c3, q1⟩ := key e1
    obtain ⟨b4, c4, q2⟩ := key e2
    exact I.apart j k _ _ _ _ a' ne q1 q2 e3 e4
end
end VL
namespace VL
open PySem L2
abbrev TEd := List Slot → (Bool → D → List Slot → Prop) → Prop
abbrev TTd := List Slot → (Bool → List Slot → Prop) → Prop
abbrev TLd := List Slot → (List D → List Slot → Prop) → Prop
structure EndsD where
  nx : List Slot → Prop
  rt : Bool → D → List Slot → Prop
  bk : List Slot → Prop := fun _ => False
  ct : List Slot → Prop := fun _ => False
abbrev TSd := EndsD → List Slot → Prop
abbrev TGd := D → List Slot → (List Slot → Prop) → Prop
def Sim (te : TE) (td : TEd) : Prop := ∀ (io : List (Option Addr)) (H0 F0 F : Hp) (δ : List Slot) (σ : St) (H : Hp) (Q : VK) (Qd : Bool → D → List Slot → Prop), EI io H0 F0 F δ σ H → td δ Qd →
  (∀ b d v δ' F' H', Same F F' → EI (none :: io) H0 F0 F' (rsl b d :: δ') (some v :: σ) H' → Qd b d δ' → Q v H') → te σ H Q
def SimT (te : TT) (td : TTd) : Prop := ∀ (io : List (Option Addr)) (H0 F0 F : Hp) (δ : List Slot) (σ : St) (H : Hp) (Q : Bool → Hp → Prop) (Qd : Bool → List Slot → Prop), EI io H0 F0 F δ σ H → td δ Qd →
  (∀ b δ' F' H', Same F F' → EI io H0 F0 F' δ' σ H' → Qd b δ' → Q b H') → te σ H Q
def SimL (te : TA) (td : TLd) : Prop := ∀ (io : List (Option Addr)) (H0 F0 F : Hp) (δ : List Slot) (σ : St) (H : Hp) (Q : List V → Hp → Prop) (Qd : List D → List Slot → Prop), EI io H0 F0 F δ σ H → td δ Qd →
  (∀ ds vs δ' F' H', Same F F' → EI io H0 F0 F' δ' σ H' → Reps F' ds vs → Qd ds δ' → Q vs H') → te σ H Q
def SimG (g : TG) (gd : TGd) : Prop := ∀ (io : List (Option Addr)) (H0 F0 F : Hp) (δ : List Slot) (σ : St) (H : Hp) (d : D) (v : V) (Q : St → Hp → Prop) (Qd : List Slot → Prop), EI io H0 F0 F δ σ H → Rep F d v → gd d δ Qd →
  (∀ δ' σ', EI io H0 F0 F δ' σ' H → Qd δ' → Q σ' H) → g v σ H Q
structure ESim (io : List (Option Addr)) (H0 F0 F : Hp) (Ed : EndsD) (E : Ends) : Prop where
  nx : ∀ F' δ' σ' H', Same F F' → EI io H0 F0 F' δ' σ' H' → Ed.nx δ' → E.nx σ' H'
  rt : ∀ b d v F' δ' σ' H', Same F F' → EI (none :: io) H0 F0 F' (rsl b d :: δ') (some v :: σ') H' → Ed.rt b d δ' → E.rt v H'
  bk : ∀ F' δ' σ' H', Same F F' → EI io H0 F0 F' δ' σ' H' → Ed.bk δ' → E.bk σ' H'
  ct : ∀ F' δ' σ' H', Same F F' → EI io H0 F0 F' δ' σ' H' → Ed.ct δ' → E.ct σ' H'
theorem ESim.mono {io : List (Option Addr)} {H0 F0 F F1 : Hp} {Ed : EndsD} {E : Ends} (s : Same F F1) (h : ESim io H0 F0 F Ed E) : ESim io H0 F0 F1 Ed E :=
  ⟨fun F' δ' σ' H' q => h.nx F' δ' σ' H' (s.trans q), fun b d v F' δ' σ' H' q => h.rt b d v F' δ' σ' H' (s.trans q), fun F' δ' σ' H' q => h.bk F' δ' σ' H' (s.trans q), fun F' δ' σ' H' q => h.ct F' δ' σ' H' (s.trans q)⟩
def SimS (t : TS) (td : TSd) : Prop := ∀ (io : List (Option Addr)) (H0 F0 F : Hp) (δ : List Slot) (σ : St) (H : Hp) (E : Ends) (Ed : EndsD), EI io H0 F0 F δ σ H → td Ed δ → ESim io H0 F0 F Ed E → t E σ H
def DE (X : Cx) (e : Expr) (td : TEd) : Prop := ∃ te, PE X e te ∧ Sim te td
def DT (X : Cx) (e : Expr) (td : TTd) : Prop := ∃ te, PT X e te ∧ SimT te td
def DW (X : Cx) (e : Expr) (td : TTd) : Prop := ∃ te, PW X e te ∧ SimT te td
def DL (X : Cx) (es : List Expr) (td : TLd) : Prop := ∃ te, PA X es te ∧ SimL te td
def DG (X : Cx) (e : Expr) (gd : TGd) : Prop := ∃ g, PG X e g ∧ SimG g gd
def DS (X : Cx) (s : Stmt) (td : TSd) : Prop := ∃ t, PS X s t ∧ SimS t td
def DSs (X : Cx) (s : List Stmt) (td : TSd) : Prop := ∃ t, PSs X s t ∧ SimS t td
section
variable {io : List (Option Addr)} {H0 F0 F : Hp} {δ : List Slot} {σ : St} {H : Hp}
theorem Sim.fz {te : TE} {td : TEd} (s : Sim te td) {Q : VK} {Qd : D → List Slot → Prop} (I : EI io H0 F0 F δ σ H) (h : td δ fun _ d δ' => Qd d δ')
    (k : ∀ d v δ' F' H', Same F F' → EI io H0 F0 F' δ' σ H' → Rep F' d v → Qd d δ' → Q v H') : te σ H Q :=
  s io H0 F0 F δ σ H Q _ I h fun b d v δ' F' H' sf I' q => by
    obtain ⟨F2, s2, I2, r⟩ := I'.fr
    exact k d v δ' F2 H' (sf.trans s2) I2 r q
theorem getD_some {o : V} {i : Nat} (h : σ.getD i none = some o) : σ[i]? = some (some o) := by
  rw [List.getD_eq_getElem?_getD] at h
  cases q : σ[i]? with
  | none => rw [q] at h; cases h
  | some z => rw [q] at h; simp at h; rw [h]
end
def dC (d : D) : TEd := fun δ Q => Q false d δ
theorem sim_C {d : D} {v : V} (h : ∀ F, Rep F d v) : Sim (tC v) (dC d) := fun io H0 F0 F δ σ H Q Qd I q k => k false d v δ F H (Same.refl _) (I.pushF (h F)) q
def dVar (i : Nat) : TEd := fun δ Q =>
  match δ[i]? with
  | some (.fz d) => Q false d δ
  | some (.ob false c) => Q false c (δ.set i (.fz c))
  | _ => False
def dMv (i : Nat) : TEd := fun δ Q =>
  match δ[i]? with
  | some (.fz d) => Q false d δ
  | some (.ob false c) => Q true c (δ.set i .no)
  | _ => False
theorem sim_var (i : Nat) : Sim (tVar i) (dVar i) := by
  intro io H0 F0 F δ σ H Q Qd I q k
  unfold dVar at q
  split at q
  · rename_i d h
    obtain ⟨v, e, r⟩ := I.get i _ h
    exact ⟨v, getD_some e, k false d v δ F H (Same.refl _) (I.pushF r) q⟩
  · rename_i c h
    obtain ⟨F', a, sf, I', e, r⟩ := I.freeze h
    exact ⟨.ref a, getD_some e, k false c (.ref a) _ F' H sf (I'.pushF r) q⟩
  · exact q.elim
theorem sim_mv (i : Nat) : Sim (tVar i) (dMv i) := by
  intro io H0 F0 F δ σ H Q Qd I q k
  unfold dMv at q
  split at q
  · rename_i d h
    obtain ⟨v, e, r⟩ := I.get i _ h
    exact ⟨v, getD_some e, k false d v δ F H (Same.refl _) (I.pushF r) q⟩
  · rename_i c h
    obtain ⟨a, e, h1, h2, h3, h4⟩ := I.get i _ h
    refine ⟨.ref a, getD_some e, k true c (.ref a) _ F H (Same.refl _) (I.forget.push ⟨a, rfl, h1, h2, h3, fun z => by cases z⟩ ?_) q⟩
    intro b c' a' es ev j b2 c2 ej eo
    cases ev
    rw [List.getElem?_set] at ej
    split at ej
    · split at ej <;> cases ej
    · rename_i hij
      exact I.apart i j _ _ _ _ a hij h ej e eo
  · exact q.elim
section
variable {X : Cx} {pos : Pos}
theorem de_int {i j pos} : DE X (.Constant (.int i) j pos) (dC (.int i)) := ⟨_, pe_int, sim_C fun _ => rfl⟩
theorem de_bl {b j pos} : DE X (.Constant (.bool b) j pos) (dC (.bl b)) := ⟨_, pe_bl, sim_C fun _ => rfl⟩
theorem de_str {x j pos} : DE X (.Constant (.str x) j pos) (dC (.str x)) := ⟨_, pe_str, sim_C fun _ => rfl⟩
theorem dv (i : Nat) {x : Str} {pos : Pos} (hN : X.N[i]? = some x := by rfl) (hv : Vis X.env.scope x := by first | exact Or.inl rfl | exact Or.inr (Or.inl rfl) | exact Or.inr (Or.inr rfl)) (hd : (x == ("__debug__" : Str)) = false := by decide)
    (hcd : (x == ("__classdict__" : Str)) = false := by decide) : DE X (.Name x pos) (dVar i) := ⟨_, pe_var hN hv hd hcd, sim_var i⟩
theorem dm (i : Nat) {x : Str} {pos : Pos} (hN : X.N[i]? = some x := by rfl) (hv : Vis X.env.scope x := by first | exact Or.inl rfl | exact Or.inr (Or.inl rfl) | exact Or.inr (Or.inr rfl)) (hd : (x == ("__debug__" : Str)) = false := by decide)
    (hcd : (x == ("__classdict__" : Str)) = false := by decide) : DE X (.Name x pos) (dMv i) := ⟨_, pe_var hN hv hd hcd, sim_mv i⟩
theorem de_ty {x : Str} {n : String} {pos : Pos} (hg : Gl X x) (hm : X.mg x = none) (hv : bootBuiltins x = some (.type n)) (hn : x ≠ "__name__" := by decide) (hd : (x == ("__debug__" : Str)) = false := by decide) : DE X (.Name x pos) (dC (.ty n)) := ⟨_, pe_bltn (v := .ty n) hg hm hv rfl hn hd, sim_C fun _ => rfl⟩
end
def OpS (r : R2) (f : D → D → (Bool → D → Prop) → Prop) : Prop := ∀ (io : List (Option Addr)) (H0 F0 F : Hp) (δ : List Slot) (σ : St) (H : Hp) (x y : D) (v u : V) (Q : VK) (Qd : Bool → D → Prop), EI io H0 F0 F δ σ H → Pk F H x v → Pk F H y u → f x y Qd →
  (∀ b d w F' H', Same F F' → EI (none :: io) H0 F0 F' (rsl b d :: δ) (some w :: σ) H' → Qd b d → Q w H') → r v u H Q
def dOp (f : D → D → (Bool → D → Prop) → Prop) (da db : TEd) : TEd := fun δ Q => da δ fun _ x δ1 => db δ1 fun _ y δ2 => f x y fun b d => Q b d δ2
def dOpV (f : D → D → (Bool → D → Prop) → Prop) (i : Nat) (db : TEd) : TEd := fun δ Q => (peek δ i).isSome = true ∧ db δ fun _ y δ2 => ∃ x, peek δ2 i = some x ∧ f x y fun b d => Q b d δ2
def dOpW (f : D → D → (Bool → D → Prop) → Prop) (da : TEd) (j : Nat) : TEd := fun δ Q => da δ fun _ x δ1 => ∃ y, peek δ1 j = some y ∧ f x y fun b d => Q b d δ1
theorem sim_op {r : R2} {f : D → D → (Bool → D → Prop) → Prop} {ta tb : TE} {da db : TEd} (hs : OpS r f) (sa : Sim ta da) (sb : Sim tb db) : Sim (tOp r ta tb) (dOp f da db) := by
  intro io H0 F0 F δ σ H Q Qd I q k
  refine sa.fz I q fun x v δ1 F1 H1 s1 I1 r1 q1 => sb.fz I1 q1 fun y u δ2 F2 H2 s2 I2 r2 q2 => ?_
  exact hs io H0 F0 F2 δ2 σ H2 x y v u Q _ I2 (.inl (Rep.mono s2 _ _ r1)) (.inl r2) q2 fun b d w F' H' s' I' z => k b d w δ2 F' H' ((s1.trans s2).trans s') I' z
theorem sim_opV {r : R2} {f : D → D → (Bool → D → Prop) → Prop} {tb : TE} {i : Nat} {db : TEd} (hs : OpS r f) (sb : Sim tb db) : Sim (tOp r (tVar i) tb) (dOpV f i db) := by
  intro io H0 F0 F δ σ H Q Qd I q k
  obtain ⟨p0, q⟩ := q
  obtain ⟨d0, e0⟩ := Option.isSome_iff_exists.mp p0
  obtain ⟨v0, ev, _⟩ := I.pk e0
  refine ⟨v0, ev, ?_⟩
  refine sb.fz I q fun y u δ2 F2 H2 s2 I2 r2 q2 => ?_
  obtain ⟨x, ex, q2⟩ := q2
  obtain ⟨v, ev', pv⟩ := I2.pk ex
  rw [ev] at ev'; cases ev'
  exact hs io H0 F0 F2 δ2 σ H2 x y _ u Q _ I2 pv (.inl r2) q2 fun b d w F' H' s' I' z => k b d w δ2 F' H' (s2.trans s') I' z
theorem sim_opW {r : R2} {f : D → D → (Bool → D → Prop) → Prop} {ta : TE} {j : Nat} {da : TEd} (hs : OpS r f) (sa : Sim ta da) : Sim (tOp r ta (tVar j)) (dOpW f da j) := by
  intro io H0 F0 F δ σ H Q Qd I q k
  refine sa.fz I q fun x v δ1 F1 H1 s1 I1 r1 q1 => ?_
  obtain ⟨y, ey, q1⟩ := q1
  obtain ⟨u, eu, pu⟩ := I1.pk ey
  exact ⟨u, eu, hs io H0 F0 F1 δ1 σ H1 x y v u Q _ I1 (.inl r1) pu q1 fun b d w F' H' s' I' z => k b d w δ1 F' H' (s1.trans s') I' z⟩
section
variable {X : Cx} {pos : Pos} {a b : Expr} {da db : TEd} {f : D → D → (Bool → D → Prop) → Prop} {r : R2}
theorem de_op {op : Operator} (hs : OpS r f) (ho : OpR X (binaryOp op) r) (ha : DE X a da) (hb : DE X b db) : DE X (.BinOp a op b pos) (dOp f da db) := by
  obtain ⟨ta, pa, sa⟩ := ha; obtain ⟨tb, pb, sb⟩ := hb; exact ⟨_, pe_op ho pa pb, sim_op hs sa sb⟩
theorem de_cmp {op : CmpOp} (hs : OpS r f) (ho : OpR X (compareOp op) r) (ha : DE X a da) (hb : DE X b db) (hm : behindInMarks op b = false) : DE X (.Compare a [op] [b] pos) (dOp f da db) := by
  obtain ⟨ta, pa, sa⟩ := ha; obtain ⟨tb, pb, sb⟩ := hb; exact ⟨_, pe_cmpR ho pa pb hm, sim_op hs sa sb⟩
theorem de_cmpV {op : CmpOp} {i : Nat} {x : Str} {p : Pos} (hs : OpS r f) (ho : OpR X (compareOp op) r) (ha : PE X (.Name x p) (tVar i)) (hb : DE X b db) (hm : behindInMarks op b = false) : DE X (.Compare (.Name x p) [op] [b] pos) (dOpV f i db) := by
  obtain ⟨tb, pb, sb⟩ := hb; exact ⟨_, pe_cmpR ho ha pb hm, sim_opV hs sb⟩
theorem de_cmpW {op : CmpOp} {i : Nat} {x : Str} {p : Pos} (hs : OpS r f) (ho : OpR X (compareOp op) r) (ha : DE X a da) (hb : PE X (.Name x p) (tVar i)) (hm : behindInMarks op (.Name x p) = false) : DE X (.Compare a [op] [.Name x p] pos) (dOpW f da i) := by
  obtain ⟨ta, pa, sa⟩ := ha; exact ⟨_, pe_cmpR ho pa hb hm, sim_opW hs sa⟩
theorem de_ix (hs : OpS r f) (ho : IxR X r) (ha : DE X a da) (hb : DE X b db) (h : PlainIx b) : DE X (.Subscript a b pos) (dOp f da db) := by
  obtain ⟨ta, pa, sa⟩ := ha; obtain ⟨tb, pb, sb⟩ := hb; exact ⟨_, pe_ix ho pa pb h, sim_op hs sa sb⟩
theorem de_ixV {i : Nat} {x : Str} {p : Pos} (hs : OpS r f) (ho : IxR X r) (ha : PE X (.Name x p) (tVar i)) (hb : DE X b db) (h : PlainIx b) : DE X (.Subscript (.Name x p) b pos) (dOpV f i db) := by
  obtain ⟨tb, pb, sb⟩ := hb; exact ⟨_, pe_ix ho ha pb h, sim_opV hs sb⟩
end
section
def fI (g : Int → Int → D) : D → D → (Bool → D → Prop) → Prop := fun x y Q => ∃ i j, x = .int i ∧ y = .int j ∧ Q false (g i j)
def fIc (C : Int → Int → Prop) (g : Int → Int → D) : D → D → (Bool → D → Prop) → Prop := fun x y Q => ∃ i j, x = .int i ∧ y = .int j ∧ C i j ∧ Q false (g i j)
theorem os_I {g : Int → Int → V} {g' : Int → Int → D} (h : ∀ i j F, Rep F (g' i j) (g i j)) : OpS (rI0 g) (fI g') := by
  intro io H0 F0 F δ σ H x y v u Q Qd I px py q k
  obtain ⟨i, j, rfl, rfl, q⟩ := q
  exact ⟨i, j, px.int, py.int, k false _ _ F H (Same.refl _) (I.pushF (h i j F)) q⟩
theorem os_Ic {C : Int → Int → Prop} {g : Int → Int → V} {g' : Int → Int → D} (h : ∀ i j F, Rep F (g' i j) (g i j)) : OpS (rI C g) (fIc C g') := by
  intro io H0 F0 F δ σ H x y v u Q Qd I px py q k
  obtain ⟨i, j, rfl, rfl, c, q⟩ := q
  exact ⟨i, j, px.int, py.int, c, k false _ _ F H (Same.refl _) (I.pushF (h i j F)) q⟩
end
end VL
namespace VL
open PySem L2
section
variable {io : List (Option Addr)} {H0 F0 F : Hp} {δ : List Slot} {σ : St} {H : Hp}
theorem EI.pI {x : Int} (I : EI io H0 F0 F δ σ H) : EI (none :: io) H0 F0 F (rsl false (.int x) :: δ) (some (.int x) :: σ) H := I.pushF rfl
theorem EI.pB {x : Bool} (I : EI io H0 F0 F δ σ H) : EI (none :: io) H0 F0 F (rsl false (.bl x) :: δ) (some (.bl x) :: σ) H := I.pushF rfl
theorem EI.pN (I : EI io H0 F0 F δ σ H) : EI (none :: io) H0 F0 F (rsl false .non :: δ) (some .non :: σ) H := I.pushF rfl
end
theorem os_add : OpS (rI0 fun i j => .int (i + j)) (fI fun i j => .int (i + j)) := os_I fun _ _ _ => rfl
theorem os_mul : OpS (rI CMul fun i j => .int (i * j)) (fIc CMul fun i j => .int (i * j)) := os_Ic fun _ _ _ => rfl
theorem os_mod : OpS (rI (fun _ j => 0 < j) fun i j => .int (i % j)) (fIc (fun _ j => 0 < j) fun i j => .int (i % j)) := os_Ic fun _ _ _ => rfl
theorem os_fdiv : OpS (rI (fun _ j => 0 < j ∧ j.natAbs.log2 < 9000) fun i j => .int (i / j)) (fIc (fun _ j => 0 < j ∧ j.natAbs.log2 < 9000) fun i j => .int (i / j)) := os_Ic fun _ _ _ => rfl
theorem os_lt : OpS (rI0 fun i j => .bl (decide (i < j))) (fI fun i j => .bl (decide (i < j))) := os_I fun _ _ _ => rfl
theorem os_gt : OpS (rI0 fun i j => .bl (decide (j < i))) (fI fun i j => .bl (decide (j < i))) := os_I fun _ _ _ => rfl
def sEq : D → D → Option Bool
  | .int i, .int j => some (decide (i = j))
  | .str i, .str j => some (decide (i = j))
  | .bl i, .bl j => some (decide (i = j))
  | .non, .non => some true
  | .non, .int _ => some false | .int _, .non => some false | .non, .str _ => some false | .str _, .non => some false | .non, .bl _ => some false | .bl _, .non => some false
  | .int _, .str _ => some false | .str _, .int _ => some false | .bl _, .str _ => some false | .str _, .bl _ => some false
  | _, _ => none
def fEq : D → D → (Bool → D → Prop) → Prop := fun x y Q => ∃ b, sEq x y = some b ∧ Q false (.bl b)
def fNe : D → D → (Bool → D → Prop) → Prop := fun x y Q => ∃ b, sEq x y = some b ∧ Q false (.bl (!b))
theorem sEq_scal {F H : Hp} {x y : D} {v u : V} {b : Bool} (px : Pk F H x v) (py : Pk F H y u) (h : sEq x y = some b) : scal v u = true ∧ decide (v = u) = b := by
  cases x <;> cases y <;> simp only [sEq] at h <;> first
    | (cases h; fail)
    | (have e1 := px.int; have e2 := py.int; subst e1 e2; cases h; exact ⟨rfl, by simp⟩)
    | (have e1 := px.str; have e2 := py.str; subst e1 e2; cases h; exact ⟨rfl, by simp⟩)
    | (have e1 := px.bl; have e2 := py.bl; subst e1 e2; cases h; exact ⟨rfl, by simp⟩)
    | (have e1 := px.non; have e2 := py.non; subst e1 e2; cases h; exact ⟨rfl, by simp⟩)
    | (have e1 := px.non; have e2 := py.int; subst e1 e2; cases h; exact ⟨rfl, by simp⟩)
    | (have e1 := px.int; have e2 := py.non; subst e1 e2; cases h; exact ⟨rfl, by simp⟩)
    | (have e1 := px.non; have e2 := py.str; subst e1 e2; cases h; exact ⟨rfl, by simp⟩)
    | (have e1 := px.str; have e2 := py.non; subst e1 e2; cases h; exact ⟨rfl, by simp⟩)
    | (have e1 := px.non; have e2 := py.bl; subst e1 e2; cases h; exact ⟨rfl, by simp⟩)
    | (have e1 := px.bl; have e2 := py.non; subst e1 e2; cases h; exact ⟨rfl, by simp⟩)
    | (have e1 := px.int; have e2 := py.str; subst e1 e2; cases h; exact ⟨rfl, by simp⟩)
    | (have e1 := px.str; have e2 := py.int; subst e1 e2; cases h; exact ⟨rfl, by simp⟩)
    | (have e1 := px.bl; have e2 := py.str; subst e1 e2; cases h; exact ⟨rfl, by simp⟩)
    | (have e1 := px.str; have e2 := py.bl; subst e1 e2; cases h; exact ⟨rfl, by simp⟩)
    | (cases h)
theorem os_eq : OpS rEq fEq := by
  intro io H0 F0 F δ σ H x y v u Q Qd I px py q k
  obtain ⟨b, e, q⟩ := q
  obtain ⟨h1, h2⟩ := sEq_scal px py e
  refine ⟨h1, k false (.bl b) _ F H (Same.refl _) (I.pushF ?_) q⟩
  rw [h2]; rfl
theorem os_ne : OpS rNe fNe := by
  intro io H0 F0 F δ σ H x y v u Q Qd I px py q k
  obtain ⟨b, e, q⟩ := q
  obtain ⟨h1, h2⟩ := sEq_scal px py e
  refine ⟨h1, k false (.bl (!b)) _ F H (Same.refl _) (I.pushF ?_) q⟩
  rw [h2]; rfl
theorem EI.newL {io : List (Option Addr)} {H0 F0 F : Hp} {δ : List Slot} {σ : St} {H : Hp} {p : Addr} {ds : List D} {vs : List V} (I : EI io H0 F0 F δ σ H) (hp : H p = none) (r : Reps F ds vs) : EI (none :: io) H0 F0 F (rsl true (.lst ds) :: δ) (some (.ref p) :: σ) (upd H p (.lst vs)) := by
  refine (I.alloc hp).push ⟨p, rfl, I.base.free hp, I.sub.free hp, ⟨vs, upd_same, r⟩, fun z => by cases z⟩ fun b c a es ev j b' c' ej eo => ?_
  cases ev
  obtain ⟨a', e1, _, _, h3, _⟩ := I.get j _ ej
  rw [eo] at e1; cases e1
  obtain ⟨u, hu⟩ := h3.some
  rw [hp] at hu; cases hu
theorem EI.newD {io : List (Option Addr)} {H0 F0 F : Hp} {δ : List Slot} {σ : St} {H : Hp} {p : Addr} {ds : List (Key × D)} {vs : List (Key × V)} (I : EI io H0 F0 F δ σ H) (hp : H p = none) (r : RepK F ds vs) : EI (none :: io) H0 F0 F (rsl true (.dct ds) :: δ) (some (.ref p) :: σ) (upd H p (.dK vs)) := by
  refine (I.alloc hp).push ⟨p, rfl, I.base.free hp, I.sub.free hp, ⟨vs, upd_same, r⟩, fun z => by cases z⟩ fun b c a es ev j b' c' ej eo => ?_
  cases ev
  obtain ⟨a', e1, _, _, h3, _⟩ := I.get j _ ej
  rw [eo] at e1; cases e1
  obtain ⟨u, hu⟩ := h3.some
  rw [hp] at hu; cases hu
theorem EI.newT {io : List (Option Addr)} {H0 F0 F : Hp} {δ : List Slot} {σ : St} {H : Hp} {p : Addr} {ds : List D} {vs : List V} (I : EI io H0 F0 F δ σ H) (hp : H p = none) (r : Reps F ds vs) : ∃ F', Same F F' ∧ EI io H0 F0 F' δ σ (upd H p (.tup vs)) ∧ Rep F' (.tup ds) (.ref p) :=
  ⟨upd F p (.tup vs), Same.of_new (I.sub.free hp), I.allocF hp, p, vs, rfl, upd_same, Reps.mono (Same.of_new (I.sub.free hp)) _ _ r⟩
def fCat : D → D → (Bool → D → Prop) → Prop := fun x y Q => ∃ xs ys, x = .lst xs ∧ y = .lst ys ∧ xs.length + ys.length ≤ sizeLine ∧ Q true (.lst (xs ++ ys))
theorem os_cat : OpS rCat fCat := by
  intro io H0 F0 F δ σ H x y v u Q Qd I px py q k
  obtain ⟨xs, ys, rfl, rfl, hl, q⟩ := q
  obtain ⟨a, vs, rfl, h1, r1⟩ := px.lst I
  obtain ⟨b, us, rfl, h2, r2⟩ := py.lst I
  exact ⟨a, b, vs, us, rfl, rfl, h1, h2, by rw [← r1.len, ← r2.len]; exact hl, fun p hp => k true _ _ F _ (Same.refl _) (I.newL hp (r1.app r2)) q⟩
def fIxL : D → D → (Bool → D → Prop) → Prop := fun x y Q => ∃ xs i d, x = .lst xs ∧ y = .int i ∧ atI xs i = some d ∧ Q false d
def fIxT : D → D → (Bool → D → Prop) → Prop := fun x y Q => ∃ xs i d, x = .tup xs ∧ y = .int i ∧ atI xs i = some d ∧ Q false d
theorem Reps.atI {F : Hp} {ds : List D} {vs : List V} {i : Int} {d : D} (r : Reps F ds vs) (h : atI ds i = some d) : ∃ v, L2.atI vs i = some v ∧ Rep F d v := by
  unfold L2.atI at h ⊢
  rw [← r.len]
  cases e : ixN ds.length i with
  | none => rw [e] at h; cases h
  | some j => rw [e] at h; exact r.get h
theorem os_ixL : OpS (fun x y H Q => ∃ p i, x = .ref p ∧ y = .int i ∧ ∃ xs, H p = some (.lst xs) ∧ ∃ v, atI xs i = some v ∧ Q v H) fIxL := by
  intro io H0 F0 F δ σ H x y v u Q Qd I px py q k
  obtain ⟨xs, i, d, rfl, rfl, h, q⟩ := q
  obtain ⟨a, vs, rfl, h1, r1⟩ := px.lst I
  obtain ⟨w, e, r⟩ := r1.atI h
  exact ⟨a, i, rfl, py.int, vs, h1, w, e, k false d w F H (Same.refl _) (I.pushF r) q⟩
theorem os_ixT : OpS (fun x y H Q => ∃ p i, x = .ref p ∧ y = .int i ∧ ∃ xs, H p = some (.tup xs) ∧ ∃ v, atI xs i = some v ∧ Q v H) fIxT := by
  intro io H0 F0 F δ σ H x y v u Q Qd I px py q k
  obtain ⟨xs, i, d, rfl, rfl, h, q⟩ := q
  obtain ⟨a, vs, rfl, h1, r1⟩ := px.tup I
  obtain ⟨w, e, r⟩ := r1.atI h
  exact ⟨a, i, rfl, py.int, vs, h1, w, e, k false d w F H (Same.refl _) (I.pushF r) q⟩
mutual
def eqb : D → Bool
  | .int _ => true
  | .str _ => true
  | .lst xs => eqbL xs
  | .tup xs => eqbL xs
  | _ => false
def eqbL : List D → Bool
  | [] => true
  | d :: r => eqb d && eqbL r
end
mutual
def dep : D → Nat
  | .lst xs => depL xs + 1
  | .tup xs => depL xs + 1
  | _ => 0
def depL : List D → Nat
  | [] => 0
  | d :: r => max (dep d) (depL r)
end
mutual
theorem eqT_of {F H : Hp} (s : Same F H) : ∀ (d : D) (n : Nat) (v u : V), eqb d = true → dep d ≤ n → Rep F d v → Rep F d u → EqT H n v u
  | .int i, n, v, u, _, _, h1, h2 => by cases (show v = .int i from h1); cases (show u = .int i from h2); exact .int i
  | .str i, n, v, u, _, _, h1, h2 => by cases (show v = .str i from h1); cases (show u = .str i from h2); exact .str i
  | .lst ds, 0, v, u, _, h, h1, h2 => by simp [dep] at h
  | .lst ds, n + 1, v, u, he, hn, h1, h2 => by
    obtain ⟨a, vs, rfl, e1, r1⟩ := h1
    obtain ⟨b, us, rfl, e2, r2⟩ := h2
    exact .lst (s _ _ e1) (s _ _ e2) (by rw [← r1.len, ← r2.len]) (eqTs_of s ds n vs us (by simpa [eqb] using he) (by simp [dep] at hn; omega) r1 r2)
  | .tup ds, 0, v, u, _, h, h1, h2 => by simp [dep] at h
  | .tup ds, n + 1, v, u, he, hn, h1, h2 => by
    obtain ⟨a, vs, rfl, e1, r1⟩ := h1
    obtain ⟨b, us, rfl, e2, r2⟩ := h2
    exact .tup (s _ _ e1) (s _ _ e2) (by rw [← r1.len, ← r2.len]) (eqTs_of s ds n vs us (by simpa [eqb] using he) (by simp [dep] at hn; omega) r1 r2)
  | .non, n, v, u, h, _, h1, h2 => by simp [eqb] at h
  | .bl _, n, v, u, h, _, h1, h2 => by simp [eqb] at h
  | .ty _, n, v, u, h, _, h1, h2 => by simp [eqb] at h
  | .dct _, n, v, u, h, _, h1, h2 => by simp [eqb] at h
theorem eqTs_of {F H : Hp} (s : Same F H) : ∀ (ds : List D) (n : Nat) (vs us : List V), eqbL ds = true → depL ds ≤ n → Reps F ds vs → Reps F ds us → ∀ (i : Nat) x y, vs[i]? = some x → us[i]? = some y → EqT H n x y
  | [], n, vs, us, _, _, h1, h2, i, x, y, e1, e2 => by cases (show vs = [] from h1); simp at e1
  | d :: ds, n, vs, us, he, hn, h1, h2, i, x, y, e1, e2 => by
    obtain ⟨v, r, rfl, q1, r1⟩ := h1
    obtain ⟨u, r', rfl, q2, r2⟩ := h2
    simp [eqbL] at he
    simp [depL] at hn
    cases i with
    | zero => simp at e1 e2; subst e1 e2; exact eqT_of s d n v u he.1 (by omega) q1 q2
    | succ i => exact eqTs_of s ds n r r' he.2 (by omega) r1 r2 i x y (by simpa using e1) (by simpa using e2)
end
def fEqL : D → D → (Bool → D → Prop) → Prop := fun x y Q => ∃ xs ys, x = .lst xs ∧ y = .lst ys ∧ ((xs.length ≠ ys.length ∧ Q false (.bl false)) ∨ (xs = ys ∧ eqbL xs = true ∧ depL xs ≤ 90 ∧ Q false (.bl true)))
def fNeL : D → D → (Bool → D → Prop) → Prop := fun x y Q => ∃ xs ys, x = .lst xs ∧ y = .lst ys ∧ ((xs.length ≠ ys.length ∧ Q false (.bl true)) ∨ (xs = ys ∧ eqbL xs = true ∧ depL xs ≤ 90 ∧ Q false (.bl false)))
theorem os_eqL {X : Cx} (hu : X.A.units + 100 < cLine) : OpS (fun x y H Q => ∃ a b, x = .ref a ∧ y = .ref b ∧ ∃ xs, H a = some (.lst xs) ∧ ∃ ys, H b = some (.lst ys) ∧ X.A.units < cLine ∧
    ((xs.length ≠ ys.length ∧ Q (.bl false) H) ∨ (xs.length = ys.length ∧ (∃ n, (∀ (i : Nat) x y, xs[i]? = some x → ys[i]? = some y → EqT H n x y) ∧ X.A.units + n + 1 < cLine) ∧ Q (.bl true) H))) fEqL := by
  intro io H0 F0 F δ σ H x y v u Q Qd I px py q k
  obtain ⟨xs, ys, rfl, rfl, q⟩ := q
  obtain ⟨a, vs, rfl, h1, r1⟩ := px.lst I
  obtain ⟨b, us, rfl, h2, r2⟩ := py.lst I
  refine ⟨a, b, rfl, rfl, vs, h1, us, h2, by omega, ?_⟩
  rcases q with ⟨hl, q⟩ | ⟨rfl, he, hd, q⟩
  · exact .inl ⟨by rw [← r1.len, ← r2.len]; exact hl, k false _ _ F H (Same.refl _) I.pB q⟩
  · exact .inr ⟨by rw [← r1.len, ← r2.len], ⟨90, eqTs_of I.sub xs 90 vs us he hd r1 r2, by omega⟩, k false _ _ F H (Same.refl _) I.pB q⟩
theorem os_neL {X : Cx} (hu : X.A.units + 100 < cLine) : OpS (fun x y H Q => ∃ a b, x = .ref a ∧ y = .ref b ∧ ∃ xs, H a = some (.lst xs) ∧ ∃ ys, H b = some (.lst ys) ∧ X.A.units < cLine ∧
    ((xs.length ≠ ys.length ∧ Q (.bl true) H) ∨ (xs.length = ys.length ∧ (∃ n, (∀ (i : Nat) x y, xs[i]? = some x → ys[i]? = some y → EqT H n x y) ∧ X.A.units + n + 1 < cLine) ∧ Q (.bl false) H))) fNeL := by
  intro io H0 F0 F δ σ H x y v u Q Qd I px py q k
  obtain ⟨xs, ys, rfl, rfl, q⟩ := q
  obtain ⟨a, vs, rfl, h1, r1⟩ := px.lst I
  obtain ⟨b, us, rfl, h2, r2⟩ := py.lst I
  refine ⟨a, b, rfl, rfl, vs, h1, us, h2, by omega, ?_⟩
  rcases q with ⟨hl, q⟩ | ⟨rfl, he, hd, q⟩
  · exact .inl ⟨by rw [← r1.len, ← r2.len]; exact hl, k false _ _ F H (Same.refl _) I.pB q⟩
  · exact .inr ⟨by rw [← r1.len, ← r2.len], ⟨90, eqTs_of I.sub xs 90 vs us he hd r1 r2, by omega⟩, k false _ _ F H (Same.refl _) I.pB q⟩
theorem Reps.strs {F : Hp} : ∀ {ks : List Str} {vs : List V}, Reps F (ks.map D.str) vs → vs = ks.map V.str
  | [], vs, h => h
  | k :: ks, vs, h => by obtain ⟨v, r, rfl, h1, h2⟩ := h; rw [Reps.strs h2]; cases (show v = .str k from h1); rfl
theorem Reps.ints {F : Hp} : ∀ {ks : List Int} {vs : List V}, Reps F (ks.map D.int) vs → vs = ks.map V.int
  | [], vs, h => h
  | k :: ks, vs, h => by obtain ⟨v, r, rfl, h1, h2⟩ := h; rw [Reps.ints h2]; cases (show v = .int k from h1); rfl
theorem Reps.bls {F : Hp} : ∀ {ks : List Bool} {vs : List V}, Reps F (ks.map D.bl) vs → vs = ks.map V.bl
  | [], vs, h => h
  | k :: ks, vs, h => by obtain ⟨v, r, rfl, h1, h2⟩ := h; rw [Reps.bls h2]; cases (show v = .bl k from h1); rfl
def fInL : D → D → (Bool → D → Prop) → Prop := fun x y Q => ∃ (k : Str) (ks : List Str), x = .str k ∧ y = .lst (ks.map .str) ∧ Q false (.bl (decide (k ∈ ks)))
def fNotInL : D → D → (Bool → D → Prop) → Prop := fun x y Q => ∃ (k : Str) (ks : List Str), x = .str k ∧ y = .lst (ks.map .str) ∧ Q false (.bl (!decide (k ∈ ks)))
def fInT : D → D → (Bool → D → Prop) → Prop := fun x y Q => ∃ (k : Str) (ks : List Str), x = .str k ∧ y = .tup (ks.map .str) ∧ Q false (.bl (decide (k ∈ ks)))
theorem os_inL : OpS (fun x y H Q => ∃ p, y = .ref p ∧ ∃ xs, H p = some (.lst xs) ∧ flatV x = true ∧ xs.all flatV = true ∧ Q (.bl (inV x xs)) H) fInL := by
  intro io H0 F0 F δ σ H x y v u Q Qd I px py q k
  obtain ⟨s, ks, rfl, rfl, q⟩ := q
  obtain ⟨b, us, rfl, h2, r2⟩ := py.lst I
  cases px.str
  cases r2.strs
  refine ⟨b, rfl, _, h2, rfl, flat_strs ks, k false _ _ F H (Same.refl _) (I.pushF ?_) q⟩
  rw [inV_strs]; rfl
theorem os_notInL : OpS (fun x y H Q => ∃ p, y = .ref p ∧ ∃ xs, H p = some (.lst xs) ∧ flatV x = true ∧ xs.all flatV = true ∧ Q (.bl (!inV x xs)) H) fNotInL := by
  intro io H0 F0 F δ σ H x y v u Q Qd I px py q k
  obtain ⟨s, ks, rfl, rfl, q⟩ := q
  obtain ⟨b, us, rfl, h2, r2⟩ := py.lst I
  cases px.str
  cases r2.strs
  refine ⟨b, rfl, _, h2, rfl, flat_strs ks, k false _ _ F H (Same.refl _) (I.pushF ?_) q⟩
  rw [inV_strs]; rfl
theorem os_inT : OpS (fun x y H Q => ∃ p, y = .ref p ∧ ∃ xs, H p = some (.tup xs) ∧ flatV x = true ∧ xs.all flatV = true ∧ Q (.bl (inV x xs)) H) fInT := by
  intro io H0 F0 F δ σ H x y v u Q Qd I px py q k
  obtain ⟨s, ks, rfl, rfl, q⟩ := q
  obtain ⟨b, us, rfl, h2, r2⟩ := py.tup I
  cases px.str
  cases r2.strs
  refine ⟨b, rfl, _, h2, rfl, flat_strs ks, k false _ _ F H (Same.refl _) (I.pushF ?_) q⟩
  rw [inV_strs]; rfl
end VL
namespace VL
open PySem L2
def dTest (td : TEd) : TTd := fun δ Q => td δ fun _ d δ' => ∃ c, d = .bl c ∧ Q c δ'
theorem simT_val {te : TE} {td : TEd} (s : Sim te td) : SimT (tB te) (dTest td) := by
  intro io H0 F0 F δ σ H Q Qd I q k
  refine s.fz I q fun d v δ' F' H' sf I' r q' => ?_
  obtain ⟨c, rfl, q'⟩ := q'
  exact ⟨c, r, k c δ' F' H' sf I' q'⟩
theorem simT_test {te : TE} {td : TEd} (s : Sim te td) : SimT (tTest te) (dTest td) := simT_val s
def dNot (t : TTd) : TTd := fun δ Q => t δ fun c δ' => Q (!c) δ'
def dAnd (t u : TTd) : TTd := fun δ Q => t δ fun c δ' => if c = true then u δ' Q else Q false δ'
def dOr (t u : TTd) : TTd := fun δ Q => t δ fun c δ' => if c = true then Q true δ' else u δ' Q
theorem simT_not {t : TT} {td : TTd} (s : SimT t td) : SimT (tNot t) (dNot td) := fun io H0 F0 F δ σ H Q Qd I q k =>
  s io H0 F0 F δ σ H _ _ I q fun b δ' F' H' sf I' q' => k (!b) δ' F' H' sf I' q'
theorem simT_and {t u : TT} {td ud : TTd} (s : SimT t td) (s' : SimT u ud) : SimT (tAnd t u) (dAnd td ud) := by
  intro io H0 F0 F δ σ H Q Qd I q k
  refine s io H0 F0 F δ σ H _ _ I q fun b δ' F' H' sf I' q' => ?_
  cases b with
  | true => rw [if_pos rfl] at q' ⊢; exact s' io H0 F0 F' δ' σ H' _ _ I' q' fun b δ2 F2 H2 s2 I2 q2 => k b δ2 F2 H2 (sf.trans s2) I2 q2
  | false => rw [if_neg Bool.false_ne_true] at q' ⊢; exact k false δ' F' H' sf I' q'
theorem simT_or {t u : TT} {td ud : TTd} (s : SimT t td) (s' : SimT u ud) : SimT (tOr t u) (dOr td ud) := by
  intro io H0 F0 F δ σ H Q Qd I q k
  refine s io H0 F0 F δ σ H _ _ I q fun b δ' F' H' sf I' q' => ?_
  cases b with
  | false => rw [if_neg Bool.false_ne_true] at q' ⊢; exact s' io H0 F0 F' δ' σ H' _ _ I' q' fun b δ2 F2 H2 s2 I2 q2 => k b δ2 F2 H2 (sf.trans s2) I2 q2
  | true => rw [if_pos rfl] at q' ⊢; exact k true δ' F' H' sf I' q'
theorem Reps.isEmpty {F : Hp} {ds : List D} {vs : List V} (h : Reps F ds vs) : vs.isEmpty = ds.isEmpty := by
  cases ds with
  | nil => cases (show vs = [] from h); rfl
  | cons d ds => obtain ⟨v, r, rfl, _⟩ := h; rfl
theorem RepK.isEmpty {F : Hp} {ds : List (Key × D)} {vs : List (Key × V)} (h : RepK F ds vs) : vs.isEmpty = ds.isEmpty := by
  cases ds with
  | nil => cases (show vs = [] from h); rfl
  | cons d ds => obtain ⟨v, r, rfl, _⟩ := h; rfl
section
variable {X : Cx} {pos : Pos} {a b : Expr} {da db : TEd} {f : D → D → (Bool → D → Prop) → Prop} {r : R2} {rest : List Expr}
theorem dt_val (h : DE X a da) (he : ∀ whole, isTrue a X.env whole = (do let v ← whole; standAt a.pos; holding [v] (truthy v)) := by intro _; rfl) : DT X a (dTest da) := by
  obtain ⟨ta, pa, sa⟩ := h; exact ⟨_, pt_val pa he, simT_val sa⟩
theorem dt_cmp {op : CmpOp} (hs : OpS r f) (ho : OpR X (compareOp op) r) (ha : DE X a da) (hb : DE X b db) (hm : behindInMarks op b = false) : DT X (.Compare a [op] [b] pos) (dTest (dOp f da db)) := by
  obtain ⟨ta, pa, sa⟩ := ha; obtain ⟨tb, pb, sb⟩ := hb; exact ⟨_, pt_cmpR ho pa pb hm, simT_test (sim_op hs sa sb)⟩
theorem dt_cmpV {op : CmpOp} {i : Nat} {x : Str} {p : Pos} (hs : OpS r f) (ho : OpR X (compareOp op) r) (ha : PE X (.Name x p) (tVar i)) (hb : DE X b db) (hm : behindInMarks op b = false) : DT X (.Compare (.Name x p) [op] [b] pos) (dTest (dOpV f i db)) := by
  obtain ⟨tb, pb, sb⟩ := hb; exact ⟨_, pt_cmpR ho ha pb hm, simT_test (sim_opV hs sb)⟩
theorem dt_not {t : TTd} (h : DT X a t) : DT X (.UnaryOp .Not a pos) (dNot t) := by obtain ⟨u, p, s⟩ := h; exact ⟨_, pt_not p, simT_not s⟩
theorem dw_and1 {t : TTd} (h : DT X a t) : DW X (.BoolOp .And [a] pos) t := by obtain ⟨u, p, s⟩ := h; exact ⟨_, pw_and1 p, s⟩
theorem dw_or1 {t : TTd} (h : DT X a t) : DW X (.BoolOp .Or [a] pos) t := by obtain ⟨u, p, s⟩ := h; exact ⟨_, pw_or1 p, s⟩
theorem dw_and {t u : TTd} (h : DT X a t) (h' : DW X (.BoolOp .And (b :: rest) pos) u) : DW X (.BoolOp .And (a :: b :: rest) pos) (dAnd t u) := by
  obtain ⟨t', p, s⟩ := h; obtain ⟨u', p', s'⟩ := h'; exact ⟨_, pw_and p p', simT_and s s'⟩
theorem dw_or {t u : TTd} (h : DT X a t) (h' : DW X (.BoolOp .Or (b :: rest) pos) u) : DW X (.BoolOp .Or (a :: b :: rest) pos) (dOr t u) := by
  obtain ⟨t', p, s⟩ := h; obtain ⟨u', p', s'⟩ := h'; exact ⟨_, pw_or p p', simT_or s s'⟩
theorem dt_w {t : TTd} (h : DW X a t) : DT X a t := by obtain ⟨u, p, s⟩ := h; exact ⟨_, p.pt, s⟩
def dAndV (ta tb : TEd) : TEd := fun δ Q => ta δ fun _ x δ' => ∃ c, x = .bl c ∧ if c = true then tb δ' Q else Q false (.bl false) δ'
def dOrV (ta tb : TEd) : TEd := fun δ Q => ta δ fun _ x δ' => ∃ c, x = .bl c ∧ if c = true then Q false (.bl true) δ' else tb δ' Q
theorem de_one {op} (h : DE X a da) : DE X (.BoolOp op [a] pos) da := by obtain ⟨t, p, s⟩ := h; exact ⟨_, pe_one p, s⟩
theorem de_and (ha : DE X a da) (hb : DE X (.BoolOp .And (b :: rest) pos) db) : DE X (.BoolOp .And (a :: b :: rest) pos) (dAndV da db) := by
  obtain ⟨ta, pa, sa⟩ := ha; obtain ⟨tb, pb, sb⟩ := hb
  refine ⟨_, pe_and pa pb, fun io H0 F0 F δ σ H Q Qd I q k => sa.fz I q fun d v δ' F' H' sf I' r q' => ?_⟩
  obtain ⟨c, rfl, q'⟩ := q'
  refine ⟨c, r, ?_⟩
  cases c with
  | true => rw [if_pos rfl] at q' ⊢; exact sb io H0 F0 F' δ' σ H' Q Qd I' q' fun b d v δ2 F2 H2 s2 I2 q2 => k b d v δ2 F2 H2 (sf.trans s2) I2 q2
  | false => rw [if_neg Bool.false_ne_true] at q' ⊢; exact k false _ _ δ' F' H' sf I'.pB q'
theorem de_or (ha : DE X a da) (hb : DE X (.BoolOp .Or (b :: rest) pos) db) : DE X (.BoolOp .Or (a :: b :: rest) pos) (dOrV da db) := by
  obtain ⟨ta, pa, sa⟩ := ha; obtain ⟨tb, pb, sb⟩ := hb
  refine ⟨_, pe_or pa pb, fun io H0 F0 F δ σ H Q Qd I q k => sa.fz I q fun d v δ' F' H' sf I' r q' => ?_⟩
  obtain ⟨c, rfl, q'⟩ := q'
  refine ⟨c, r, ?_⟩
  cases c with
  | false => rw [if_neg Bool.false_ne_true] at q' ⊢; exact sb io H0 F0 F' δ' σ H' Q Qd I' q' fun b d v δ2 F2 H2 s2 I2 q2 => k b d v δ2 F2 H2 (sf.trans s2) I2 q2
  | true => rw [if_pos rfl] at q' ⊢; exact k false _ _ δ' F' H' sf I'.pB q'
def dNeg (ta : TEd) : TEd := fun δ Q => ta δ fun _ x δ' => ∃ i, x = .int i ∧ Q false (.int (-i)) δ'
theorem de_neg (ha : DE X a da) : DE X (.UnaryOp .USub a pos) (dNeg da) := by
  obtain ⟨ta, pa, sa⟩ := ha
  refine ⟨_, pe_un un_neg pa, fun io H0 F0 F δ σ H Q Qd I q k => sa.fz I q fun d v δ' F' H' sf I' r q' => ?_⟩
  obtain ⟨c, rfl, q'⟩ := q'
  exact ⟨c, r, k false _ _ δ' F' H' sf I'.pI q'⟩
def dNil : TLd := fun δ Q => Q [] δ
def dCons (t : TEd) (u : TLd) : TLd := fun δ Q => t δ fun _ d δ' => u δ' fun ds δ'' => Q (d :: ds) δ''
theorem dl_nil : DL X [] dNil := ⟨_, pa_nil, fun io H0 F0 F δ σ H Q Qd I q k => k [] [] δ F H (Same.refl _) I rfl q⟩
theorem dl_cons {es : List Expr} {u : TLd} (ha : DE X a da) (hr : DL X es u) (hs : starEach (a :: es) X.env = (false, eval a X.env) :: starEach es X.env := by rfl) : DL X (a :: es) (dCons da u) := by
  obtain ⟨ta, pa, sa⟩ := ha; obtain ⟨tr, pr, sr⟩ := hr
  refine ⟨_, pa_cons pa pr hs, fun io H0 F0 F δ σ H Q Qd I q k => sa.fz I q fun d v δ' F' H' sf I' r q' => sr io H0 F0 F' δ' σ H' _ _ I' q' fun ds vs δ2 F2 H2 s2 I2 r2 q2 => ?_⟩
  exact k (d :: ds) (v :: vs) δ2 F2 H2 (sf.trans s2) I2 ⟨v, vs, rfl, Rep.mono s2 _ _ r, r2⟩ q2
def dTup (u : TLd) : TEd := fun δ Q => u δ fun ds δ' => ds.length ≤ sizeLine ∧ Q false (.tup ds) δ'
def dLst (u : TLd) : TEd := fun δ Q => u δ fun ds δ' => ds.length ≤ sizeLine ∧ Q true (.lst ds) δ'
theorem de_tup {x1} {es : List Expr} {u : TLd} (h : DL X es u) : DE X (.Tuple es x1 pos) (dTup u) := by
  obtain ⟨t, p, s⟩ := h
  refine ⟨_, pe_tup p, fun io H0 F0 F δ σ H Q Qd I q k => s io H0 F0 F δ σ H _ _ I q fun ds vs δ' F' H' sf I' r q' => ⟨by rw [← r.len]; exact q'.1, fun p hp => ?_⟩⟩
  obtain ⟨F2, s2, I2, r2⟩ := I'.newT hp r
  exact k false _ _ δ' F2 _ (sf.trans s2) (I2.pushF r2) q'.2
theorem de_lst {es : List Expr} {u : TLd} (h : DL X es u) : DE X (.List es pos) (dLst u) := by
  obtain ⟨t, p, s⟩ := h
  exact ⟨_, pe_lst p, fun io H0 F0 F δ σ H Q Qd I q k => s io H0 F0 F δ σ H _ _ I q fun ds vs δ' F' H' sf I' r q' => ⟨by rw [← r.len]; exact q'.1, fun p hp => k true _ _ δ' F' _ sf (I'.newL hp r) q'.2⟩⟩
end
def CallS (r : List V → Hp → VK → Prop) (f : List D → (Bool → D → Prop) → Prop) : Prop := ∀ (io : List (Option Addr)) (H0 F0 F : Hp) (δ : List Slot) (σ : St) (H : Hp) (xs : List D) (vs : List V) (Q : VK) (Qd : Bool → D → Prop), EI io H0 F0 F δ σ H → Paired (Pk F H) xs vs → f xs Qd →
  (∀ b d w F' H', Same F F' → EI (none :: io) H0 F0 F' (rsl b d :: δ) (some w :: σ) H' → Qd b d → Q w H') → r vs H Q
theorem Reps.pks {F H : Hp} : ∀ {ds : List D} {vs : List V}, Reps F ds vs → Paired (Pk F H) ds vs
  | [], vs, h => by cases (show vs = [] from h); exact .nil
  | d :: ds, vs, h => by obtain ⟨v, r, rfl, h1, h2⟩ := h; exact .cons (.inl h1) (Reps.pks h2)
def dCB (f : List D → (Bool → D → Prop) → Prop) (u : TLd) : TEd := fun δ Q => u δ fun ds δ' => f ds fun b d => Q b d δ'
def dCBV (f : List D → (Bool → D → Prop) → Prop) (i : Nat) : TEd := fun δ Q => ∃ d, peek δ i = some d ∧ f [d] fun b d => Q b d δ
theorem sim_CB {r : List V → Hp → VK → Prop} {f : List D → (Bool → D → Prop) → Prop} {t : TA} {u : TLd} (hs : CallS r f) (s : SimL t u) : Sim (tCB r t) (dCB f u) := fun io H0 F0 F δ σ H Q Qd I q k =>
  s io H0 F0 F δ σ H _ _ I q fun ds vs δ' F' H' sf I' r q' => hs io H0 F0 F' δ' σ H' ds vs Q _ I' r.pks q' fun b d w F2 H2 s2 I2 q2 => k b d w δ' F2 H2 (sf.trans s2) I2 q2
theorem sim_CBV {r : List V → Hp → VK → Prop} {f : List D → (Bool → D → Prop) → Prop} {i : Nat} (hs : CallS r f) : Sim (tCB r (tCons (tVar i) tNil)) (dCBV f i) := fun io H0 F0 F δ σ H Q Qd I q k => by
  obtain ⟨d, e, q⟩ := q
  obtain ⟨v, ev, pk⟩ := I.pk e
  exact ⟨v, ev, hs io H0 F0 F δ σ H [d] [v] Q _ I (.cons pk .nil) q fun b d w F2 H2 s2 I2 q2 => k b d w δ F2 H2 s2 I2 q2⟩
section
variable {X : Cx} {pos p p' : Pos} {e : Expr} {es : List Expr} {x y : Str} {u : TLd} {f : List D → (Bool → D → Prop) → Prop} {r : List V → Hp → VK → Prop} {id T : String}
theorem de_callB (hs : CallS r f) (hc : CallR X (.builtin id) r) (hg : Gl X x) (hm : X.mg x = none) (hv : bootBuiltins x = some (.builtin id)) (ha : DL X (e :: es) u) (hn : x ≠ "__name__" := by decide) (hdb : (x == ("__debug__" : Str)) = false := by decide)
    (he : starEach (e :: es) X.env = (false, eval e X.env) :: starEach es X.env := by rfl) (hpl : (backTo pos (starEach es X.env)).any (·.1) = false := by rfl) : DE X (.Call (.Name x p) (e :: es) [] pos) (dCB f u) := by
  obtain ⟨t, pt, s⟩ := ha; exact ⟨_, pe_callB hc hg hm hv pt hn hdb he hpl, sim_CB hs s⟩
theorem de_callBV {i : Nat} (hs : CallS r f) (hc : CallR X (.builtin id) r) (hg : Gl X x) (hm : X.mg x = none) (hv : bootBuiltins x = some (.builtin id)) (ha : PE X (.Name y p') (tVar i)) (hn : x ≠ "__name__" := by decide) (hdb : (x == ("__debug__" : Str)) = false := by decide)
    (he : starEach [.Name y p'] X.env = [(false, eval (.Name y p') X.env)] := by rfl) (hpl : (backTo pos (starEach [] X.env)).any (·.1) = false := by rfl) : DE X (.Call (.Name x p) [.Name y p'] [] pos) (dCBV f i) :=
  ⟨_, pe_callB hc hg hm hv (pa_cons ha pa_nil he) hn hdb he hpl, sim_CBV hs⟩
theorem de_callTy (hs : CallS r f) (hc : CallR X (.type T) r) (hg : Gl X x) (hm : X.mg x = none) (hv : bootBuiltins x = some (.type T)) (ha : DL X (e :: es) u) (hn : x ≠ "__name__" := by decide) (hdb : (x == ("__debug__" : Str)) = false := by decide)
    (he : starEach (e :: es) X.env = (false, eval e X.env) :: starEach es X.env := by rfl) (hpl : (backTo pos (starEach es X.env)).any (·.1) = false := by rfl) : DE X (.Call (.Name x p) (e :: es) [] pos) (dCB f u) := by
  obtain ⟨t, pt, s⟩ := ha; exact ⟨_, pe_callTy hc hg hm hv pt hn hdb he hpl, sim_CB hs s⟩
end
theorem pks1 {F H : Hp} {d : D} {vs : List V} (h : Paired (Pk F H) [d] vs) : ∃ v, vs = [v] ∧ Pk F H d v := by
  cases h with
  | cons h t => cases t; exact ⟨_, rfl, h⟩
theorem pks2 {F H : Hp} {d d' : D} {vs : List V} (h : Paired (Pk F H) [d, d'] vs) : ∃ v v', vs = [v, v'] ∧ Pk F H d v ∧ Pk F H d' v' := by
  cases h with
  | cons h t =>
    cases t with
    | cons h' t => cases t; exact ⟨_, _, rfl, h, h'⟩
def fLenL : List D → (Bool → D → Prop) → Prop := fun ds Q => ∃ xs, ds = [.lst xs] ∧ Q false (.int xs.length)
theorem cs_lenL : CallS (fun xs H Q => ∃ p, xs = [.ref p] ∧ ∃ ys, H p = some (.lst ys) ∧ Q (.int ys.length) H) fLenL := by
  intro io H0 F0 F δ σ H xs vs Q Qd I px q k
  obtain ⟨ys, rfl, q⟩ := q
  obtain ⟨v, rfl, pk⟩ := pks1 px
  obtain ⟨a, us, rfl, h1, r⟩ := pk.lst I
  refine ⟨a, rfl, us, h1, k false (.int ys.length) _ F H (Same.refl _) (I.pushF ?_) q⟩
  rw [r.len]; rfl
def tyD : D → String
  | .non => "NoneType" | .bl _ => "bool" | .int _ => "int" | .str _ => "str" | .ty _ => "type" | .lst _ => "list" | .tup _ => "tuple" | .dct _ => "dict"
def isTy (t T : String) : Bool := t == T || (t == "bool" && T == "int")
def KitOk (K : PySem.W.Frag) : Prop := ∀ t ∈ ["str", "int", "bool", "list", "tuple", "dict", "NoneType"], ∀ T ∈ ["str", "int", "bool", "list", "tuple", "dict"], PySem.W.kitOne K (.type t) (.type T) = some (isTy t T)
def fIsI : List D → (Bool → D → Prop) → Prop := fun ds Q => ∃ d T, ds = [d, .ty T] ∧ tyD d ≠ "type" ∧ T ∈ ["str", "int", "bool", "list", "tuple", "dict"] ∧ Q false (.bl (isTy (tyD d) T))
theorem tyOf_pk {K : PySem.W.Frag} {io : List (Option Addr)} {H0 F0 F : Hp} {δ : List Slot} {σ : St} {H : Hp} {d : D} {v : V} (I : EI io H0 F0 F δ σ H) (p : Pk F H d v) (h : tyD d ≠ "type") : TyOf K H v (.type (tyD d)) := by
  cases d with
  | lst xs => obtain ⟨a, vs, rfl, h1, r⟩ := p.lst I; exact .lst h1
  | tup xs => obtain ⟨a, vs, rfl, h1, r⟩ := p.tup I; exact .tup h1
  | dct xs => obtain ⟨a, vs, rfl, h1, r⟩ := p.dct I; exact .dK h1
  | bl c => cases p.bl; exact .bl c
  | int c => cases p.int; exact .int c
  | str c => cases p.str; exact .str c
  | non => cases p.non; exact .non
  | ty c => exact absurd rfl h
theorem cs_isI {K : PySem.W.Frag} (hk : KitOk K) : CallS (fun xs H Q => ∃ x T t b, xs = [x, .ty T] ∧ TyOf K H x t ∧ PySem.W.kitOne K t (.type T) = some b ∧ Q (.bl b) H) fIsI := by
  intro io H0 F0 F δ σ H xs vs Q Qd I px q k
  obtain ⟨d, T, rfl, hd, hT, q⟩ := q
  obtain ⟨v, v', rfl, p1, p2⟩ := pks2 px
  have e : v' = .ty T := by
    rcases p2 with h | ⟨a, _, h⟩
    · exact h
    · exact h.elim
  subst e
  refine ⟨v, T, _, _, rfl, tyOf_pk I p1 hd, hk _ ?_ T hT, k false _ _ F H (Same.refl _) I.pB q⟩
  cases d <;> first | exact absurd rfl hd | simp [tyD]
def fListOf : List D → (Bool → D → Prop) → Prop := fun ds Q => ∃ xs, ds = [.lst xs] ∧ Q true (.lst xs)
theorem cs_list : CallS (fun xs H Q => ∃ p, xs = [.ref p] ∧ ∃ ys, H p = some (.lst ys) ∧ ∀ l, H l = none → Q (.ref l) (upd H l (.lst ys))) fListOf := by
  intro io H0 F0 F δ σ H xs vs Q Qd I px q k
  obtain ⟨ys, rfl, q⟩ := q
  obtain ⟨v, rfl, pk⟩ := pks1 px
  obtain ⟨a, us, rfl, h1, r⟩ := pk.lst I
  exact ⟨a, rfl, us, h1, fun l hl => k true _ _ F _ (Same.refl _) (I.newL hl r) q⟩
def fInt1 : List D → (Bool → D → Prop) → Prop := fun ds Q => (∃ i, ds = [.int i] ∧ Q false (.int i)) ∨ ∃ b, ds = [.bl b] ∧ Q false (.int (if b then 1 else 0))
theorem cs_int : CallS (fun xs H Q => (∃ i, xs = [.int i] ∧ Q (.int i) H) ∨ ∃ k, xs = [.bl k] ∧ Q (.int (if k then 1 else 0)) H) fInt1 := by
  intro io H0 F0 F δ σ H xs vs Q Qd I px q k
  rcases q with ⟨i, rfl, q⟩ | ⟨b, rfl, q⟩
  · obtain ⟨v, rfl, pk⟩ := pks1 px
    cases pk.int
    exact .inl ⟨i, rfl, k false _ _ F H (Same.refl _) I.pI q⟩
  · obtain ⟨v, rfl, pk⟩ := pks1 px
    cases pk.bl
    exact .inr ⟨b, rfl, k false _ _ F H (Same.refl _) I.pI q⟩
def MtS (r : V → List V → Hp → VK → Prop) (f : D → List D → (D → D → Prop) → Prop) : Prop := ∀ (F H : Hp) (a : Addr) (c : D) (xs : List D) (vs : List V) (Q : VK) (Qd : D → D → Prop), Same F H → Cont F H a c → F a = none → Reps F xs vs → f c xs Qd →
  (∀ c' d w o, Cont F (upd H a o) a c' → Rep F d w → Qd c' d → Q w (upd H a o)) → r (.ref a) vs H Q
def isL : D → Bool
  | .lst _ => true
  | _ => false
def dMt (f : D → List D → (D → D → Prop) → Prop) (i : Nat) (u : TLd) : TEd := fun δ Q => ((peek δ i).map isL = some true) ∧ u δ fun ds δ' => ∃ fl c, δ'[i]? = some (.ob fl c) ∧ f c ds fun c' d => Q false d (δ'.set i (.ob fl c'))
theorem isL_ex {d : D} (h : isL d = true) : ∃ xs, d = .lst xs := by cases d <;> first | exact ⟨_, rfl⟩ | cases h
theorem sim_mt {r : V → List V → Hp → VK → Prop} {f : D → List D → (D → D → Prop) → Prop} {i : Nat} {t : TA} {u : TLd} (hs : MtS r f) (s : SimL t u) : Sim (tLM r (tVar i) t) (dMt f i u) := fun io H0 F0 F δ σ H Q Qd I q k => by
  obtain ⟨h0, q⟩ := q
  obtain ⟨d0, e0, e1⟩ := Option.map_eq_some_iff.mp h0
  obtain ⟨xs, rfl⟩ := isL_ex e1
  obtain ⟨v, ev, pk⟩ := I.pk e0
  obtain ⟨a, vs, rfl, h1, _⟩ := pk.lst I
  refine ⟨_, ev, a, rfl, ⟨vs, h1⟩, s io H0 F0 F δ σ H _ _ I q fun ds us δ' F' H' sf I' r q' => ?_⟩
  obtain ⟨fl, c, ec, q'⟩ := q'
  obtain ⟨a', ea, n1, n2, hc, hio⟩ := I'.get i _ ec
  have : a' = a := by
    have := getD_some ea
    rw [ev] at this; cases this; rfl
  subst this
  refine hs F' H' a' c ds us Q _ I'.sub hc n2 r q' fun c' d w o hc' rd qd => ?_
  exact k false d w _ F' _ sf ((I'.change ec ea hc').pushF rd) qd
theorem sim_mt0 {r : V → List V → Hp → VK → Prop} {f : D → List D → (D → D → Prop) → Prop} {i : Nat} (hs : MtS r f) : Sim (tLM0 r (tVar i)) (dMt f i dNil) := fun io H0 F0 F δ σ H Q Qd I q k => by
  obtain ⟨v, ev, a, e, h1, h2⟩ := (sim_mt (t := tNil) (u := dNil) hs fun io H0 F0 F δ σ H Q Qd I q k => k [] [] δ F H (Same.refl _) I rfl q) io H0 F0 F δ σ H Q Qd I q k
  exact ⟨v, ev, a, e, h1, h2⟩
section
variable {X : Cx} {x name : Str} {p apos cpos : Pos} {e : Expr} {es : List Expr} {i : Nat} {u : TLd} {f : D → List D → (D → D → Prop) → Prop} {r : V → List V → Hp → VK → Prop} {id : String}
theorem de_mt0 (hs : MtS r f) (slot : PySem.Slot "list" name id) (hty : typeOf (.builtin id) = pure (.type "method_descriptor")) (hm : MtR X id r) (ho : PE X (.Name x p) (tVar i))
    (hbase : attributeBase (.Name x p) name X.env (eval (.Name x p) X.env) = eval (.Name x p) X.env := by rfl) (hline : (apos.endLine == cpos.line) = true := by rfl) : DE X (.Call (.Attribute (.Name x p) name apos) [] [] cpos) (dMt f i dNil) := ⟨_, pe_lm0 slot hty hm ho hbase hline, sim_mt0 hs⟩
theorem de_mt (hs : MtS r f) (slot : PySem.Slot "list" name id) (hty : typeOf (.builtin id) = pure (.type "method_descriptor")) (hm : MtR X id r) (ho : PE X (.Name x p) (tVar i)) (ha : DL X (e :: es) u)
    (hbase : attributeBase (.Name x p) name X.env (eval (.Name x p) X.env) = eval (.Name x p) X.env := by rfl)
    (hfew : ((backTo cpos (starEach (e :: es) X.env)).all (fun x => !x.1) && (backToKw cpos (keywordEach [] X.env)).all (fun x => x.1.isSome)
      && decide ((e :: es).length + ([] : List Keyword).length + (if ([] : List Keyword).isEmpty then 0 else 1) < 30)) = true := by rfl)
    (hline : (apos.endLine == cpos.line) = true := by rfl) (hst : starEach (e :: es) X.env = (false, eval e X.env) :: starEach es X.env := by rfl) (hplain : (backTo cpos (starEach es X.env)).any (·.1) = false := by rfl) :
    DE X (.Call (.Attribute (.Name x p) name apos) (e :: es) [] cpos) (dMt f i u) := by
  obtain ⟨t, pt, s⟩ := ha; exact ⟨_, pe_lm slot hty hm ho pt hbase hfew hline hst hplain, sim_mt hs s⟩
end
def fAppend : D → List D → (D → D → Prop) → Prop := fun c ds Q => ∃ xs d, c = .lst xs ∧ ds = [d] ∧ xs.length < sizeLine ∧ Q (.lst (xs ++ [d])) .non
def fExtend : D → List D → (D → D → Prop) → Prop := fun c ds Q => ∃ xs ys, c = .lst xs ∧ ds = [.lst ys] ∧ xs.length + ys.length ≤ sizeLine ∧ Q (.lst (xs ++ ys)) .non
def fPop : D → List D → (D → D → Prop) → Prop := fun c ds Q => ∃ xs d, c = .lst xs ∧ ds = [] ∧ xs[xs.length - 1]? = some d ∧ Q (.lst xs.dropLast) d
def fPopAt : D → List D → (D → D → Prop) → Prop := fun c ds Q => ∃ xs i k d, c = .lst xs ∧ ds = [.int i] ∧ -(2 ^ 63) ≤ i ∧ i < 2 ^ 63 ∧ seqIndex? i xs.length = some k ∧ xs[k]? = some d ∧ Q (.lst (xs.eraseIdx k)) d
theorem Reps.one_inv {F : Hp} {d : D} {vs : List V} (h : Reps F [d] vs) : ∃ v, vs = [v] ∧ Rep F d v := by
  obtain ⟨v, r, rfl, h1, h2⟩ := h
  cases (show r = [] from h2)
  exact ⟨v, rfl, h1⟩
theorem ms_append : MtS rAppend fAppend := by
  intro F H a c xs vs Q Qd s hc hf r q k
  obtain ⟨ys, d, rfl, rfl, hl, q⟩ := q
  obtain ⟨us, h1, r1⟩ := hc
  obtain ⟨v, rfl, rv⟩ := r.one_inv
  exact ⟨a, us, v, rfl, rfl, h1, by rw [← r1.len]; exact hl, k (.lst _) .non .non _ ⟨_, upd_same, r1.app (.one rv)⟩ rfl q⟩
theorem ms_extend : MtS rExtend fExtend := by
  intro F H a c xs vs Q Qd s hc hf r q k
  obtain ⟨ys, d, rfl, rfl, hl, q⟩ := q
  obtain ⟨us, h1, r1⟩ := hc
  obtain ⟨v, rfl, b, ws, rfl, h2, r2⟩ := r.one_inv
  exact ⟨a, b, us, ws, rfl, rfl, h1, s _ _ h2, by rw [← r1.len, ← r2.len]; exact hl, k (.lst _) .non .non _ ⟨_, upd_same, r1.app r2⟩ rfl q⟩
theorem ms_pop : MtS rPop fPop := by
  intro F H a c xs vs Q Qd s hc hf r q k
  obtain ⟨ys, d, rfl, rfl, hl, q⟩ := q
  obtain ⟨us, h1, r1⟩ := hc
  cases (show vs = [] from r)
  obtain ⟨v, ev, rv⟩ := r1.get hl
  exact ⟨a, us, v, rfl, rfl, h1, by rw [← r1.len]; exact ev, k (.lst _) d v _ ⟨_, upd_same, r1.dropLast⟩ rv q⟩
theorem ms_popAt : MtS rPopAt fPopAt := by
  intro F H a c xs vs Q Qd s hc hf r q k
  obtain ⟨ys, i, j, d, rfl, rfl, h3, h4, h5, h6, q⟩ := q
  obtain ⟨us, h1, r1⟩ := hc
  obtain ⟨v, rfl, rv⟩ := r.one_inv
  cases (show v = .int i from rv)
  obtain ⟨v, ev, rv⟩ := r1.get h6
  exact ⟨a, us, i, j, v, rfl, rfl, h1, h3, h4, by rw [← r1.len]; exact h5, ev, k (.lst _) d v _ ⟨_, upd_same, r1.eraseIdx j⟩ rv q⟩
end VL
namespace VL
open PySem L2
def dNext : TSd := fun E δ => E.nx δ
def dSeq (t u : TSd) : TSd := fun E δ => t { E with nx := u E } δ
def dRet (td : TEd) : TSd := fun E δ => td δ E.rt
def dBrk : TSd := fun E δ => E.bk δ
def dDrop (td : TEd) : TSd := fun E δ => td δ fun _ _ δ' => E.nx δ'
def dIfS (c : TTd) (t u : TSd) : TSd := fun E δ => c δ fun b δ' => if b = true then t E δ' else u E δ'
def noIo (δ : List Slot) (i : Nat) : Prop :=
  match δ[i]? with
  | some (.ob true _) => False
  | none => False
  | _ => True
theorem noIo.ne {δ : List Slot} {i : Nat} (h : noIo δ i) : (∀ c, δ[i]? ≠ some (.ob true c)) ∧ i < δ.length := by
  unfold noIo at h
  split at h
  · exact h.elim
  · exact h.elim
  · rename_i h1 h2
    refine ⟨fun c e => h1 c e, ?_⟩
    cases q : δ[i]? with
    | none => exact absurd q h2
    | some s => exact (List.getElem?_eq_some_iff.mp q).1
def dSet (i : Nat) (td : TEd) : TSd := fun E δ => td δ fun b d δ' => noIo δ' i ∧ E.nx (δ'.set i (rsl b d))
section
variable {X : Cx} {pos : Pos} {a b : Expr} {da db : TEd}
theorem simS_next : SimS tNext dNext := fun io H0 F0 F δ σ H E Ed I q S => S.nx F δ σ H (Same.refl _) I q
theorem simS_seq {t u : TS} {td ud : TSd} (s : SimS t td) (s' : SimS u ud) : SimS (tSeq t u) (dSeq td ud) := fun io H0 F0 F δ σ H E Ed I q S =>
  s io H0 F0 F δ σ H _ _ I q ⟨fun F' δ' σ' H' sf I' q' => s' io H0 F0 F' δ' σ' H' E Ed I' q' (S.mono sf), S.rt, S.bk, S.ct⟩
theorem simS_ret {te : TE} {td : TEd} (s : Sim te td) : SimS (tRet te) (dRet td) := fun io H0 F0 F δ σ H E Ed I q S =>
  s io H0 F0 F δ σ H _ _ I q fun b d v δ' F' H' sf I' q' => S.rt b d v F' δ' σ H' sf I' q'
theorem simS_drop {te : TE} {td : TEd} (s : Sim te td) : SimS (tDrop te) (dDrop td) := fun io H0 F0 F δ σ H E Ed I q S =>
  s io H0 F0 F δ σ H _ _ I q fun b d v δ' F' H' sf I' q' => S.nx F' δ' σ H' sf I'.pop q'
theorem simS_if {c : TT} {cd : TTd} {t u : TS} {td ud : TSd} (sc : SimT c cd) (s : SimS t td) (s' : SimS u ud) : SimS (tIfS c t u) (dIfS cd td ud) := fun io H0 F0 F δ σ H E Ed I q S =>
  sc io H0 F0 F δ σ H _ _ I q fun b δ' F' H' sf I' q' => by
    cases b with
    | true => rw [if_pos rfl] at q' ⊢; exact s io H0 F0 F' δ' σ H' E Ed I' q' (S.mono sf)
    | false => rw [if_neg Bool.false_ne_true] at q' ⊢; exact s' io H0 F0 F' δ' σ H' E Ed I' q' (S.mono sf)
theorem simS_set {te : TE} {td : TEd} {i : Nat} (s : Sim te td) : SimS (tAsg te (gName i)) (dSet i td) := fun io H0 F0 F δ σ H E Ed I q S =>
  s io H0 F0 F δ σ H _ _ I q fun b d v δ' F' H' sf I' q' => by
    obtain ⟨h, q'⟩ := q'
    obtain ⟨h1, h2⟩ := h.ne
    exact S.nx F' _ _ H' sf (I'.setv h1 h2) q'
theorem dss_nil : DSs X [] dNext := ⟨_, pss_nil, simS_next⟩
theorem dss_cons {st : Stmt} {rest : List Stmt} {t u : TSd} (h : DS X st t) (h' : DSs X rest u) : DSs X (st :: rest) (dSeq t u) := by
  obtain ⟨t, p, s⟩ := h; obtain ⟨t', p', s'⟩ := h'; exact ⟨_, pss_cons p p', simS_seq s s'⟩
theorem dss_one {st : Stmt} {t : TSd} (h : DS X st t) : DSs X [st] t := by obtain ⟨t, p, s⟩ := h; exact ⟨_, pss_one p, s⟩
theorem ds_ret (h : DE X a da) : DS X (.Return (some a) pos) (dRet da) := by obtain ⟨t, p, s⟩ := h; exact ⟨_, ps_ret p, simS_ret s⟩
theorem ds_break : DS X (.Break pos) dBrk := ⟨_, ps_break, fun io H0 F0 F δ σ H E Ed I q S => S.bk F δ σ H (Same.refl _) I q⟩
theorem ds_expr (h : DE X a da) (hs : swapsWith a none pos.line X.env = pure false := by rfl) : DS X (.Expr a pos) (dDrop da) := by obtain ⟨t, p, s⟩ := h; exact ⟨_, ps_expr p hs, simS_drop s⟩
theorem ds_if {c : Expr} {x y : List Stmt} {cd : TTd} {t u : TSd} (hc : DT X c cd) (h : DSs X x t) (h' : DSs X y u) : DS X (.If c x y pos) (dIfS cd t u) := by
  obtain ⟨tc, pc, sc⟩ := hc; obtain ⟨t, p, s⟩ := h; obtain ⟨t', p', s'⟩ := h'; exact ⟨_, ps_if pc p p', simS_if sc s s'⟩
theorem ds_set {i : Nat} {x : Str} {pos' : Pos} (hN : X.N.Nodup) (hi : X.N[i]? = some x) (hx : Loc X.env.scope x) (he : DE X a da) (hs : swapsWith a (some (.Name x pos')) pos.line X.env = pure false := by rfl) (hf : X.fn x = true ∨ X.env.scope.names.lookup x = some .local := by first | exact .inl rfl | exact .inr rfl | assumption) :
    DS X (.Assign [.Name x pos'] a pos) (dSet i da) := by obtain ⟨t, p, s⟩ := he; exact ⟨_, ps_set hN hi hx p hs hf, simS_set s⟩
def dgN (i : Nat) : TGd := fun d δ Q => noIo δ i ∧ Q (δ.set i (.fz d))
abbrev TGsd := List D → List Slot → (List Slot → Prop) → Prop
def dgNil : TGsd := fun ds δ Q => ds = [] ∧ Q δ
def dgCons (g : TGd) (u : TGsd) : TGsd := fun ds δ Q => ∃ d r, ds = d :: r ∧ g d δ fun δ' => u r δ' Q
def dgTup (n : Nat) (u : TGsd) : TGd := fun d δ Q => ∃ ds, d = .tup ds ∧ ds.length = n ∧ u ds δ Q
def SimGs (g : TGs) (gd : TGsd) : Prop := ∀ (io : List (Option Addr)) (H0 F0 F : Hp) (δ : List Slot) (σ : St) (H : Hp) (ds : List D) (vs : List V) (Q : St → Hp → Prop) (Qd : List Slot → Prop), EI io H0 F0 F δ σ H → Reps F ds vs → gd ds δ Qd →
  (∀ δ' σ', EI io H0 F0 F δ' σ' H → Qd δ' → Q σ' H) → g vs σ H Q
def DGs (X : Cx) (es : List Expr) (gd : TGsd) : Prop := ∃ g, PGs X es g ∧ SimGs g gd
theorem simG_name (i : Nat) : SimG (gName i) (dgN i) := fun io H0 F0 F δ σ H d v Q Qd I r q k => by
  obtain ⟨h, q⟩ := q
  obtain ⟨h1, h2⟩ := h.ne
  exact k _ _ ((I.pushF r).setv (b := false) h1 h2) q
theorem dg_name {i : Nat} {x : Str} (hN : X.N.Nodup) (hi : X.N[i]? = some x) (hx : Loc X.env.scope x) (hf : X.fn x = true ∨ X.env.scope.names.lookup x = some .local := by first | exact .inl rfl | exact .inr rfl | assumption) : DG X (.Name x pos) (dgN i) := ⟨_, pg_name hN hi hx hf, simG_name i⟩
theorem dgs_nil : DGs X [] dgNil := ⟨_, pgs_nil, fun io H0 F0 F δ σ H ds vs Q Qd I r q k => by
  obtain ⟨rfl, q⟩ := q
  exact ⟨r, k _ _ I q⟩⟩
theorem dgs_cons {e : Expr} {es : List Expr} {g : TGd} {u : TGsd} (h1 : DG X e g) (h2 : DGs X es u)
    (hs : (assignEach (e :: es) X.env).map (·.2) = assign e X.env :: (assignEach es X.env).map (·.2) := by rfl) : DGs X (e :: es) (dgCons g u) := by
  obtain ⟨t, p, s⟩ := h1; obtain ⟨t', p', s'⟩ := h2
  refine ⟨_, pgs_cons p p' hs, fun io H0 F0 F δ σ H ds vs Q Qd I r q k => ?_⟩
  obtain ⟨d, dr, rfl, q⟩ := q
  obtain ⟨v, vr, rfl, r1, r2⟩ := r
  exact ⟨v, vr, rfl, s io H0 F0 F δ σ H d v _ _ I r1 q fun δ' σ' I' q' => s' io H0 F0 F δ' σ' H dr vr Q Qd I' r2 q' k⟩
theorem dg_tup {es : List Expr} {k : Nat} {u : TGsd} {n : Nat} (hc : X.calm = true) (h : DGs X es u)
    (hn : (assignEach es X.env).length = n := by rfl) (hst : (assignEach es X.env).findIdx? (·.1) = none := by rfl) : DG X (.Tuple es k pos) (dgTup n u) := by
  obtain ⟨t, p, s⟩ := h
  refine ⟨_, pg_tup hc p hn hst, fun io H0 F0 F δ σ H d v Q Qd I r q k => ?_⟩
  obtain ⟨ds, rfl, hl, q⟩ := q
  obtain ⟨a, vs, rfl, h1, r1⟩ := r
  exact ⟨a, vs, rfl, SqT.of (I.sub _ _ h1), by rw [← r1.len]; exact hl, s io H0 F0 F δ σ H ds vs Q Qd I r1 q k⟩
def dAsg (td : TEd) (g : TGd) : TSd := fun E δ => td δ fun _ d δ' => g d δ' E.nx
theorem ds_asg {tg : Expr} {g : TGd} (he : DE X a da) (hg : DG X tg g) (hs : swapsWithSole [tg] a pos.line X.env = pure false := by rfl) (hw : swappedStores [tg] a X.env = pure none := by rfl)
    (h1 : (assignEach [tg] X.env).map (·.2) = [assign tg X.env] := by rfl) : DS X (.Assign [tg] a pos) (dAsg da g) := by
  obtain ⟨t, p, s⟩ := he; obtain ⟨t', p', s'⟩ := hg
  exact ⟨_, ps_asg p p' hs hw h1, fun io H0 F0 F δ σ H E Ed I q S => s.fz I q fun d v δ' F' H' sf I' r q' => s' io H0 F0 F' δ' σ H' d v _ _ I' r q' fun δ2 σ2 I2 q2 => S.nx F' δ2 σ2 H' sf I2 q2⟩
def dSetL (i : Nat) (ti tv : TEd) : TSd := fun E δ => tv δ fun _ v δ1 => (peek δ1 i).isSome = true ∧ ti δ1 fun _ y δ2 => ∃ fl xs k j, δ2[i]? = some (.ob fl (.lst xs)) ∧ y = .int k ∧ ixN xs.length k = some j ∧ E.nx (δ2.set i (.ob fl (.lst (xs.set j v))))
theorem ds_setL {i : Nat} {x : Str} {p pos' : Pos} {ie ve : Expr} {ti tv : TEd} (ho : PE X (.Name x p) (tVar i)) (hi : DE X ie ti) (hv : DE X ve tv) (ha : ∀ v, assign (.Subscript (.Name x p) ie pos') X.env v = (do
      let ov ← holding [v] (eval (.Name x p) X.env)
      let iv ← holding [v, ov] (eval ie X.env)
      standAt pos'
      holding [v, ov, iv] (setItem ov iv v)
      release [v, ov, iv] []) := by intro _; rfl) (hs : swapsWithSole [.Subscript (.Name x p) ie pos'] ve pos.line X.env = pure false := by rfl) (hw : swappedStores [.Subscript (.Name x p) ie pos'] ve X.env = pure none := by rfl)
    (h1 : (assignEach [.Subscript (.Name x p) ie pos'] X.env).map (·.2) = [assign (.Subscript (.Name x p) ie pos') X.env] := by rfl) : DS X (.Assign [.Subscript (.Name x p) ie pos'] ve pos) (dSetL i ti tv) := by
  obtain ⟨t, pi, si⟩ := hi; obtain ⟨t', pv, sv⟩ := hv
  refine ⟨_, ps_asg pv (pg_sub ho pi set_list ha) hs hw h1, fun io H0 F0 F δ σ H E Ed I q S => sv.fz I q fun d v δ1 F1 H1 s1 I1 r1 q1 => ?_⟩
  obtain ⟨p0, q1⟩ := q1
  obtain ⟨d0, e0⟩ := Option.isSome_iff_exists.mp p0
  obtain ⟨v0, ev, _⟩ := I1.pk e0
  refine ⟨v0, ev, si.fz I1 q1 fun y u δ2 F2 H2 s2 I2 r2 q2 => ?_⟩
  obtain ⟨fl, xs, k, j, ec, rfl, hj, q2⟩ := q2
  obtain ⟨a', ea, n1, n2, ⟨vs, hc, rc⟩, hio⟩ := I2.get i _ ec
  have e := getD_some ea
  rw [ev] at e; cases e
  exact ⟨a', vs, k, j, rfl, r2, hc, by rw [← rc.len]; exact hj, S.nx F2 _ σ _ (s1.trans s2) (I2.change (c' := .lst (xs.set j d)) ec ea ⟨_, upd_same, rc.set (Rep.mono s2 _ _ r1) j⟩) q2⟩
def ItOk (J : It) (F : Hp) (ds : List D) : Prop := ∀ (io : List (Option Addr)) (H0 F0 F' : Hp) (δ : List Slot) (σ : St) (H' : Hp), Same F F' → EI io H0 F0 F' δ σ H' → ∀ i,
  (∀ d, ds[i]? = some d → J.go i H' ∧ ∀ x H'', J.yld i H' x H'' → ∃ F'', Same F' F'' ∧ EI io H0 F0 F'' δ σ H'' ∧ Rep F'' d x) ∧ (i = ds.length → J.stop i H')
def SimI (wi : TI) (di : TLd) : Prop := ∀ (io : List (Option Addr)) (H0 F0 F : Hp) (δ : List Slot) (σ : St) (H : Hp) (R : It → Hp → Prop) (Qd : List D → List Slot → Prop), EI io H0 F0 F δ σ H → di δ Qd →
  (∀ J ds δ' F' H', Same F F' → EI io H0 F0 F' δ' σ H' → ItOk J F' ds → Qd ds δ' → R J H') → wi σ H R
def DI (X : Cx) (tg e : Expr) (di : TLd) : Prop := ∃ wi, PI X tg e wi ∧ SimI wi di
def diList (td : TEd) : TLd := fun δ Q => td δ fun _ d δ' => ∃ ds, d = .lst ds ∧ Q ds δ'
theorem itOk_list {K : PySem.W.Frag} {F : Hp} {a : Addr} {vs : List V} {ds : List D} (h : F a = some (.lst vs)) (r : Reps F ds vs) : ItOk (Itl K a) F ds := by
  intro io H0 F0 F' δ σ H' sf I i
  have hH : H' a = some (.lst vs) := I.sub _ _ (sf _ _ h)
  refine ⟨fun d e => ?_, fun e => ?_⟩
  · obtain ⟨v, ev, rv⟩ := r.get e
    refine ⟨⟨vs, v, SqL.of hH, ev⟩, fun x H'' y => ?_⟩
    obtain ⟨e1, y⟩ := y
    subst e1
    have := y vs (SqL.of hH)
    rw [ev] at this
    cases this
    exact ⟨F', Same.refl _, I, Rep.mono sf _ _ rv⟩
  · exact ⟨vs, SqL.of hH, by rw [e, r.len]; exact Nat.le_refl _⟩
theorem di_list {tg : Expr} (h : DE X a da) : DI X tg a (diList da) := by
  obtain ⟨t, p, s⟩ := h
  refine ⟨_, pi_list p, fun io H0 F0 F δ σ H R Qd I q k => s.fz I q fun d v δ' F' H' sf I' r q' => ?_⟩
  obtain ⟨ds, rfl, q'⟩ := q'
  obtain ⟨a, vs, rfl, h1, r1⟩ := r
  exact ⟨a, rfl, ⟨vs, SqL.of (I'.sub _ _ h1)⟩, k _ ds δ' F' H' sf I' (itOk_list h1 r1) q'⟩
def rngD (lo : Int) (n : Nat) : List D := (List.range n).map fun (k : Nat) => D.int (lo + (k : Int))
def diRng1 (u : TLd) : TLd := fun δ Q => u δ fun ds δ' => ∃ j : Int, ds = [.int j] ∧ -(2 ^ 62) ≤ j ∧ j < 2 ^ 62 ∧ Q (rngD 0 j.toNat) δ'
theorem itOk_rng {F : Hp} (lo : Int) (n : Nat) : ItOk (Itr lo n) F (rngD lo n) := by
  intro io H0 F0 F' δ σ H' sf I i
  refine ⟨fun d e => ?_, fun e => ?_⟩
  · have hi : i < n := by
      have := (List.getElem?_eq_some_iff.mp e).1
      simpa [rngD] using this
    have ed : d = .int (lo + (i : Int)) := by
      simp [rngD, hi] at e
      exact e.symm
    subst ed
    refine ⟨by simpa [Itr] using hi, fun x H'' y => ?_⟩
    have y' : x = .int (lo + (i : Int)) ∧ H'' = H' := by
      obtain ⟨y1, y2⟩ := y
      first
        | exact ⟨y1, y2⟩
        | exact ⟨y2, y1⟩
        | exact ⟨y1, y2.symm⟩
    obtain ⟨rfl, rfl⟩ := y'
    exact ⟨F', Same.refl _, I, rfl⟩
  · simp [rngD] at e
    subst e
    simp [Itr]
theorem di_range1 {tg e : Expr} {u : TLd} {p pos : Pos} (hg : Gl X "range") (hm : X.mg "range" = none) (ha : DL X [e] u) (hs : starEach [e] X.env = [(false, eval e X.env)] := by rfl) : DI X tg (.Call (.Name "range" p) [e] [] pos) (diRng1 u) := by
  obtain ⟨t, pt, s⟩ := ha
  refine ⟨_, pi_range1 hg hm pt hs, fun io H0 F0 F δ σ H R Qd I q k => s io H0 F0 F δ σ H _ _ I q fun ds vs δ' F' H' sf I' r q' => ?_⟩
  obtain ⟨j, rfl, h1, h2, q'⟩ := q'
  obtain ⟨v, rfl, rv⟩ := r.one_inv
  cases (show v = .int j from rv)
  exact ⟨j, rfl, h1, h2, k _ _ δ' F' H' sf I' (itOk_rng 0 _) q'⟩
def fgt : List Nat → List Slot → List Slot
  | [], δ => δ
  | i :: is, δ => fgt is (δ.set i .no)
theorem EI.fgt {io : List (Option Addr)} {H0 F0 F H : Hp} {σ : St} : ∀ (is : List Nat) {δ : List Slot}, EI io H0 F0 F δ σ H → EI io H0 F0 F (VL.fgt is δ) σ H
  | [], _, I => I
  | i :: is, _, I => EI.fgt is I.forget
def dFor (di : TLd) (g : TGd) (tb : TSd) : TSd := fun E δ => di δ fun ds δ' => ∃ (fg : List Nat) (P : List D → List Slot → Prop), P ds (fgt fg δ') ∧
  (∀ d r δ, P (d :: r) δ → g d δ fun δ2 => tb { E with nx := fun δ' => P r (fgt fg δ'), ct := fun δ' => P r (fgt fg δ'), bk := E.nx } δ2) ∧ ∀ δ, P [] δ → E.nx δ
theorem simS_for {wi : TI} {di : TLd} {g : TG} {gd : TGd} {tb : TS} {td : TSd} (si : SimI wi di) (sg : SimG g gd) (s : SimS tb td) : SimS (tFor wi g tb) (dFor di gd td) := by
  intro io H0 F0 F δ σ H E Ed I q S
  refine si io H0 F0 F δ σ H _ _ I q fun J ds δ' F' H' sf I' ok q' => ?_
  obtain ⟨fg, P, p0, step, fin⟩ := q'
  refine ⟨fun i m σ H => m = ds.length - i ∧ i ≤ ds.length ∧ ∃ F1 δ1, Same F' F1 ∧ EI io H0 F0 F1 δ1 σ H ∧ P (ds.drop i) δ1, ⟨ds.length, by simp, Nat.zero_le _, F', _, Same.refl _, I'.fgt fg, p0⟩, ?_⟩
  rintro i m σ1 H1 ⟨rfl, hi, F1, δ1, s1, I1, p1⟩
  obtain ⟨o1, o2⟩ := ok io H0 F0 F1 δ1 σ1 H1 s1 I1 i
  by_cases hlt : i < ds.length
  · have ed : ds[i]? = some ds[i] := by simp [hlt]
    have edr : ds.drop i = ds[i] :: ds.drop (i + 1) := List.drop_eq_getElem_cons hlt
    rw [edr] at p1
    obtain ⟨go, yl⟩ := o1 _ ed
    refine .inr ⟨go, fun σ' H' => ∃ F2 δ2, Same F' F2 ∧ EI io H0 F0 F2 δ2 σ' H' ∧ P (ds.drop (i + 1)) δ2, fun σ' H' hN => ⟨ds.length - (i + 1), by omega, rfl, hlt, hN⟩, fun x H2 y => ?_⟩
    obtain ⟨F2, s2, I2, r2⟩ := yl x H2 y
    refine sg io H0 F0 F2 δ1 σ1 H2 _ x _ _ I2 r2 (step _ _ δ1 p1) fun δ3 σ3 I3 q3 => ?_
    refine s io H0 F0 F2 δ3 σ3 H2 _ _ I3 q3 ⟨fun F4 δ4 σ4 H4 s4 I4 q4 => ⟨F4, _, (s1.trans s2).trans s4, I4.fgt fg, q4⟩, fun b d v F4 δ4 σ4 H4 s4 I4 q4 => S.rt b d v F4 δ4 σ4 H4 (((sf.trans s1).trans s2).trans s4) I4 q4, fun F4 δ4 σ4 H4 s4 I4 q4 => S.nx F4 δ4 σ4 H4 (((sf.trans s1).trans s2).trans s4) I4 q4, fun F4 δ4 σ4 H4 s4 I4 q4 => ⟨F4, _, (s1.trans s2).trans s4, I4.fgt fg, q4⟩⟩
  · have e : i = ds.length := by omega
    subst e
    rw [List.drop_length] at p1
    exact .inl ⟨o2 rfl, S.nx F1 δ1 σ1 H1 (sf.trans s1) I1 (fin δ1 p1)⟩
theorem ds_for {tg iter : Expr} {body : List Stmt} {di : TLd} {gd : TGd} {td : TSd} (hp : PassesOwn (model X.prog X.w) X.A X.env X.xe) (hc : X.calm = true) (hi : DI X tg iter di) (hg : DG X tg gd) (hb : DSs X body td)
    (hs : ∀ x, foldedSetIterable iter X.env x = pure x := by intro _; rfl) : DS X (.For tg iter body [] pos) (dFor di gd td) := by
  obtain ⟨wi, p1, s1⟩ := hi; obtain ⟨g, p2, s2⟩ := hg; obtain ⟨t, p3, s3⟩ := hb
  exact ⟨_, ps_for hp hc p1 p2 p3 hs, simS_for s1 s2 s3⟩
def dWhile (c : TTd) (tb : TSd) : TSd := fun E δ => ∃ (fg : List Nat) (P : List Slot → Prop) (μ : List Slot → Nat), P (fgt fg δ) ∧ ∀ δ, P δ → c δ fun b δ' => if b = true then tb { E with nx := fun δ2 => P (fgt fg δ2) ∧ μ (fgt fg δ2) < μ δ, ct := fun δ2 => P (fgt fg δ2) ∧ μ (fgt fg δ2) < μ δ, bk := E.nx } δ' else E.nx δ'
theorem simS_while {c : TT} {cd : TTd} {tb : TS} {td : TSd} (sc : SimT c cd) (s : SimS tb td) : SimS (tWhile c tb) (dWhile cd td) := by
  intro io H0 F0 F δ σ H E Ed I q S
  obtain ⟨fg, P, μ, p0, step⟩ := q
  refine ⟨fun m σ H => ∃ F1 δ1, Same F F1 ∧ EI io H0 F0 F1 δ1 σ H ∧ P δ1 ∧ μ δ1 = m, ⟨_, F, _, Same.refl _, I.fgt fg, p0, rfl⟩, ?_⟩
  rintro m σ1 H1 ⟨F1, δ1, s1, I1, p1, rfl⟩
  refine sc io H0 F0 F1 δ1 σ1 H1 _ _ I1 (step δ1 p1) fun b δ2 F2 H2 s2 I2 q2 => ?_
  cases b with
  | false => rw [if_neg Bool.false_ne_true] at q2 ⊢; exact S.nx F2 δ2 σ1 H2 (s1.trans s2) I2 q2
  | true =>
    rw [if_pos rfl] at q2 ⊢
    refine ⟨fun σ' H' => ∃ F3 δ3, Same F F3 ∧ EI io H0 F0 F3 δ3 σ' H' ∧ P δ3 ∧ μ δ3 < μ δ1, fun σ' H' ⟨F3, δ3, h1, h2, h3, h4⟩ => ⟨μ δ3, h4, F3, δ3, h1, h2, h3, rfl⟩, ?_⟩
    exact s io H0 F0 F2 δ2 σ1 H2 _ _ I2 q2 ⟨fun F4 δ4 σ4 H4 s4 I4 q4 => ⟨F4, _, (s1.trans s2).trans s4, I4.fgt fg, q4.1, q4.2⟩, fun b d v F4 δ4 σ4 H4 s4 I4 q4 => S.rt b d v F4 δ4 σ4 H4 ((s1.trans s2).trans s4) I4 q4, fun F4 δ4 σ4 H4 s4 I4 q4 => S.nx F4 δ4 σ4 H4 ((s1.trans s2).trans s4) I4 q4, fun F4 δ4 σ4 H4 s4 I4 q4 => ⟨F4, _, (s1.trans s2).trans s4, I4.fgt fg, q4.1, q4.2⟩⟩
theorem ds_while {c : Expr} {body : List Stmt} {cd : TTd} {td : TSd} (hp : PassesOwn (model X.prog X.w) X.A X.env X.xe) (hc : DT X c cd) (hb : DSs X body td) : DS X (.While c body [] pos) (dWhile cd td) := by
  obtain ⟨t1, p1, s1⟩ := hc; obtain ⟨t, p3, s3⟩ := hb
  exact ⟨_, ps_while hp p1 p3, simS_while s1 s3⟩
end
end VL
namespace VL
open PySem L2 PySem.Spec PyProof.Rows
def er (H : Hp) : Option Addr → Hp
  | none => H
  | some a => fun b => if b = a then none else H b
abbrev RD := List Slot → (Bool → D → List Slot → Prop) → Prop
def spD (R : RD) : Sp := fun vs H Q _ => ∃ x ic F δ Qd, (∀ p a, ic.getD p none = some a → x = some a ∧ vs[p]? = some (.ref a)) ∧ EI ic (er H x) F F δ (vs.map some) H ∧ R δ Qd ∧
  ∀ b d v δ' F' H', EI (none :: ic) (er H x) F F' (rsl b d :: δ') (some v :: vs.map some) H' → Qd b d δ' → Q v H'
section
variable {io ic : List (Option Addr)} {H0 F0 F F' H H' : Hp} {δ δc : List Slot} {σ σc : L2.St} {b : Bool} {d : D} {v : V}
theorem EI.back0 (I : EI io H0 F0 F δ σ H) (s : Same F F') (s' : Same H H') (sub : Same F' H') (new : ∀ b o, F' b = some o → F b = none → H b = none) : EI io H0 F0 F' δ σ H' where
  base := I.base.trans s'
  sub := sub
  ext := I.ext.trans s
  new := fun b o e h => by
    cases q : F b with
    | none => exact I.base.free (new b o e q)
    | some u => exact I.new b u q h
  len := I.len
  get := fun i t e => (I.get i t e).mono s fun a b c es eo => by
    subst es
    obtain ⟨a', e1, h1, h2, h3, h4⟩ := I.get i _ e
    rw [eo] at e1; cases e1
    obtain ⟨u, hu⟩ := h3.some
    refine ⟨?_, fun u hu => s' _ _ hu⟩
    cases q : F' a with
    | none => rfl
    | some o => rw [new a o q h2] at hu; cases hu
  apart := I.apart
theorem EI.back (I : EI io H0 F0 F δ σ H) (C : EI ic H F F' (rsl b d :: δc) (some v :: σc) H') : EI (none :: io) H0 F0 F' (rsl b d :: δ) (some v :: σ) H' := by
  have J := I.back0 C.ext C.base C.sub C.new
  refine J.push ?_ fun b' c a es ev j b2 c2 ej eo => ?_
  · have h0 := C.get 0 _ rfl
    cases b with
    | false => obtain ⟨v', e, r⟩ := h0; simp at e; subst e; exact ⟨v, rfl, r⟩
    | true =>
      obtain ⟨a, e, h1, h2, h3, h4⟩ := h0
      simp at e; subst e
      exact ⟨a, rfl, I.base.free h1, h2, h3, fun z => by cases z⟩
  · subst ev
    obtain ⟨a', e1, h1, h2, h3, h4⟩ := I.get j _ ej
    rw [eo] at e1; cases e1
    obtain ⟨u, hu⟩ := h3.some
    have h0 := C.get 0 _ rfl
    cases b with
    | false => cases es
    | true =>
      obtain ⟨a, e, h1, _⟩ := h0
      simp at e; subst e
      rw [h1] at hu; cases hu
theorem argsEI {ds : List D} {vs : List V} (s : Same F H) (r : Reps F ds vs) : EI [] H F F (ds.map .fz) (vs.map some) H where
  base := Same.refl _
  sub := s
  ext := Same.refl _
  new := fun b o e h => by rw [h] at e; cases e
  len := by simp [r.len]
  get := fun i t e => by
    rw [List.getElem?_map] at e
    cases q : ds[i]? with
    | none => rw [q] at e; cases e
    | some d =>
      rw [q] at e
      cases e
      obtain ⟨v, ev, rv⟩ := r.get q
      exact ⟨v, by simp [List.getD_eq_getElem?_getD, ev], rv⟩
  apart := fun i j b c b' c' a ne e1 => by
    rw [List.getElem?_map] at e1
    cases q : ds[i]? <;> rw [q] at e1 <;> cases e1
end
def dCall (R : RD) (u : TLd) : TEd := fun δ Q => u δ fun ds δ' => R (ds.map .fz) fun b d _ => Q b d δ'
theorem sim_call {R : RD} {t : TA} {u : TLd} {E : XK} (s : SimL t u) : Sim (tCall (spD R) [] E t) (dCall R u) := fun io H0 F0 F δ σ H Q Qd I q k =>
  s io H0 F0 F δ σ H _ _ I q fun ds vs δ' F' H' sf I' r q' => by
    show spD R (vs ++ []) H' Q E
    rw [List.append_nil]
    refine ⟨none, [], F', _, _, fun p a e => by simp at e, argsEI I'.sub r, q', fun b d v δ2 F2 H2 C q2 => ?_⟩
    exact k b d v δ' F2 H2 (sf.trans C.ext) (I'.back C) q2
section
variable {X : Cx} {CX : CXT} {k : Nat} {f : Addr} {fd : FuncData} {ps : List Str} {R : RD} {E : XK} {x : Str} {p pos : Pos} {e : Expr} {es : List Expr} {u : TLd}
theorem de_call (G : FnOk X.prog X.w X.K X.mg X.base CX k f fd ps (spD R)) (hr : Room k X.A) (hg : Gl X x) (hm : X.mg x = some (.ref f)) (hk : PySem.W.keepIn X.K (.ref f) = true) (hb : Binds X.K fd ps []) (hx : Passes CX X E)
    (ha : DL X (e :: es) u) (hdb : (x == ("__debug__" : Str)) = false := by decide) (he : starEach (e :: es) X.env = (false, eval e X.env) :: starEach es X.env := by rfl) (hpl : (backTo pos (starEach es X.env)).any (·.1) = false := by rfl) :
    DE X (.Call (.Name x p) (e :: es) [] pos) (dCall R u) := by
  obtain ⟨t, pt, s⟩ := ha
  exact ⟨_, pe_call G hr hg hm hk hb .nil hx pt hdb he hpl, sim_call s⟩
end
abbrev TAd := List Slot → (List (Option D) → List Slot → Prop) → Prop
def AOk (F : Hp) (w : V) (o : Option D) (v : V) : Prop := match o with | some d => Rep F d v | none => v = w
def SimA (i : Nat) (te : TA) (td : TAd) : Prop := ∀ (io : List (Option Addr)) (H0 F0 F : Hp) (δ : List Slot) (σ : L2.St) (H : Hp) (w : V) (Q : List V → Hp → Prop) (Qd : List (Option D) → List Slot → Prop), EI io H0 F0 F δ σ H → σ[i]? = some (some w) → td δ Qd →
  (∀ os vs δ' F' H', Same F F' → EI io H0 F0 F' δ' σ H' → Paired (AOk F' w) os vs → Qd os δ' → Q vs H') → te σ H Q
def DA (X : Cx) (i : Nat) (es : List Expr) (td : TAd) : Prop := ∃ te, PA X es te ∧ SimA i te td
def daNil : TAd := fun δ Q => Q [] δ
def daV (t : TEd) (u : TAd) : TAd := fun δ Q => t δ fun _ d δ' => u δ' fun os δ'' => Q (some d :: os) δ''
def daO (u : TAd) : TAd := fun δ Q => u δ fun os δ'' => Q (none :: os) δ''
theorem AOk.mono {F F' : Hp} {w : V} (s : Same F F') : ∀ {os : List (Option D)} {vs : List V}, Paired (AOk F w) os vs → Paired (AOk F' w) os vs
  | _, _, .nil => .nil
  | some d :: _, _, .cons h t => .cons (Rep.mono s d _ h) (AOk.mono s t)
  | none :: _, _, .cons h t => .cons h (AOk.mono s t)
section
variable {X : Cx} {i : Nat} {a : Expr} {es : List Expr} {da : TEd} {u : TAd}
theorem da_nil : DA X i [] daNil := ⟨_, pa_nil, fun io H0 F0 F δ σ H w Q Qd I hw q k => k [] [] δ F H (Same.refl _) I .nil q⟩
theorem da_v (ha : DE X a da) (hr : DA X i es u) (hs : starEach (a :: es) X.env = (false, eval a X.env) :: starEach es X.env := by rfl) : DA X i (a :: es) (daV da u) := by
  obtain ⟨ta, pa, sa⟩ := ha; obtain ⟨tr, pr, sr⟩ := hr
  refine ⟨_, pa_cons pa pr hs, fun io H0 F0 F δ σ H w Q Qd I hw q k => sa.fz I q fun d v δ' F' H' sf I' r q' => sr io H0 F0 F' δ' σ H' w _ _ I' hw q' fun ds vs δ2 F2 H2 s2 I2 r2 q2 => ?_⟩
  exact k (some d :: ds) (v :: vs) δ2 F2 H2 (sf.trans s2) I2 (.cons (show Rep F2 d v from Rep.mono s2 _ _ r) r2) q2
theorem da_o {x : Str} {p : Pos} (ha : PE X (.Name x p) (tVar i)) (hr : DA X i es u) (hs : starEach (.Name x p :: es) X.env = (false, eval (.Name x p) X.env) :: starEach es X.env := by rfl) : DA X i (.Name x p :: es) (daO u) := by
  obtain ⟨tr, pr, sr⟩ := hr
  refine ⟨_, pa_cons ha pr hs, fun io H0 F0 F δ σ H w Q Qd I hw q k => ⟨w, hw, sr io H0 F0 F δ σ H w _ _ I hw q fun ds vs δ2 F2 H2 s2 I2 r2 q2 => ?_⟩⟩
  exact k (none :: ds) (w :: vs) δ2 F2 H2 s2 I2 (.cons rfl r2) q2
end
def argSlot (c : D) : Option D → Slot
  | some d => .fz d
  | none => .ob true c
def ioOut : List Slot → Option D
  | .ob true c :: _ => some c
  | _ :: r => ioOut r
  | [] => none
def dCallIO (R : RD) (i : Nat) (u : TAd) : TEd := fun δ Q => (peek δ i).isSome = true ∧ u δ fun os δ' => ∃ fl c, δ'[i]? = some (.ob fl c) ∧ (os.filter Option.isNone).length = 1 ∧ R (os.map (argSlot c)) fun b d δ2 => ∃ c', ioOut δ2 = some c' ∧ Q b d (δ'.set i (.ob fl c'))
theorem ioOut_get : ∀ {δ : List Slot} {c : D}, ioOut δ = some c → ∃ p : Nat, δ[p]? = some (Slot.ob true c)
  | [], c, h => by cases h
  | .no :: r, c, h => by obtain ⟨p, e⟩ := ioOut_get (δ := r) h; exact ⟨p + 1, by simpa using e⟩
  | .fz d :: r, c, h => by obtain ⟨p, e⟩ := ioOut_get (δ := r) h; exact ⟨p + 1, by simpa using e⟩
  | .sc K d :: r, c, h => by obtain ⟨p, e⟩ := ioOut_get (δ := r) h; exact ⟨p + 1, by simpa using e⟩
  | .ob false d :: r, c, h => by obtain ⟨p, e⟩ := ioOut_get (δ := r) h; exact ⟨p + 1, by simpa using e⟩
  | .ob true d :: r, c, h => by cases h; exact ⟨0, rfl⟩
theorem Paired.getE {α β : Type} {R : α → β → Prop} : ∀ {xs : List α} {ys : List β} {i : Nat} {x : α}, Paired R xs ys → xs[i]? = some x → ∃ y, ys[i]? = some y ∧ R x y
  | _, _, _, _, .nil, e => by simp at e
  | _, _, 0, _, .cons r _, e => by simp at e; subst e; exact ⟨_, rfl, r⟩
  | _, _, i + 1, x, .cons _ t, e => by
    obtain ⟨u, h1, h2⟩ := Paired.getE (i := i) (x := x) t (by simpa using e)
    exact ⟨u, by simpa using h1, h2⟩
theorem one_none {os : List (Option D)} (h : (os.filter Option.isNone).length = 1) {i j : Nat} (hi : os[i]? = some none) (hj : os[j]? = some none) : i = j := by
  induction os generalizing i j with
  | nil => simp at hi
  | cons o os ih =>
    cases o with
    | none =>
      simp at h
      have key : ∀ k, os[k]? ≠ some none := fun k e => by
        have := List.mem_of_getElem? e
        exact absurd rfl (h none this)
      cases i with
      | zero =>
        cases j with
        | zero => rfl
        | succ j => exact absurd (by simpa using hj) (key j)
      | succ i => exact absurd (by simpa using hi) (key i)
    | some d =>
      cases i with
      | zero => simp at hi
      | succ i =>
        cases j with
        | zero => simp at hj
        | succ j => exact congrArg (· + 1) (ih (by simpa using h) (by simpa using hi) (by simpa using hj))
theorem sim_callIO {R : RD} {i : Nat} {t : TA} {u : TAd} {E : XK} (s : SimA i t u) : Sim (tCall (spD R) [] E t) (dCallIO R i u) := fun io H0 F0 F δ σ H Q Qd I q k => by
  obtain ⟨p0, q⟩ := q
  obtain ⟨d0, e0⟩ := Option.isSome_iff_exists.mp p0
  obtain ⟨w, ew, _⟩ := I.pk e0
  refine s io H0 F0 F δ σ H w _ _ I ew q fun os vs δ' F' H' sf I' r q' => ?_
  obtain ⟨fl, c, ec, hone, q'⟩ := q'
  obtain ⟨a, ea, n1, n2, hc, hio⟩ := I'.get i _ ec
  have e := getD_some ea
  rw [ew] at e; cases e
  show spD R (vs ++ []) H' Q E
  rw [List.append_nil]
  have erNe : ∀ b, b ≠ a → er H' (some a) b = H' b := fun b hb => if_neg hb
  have erA : er H' (some a) a = none := if_pos rfl
  have lenE : os.length = vs.length := Paired.length r
  refine ⟨some a, os.map (fun o => match o with | none => some a | some _ => none), F', _, _, fun p b ep => ?_, ⟨fun b o eb => ?_, I'.sub, Same.refl _, fun b o eb hb => ?_, by simp [lenE], fun j t ej => ?_, fun j l b1 c1 b2 c2 a' ne e1 e2 _ _ => ?_⟩, q', fun b d v δ2 F2 H2 C q2 => ?_⟩
  · rw [List.getD_eq_getElem?_getD, List.getElem?_map] at ep
    cases eo : os[p]? with
    | none => rw [eo] at ep; cases ep
    | some o =>
      rw [eo] at ep
      cases o with
      | some d => cases ep
      | none =>
        cases ep
        obtain ⟨v, ev, rv⟩ := Paired.getE r eo
        cases (show v = .ref a from rv)
        exact ⟨rfl, ev⟩
  · by_cases hb : b = a
    · subst hb; rw [erA] at eb; cases eb
    · rw [erNe b hb] at eb; exact eb
  · rw [hb] at eb; cases eb
  · rw [List.getElem?_map] at ej
    cases eo : os[j]? with
    | none => rw [eo] at ej; cases ej
    | some o =>
      rw [eo] at ej
      cases ej
      obtain ⟨v, ev, rv⟩ := Paired.getE r eo
      cases o with
      | some d => exact ⟨v, by simp [List.getD_eq_getElem?_getD, ev], rv⟩
      | none =>
        cases (show v = .ref a from rv)
        exact ⟨a, by simp [List.getD_eq_getElem?_getD, ev], erA, n2, hc, fun _ => by simp [List.getD_eq_getElem?_getD, eo]⟩
  · rw [List.getElem?_map] at e1 e2
    have key : ∀ {j : Nat} {b : Bool} {c' : D}, Option.map (argSlot c) os[j]? = some (.ob b c') → os[j]? = some none := fun {j b c'} h => by
      cases eo : os[j]? with
      | none => rw [eo] at h; cases h
      | some o =>
        rw [eo] at h
        cases o with
        | none => rfl
        | some d => cases h
    exact ne (one_none hone (key e1) (key e2))
  · obtain ⟨c', eo, q2⟩ := q2
    obtain ⟨p, ep⟩ := ioOut_get eo
    obtain ⟨a2, ea2, m1, m2, hc2, hio2⟩ := C.get (p + 1) _ (by simpa using ep)
    have ea3 : a2 = a := by
      have h1 := hio2 rfl
      simp only [List.getD_cons_succ] at h1
      rw [List.getD_eq_getElem?_getD, List.getElem?_map] at h1
      cases eo : os[p]? with
      | none => rw [eo] at h1; cases h1
      | some o =>
        rw [eo] at h1
        cases o with
        | some d => cases h1
        | none => cases h1; rfl
    subst ea3
    have hnew : ∀ b o, F2 b = some o → F' b = none → H' b = none ∨ b = a2 := fun b o e1 e2 => by
      by_cases hb : b = a2
      · exact .inr hb
      · have := C.new b o e1 e2
        rw [erNe b hb] at this
        exact .inl this
    have oth : ∀ j b1 c1 a3, j ≠ i → δ'[j]? = some (.ob b1 c1) → σ.getD j none = some (.ref a3) → a3 ≠ a2 := fun j b1 c1 a3 hj e1 e2 z => I'.apart j i _ _ _ _ a2 hj e1 ec (by rw [e2, z]) ea
    have keepH : ∀ b o, b ≠ a2 → H' b = some o → H2 b = some o := fun b o hb e => C.base b o (by rw [erNe b hb]; exact e)
    have J : EI io H0 F0 F2 (δ'.set i (.ob fl c')) σ H2 := by
      refine ⟨fun b o eb => ?_, C.sub, I'.ext.trans C.ext, fun b o e h => ?_, by simpa using I'.len, fun j t ej => ?_, fun j l b1 c1 b2 c2 a' ne e1 e2 e3 e4 => ?_⟩
      · exact keepH b o (fun z => by rw [z, n1] at eb; cases eb) (I'.base b o eb)
      · cases q : F' b with
        | some u => exact I'.new b u q h
        | none =>
          rcases hnew b o e q with z | z
          · exact I'.base.free z
          · rw [z]; exact n1
      · rw [List.getElem?_set] at ej
        split at ej
        · rename_i hij
          subst hij
          split at ej
          · cases ej
            exact ⟨a2, ea, n1, m2, hc2, hio⟩
          · cases ej
        · rename_i hij
          refine (I'.get j t ej).mono C.ext fun a3 b3 c3 es eo => ?_
          subst es
          obtain ⟨a4, e1, h1, h2, h3, h4⟩ := I'.get j _ ej
          rw [eo] at e1; cases e1
          have hne := oth j _ _ _ (fun z => hij z.symm) ej eo
          refine ⟨?_, fun u hu => keepH _ _ hne hu⟩
          cases q : F2 a3 with
          | none => rfl
          | some o =>
            rcases hnew a3 o q h2 with z | z
            · obtain ⟨u, hu⟩ := h3.some
              rw [z] at hu; cases hu
            · exact absurd z hne
      · have key : ∀ {j : Nat} {b1 : Bool} {c1 : D}, (δ'.set i (.ob fl c'))[j]? = some (Slot.ob b1 c1) → ∃ b2 c2, δ'[j]? = some (Slot.ob b2 c2) := fun {j b1 c1} h => by
          rw [List.getElem?_set] at h
          split at h
          · rename_i hij; subst hij; exact ⟨_, _, ec⟩
          · exact ⟨_, _, h⟩
        obtain ⟨b3, c3, q1⟩ := key e1
        obtain ⟨b4, c4, q2⟩ := key e2
        exact I'.apart j l _ _ _ _ a' ne q1 q2 e3 e4
    refine k b d v _ F2 H2 (sf.trans C.ext) (J.push ?_ fun b' c3 a3 es ev j b2 c2 ej eo => ?_) q2
    · have h0 := C.get 0 _ rfl
      cases b with
      | false => obtain ⟨v', e, r⟩ := h0; simp at e; subst e; exact ⟨v, rfl, r⟩
      | true =>
        obtain ⟨a3, e, h1, h2, h3, h4⟩ := h0
        simp at e; subst e
        refine ⟨a3, rfl, ?_, h2, h3, fun z => by cases z⟩
        by_cases hb : a3 = a2
        · rw [hb]; exact n1
        · rw [erNe a3 hb] at h1; exact I'.base.free h1
    · subst ev
      have h0 := C.get 0 _ rfl
      cases b with
      | false => cases es
      | true =>
        obtain ⟨a5, e5, h5, _⟩ := h0
        simp at e5; subst e5
        rw [List.getElem?_set] at ej
        split at ej
        · rename_i hij
          subst hij
          rw [ea] at eo; cases eo
          exact C.apart 0 (p + 1) false d true c' a2 (by omega) rfl (by simpa using ep) rfl ea2
        · rename_i hij
          have hne := oth j _ _ _ (fun z => hij z.symm) ej eo
          rw [erNe _ hne] at h5
          obtain ⟨a4, e1, h1, h2, h3, h4⟩ := I'.get j _ ej
          rw [eo] at e1; cases e1
          obtain ⟨u, hu⟩ := h3.some
          rw [h5] at hu; cases hu
section
variable {X : Cx} {CX : CXT} {k : Nat} {f : Addr} {fd : FuncData} {ps : List Str} {R : RD} {E : XK} {x : Str} {p pos : Pos} {e : Expr} {es : List Expr} {i : Nat} {u : TAd}
theorem de_callIO (G : FnOk X.prog X.w X.K X.mg X.base CX k f fd ps (spD R)) (hr : Room k X.A) (hg : Gl X x) (hm : X.mg x = some (.ref f)) (hk : PySem.W.keepIn X.K (.ref f) = true) (hb : Binds X.K fd ps []) (hx : Passes CX X E)
    (ha : DA X i (e :: es) u) (hdb : (x == ("__debug__" : Str)) = false := by decide) (he : starEach (e :: es) X.env = (false, eval e X.env) :: starEach es X.env := by rfl) (hpl : (backTo pos (starEach es X.env)).any (·.1) = false := by rfl) :
    DE X (.Call (.Name x p) (e :: es) [] pos) (dCallIO R i u) := by
  obtain ⟨t, pt, s⟩ := ha
  exact ⟨_, pe_call G hr hg hm hk hb .nil hx pt hdb he hpl, sim_callIO s⟩
end
def keepIo : Slot → Slot
  | .ob true c => .ob true c
  | _ => .no
def outS : Nat → List Slot → List Slot
  | 0, _ => []
  | n + 1, [] => .no :: outS n []
  | n + 1, s :: r => keepIo s :: outS n r
theorem outS_len : ∀ (n : Nat) (δ : List Slot), (outS n δ).length = n
  | 0, _ => rfl
  | n + 1, [] => by simp [outS, outS_len n]
  | n + 1, s :: r => by simp [outS, outS_len n]
theorem outS_get : ∀ {n : Nat} {δ : List Slot} {p : Nat} {s : Slot}, (outS n δ)[p]? = some s → s = .no ∨ ∃ c, s = .ob true c ∧ δ[p]? = some (.ob true c)
  | 0, δ, p, s, h => by simp [outS] at h
  | n + 1, [], 0, s, h => by simp [outS] at h; exact .inl h.symm
  | n + 1, [], p + 1, s, h => by
    rcases outS_get (n := n) (δ := []) (p := p) (s := s) (by simpa [outS] using h) with z | ⟨c, _, z⟩
    · exact .inl z
    · simp at z
  | n + 1, t :: r, 0, s, h => by
    simp [outS] at h
    cases t with
    | no => exact .inl h.symm
    | fz d => exact .inl h.symm
    | sc K d => exact .inl h.symm
    | ob b c =>
      cases b with
      | false => exact .inl h.symm
      | true => exact .inr ⟨c, h.symm, rfl⟩
  | n + 1, t :: r, p + 1, s, h => by simpa using outS_get (n := n) (δ := r) (p := p) (s := s) (by simpa [outS] using h)
section
variable {P : Program} {w : World} {K : PySem.W.Frag} {mg : Str → Option Value} {base : Heap}
theorem Fun.dok {x qual : Str} {st : Stmt} {f : Addr} {fd : FuncData} {N ps : List Str} {k : Nat} {R : RD} (Fn : Fun K x qual st f fd) (S : FnScope N ps (defScope st)) (hlen : ∀ δ Qd, R δ Qd → δ.length = ps.length) (hN : ps.length ≤ N.length)
    (hbody : ∀ (cdv : Value) (A : Around) (outer : List Env) (s : Shared) (H : Hp) (E : XK) (δ : List Slot) (Qd : Bool → D → List Slot → Prop), Room k (A.deeper (envOfC qual (defScope st) s.heap.objs.size f cdv)) → R δ Qd →
      ∃ td, DSs (cxOf CX0 P w K mg base N qual (defScope st) f cdv A outer s H E).nox (defBody st) td ∧ td { nx := fun δ' => Qd false .non (outS ps.length δ'), rt := fun b d δ' => Qd b d (outS ps.length δ') } (δ ++ List.replicate (N.length - ps.length) .no)) :
    FnOk P w K mg base CX0 (k + 1) f fd ps (spD R) := by
  refine Fn.ok S (fun vs H Q E h => ?_) (fun cdv A outer s H vs Q E hr h => ?_)
  · obtain ⟨x, ic, F, δ, Qd, _, I, hR, _⟩ := h
    have := I.len
    rw [List.length_map] at this
    rw [← this]
    exact hlen _ _ hR
  · obtain ⟨x, ic, F, δ, Qd, hic, I, hR, kq⟩ := h
    have l1 := I.len
    rw [List.length_map] at l1
    have l2 := hlen _ _ hR
    obtain ⟨td, ⟨t, pt, st'⟩, ht⟩ := hbody cdv A outer s H E δ Qd hr hR
    refine ⟨t, pt, ?_⟩
    have est : L2.start N vs = vs.map some ++ List.replicate (N.length - ps.length) none := by rw [L2.start, ← l1, l2]
    have I1 : EI ic (er H x) F F (δ ++ List.replicate (N.length - ps.length) .no) (L2.start N vs) H := by
      rw [est]
      refine ⟨I.base, I.sub, I.ext, I.new, by simp [l1], fun j s e => ?_, fun i j b c b' c' a ne e1 e2 e3 e4 => ?_⟩
      · by_cases hj : j < δ.length
        · rw [List.getElem?_append_left hj] at e
          have := I.get j s e
          rwa [List.getD_eq_getElem?_getD, List.getD_eq_getElem?_getD, List.getElem?_append_left (by simpa [← l1] using hj), ← List.getD_eq_getElem?_getD, ← List.getD_eq_getElem?_getD]
        · rw [List.getElem?_append_right (by omega), List.getElem?_replicate] at e
          split at e
          · cases e; trivial
          · cases e
      · have key : ∀ {j : Nat} {b : Bool} {c : D}, (δ ++ List.replicate (N.length - ps.length) Slot.no)[j]? = some (.ob b c) → j < δ.length ∧ δ[j]? = some (.ob b c) := fun {j b c} h => by
          by_cases hj : j < δ.length
          · rw [List.getElem?_append_left hj] at h; exact ⟨hj, h⟩
          · rw [List.getElem?_append_right (by omega), List.getElem?_replicate] at h
            split at h <;> cases h
        obtain ⟨z1, q1⟩ := key e1
        obtain ⟨z2, q2⟩ := key e2
        rw [List.getD_eq_getElem?_getD, List.getElem?_append_left (by simpa [← l1] using z1)] at e3
        rw [List.getD_eq_getElem?_getD, List.getElem?_append_left (by simpa [← l1] using z2)] at e4
        exact I.apart i j b c b' c' a ne q1 q2 (by rw [List.getD_eq_getElem?_getD]; exact e3) (by rw [List.getD_eq_getElem?_getD]; exact e4)
    have fin : ∀ (b : Bool) (d : D) (v : V) (F' : Hp) (δ' : List Slot) (σ' : L2.St) (H' : Hp), EI (none :: ic) (er H x) F F' (rsl b d :: δ') (some v :: σ') H' → EI (none :: ic) (er H x) F F' (rsl b d :: outS ps.length δ') (some v :: vs.map some) H' := by
      intro b d v F' δ' σ' H' I2
      have key : ∀ {p : Nat} {c : D}, δ'[p]? = some (.ob true c) → ∃ a, σ'.getD p none = some (.ref a) ∧ (vs.map some).getD p none = some (.ref a) ∧ SOk (er H x) F' H' (ic.getD p none) (some (.ref a)) (.ob true c) := fun {p c} h => by
        have q := I2.get (p + 1) _ (by simpa using h)
        simp only [List.getD_cons_succ] at q
        obtain ⟨a, e, h1, h2, h3, h4⟩ := q
        obtain ⟨_, ev⟩ := hic p a (h4 rfl)
        exact ⟨a, e, by simp [List.getD_eq_getElem?_getD, ev], a, rfl, h1, h2, h3, h4⟩
      refine ⟨I2.base, I2.sub, I2.ext, I2.new, by simp [outS_len, ← l1, l2], fun j s e => ?_, fun i j b1 c b' c' a ne e1 e2 e3 e4 => ?_⟩
      · cases j with
        | zero => simp at e; subst e; exact I2.get 0 _ rfl
        | succ j =>
          simp only [List.getElem?_cons_succ, List.getD_cons_succ] at e ⊢
          rcases outS_get e with z | ⟨c, z, z2⟩
          · subst z; trivial
          · subst z
            obtain ⟨a, _, e2, q⟩ := key z2
            rw [e2]; exact q
      · have k2 : ∀ {j : Nat} {b1 : Bool} {c : D} {a : Addr}, (rsl b d :: outS ps.length δ')[j]? = some (.ob b1 c) → (some v :: vs.map some).getD j none = some (.ref a) → (rsl b d :: δ')[j]? = some (.ob b1 c) ∧ (some v :: σ').getD j none = some (.ref a) := fun {j b1 c a} g1 g2 => by
          cases j with
          | zero => exact ⟨g1, g2⟩
          | succ j =>
            simp only [List.getElem?_cons_succ, List.getD_cons_succ] at g1 g2 ⊢
            rcases outS_get g1 with z | ⟨c', z, z2⟩
            · cases z
            · cases z
              obtain ⟨a', q1, q2, _⟩ := key z2
              rw [g2] at q2; cases q2
              exact ⟨z2, q1⟩
        obtain ⟨u1, u2⟩ := k2 e1 e3
        obtain ⟨u3, u4⟩ := k2 e2 e4
        exact I2.apart i j _ _ _ _ a ne u1 u3 u2 u4
    exact st' ic (er H x) F F _ _ H _ _ I1 ht ⟨fun F' δ' σ' H' sf I2 q2 => kq false .non .non _ F' H' (fin _ _ _ _ _ _ _ I2.pN) q2, fun b d v F' δ' σ' H' sf I2 q2 => kq b d v _ F' H' (fin _ _ _ _ _ _ _ I2) q2, fun _ _ _ _ _ _ z => z.elim, fun _ _ _ _ _ _ z => z.elim⟩
end
end VL
namespace VL
open PySem L2
section
variable {io : List (Option Addr)} {H0 F0 F F' : Hp} {δ : List Slot} {σ : St} {H : Hp}
theorem EI.pushN {o : Option V} (I : EI io H0 F0 F δ σ H) : EI (none :: io) H0 F0 F (.no :: δ) (o :: σ) H where
  base := I.base
  sub := I.sub
  ext := I.ext
  new := I.new
  len := by simp [I.len]
  get := fun i t e => by
    cases i with
    | zero => simp at e; subst e; trivial
    | succ i => simpa using I.get i t (by simpa using e)
  apart := fun i j b c b' c' a ne e1 e2 e3 e4 => by
    cases i with
    | zero => simp at e1
    | succ i =>
      cases j with
      | zero => simp at e2
      | succ j => exact I.apart i j b c b' c' a (by omega) (by simpa using e1) (by simpa using e2) (by simpa using e3) (by simpa using e4)
theorem EI.pad (I : EI io H0 F0 F δ σ H) : ∀ (τ : St), EI (List.replicate τ.length none ++ io) H0 F0 F (List.replicate τ.length .no ++ δ) (τ ++ σ) H
  | [] => I
  | o :: τ => by
    have := (I.pad τ).pushN (o := o)
    simpa [List.replicate_succ] using this
theorem EI.unpad : ∀ {τ : St} {δ : List Slot}, EI (List.replicate τ.length none ++ io) H0 F0 F δ (τ ++ σ) H → EI io H0 F0 F (δ.drop τ.length) σ H
  | [], δ, I => I
  | o :: τ, [], I => by have := I.len; simp at this
  | o :: τ, s :: δ, I => by
    have I' : EI (none :: (List.replicate τ.length none ++ io)) H0 F0 F (s :: δ) (o :: (τ ++ σ)) H := by simpa [List.replicate_succ] using I
    simpa using EI.unpad I'.pop
theorem EI.hide {p : Addr} {acc : List D} {ys : List V} (I : EI (none :: io) H0 F0 F (.ob false (.lst acc) :: δ) (some (.ref p) :: σ) H) (hp : H p = some (.lst ys)) : EI io (upd H0 p (.lst ys)) F0 F δ σ H := by
  have J := I.pop
  obtain ⟨a, e, h1, h2, h3, h4⟩ := I.get 0 _ rfl
  simp at e; subst e
  refine ⟨fun b o eb => ?_, I.sub, I.ext, fun b o e h => ?_, J.len, fun i t e => ?_, J.apart⟩
  · by_cases hb : b = p
    · subst hb; rw [upd_same] at eb; cases eb; exact hp
    · rw [upd_ne hb] at eb; exact I.base b o eb
  · rw [upd_ne (fun z => by rw [z, h2] at e; cases e)]
    exact I.new b o e h
  · have q := J.get i t e
    cases t with
    | no => trivial
    | fz d => exact q
    | sc K d => exact q
    | ob b c =>
      obtain ⟨a, e1, g1, g2, g3, g4⟩ := q
      refine ⟨a, e1, ?_, g2, g3, g4⟩
      rw [upd_ne]
      · exact g1
      · rintro rfl
        exact I.apart 0 (i + 1) _ _ _ _ _ (by omega) rfl (by simpa using e) rfl (by simpa using e1)
theorem EI.unhide {p : Addr} {acc : List D} {ys ys' : List V} (I : EI io (upd H0 p (.lst ys)) F0 F δ σ H) (h0 : H0 p = none) (hF : F0 p = none) (r : Reps F acc ys') : EI (none :: io) H0 F0 F (.ob false (.lst acc) :: δ) (some (.ref p) :: σ) (upd H p (.lst ys')) := by
  have hFp : F p = none := by
    cases q : F p with
    | none => rfl
    | some o => have := I.new p o q hF; rw [upd_same] at this; cases this
  have ownNe : ∀ {i : Nat} {b : Bool} {c : D} {a : Addr}, δ[i]? = some (.ob b c) → σ.getD i none = some (.ref a) → a ≠ p := fun {i b c a} e eo z => by
    obtain ⟨a', e1, g1, _⟩ := I.get i _ e
    rw [eo] at e1; cases e1
    rw [z, upd_same] at g1; cases g1
  refine ⟨fun b o eb => ?_, I.sub.upd hFp, I.ext, fun b o e h => ?_, by simp [I.len], fun i t e => ?_, fun i j b c b' c' a ne e1 e2 e3 e4 => ?_⟩
  · have hb : b ≠ p := fun z => by rw [z, h0] at eb; cases eb
    rw [upd_ne hb]
    exact I.base b o (by rw [upd_ne hb]; exact eb)
  · have q := I.new b o e h
    by_cases hb : b = p
    · rw [hb]; exact h0
    · rw [upd_ne hb] at q; exact q
  · cases i with
    | zero => simp at e; subst e; exact ⟨p, rfl, h0, hFp, ⟨ys', upd_same, r⟩, fun z => by cases z⟩
    | succ i =>
      have e' : δ[i]? = some t := by simpa using e
      have q := I.get i t e'
      simp only [List.getD_cons_succ]
      cases t with
      | no => trivial
      | fz d => exact q
      | sc K d => exact q
      | ob b c =>
        obtain ⟨a, e1, g1, g2, g3, g4⟩ := q
        have ne := ownNe e' e1
        rw [upd_ne ne] at g1
        exact ⟨a, e1, g1, g2, g3.mono (Same.refl _) (fun o eo => by rw [upd_ne ne]; exact eo), g4⟩
  · cases i with
    | zero =>
      cases j with
      | zero => exact ne rfl
      | succ j => simp at e1 e3; subst e3; exact ownNe (by simpa using e2) (by simpa using e4) rfl
    | succ i =>
      cases j with
      | zero => simp at e2 e4; subst e4; exact ownNe (by simpa using e1) (by simpa using e3) rfl
      | succ j => exact I.apart i j b c b' c' a (by omega) (by simpa using e1) (by simpa using e2) (by simpa using e3) (by simpa using e4)
end
def SimGn (n : Nat) (g : TG) (gd : TGd) : Prop := ∀ (io : List (Option Addr)) (H0 F0 F : Hp) (δ : List Slot) (σ : St) (H : Hp) (d : D) (v : V) (Q : St → Hp → Prop) (Qd : List Slot → Prop), EI io H0 F0 F δ σ H → Rep F d v → gd d δ Qd →
  (∀ δ' σ', EI io H0 F0 F δ' σ' H → σ'.drop n = σ.drop n → σ'.length = σ.length → Qd δ' → Q σ' H) → g v σ H Q
def DGn (X : Cx) (n : Nat) (e : Expr) (gd : TGd) : Prop := ∃ g, PG X e g ∧ SimGn n g gd
section
variable {X : Cx} {pos : Pos} {n : Nat}
theorem dgn_name {i : Nat} {x : Str} (hn : i < n) (hN : X.N.Nodup) (hi : X.N[i]? = some x) (hx : Loc X.env.scope x) (hf : X.fn x = true ∨ X.env.scope.names.lookup x = some .local := by first | exact .inl rfl | exact .inr rfl | assumption) : DGn X n (.Name x pos) (dgN i) :=
  ⟨_, pg_name hN hi hx hf, fun io H0 F0 F δ σ H d v Q Qd I r q k => by
    obtain ⟨h, q⟩ := q
    obtain ⟨h1, h2⟩ := h.ne
    refine k _ _ ((I.pushF r).setv (b := false) h1 h2) ?_ (by simp) q
    rw [List.drop_set_of_lt (by omega)]⟩
end
def dYes : TTd := fun δ Q => Q true δ
def DF (X : Cx) (ifs : List Expr) (td : TTd) : Prop := ∃ t, PF X ifs t ∧ SimT t td
theorem df_nil {X : Cx} : DF X [] dYes := ⟨_, pf_nil, fun io H0 F0 F δ σ H Q Qd I q k => k true δ F H (Same.refl _) I q⟩
theorem df_one {X : Cx} {c : Expr} {td : TTd} (h : DT X c td) : DF X [c] td := by obtain ⟨t, p, s⟩ := h; exact ⟨t, pf_one p, s⟩
def dComp (n : Nat) (di : TLd) (gd : TGd) (tc : TTd) (te : TEd) : TEd := fun δ Q => di δ fun ds δ' => ∃ P : List D → List D → List Slot → Prop, P ds [] δ' ∧
  (∀ d r acc δ1, P (d :: r) acc δ1 → gd d (List.replicate n .no ++ δ1) fun δ2 => tc δ2 fun b δ3 => if b = true then te δ3 fun _ y δ4 => acc.length < sizeLine ∧ P r (acc ++ [y]) (δ4.drop n) else P r acc (δ3.drop n)) ∧
  ∀ acc δ1, P [] acc δ1 → Q true (.lst acc) δ1
theorem sim_comp {n : Nat} {wi : TI} {g : TG} {tc : TT} {te : TE} {di : TLd} {gd : TGd} {cd : TTd} {ed : TEd} (si : SimI wi di) (sg : SimGn n g gd) (sc : SimT tc cd) (se : Sim te ed) : Sim (tCompG n wi g tc te) (dComp n di gd cd ed) := by
  intro io H0 F0 F δ σ H Q Qd I q k
  refine si io H0 F0 F δ σ H _ _ I q fun J ds δ' F' H' sf I' ok q' Dp hD => ?_
  obtain ⟨P, p0, step, fin⟩ := q'
  have hF0 : F0 Dp = none := I'.ext.free (I'.sub.free hD)
  refine ⟨fun i m ys H => m = ds.length - i ∧ i ≤ ds.length ∧ ∃ F1 δ1 acc, Same F' F1 ∧ EI (none :: io) H0 F0 F1 (.ob false (.lst acc) :: δ1) (some (.ref Dp) :: σ) H ∧ H Dp = some (.lst ys) ∧ P (ds.drop i) acc δ1, ⟨ds.length, by simp, Nat.zero_le _, F', δ', [], Same.refl _, I'.newL hD rfl, upd_same, p0⟩, ?_⟩
  rintro i m ys H1 ⟨rfl, hi, F1, δ1, acc, s1, I1, hy, p1⟩
  refine ⟨hy, ?_⟩
  obtain ⟨a, e, hH0, hF1, ⟨vs, hv, rv⟩, _⟩ := I1.get 0 _ rfl
  simp at e; subst e
  rw [hy] at hv; cases hv
  have Ih := I1.hide hy
  obtain ⟨o1, o2⟩ := ok io _ F0 F1 δ1 σ H1 s1 Ih i
  by_cases hlt : i < ds.length
  · have ed' : ds[i]? = some ds[i] := by simp [hlt]
    have edr : ds.drop i = ds[i] :: ds.drop (i + 1) := List.drop_eq_getElem_cons hlt
    rw [edr] at p1
    obtain ⟨go, yl⟩ := o1 _ ed'
    refine .inr ⟨go, fun ys' H' => ∃ F2 δ2 acc', Same F' F2 ∧ EI (none :: io) H0 F0 F2 (.ob false (.lst acc') :: δ2) (some (.ref Dp) :: σ) H' ∧ H' Dp = some (.lst ys') ∧ P (ds.drop (i + 1)) acc' δ2, fun ys' H' hN => ⟨ds.length - (i + 1), by omega, rfl, hlt, hN⟩, fun x H2 y τ hτ => ?_⟩
    obtain ⟨F2, s2, I2, r2⟩ := yl x H2 y
    have I2p := I2.pad τ
    rw [hτ] at I2p
    refine sg _ _ F0 F2 _ (τ ++ σ) H2 _ x _ _ I2p r2 (step _ _ acc δ1 p1) fun δ3 σ3 I3 e1 e2 q3 => ?_
    have eσ : σ3 = σ3.take n ++ σ := by
      have h1 : σ3.drop n = σ := by rw [e1, ← hτ]; simp
      conv => lhs; rw [← List.take_append_drop n σ3, h1]
    have lτ : (σ3.take n).length = n := by
      rw [List.length_take, e2, List.length_append, hτ]; omega
    refine ⟨⟨σ3.take n, lτ, eσ⟩, ?_⟩
    refine sc _ _ F0 F2 δ3 σ3 H2 _ _ I3 q3 fun b δ4 F4 H4 s4 I4 q4 => ?_
    have back : ∀ {δ5 : List Slot} {F5 H5 : Hp}, EI (List.replicate n none ++ io) (upd H0 Dp (.lst ys)) F0 F5 δ5 σ3 H5 → EI io (upd H0 Dp (.lst ys)) F0 F5 (δ5.drop n) σ H5 := fun {δ5 F5 H5} I5 => by
      rw [eσ] at I5
      have I5' : EI (List.replicate (σ3.take n).length none ++ io) (upd H0 Dp (.lst ys)) F0 F5 δ5 (σ3.take n ++ σ) H5 := by rw [lτ]; exact I5
      have := EI.unpad I5'
      rwa [lτ] at this
    cases b with
    | false =>
      rw [if_neg Bool.false_ne_true] at q4 ⊢
      have I5 := (back I4)
      have hy4 : H4 Dp = some (.lst ys) := I4.base _ _ upd_same
      have I6 := I5.unhide (ys' := ys) hH0 hF0 (Reps.mono (s2.trans s4) _ _ rv)
      have eH : upd H4 Dp (.lst ys) = H4 := by
        funext b; by_cases hb : b = Dp
        · rw [hb, upd_same, hy4]
        · rw [upd_ne hb]
      rw [eH] at I6
      exact ⟨F4, _, acc, (s1.trans s2).trans s4, I6, hy4, q4⟩
    | true =>
      rw [if_pos rfl] at q4 ⊢
      refine se.fz I4 q4 fun d v δ5 F5 H5 s5 I5 r5 q5 => ?_
      refine ⟨I5.base _ _ upd_same, by rw [← rv.len]; exact q5.1, F5, _, acc ++ [d], ((s1.trans s2).trans s4).trans s5, ?_, upd_same, q5.2⟩
      exact (back I5).unhide hH0 hF0 ((Reps.mono ((s2.trans s4).trans s5) _ _ rv).app (.one r5))
  · have e : i = ds.length := by omega
    subst e
    rw [List.drop_length] at p1
    exact .inl ⟨o2 rfl, k true _ _ δ1 F1 H1 (sf.trans s1) I1 (fin acc δ1 p1)⟩
def tOf (td : TEd) : TE := fun σ H Q => ∃ io H0 F0 F δ Qd, EI io H0 F0 F δ σ H ∧ td δ Qd ∧ ∀ b d v δ' F' H', Same F F' → EI (none :: io) H0 F0 F' (rsl b d :: δ') (some v :: σ) H' → Qd b d δ' → Q v H'
theorem sim_tOf (td : TEd) : Sim (tOf td) td := fun io H0 F0 F δ σ H Q Qd I q k => ⟨io, H0, F0, F, δ, Qd, I, q, k⟩
theorem DE.pe {X : Cx} {e : Expr} {td : TEd} (h : DE X e td) : PE X e (tOf td) := by
  obtain ⟨te, p, s⟩ := h
  intro pins s' σ H Q I q
  obtain ⟨io, H0, F0, F, δ, Qd, J, q, k⟩ := q
  exact p pins s' σ H Q I (s io H0 F0 F δ σ H Q Qd J q k)
def ttOf (td : TTd) : TT := fun σ H Q => ∃ io H0 F0 F δ Qd, EI io H0 F0 F δ σ H ∧ td δ Qd ∧ ∀ b δ' F' H', Same F F' → EI io H0 F0 F' δ' σ H' → Qd b δ' → Q b H'
theorem sim_ttOf (td : TTd) : SimT (ttOf td) td := fun io H0 F0 F δ σ H Q Qd I q k => ⟨io, H0, F0, F, δ, Qd, I, q, k⟩
theorem DF.pf {X : Cx} {e : List Expr} {td : TTd} (h : DF X e td) : PF X e (ttOf td) := by
  obtain ⟨te, p, s⟩ := h
  intro pins s' σ H Q I q
  obtain ⟨io, H0, F0, F, δ, Qd, J, q, k⟩ := q
  exact p pins s' σ H Q I (s io H0 F0 F δ σ H Q Qd J q k)
def tgOf (n : Nat) (gd : TGd) : TG := fun v σ H Q => ∃ io H0 F0 F δ d Qd, EI io H0 F0 F δ σ H ∧ Rep F d v ∧ gd d δ Qd ∧ ∀ δ' σ', EI io H0 F0 F δ' σ' H → σ'.drop n = σ.drop n → σ'.length = σ.length → Qd δ' → Q σ' H
theorem sim_tgOf (n : Nat) (gd : TGd) : SimGn n (tgOf n gd) gd := fun io H0 F0 F δ σ H d v Q Qd I r q k => ⟨io, H0, F0, F, δ, d, Qd, I, r, q, k⟩
theorem DGn.pg {X : Cx} {n : Nat} {e : Expr} {gd : TGd} (h : DGn X n e gd) : PG X e (tgOf n gd) := by
  obtain ⟨g, p, s⟩ := h
  intro pins s' σ H v u Q I r q
  obtain ⟨io, H0, F0, F, δ, d, Qd, J, rd, q, k⟩ := q
  exact p pins s' σ H v u Q I r (s io H0 F0 F δ σ H d v Q Qd J rd q k)
section
variable {X : Cx}
theorem de_comp {elt iter tg : Expr} (xs : List Str) {pos : Pos} {ifs : List Expr} {sc : Scope} (M : List Str) {di : TLd} {gd : TGd} {cd : TTd} {ed : TEd} (hc : X.calm = true) (S : CScopeG X.env.scope X.N xs sc M) (hi : DI X tg iter di) (hg : ∀ pins ex H₀ s₀ C, DGn (compCx X sc (xs ++ M) pins ex H₀ s₀ C) xs.length tg gd)
    (ht : ∀ pins ex H₀ s₀ C, DF (compCx X sc (xs ++ M) pins ex H₀ s₀ C) ifs cd) (he : ∀ pins ex H₀ s₀ C, DE (compCx X sc (xs ++ M) pins ex H₀ s₀ C) elt ed)
    (hs : ∀ v, foldedSetIterable iter X.env v = pure v := by intro _; rfl) : DE X (.ListComp elt [⟨tg, iter, ifs, 0⟩] sc pos) (dComp xs.length di gd cd ed) := by
  obtain ⟨wi, p2, s2⟩ := hi
  exact ⟨_, pe_compG xs M hc (fun pins ex H₀ s₀ C => (hg pins ex H₀ s₀ C).pg) S p2 (fun pins ex H₀ s₀ C => (ht pins ex H₀ s₀ C).pf) (fun pins ex H₀ s₀ C => (he pins ex H₀ s₀ C).pe) hs, sim_comp s2 (sim_tgOf _ _) (sim_ttOf _) (sim_tOf _)⟩
theorem ds_comp {elt iter tg : Expr} {y : Str} (xs : List Str) {py pos spos : Pos} {ifs : List Expr} {sc : Scope} {j : Nat} (M : List Str) {di : TLd} {gd : TGd} {cd : TTd} {ed : TEd} (hN : X.N.Nodup) (hj : X.N[j]? = some y) (hy : X.env.scope.names.lookup y = some .local) (hc : X.calm = true) (S : CScopeG X.env.scope X.N xs sc M) (hi : DI X tg iter di)
    (hg : ∀ pins ex H₀ s₀ C, DGn (compCx X sc (xs ++ M) pins ex H₀ s₀ C) xs.length tg gd) (ht : ∀ pins ex H₀ s₀ C, DF (compCx X sc (xs ++ M) pins ex H₀ s₀ C) ifs cd) (he : ∀ pins ex H₀ s₀ C, DE (compCx X sc (xs ++ M) pins ex H₀ s₀ C) elt ed)
    (hsw : swapsWith (.ListComp elt [⟨tg, iter, ifs, 0⟩] sc pos) (some (.Name y py)) spos.line X.env = pure true := by rfl)
    (hs : ∀ v, foldedSetIterable iter X.env v = pure v := by intro _; rfl) : DS X (.Assign [.Name y py] (.ListComp elt [⟨tg, iter, ifs, 0⟩] sc pos) spos) (dSet j (dComp xs.length di gd cd ed)) := by
  obtain ⟨wi, p2, s2⟩ := hi
  exact ⟨_, ps_compG xs M hN hj hy hc (fun pins ex H₀ s₀ C => (hg pins ex H₀ s₀ C).pg) S p2 (fun pins ex H₀ s₀ C => (ht pins ex H₀ s₀ C).pf) (fun pins ex H₀ s₀ C => (he pins ex H₀ s₀ C).pe) hsw hs, simS_set (sim_comp s2 (sim_tgOf _ _) (sim_ttOf _) (sim_tOf _))⟩
end
end VL
namespace VL
open PySem L2
section
variable {X : Cx} {pos : Pos}
abbrev TOd := List Slot → (Option Int → List Slot → Prop) → Prop
def SimO (t : TO) (td : TOd) : Prop := ∀ (io : List (Option Addr)) (H0 F0 F : Hp) (δ : List Slot) (σ : St) (H : Hp) (Q : Option Int → Hp → Prop) (Qd : Option Int → List Slot → Prop), EI io H0 F0 F δ σ H → td δ Qd →
  (∀ o δ' F' H', Same F F' → EI io H0 F0 F' δ' σ H' → Qd o δ' → Q o H') → t σ H Q
def DO (X : Cx) (e : Option Expr) (td : TOd) : Prop := ∃ t, PO X e t ∧ SimO t td
def doN : TOd := fun δ Q => Q none δ
def doS (t : TEd) : TOd := fun δ Q => t δ fun _ d δ' => ∃ i, d = .int i ∧ Q (some i) δ'
theorem do_none : DO X none doN := ⟨_, po_none, fun io H0 F0 F δ σ H Q Qd I q k => k none δ F H (Same.refl _) I q⟩
theorem do_some {e : Expr} {t : TEd} (h : DE X e t) : DO X (some e) (doS t) := by
  obtain ⟨t, p, s⟩ := h
  refine ⟨_, po_some p, fun io H0 F0 F δ σ H Q Qd I q k => s.fz I q fun d v δ' F' H' sf I' r q' => ?_⟩
  obtain ⟨i, rfl, q'⟩ := q'
  exact ⟨i, r, k (some i) δ' F' H' sf I' q'⟩
def cutD (xs : List D) (lo hi : Option Int) : List D := (xs.drop (HT.sIx xs.length 0 lo)).take (HT.sIx xs.length xs.length hi - HT.sIx xs.length 0 lo)
theorem Reps.cut {F : Hp} {ds : List D} {vs : List V} (r : Reps F ds vs) (lo hi : Option Int) : Reps F (cutD ds lo hi) (cutV vs lo hi) := by
  unfold cutD cutV
  rw [r.len]
  exact (r.drop _).take _
def dSlLV (i : Nat) (l h : TOd) : TEd := fun δ Q => (peek δ i).isSome = true ∧ l δ fun lo δ2 => h δ2 fun hi δ3 => ∃ xs, peek δ3 i = some (.lst xs) ∧ Q true (.lst (cutD xs lo hi)) δ3
variable {e : Expr} {lo hi : Option Expr} {p2 : Pos} {t : TEd} {l h : TOd}
theorem de_sliceLV {i : Nat} {x : Str} {p : Pos} (ho : PE X (.Name x p) (tVar i)) (hl : DO X lo l) (hh : DO X hi h) : DE X (.Subscript (.Name x p) (.Slice lo hi none p2) pos) (dSlLV i l h) := by
  obtain ⟨t2, p2, s2⟩ := hl; obtain ⟨t3, p3, s3⟩ := hh
  refine ⟨_, pe_slice sl_lst ho p2 p3, fun io H0 F0 F δ σ H Q Qd I q k => ?_⟩
  obtain ⟨p0, q⟩ := q
  obtain ⟨d0, e0⟩ := Option.isSome_iff_exists.mp p0
  obtain ⟨v0, ev, _⟩ := I.pk e0
  refine ⟨v0, ev, s2 io H0 F0 F δ σ H _ _ I q fun lo δ2 F2 H2 f2 I2 q2 => s3 io H0 F0 F2 δ2 σ H2 _ _ I2 q2 fun hi δ3 F3 H3 f3 I3 q3 => ?_⟩
  obtain ⟨xs, e3, q3⟩ := q3
  obtain ⟨v, ev', pk⟩ := I3.pk e3
  rw [ev] at ev'; cases ev'
  obtain ⟨a, vs, rfl, h1, r⟩ := pk.lst I3
  exact ⟨a, rfl, vs, h1, fun p hp => k true _ _ δ3 F3 _ (f2.trans f3) (I3.newL hp (r.cut lo hi)) q3⟩
end
def getS (kds : List (Key × D)) (k : Str) : Option D := (kds.find? fun kv => decide (kv.1 = Sum.inr k)).map (·.2)
def putS (kds : List (Key × D)) (k : Str) (d : D) : List (Key × D) := if (kds.any fun kv => decide (kv.1 = Sum.inr k)) = true then kds.map (fun kv => if kv.1 = Sum.inr k then (kv.1, d) else kv) else kds ++ [(Sum.inr k, d)]
theorem RepK.len {F : Hp} : ∀ {ds : List (Key × D)} {vs : List (Key × V)}, RepK F ds vs → ds.length = vs.length
  | [], vs, h => by cases (show vs = [] from h); rfl
  | d :: ds, vs, h => by obtain ⟨v, r, rfl, h1, h2⟩ := h; simp [RepK.len h2]
theorem RepK.val {F : Hp} (k : Str) : ∀ {ds : List (Key × D)} {vs : List (Key × V)}, RepK F ds vs → (∀ d, getS ds k = some d → ∃ v, valV vs (Sum.inr k) = some v ∧ Rep F d v) ∧ (getS ds k = none → valV vs (Sum.inr k) = none)
  | [], vs, h => by cases (show vs = [] from h); exact ⟨fun d e => by simp [getS] at e, fun _ => rfl⟩
  | (k', d) :: ds, vs, h => by
    obtain ⟨⟨q1, q2⟩, r, rfl, ⟨e1, r1⟩, h2⟩ := h
    have ih := RepK.val k h2
    cases (show q1 = k' from e1)
    by_cases hk : k' = Sum.inr k
    · refine ⟨fun d' e => ⟨q2, by simp [valV, hk], ?_⟩, fun e => by simp [getS, hk] at e⟩
      simp [getS, hk] at e
      subst e
      exact r1
    · refine ⟨fun d' e => ?_, fun e => ?_⟩
      · obtain ⟨v, e2, r2⟩ := ih.1 d' (by simpa [getS, List.find?_cons, hk] using e)
        exact ⟨v, by simpa [valV, List.find?_cons, hk] using e2, r2⟩
      · have := ih.2 (by simpa [getS, List.find?_cons, hk] using e)
        simpa [valV, List.find?_cons, hk] using this
theorem RepK.any {F : Hp} (k : Key) : ∀ {ds : List (Key × D)} {vs : List (Key × V)}, RepK F ds vs → (ds.any fun kv => decide (kv.1 = k)) = (vs.any fun kv => decide (kv.1 = k))
  | [], vs, h => by cases (show vs = [] from h); rfl
  | (k', d) :: ds, vs, h => by
    obtain ⟨⟨q1, q2⟩, r, rfl, ⟨e1, r1⟩, h2⟩ := h
    cases (show q1 = k' from e1)
    simp [RepK.any k h2]
theorem RepK.app {F : Hp} : ∀ {ds es : List (Key × D)} {vs us : List (Key × V)}, RepK F ds vs → RepK F es us → RepK F (ds ++ es) (vs ++ us)
  | [], es, vs, us, h, h' => by cases (show vs = [] from h); exact h'
  | d :: ds, es, vs, us, h, h' => by obtain ⟨v, r, rfl, h1, h2⟩ := h; exact ⟨v, r ++ us, rfl, h1, RepK.app h2 h'⟩
theorem RepK.upd {F : Hp} (k : Key) {d : D} {v : V} (hv : Rep F d v) : ∀ {ds : List (Key × D)} {vs : List (Key × V)}, RepK F ds vs → RepK F (ds.map fun kv => if kv.1 = k then (kv.1, d) else kv) (vs.map fun kv => if kv.1 = k then (kv.1, v) else kv)
  | [], vs, h => by cases (show vs = [] from h); rfl
  | (k', d') :: ds, vs, h => by
    obtain ⟨⟨q1, q2⟩, r, rfl, ⟨e1, r1⟩, h2⟩ := h
    cases (show q1 = k' from e1)
    refine ⟨_, _, rfl, ?_, RepK.upd k hv h2⟩
    by_cases hk : k' = k
    · simp only [hk, if_true]; exact (show RepP F (k, d) (k, v) from ⟨rfl, hv⟩)
    · simp only [hk, if_false]; exact (show RepP F (k', d') (k', q2) from ⟨rfl, r1⟩)
theorem RepK.put {F : Hp} {ds : List (Key × D)} {vs : List (Key × V)} (r : RepK F ds vs) (k : Str) {d : D} {v : V} (hv : Rep F d v) : RepK F (putS ds k d) (putK vs (Sum.inr k) v) := by
  unfold putS putK
  rw [r.any]
  split
  · exact r.upd _ hv
  · exact r.app ⟨_, [], rfl, ⟨rfl, hv⟩, rfl⟩
section
variable {X : Cx} {pos : Pos}
def dDict0 : TEd := fun δ Q => Q true (.dct []) δ
theorem de_dict0 : DE X (.Dict [] [] pos) dDict0 := ⟨_, pe_dnewK, fun io H0 F0 F δ σ H Q Qd I q k p hp => k true (.dct []) _ δ F _ (Same.refl _) (I.newD (ds := []) (vs := []) hp rfl) q⟩
def dDGetV (i : Nat) (ti : TEd) : TEd := fun δ Q => (peek δ i).isSome = true ∧ ti δ fun _ y δ' => ∃ kds k d, peek δ' i = some (.dct kds) ∧ y = .str k ∧ getS kds k = some d ∧ Q false d δ'
theorem de_dgetV {i : Nat} {x : Str} {p : Pos} {ie : Expr} {ti : TEd} (hu : X.A.units + 100 < cLine) (ho : PE X (.Name x p) (tVar i)) (hi : DE X ie ti) (hs : NoSl ie := by intro _ _; rfl) : DE X (.Subscript (.Name x p) ie pos) (dDGetV i ti) := by
  obtain ⟨t, pi, si⟩ := hi
  refine ⟨_, pe_dget (by omega) ho pi hs, fun io H0 F0 F δ σ H Q Qd I q k => ?_⟩
  obtain ⟨p0, q⟩ := q
  obtain ⟨d0, e0⟩ := Option.isSome_iff_exists.mp p0
  obtain ⟨v0, ev, _⟩ := I.pk e0
  refine ⟨v0, ev, si.fz I q fun d v δ1 F1 H1 f1 I1 r1 q1 => ?_⟩
  obtain ⟨kds, key, dd, e1, rfl, eg, q1⟩ := q1
  obtain ⟨v, ev', pk⟩ := I1.pk e1
  rw [ev] at ev'; cases ev'
  obtain ⟨a, kvs, rfl, h1, rk⟩ := pk.dct I1
  cases (show _ = V.str key from r1)
  obtain ⟨w, ew, rw'⟩ := (rk.val key).1 dd eg
  exact ⟨a, w, rfl, DGet.s h1 ew, k false _ _ δ1 F1 H1 f1 (I1.pushF rw') q1⟩
def dDPut (i : Nat) (ti tv : TEd) : TSd := fun E δ => tv δ fun _ v δ1 => (peek δ1 i).isSome = true ∧ ti δ1 fun _ y δ2 => ∃ fl kds k, δ2[i]? = some (.ob fl (.dct kds)) ∧ y = .str k ∧ kds.length < sizeLine ∧ E.nx (δ2.set i (.ob fl (.dct (putS kds k v))))
theorem ds_dput {i : Nat} {x : Str} {p pos' : Pos} {ie ve : Expr} {ti tv : TEd} (hu : X.A.units + 100 < cLine) (ho : PE X (.Name x p) (tVar i)) (hi : DE X ie ti) (hv : DE X ve tv) (hs : swapsWith ve (some (.Subscript (.Name x p) ie pos')) pos.line X.env = pure false := by rfl) : DS X (.Assign [.Subscript (.Name x p) ie pos'] ve pos) (dDPut i ti tv) := by
  obtain ⟨t, pi, si⟩ := hi; obtain ⟨t', pv, sv⟩ := hv
  refine ⟨_, ps_dput (by omega) ho pi pv hs, fun io H0 F0 F δ σ H E Ed I q S => sv.fz I q fun d v δ1 F1 H1 s1 I1 r1 q1 => ?_⟩
  obtain ⟨p0, q1⟩ := q1
  obtain ⟨d0, e0⟩ := Option.isSome_iff_exists.mp p0
  obtain ⟨v0, ev, _⟩ := I1.pk e0
  refine ⟨v0, ev, si.fz I1 q1 fun y u δ2 F2 H2 s2 I2 r2 q2 => ?_⟩
  obtain ⟨fl, kds, key, ec, rfl, hl, q2⟩ := q2
  obtain ⟨a', ea, n1, n2, ⟨kvs, hc, rc⟩, hio⟩ := I2.get i _ ec
  have e := getD_some ea
  rw [ev] at e; cases e
  cases (show u = V.str key from r2)
  exact ⟨a', _, rfl, DPut.s hc (by rw [← rc.len]; exact hl), S.nx F2 _ σ _ (s1.trans s2) (I2.change (c' := .dct (putS kds key d)) ec ea ⟨_, upd_same, rc.put key (Rep.mono s2 _ _ r1)⟩) q2⟩
end
end VL
namespace VL
open PySem L2
def dSlC (K : PySem.W.Frag) (i : Nat) (l h : TOd) : TEd := fun δ Q => ∃ ns, δ[i]? = some (.sc K ns) ∧ l δ fun lo δ2 => h δ2 fun hi δ3 => Q true (.lst (cutD (ns.map .int) lo hi)) δ3
theorem cut_ints (ns : List Int) (lo hi : Option Int) : ∃ ms : List Int, cutD (ns.map .int) lo hi = ms.map .int ∧ cutV (ns.map .int) lo hi = ms.map .int := by
  refine ⟨(ns.drop (HT.sIx ns.length 0 lo)).take (HT.sIx ns.length ns.length hi - HT.sIx ns.length 0 lo), ?_, ?_⟩
  · unfold cutD; simp [List.map_take, List.map_drop]
  · unfold cutV; simp [List.map_take, List.map_drop]
theorem reps_ints {F : Hp} : ∀ ms : List Int, Reps F (ms.map .int) (ms.map .int)
  | [] => rfl
  | m :: ms => ⟨_, _, rfl, rfl, reps_ints ms⟩
theorem reps_strs {F : Hp} : ∀ ms : List Str, Reps F (ms.map .str) (ms.map .str)
  | [] => rfl
  | m :: ms => ⟨_, _, rfl, rfl, reps_strs ms⟩
section
variable {X : Cx} {pos p2 : Pos} {lo hi : Option Expr} {l h : TOd}
theorem de_sliceC {K : PySem.W.Frag} (hK : X.K = K) {i : Nat} {x : Str} {p : Pos} (ho : PE X (.Name x p) (tVar i)) (hl : DO X lo l) (hh : DO X hi h) : DE X (.Subscript (.Name x p) (.Slice lo hi none p2) pos) (dSlC K i l h) := by
  subst hK
  obtain ⟨t2, p2, s2⟩ := hl; obtain ⟨t3, p3, s3⟩ := hh
  refine ⟨_, pe_slice sl_list ho p2 p3, fun io H0 F0 F δ σ H Q Qd I q k => ?_⟩
  obtain ⟨ns, e, q⟩ := q
  obtain ⟨a, ea, sq⟩ := I.get i _ e
  refine ⟨.ref a, getD_some ea, s2 io H0 F0 F δ σ H _ _ I q fun lo δ2 F2 H2 f2 I2 q2 => s3 io H0 F0 F2 δ2 σ H2 _ _ I2 q2 fun hi δ3 F3 H3 f3 I3 q3 => ?_⟩
  refine ⟨a, _, rfl, I3.sub.seq ((f2.trans f3).seq sq), fun p hp => ?_⟩
  obtain ⟨ms, e1, e2⟩ := cut_ints ns lo hi
  rw [e1] at q3
  rw [e2]
  exact k true _ _ δ3 F3 _ (f2.trans f3) (I3.newL hp (reps_ints ms)) q3
end
def LoopD (ds : List D) (g : TGd) (tb : TSd) (E : EndsD) (δ : List Slot) : Prop := ∃ (fg : List Nat) (P : List D → List Slot → Prop), P ds (fgt fg δ) ∧
  (∀ d r δ, P (d :: r) δ → g d δ fun δ2 => tb { E with nx := fun δ' => P r (fgt fg δ'), ct := fun δ' => P r (fgt fg δ'), bk := E.nx } δ2) ∧ ∀ δ, P [] δ → E.nx δ
theorem dFor_eq {di : TLd} {g : TGd} {tb : TSd} {E : EndsD} {δ : List Slot} : dFor di g tb E δ = di δ fun ds δ' => LoopD ds g tb E δ' := rfl
theorem loopD {ds : List D} {g : TGd} {tb : TSd} {E : EndsD} {δ : List Slot} (fg : List Nat) (P : List D → List Slot → Prop) (h0 : P ds (fgt fg δ)) (hs : ∀ d r δ, P (d :: r) δ → g d δ fun δ2 => tb { E with nx := fun δ' => P r (fgt fg δ'), ct := fun δ' => P r (fgt fg δ'), bk := E.nx } δ2) (hd : ∀ δ, P [] δ → E.nx δ) : LoopD ds g tb E δ := ⟨fg, P, h0, hs, hd⟩
theorem rngD_drop (lo : Int) (n i : Nat) (h : i < n) : (rngD lo n).drop i = .int (lo + i) :: (rngD lo n).drop (i + 1) := by
  have hl : i < (rngD lo n).length := by simpa [rngD] using h
  rw [List.drop_eq_getElem_cons hl]
  simp [rngD]
theorem loopN {lo : Int} {n : Nat} {g : TGd} {tb : TSd} {E : EndsD} {δ : List Slot} (fg : List Nat) (P : Nat → List Slot → Prop) (h0 : P 0 (fgt fg δ)) (hs : ∀ i δ, i < n → P i δ → g (.int (lo + i)) δ fun δ2 => tb { E with nx := fun δ' => P (i + 1) (fgt fg δ'), ct := fun δ' => P (i + 1) (fgt fg δ'), bk := E.nx } δ2) (hd : ∀ δ, P n δ → E.nx δ) : LoopD (rngD lo n) g tb E δ := by
  have len : ∀ i, i ≤ n → ((rngD lo n).drop i).length = n - i := fun i _ => by simp [rngD]
  have key : ∀ i, i ≤ n → (fun δ => (rngD lo n).drop i = (rngD lo n).drop (n - ((rngD lo n).drop i).length) ∧ P (n - ((rngD lo n).drop i).length) δ) = P i := by
    intro i hi
    funext δ
    rw [len i hi, show n - (n - i) = i by omega]
    simp
  refine ⟨fg, fun r δ => r = (rngD lo n).drop (n - r.length) ∧ P (n - r.length) δ, ?_, ?_, ?_⟩
  · have := congrFun (key 0 (Nat.zero_le _)) (fgt fg δ)
    simp only [List.drop_zero] at this
    exact this.mpr h0
  · rintro d r δ ⟨e, p⟩
    have hlt : n - (d :: r).length < n := by
      have hle : (d :: r).length ≤ n := by
        rw [e]; simp [rngD]
      simp at hle ⊢; omega
    generalize hi : n - (d :: r).length = i at e p hlt
    rw [rngD_drop lo n i hlt] at e
    cases e
    have q := hs i δ hlt p
    rw [← key (i + 1) hlt] at q
    exact q
  · rintro δ ⟨_, p⟩
    exact hd δ (by simpa using p)
def CompD (n : Nat) (ds : List D) (gd : TGd) (tc : TTd) (te : TEd) (Q : Bool → D → List Slot → Prop) (δ : List Slot) : Prop := ∃ P : List D → List D → List Slot → Prop, P ds [] δ ∧
  (∀ d r acc δ1, P (d :: r) acc δ1 → gd d (List.replicate n .no ++ δ1) fun δ2 => tc δ2 fun b δ3 => if b = true then te δ3 fun _ y δ4 => acc.length < sizeLine ∧ P r (acc ++ [y]) (δ4.drop n) else P r acc (δ3.drop n)) ∧
  ∀ acc δ1, P [] acc δ1 → Q true (.lst acc) δ1
theorem dComp_eq {n : Nat} {di : TLd} {gd : TGd} {tc : TTd} {te : TEd} {δ : List Slot} {Q : Bool → D → List Slot → Prop} : dComp n di gd tc te δ Q = di δ fun ds δ' => CompD n ds gd tc te Q δ' := rfl
inductive All2 {α β : Type} (G : α → β → Prop) : List α → List β → Prop
  | nil : All2 G [] []
  | cons {a b as bs} : G a b → All2 G as bs → All2 G (a :: as) (b :: bs)
theorem All2.snoc {α β : Type} {G : α → β → Prop} {as : List α} {bs : List β} {a : α} {b : β} (h : All2 G as bs) (h' : G a b) : All2 G (as ++ [a]) (bs ++ [b]) := by
  induction h with
  | nil => exact .cons h' .nil
  | cons g _ ih => exact .cons g ih
theorem All2.len {α β : Type} {G : α → β → Prop} {as : List α} {bs : List β} (h : All2 G as bs) : as.length = bs.length := by
  induction h with
  | nil => rfl
  | cons _ _ ih => simp [ih]
theorem comp1f {ds : List D} {tc : TTd} {te : TEd} {Q : Bool → D → List Slot → Prop} {δ : List Slot} (c : D → Bool) (f : D → D) (hl : ds.length ≤ sizeLine)
    (hc : ∀ d ∈ ds, ∀ P : Bool → List Slot → Prop, P (c d) (.fz d :: δ) → tc (.fz d :: δ) P)
    (h : ∀ d ∈ ds, c d = true → ∀ P : D → List Slot → Prop, P (f d) (.fz d :: δ) → te (.fz d :: δ) fun _ y δ' => P y δ') (q : Q true (.lst ((ds.filter c).map f)) δ) : CompD 1 ds (dgN 0) tc te Q δ := by
  refine ⟨fun r acc δ1 => δ1 = δ ∧ ∃ pre, ds = pre ++ r ∧ acc = (pre.filter c).map f, ⟨rfl, [], rfl, rfl⟩, ?_, ?_⟩
  · rintro d r acc δ1 ⟨rfl, pre, e, rfl⟩
    refine ⟨trivial, ?_⟩
    have hd : d ∈ ds := by rw [e]; simp
    have hlen : pre.length < sizeLine := by rw [e] at hl; simp at hl; omega
    refine hc d hd _ ?_
    cases hcd : c d with
    | false =>
      rw [if_neg Bool.false_ne_true]
      exact ⟨rfl, pre ++ [d], by rw [e]; simp, by simp [List.filter_append, hcd]⟩
    | true =>
      rw [if_pos rfl]
      refine h d hd hcd _ ⟨?_, rfl, pre ++ [d], by rw [e]; simp, by simp [List.filter_append, hcd]⟩
      have := List.length_filter_le c pre
      simp; omega
  · rintro acc δ1 ⟨rfl, pre, e, rfl⟩
    simp at e
    subst e
    exact q
theorem noIo_no {r : List Slot} : noIo (.no :: r) 0 = True := rfl
theorem noIo_fz {d : D} {r : List Slot} : noIo (.fz d :: r) 0 = True := rfl
theorem noIo_ob {d : D} {r : List Slot} : noIo (.ob false d :: r) 0 = True := rfl
theorem noIo_s {s : Slot} {r : List Slot} {i : Nat} : noIo (s :: r) (i + 1) = noIo r i := rfl
theorem keepIo_t {c : D} : keepIo (.ob true c) = .ob true c := rfl
theorem keepIo_fz {c : D} : keepIo (.fz c) = .no := rfl
theorem keepIo_sc {K : PySem.W.Frag} {c : List Int} : keepIo (.sc K c) = .no := rfl
theorem hu100 {A : Around} {k : Nat} (hr : Room k A) : A.units + 100 < cLine := by have := hr.un; omega
theorem mod_nn {a b : Int} (h : 0 < b) : 0 ≤ a % b := Int.emod_nonneg _ (by omega)
theorem mod_lt {a b : Int} (h : 0 < b) : a % b < b := Int.emod_lt_of_pos _ h
section
variable {X : Cx}
end
theorem cutD_take (xs : List D) (k : Nat) : cutD xs none (some (k : Int)) = xs.take k := by
  unfold cutD
  rw [HT.sIx_none, HT.sIx_nat, List.drop_zero, Nat.sub_zero]
  by_cases h : k ≤ xs.length
  · rw [Nat.min_eq_left h]
  · rw [Nat.min_eq_right (by omega), List.take_of_length_le (Nat.le_refl _), List.take_of_length_le (by omega)]
theorem cutD_drop (xs : List D) (k : Nat) : cutD xs (some (k : Int)) none = xs.drop k := by
  unfold cutD
  rw [HT.sIx_none, HT.sIx_nat]
  by_cases h : k ≤ xs.length
  · rw [Nat.min_eq_left h, List.take_of_length_le (by rw [List.length_drop]; exact Nat.le_refl _)]
  · rw [Nat.min_eq_right (by omega), List.drop_of_length_le (Nat.le_refl _), List.drop_of_length_le (by omega)]
    simp
end VL
namespace VL
open PySem L2
def getK (i : Nat) (δ : List Slot) (k : Slot → Prop) : Prop := match δ[i]? with | some s => k s | none => False
theorem getK_0 {s : Slot} {r : List Slot} {k : Slot → Prop} : getK 0 (s :: r) k = k s := rfl
theorem getK_s {i : Nat} {s : Slot} {r : List Slot} {k : Slot → Prop} : getK (i + 1) (s :: r) k = getK i r k := rfl
def setK (i : Nat) (s : Slot) (δ : List Slot) (k : List Slot → Prop) : Prop := k (δ.set i s)
theorem setK_0 {s x : Slot} {r : List Slot} {k : List Slot → Prop} : setK 0 s (x :: r) k = k (s :: r) := rfl
theorem setK_s {i : Nat} {s x : Slot} {r : List Slot} {k : List Slot → Prop} : setK (i + 1) s (x :: r) k = setK i s r fun r' => k (x :: r') := rfl
def setW (i : Nat) (s : Slot) (δ : List Slot) (k : List Slot → Prop) : Prop := noIo δ i ∧ k (δ.set i s)
theorem setW_no {s : Slot} {r : List Slot} {k : List Slot → Prop} : setW 0 s (.no :: r) k = k (s :: r) := by simp [setW, noIo_no]
theorem setW_fz {s : Slot} {d : D} {r : List Slot} {k : List Slot → Prop} : setW 0 s (.fz d :: r) k = k (s :: r) := by simp [setW, noIo_fz]
theorem setW_ob {s : Slot} {d : D} {r : List Slot} {k : List Slot → Prop} : setW 0 s (.ob false d :: r) k = k (s :: r) := by simp [setW, noIo_ob]
theorem setW_s {i : Nat} {s x : Slot} {r : List Slot} {k : List Slot → Prop} : setW (i + 1) s (x :: r) k = setW i s r fun r' => k (x :: r') := by simp [setW, noIo_s]
def varS (s : Slot) (a b : D → Prop) : Prop := match s with | .fz d => a d | .ob false c => b c | _ => False
theorem varS_fz {d : D} {a b : D → Prop} : varS (.fz d) a b = a d := rfl
theorem varS_ob {d : D} {a b : D → Prop} : varS (.ob false d) a b = b d := rfl
def pkS (s : Slot) (k : D → Prop) : Prop := match s with | .fz d => k d | .ob _ c => k c | _ => False
theorem pkS_fz {d : D} {k : D → Prop} : pkS (.fz d) k = k d := rfl
theorem pkS_ob {b : Bool} {d : D} {k : D → Prop} : pkS (.ob b d) k = k d := rfl
def obK (s : Slot) (k : Bool → D → Prop) : Prop := match s with | .ob b c => k b c | _ => False
theorem obK_ob {b : Bool} {d : D} {k : Bool → D → Prop} : obK (.ob b d) k = k b d := rfl
def scK (K : PySem.W.Frag) (s : Slot) (k : List Int → Prop) : Prop := ∃ ns, s = .sc K ns ∧ k ns
theorem scK_sc {K : PySem.W.Frag} {ns : List Int} {k : List Int → Prop} : scK K (.sc K ns) k = k ns := by simp [scK]
def ioK : List Slot → (D → Prop) → Prop
  | .ob true c :: _, k => k c
  | _ :: r, k => ioK r k
  | [], _ => False
theorem ioK_t {c : D} {r : List Slot} {k : D → Prop} : ioK (.ob true c :: r) k = k c := rfl
theorem ioK_no {r : List Slot} {k : D → Prop} : ioK (.no :: r) k = ioK r k := rfl
theorem ioK_eq : ∀ {δ : List Slot} {k : D → Prop}, (∃ c, ioOut δ = some c ∧ k c) = ioK δ k
  | [], k => by simp [ioOut, ioK]
  | .no :: r, k => by simpa [ioOut, ioK] using ioK_eq (δ := r) (k := k)
  | .fz _ :: r, k => by simpa [ioOut, ioK] using ioK_eq (δ := r) (k := k)
  | .sc _ _ :: r, k => by simpa [ioOut, ioK] using ioK_eq (δ := r) (k := k)
  | .ob false _ :: r, k => by simpa [ioOut, ioK] using ioK_eq (δ := r) (k := k)
  | .ob true c :: r, k => by simp [ioOut, ioK]
def intK (d : D) (k : Int → Prop) : Prop := match d with | .int x => k x | _ => False
theorem intK_e {x : Int} {k : Int → Prop} : intK (.int x) k = k x := rfl
theorem intK_eq {d : D} {k : Int → Prop} : (∃ x, d = .int x ∧ k x) = intK d k := by cases d <;> simp [intK]
def strK (d : D) (k : Str → Prop) : Prop := match d with | .str x => k x | _ => False
theorem strK_e {x : Str} {k : Str → Prop} : strK (.str x) k = k x := rfl
theorem strK_eq {d : D} {k : Str → Prop} : (∃ x, d = .str x ∧ k x) = strK d k := by cases d <;> simp [strK]
def blK (d : D) (k : Bool → Prop) : Prop := match d with | .bl x => k x | _ => False
theorem blK_e {x : Bool} {k : Bool → Prop} : blK (.bl x) k = k x := rfl
theorem blK_eq {d : D} {k : Bool → Prop} : (∃ x, d = .bl x ∧ k x) = blK d k := by cases d <;> simp [blK]
def lstK (d : D) (k : List D → Prop) : Prop := match d with | .lst x => k x | _ => False
theorem lstK_e {x : List D} {k : List D → Prop} : lstK (.lst x) k = k x := rfl
theorem lstK_eq {d : D} {k : List D → Prop} : (∃ x, d = .lst x ∧ k x) = lstK d k := by cases d <;> simp [lstK]
def dctK (d : D) (k : List (Key × D) → Prop) : Prop := match d with | .dct x => k x | _ => False
theorem dctK_e {x : List (Key × D)} {k : List (Key × D) → Prop} : dctK (.dct x) k = k x := rfl
theorem dctK_eq {d : D} {k : List (Key × D) → Prop} : (∃ x, d = .dct x ∧ k x) = dctK d k := by cases d <;> simp [dctK]
theorem peekK_eq {δ : List Slot} {i : Nat} {k : D → Prop} : (∃ d, peek δ i = some d ∧ k d) = getK i δ fun s => pkS s k := by
  unfold peek getK
  cases δ[i]? with
  | none => simp
  | some s => cases s <;> simp [pkS]
theorem peekS_eq {δ : List Slot} {i : Nat} {P : Prop} : ((peek δ i).isSome = true ∧ P) = getK i δ fun s => pkS s fun _ => P := by
  unfold peek getK
  cases δ[i]? with
  | none => simp
  | some s => cases s <;> simp [pkS]
theorem obK_eq {δ : List Slot} {i : Nat} {k : Bool → D → Prop} : (∃ fl c, δ[i]? = some (.ob fl c) ∧ k fl c) = getK i δ fun s => obK s k := by
  unfold getK
  cases δ[i]? with
  | none => simp
  | some s =>
    apply propext
    constructor
    · rintro ⟨fl, c, e, h⟩; cases e; exact h
    · intro h
      cases s with
      | ob b c => exact ⟨b, c, rfl, h⟩
      | _ => exact h.elim
section
variable {δ : List Slot} {E : EndsD} {Q : Bool → D → List Slot → Prop} {QT : Bool → List Slot → Prop} {QL : List D → List Slot → Prop} {QS : List Slot → Prop} {Q2 : Bool → D → Prop} {QM : D → D → Prop} {QA : List (Option D) → List Slot → Prop} {QO : Option Int → List Slot → Prop} {t u : TSd} {ta tb td te tv ti : TEd} {tt tu tc : TTd} {ul : TLd} {ua : TAd} {l h : TOd} {g gd : TGd} {gs : TGsd} {i j n : Nat} {d : D}
theorem v_seq : dSeq t u E δ = t { E with nx := u E } δ := rfl
theorem v_next : dNext E δ = E.nx δ := rfl
theorem v_ret : dRet td E δ = td δ E.rt := rfl
theorem v_brk : dBrk E δ = E.bk δ := rfl
theorem v_drop : dDrop td E δ = td δ fun _ _ δ' => E.nx δ' := rfl
theorem v_if : dIfS tt t u E δ = tt δ fun b δ' => if b = true then t E δ' else u E δ' := rfl
theorem v_set : dSet i td E δ = td δ fun b d δ' => setW i (rsl b d) δ' E.nx := rfl
theorem v_c : dC d δ Q = Q false d δ := rfl
theorem v_var : dVar i δ Q = getK i δ fun s => varS s (fun d => Q false d δ) fun c => setK i (.fz c) δ fun δ' => Q false c δ' := by
  unfold dVar getK
  cases δ[i]? with
  | none => rfl
  | some s => cases s with
    | ob b c => cases b <;> rfl
    | _ => rfl
theorem v_mv : dMv i δ Q = getK i δ fun s => varS s (fun d => Q false d δ) fun c => setK i .no δ fun δ' => Q true c δ' := by
  unfold dMv getK
  cases δ[i]? with
  | none => rfl
  | some s => cases s with
    | ob b c => cases b <;> rfl
    | _ => rfl
variable {f : D → D → (Bool → D → Prop) → Prop}
theorem v_op : dOp f ta tb δ Q = ta δ fun _ x δ1 => tb δ1 fun _ y δ2 => f x y fun b d => Q b d δ2 := rfl
theorem v_opV : dOpV f i tb δ Q = getK i δ fun s => pkS s fun _ => tb δ fun _ y δ2 => getK i δ2 fun s => pkS s fun x => f x y fun b d => Q b d δ2 := by
  unfold dOpV; rw [peekS_eq]; simp only [peekK_eq]
theorem v_opW : dOpW f ta j δ Q = ta δ fun _ x δ1 => getK j δ1 fun s => pkS s fun y => f x y fun b d => Q b d δ1 := by
  unfold dOpW; simp only [peekK_eq]
theorem v_test : dTest td δ QT = td δ fun _ d δ' => blK d fun c => QT c δ' := by unfold dTest; simp only [blK_eq]
theorem v_not : dNot tt δ QT = tt δ fun c δ' => QT (!c) δ' := rfl
theorem v_and : dAnd tt tu δ QT = tt δ fun c δ' => if c = true then tu δ' QT else QT false δ' := rfl
theorem v_or : dOr tt tu δ QT = tt δ fun c δ' => if c = true then QT true δ' else tu δ' QT := rfl
theorem v_andV : dAndV ta tb δ Q = ta δ fun _ x δ' => blK x fun c => if c = true then tb δ' Q else Q false (.bl false) δ' := by unfold dAndV; simp only [blK_eq]
theorem v_orV : dOrV ta tb δ Q = ta δ fun _ x δ' => blK x fun c => if c = true then Q false (.bl true) δ' else tb δ' Q := by unfold dOrV; simp only [blK_eq]
theorem v_neg : dNeg ta δ Q = ta δ fun _ x δ' => intK x fun i => Q false (.int (-i)) δ' := by unfold dNeg; simp only [intK_eq]
theorem v_nil : dNil δ QL = QL [] δ := rfl
theorem v_cons : dCons td ul δ QL = td δ fun _ d δ' => ul δ' fun ds δ'' => QL (d :: ds) δ'' := rfl
theorem v_tup : dTup ul δ Q = ul δ fun ds δ' => ds.length ≤ sizeLine ∧ Q false (.tup ds) δ' := rfl
theorem v_lst : dLst ul δ Q = ul δ fun ds δ' => ds.length ≤ sizeLine ∧ Q true (.lst ds) δ' := rfl
variable {fc : List D → (Bool → D → Prop) → Prop} {fm : D → List D → (D → D → Prop) → Prop}
theorem v_CB : dCB fc ul δ Q = ul δ fun ds δ' => fc ds fun b d => Q b d δ' := rfl
theorem v_CBV : dCBV fc i δ Q = getK i δ fun s => pkS s fun d => fc [d] fun b d => Q b d δ := by unfold dCBV; rw [peekK_eq]
def isLK (d : D) (P : Prop) : Prop := match d with | .lst _ => P | _ => False
theorem isLK_e {xs : List D} {P : Prop} : isLK (.lst xs) P = P := rfl
theorem v_mt : dMt fm i ul δ Q = getK i δ fun s => pkS s fun d => isLK d (ul δ fun ds δ' => getK i δ' fun s => obK s fun fl c => fm c ds fun c' d => setK i (.ob fl c') δ' fun δ'' => Q false d δ'') := by
  unfold dMt
  simp only [obK_eq, setK]
  unfold peek getK
  cases δ[i]? with
  | none => simp
  | some s => cases s with
    | no => simp [pkS]
    | sc K ns => simp [pkS]
    | fz d => cases d <;> simp [pkS, isLK, isL]
    | ob b d => cases d <;> simp [pkS, isLK, isL]
theorem v_gN : dgN i d δ QS = setW i (.fz d) δ QS := rfl
theorem v_gTup3 {a b c : D} : dgTup 3 gs (.tup [a, b, c]) δ QS = gs [a, b, c] δ QS := by simp [dgTup]
theorem v_gCons {r : List D} : dgCons g gs (d :: r) δ QS = g d δ fun δ' => gs r δ' QS := propext ⟨fun ⟨_, _, e, h⟩ => by cases e; exact h, fun h => ⟨_, _, rfl, h⟩⟩
theorem v_gNil : dgNil [] δ QS = QS δ := by simp [dgNil]
theorem v_asg : dAsg td g E δ = td δ fun _ d δ' => g d δ' E.nx := rfl
theorem v_setL : dSetL i ti tv E δ = tv δ fun _ v δ1 => getK i δ1 fun s => pkS s fun _ => ti δ1 fun _ y δ2 => getK i δ2 fun s => obK s fun fl c => lstK c fun xs => intK y fun k => ∃ j, ixN xs.length k = some j ∧ setK i (.ob fl (.lst (xs.set j v))) δ2 E.nx := by
  unfold dSetL
  simp only [peekS_eq]
  have key : ∀ (δ2 : List Slot) (y v : D), (∃ fl xs k j, δ2[i]? = some (.ob fl (.lst xs)) ∧ y = .int k ∧ ixN xs.length k = some j ∧ E.nx (δ2.set i (.ob fl (.lst (xs.set j v))))) = (getK i δ2 fun s => obK s fun fl c => lstK c fun xs => intK y fun k => ∃ j, ixN xs.length k = some j ∧ setK i (.ob fl (.lst (xs.set j v))) δ2 E.nx) := by
    intro δ2 y v
    simp only [← obK_eq, ← lstK_eq, ← intK_eq, setK]
    apply propext
    constructor
    · rintro ⟨fl, xs, k, j, e, rfl, h1, h2⟩; exact ⟨fl, _, e, xs, rfl, k, rfl, j, h1, h2⟩
    · rintro ⟨fl, _, e, xs, rfl, k, rfl, j, h1, h2⟩; exact ⟨fl, xs, k, j, e, rfl, h1, h2⟩
  simp only [key]
theorem v_iList : diList td δ QL = td δ fun _ d δ' => lstK d fun ds => QL ds δ' := by unfold diList; simp only [lstK_eq]
def int1K (ds : List D) (k : Int → Prop) : Prop := match ds with | [.int j] => k j | _ => False
theorem int1K_e {j : Int} {k : Int → Prop} : int1K [.int j] k = k j := rfl
theorem v_iRng1 : diRng1 ul δ QL = ul δ fun ds δ' => int1K ds fun j => -(2 ^ 62) ≤ j ∧ j < 2 ^ 62 ∧ QL (rngD 0 j.toNat) δ' := by
  unfold diRng1
  congr 1
  funext ds δ'
  apply propext
  constructor
  · rintro ⟨j, rfl, h⟩; exact h
  · intro h
    unfold int1K at h
    split at h
    · exact ⟨_, rfl, h⟩
    · exact h.elim
inductive Beh (Q : Bool → D → List Slot → Prop) : Type | mk
def hold (R : RD) (Q : Bool → D → List Slot → Prop) (_ : Beh Q) (δ : List Slot) : Prop := R δ Q
variable {R : RD}
theorem v_call : dCall R ul δ Q = ul δ fun ds δ' => hold R (fun b d _ => Q b d δ') .mk (ds.map .fz) := rfl
theorem v_aNil : daNil δ QA = QA [] δ := rfl
theorem v_aV : daV td ua δ QA = td δ fun _ d δ' => ua δ' fun os δ'' => QA (some d :: os) δ'' := rfl
theorem v_aO : daO ua δ QA = ua δ fun os δ'' => QA (none :: os) δ'' := rfl
theorem v_callIO : dCallIO R i ua δ Q = getK i δ fun s => pkS s fun _ => ua δ fun os δ' => getK i δ' fun s => obK s fun fl c => (os.filter Option.isNone).length = 1 ∧ hold R (fun b d δ2 => ioK δ2 fun c' => setK i (.ob fl c') δ' fun δ'' => Q b d δ'') .mk (os.map (argSlot c)) := by
  unfold dCallIO hold
  rw [peekS_eq]
  simp only [obK_eq, ioK_eq, setK]
theorem v_oN : doN δ QO = QO none δ := rfl
theorem v_oS : doS td δ QO = td δ fun _ d δ' => intK d fun i => QO (some i) δ' := by unfold doS; simp only [intK_eq]
theorem v_slLV : dSlLV i l h δ Q = getK i δ fun s => pkS s fun _ => l δ fun lo δ2 => h δ2 fun hi δ3 => getK i δ3 fun s => pkS s fun d => lstK d fun xs => Q true (.lst (cutD xs lo hi)) δ3 := by
  unfold dSlLV
  rw [peekS_eq]
  have key : ∀ (δ3 : List Slot) lo hi, (∃ xs, peek δ3 i = some (.lst xs) ∧ Q true (.lst (cutD xs lo hi)) δ3) = (getK i δ3 fun s => pkS s fun d => lstK d fun xs => Q true (.lst (cutD xs lo hi)) δ3) := by
    intro δ3 lo hi
    simp only [← peekK_eq, ← lstK_eq]
    apply propext
    constructor
    · rintro ⟨xs, e, h⟩; exact ⟨_, e, xs, rfl, h⟩
    · rintro ⟨_, e, xs, rfl, h⟩; exact ⟨xs, e, h⟩
  simp only [key]
theorem v_slC {K : PySem.W.Frag} : dSlC K i l h δ Q = getK i δ fun s => scK K s fun ns => l δ fun lo δ2 => h δ2 fun hi δ3 => Q true (.lst (cutD (ns.map .int) lo hi)) δ3 := by
  unfold dSlC getK scK
  cases δ[i]? <;> simp
theorem v_dict0 : dDict0 δ Q = Q true (.dct []) δ := rfl
theorem v_dget : dDGetV i ti δ Q = getK i δ fun s => pkS s fun _ => ti δ fun _ y δ' => getK i δ' fun s => pkS s fun c => dctK c fun kds => strK y fun k => ∃ d, getS kds k = some d ∧ Q false d δ' := by
  unfold dDGetV
  rw [peekS_eq]
  have key : ∀ (δ' : List Slot) (y : D), (∃ kds k d, peek δ' i = some (.dct kds) ∧ y = .str k ∧ getS kds k = some d ∧ Q false d δ') = (getK i δ' fun s => pkS s fun c => dctK c fun kds => strK y fun k => ∃ d, getS kds k = some d ∧ Q false d δ') := by
    intro δ' y
    simp only [← peekK_eq, ← dctK_eq, ← strK_eq]
    apply propext
    constructor
    · rintro ⟨kds, k, d, e, rfl, h1, h2⟩; exact ⟨_, e, kds, rfl, k, rfl, d, h1, h2⟩
    · rintro ⟨_, e, kds, rfl, k, rfl, d, h1, h2⟩; exact ⟨kds, k, d, e, rfl, h1, h2⟩
  simp only [key]
theorem v_dput : dDPut i ti tv E δ = tv δ fun _ v δ1 => getK i δ1 fun s => pkS s fun _ => ti δ1 fun _ y δ2 => getK i δ2 fun s => obK s fun fl c => dctK c fun kds => strK y fun k => kds.length < sizeLine ∧ setK i (.ob fl (.dct (putS kds k v))) δ2 E.nx := by
  unfold dDPut
  simp only [peekS_eq]
  have key : ∀ (δ2 : List Slot) (y v : D), (∃ fl kds k, δ2[i]? = some (.ob fl (.dct kds)) ∧ y = .str k ∧ kds.length < sizeLine ∧ E.nx (δ2.set i (.ob fl (.dct (putS kds k v))))) = (getK i δ2 fun s => obK s fun fl c => dctK c fun kds => strK y fun k => kds.length < sizeLine ∧ setK i (.ob fl (.dct (putS kds k v))) δ2 E.nx) := by
    intro δ2 y v
    simp only [← obK_eq, ← dctK_eq, ← strK_eq, setK]
    apply propext
    constructor
    · rintro ⟨fl, kds, k, e, rfl, h⟩; exact ⟨fl, _, e, kds, rfl, k, rfl, h⟩
    · rintro ⟨fl, _, e, kds, rfl, k, rfl, h⟩; exact ⟨fl, kds, k, e, rfl, h⟩
  simp only [key]
variable {x y : Int} {z z' : Str} {xs ys : List D} {b b' : Bool}
theorem v_I {g : Int → Int → D} : fI g (.int x) (.int y) Q2 = Q2 false (g x y) := by simp [fI]
theorem v_Ic {C : Int → Int → Prop} {g : Int → Int → D} : fIc C g (.int x) (.int y) Q2 = (C x y ∧ Q2 false (g x y)) := by simp [fIc]
theorem v_eq_ii : fEq (.int x) (.int y) Q2 = Q2 false (.bl (decide (x = y))) := by simp [fEq, sEq]
theorem v_eq_ss : fEq (.str z) (.str z') Q2 = Q2 false (.bl (decide (z = z'))) := by simp [fEq, sEq]
theorem v_ne_ii : fNe (.int x) (.int y) Q2 = Q2 false (.bl (!decide (x = y))) := by simp [fNe, sEq]
theorem v_ne_ss : fNe (.str z) (.str z') Q2 = Q2 false (.bl (!decide (z = z'))) := by simp [fNe, sEq]
theorem v_ne_bb : fNe (.bl b) (.bl b') Q2 = Q2 false (.bl (!decide (b = b'))) := by simp [fNe, sEq]
theorem v_cat : fCat (.lst xs) (.lst ys) Q2 = (xs.length + ys.length ≤ sizeLine ∧ Q2 true (.lst (xs ++ ys))) := by simp [fCat]
theorem v_ixL : fIxL (.lst xs) (.int x) Q2 = ∃ d, atI xs x = some d ∧ Q2 false d := by simp [fIxL]
theorem v_ixT0 {a : D} {r : List D} : fIxT (.tup (a :: r)) (.int 0) Q2 = Q2 false a := by simp [fIxT, atI0]
theorem v_ixT1 {a b : D} {r : List D} : fIxT (.tup (a :: b :: r)) (.int 1) Q2 = Q2 false b := by simp [fIxT, atI1]
theorem v_ixT2 {a b c : D} {r : List D} : fIxT (.tup (a :: b :: c :: r)) (.int 2) Q2 = Q2 false c := by simp [fIxT, atI2]
theorem v_eqL0 : fEqL (.lst xs) (.lst []) Q2 = Q2 false (.bl xs.isEmpty) := by
  cases xs with
  | nil => simp [fEqL, eqbL, depL]
  | cons a r => simp [fEqL]
theorem v_neL0 : fNeL (.lst xs) (.lst []) Q2 = Q2 false (.bl (!xs.isEmpty)) := by
  cases xs with
  | nil => simp [fNeL, eqbL, depL]
  | cons a r => simp [fNeL]
theorem map_str_inj {ks ks' : List Str} (h : ks.map D.str = ks'.map D.str) : ks = ks' := by
  induction ks generalizing ks' with
  | nil => cases ks' with
    | nil => rfl
    | cons a r => simp at h
  | cons a r ih => cases ks' with
    | nil => simp at h
    | cons a' r' => simp at h; rw [h.1, ih h.2]
theorem v_inL {ks : List Str} : fInL (.str z) (.lst (ks.map .str)) Q2 = Q2 false (.bl (decide (z ∈ ks))) := by
  apply propext; constructor
  · rintro ⟨k, ks', e1, e2, h⟩; cases e1; have e2 := map_str_inj (D.lst.inj e2); subst e2; exact h
  · intro h; exact ⟨z, ks, rfl, rfl, h⟩
theorem v_notInL {ks : List Str} : fNotInL (.str z) (.lst (ks.map .str)) Q2 = Q2 false (.bl (!decide (z ∈ ks))) := by
  apply propext; constructor
  · rintro ⟨k, ks', e1, e2, h⟩; cases e1; have e2 := map_str_inj (D.lst.inj e2); subst e2; exact h
  · intro h; exact ⟨z, ks, rfl, rfl, h⟩
theorem v_inT2 {a b : Str} : fInT (.str z) (.tup [.str a, .str b]) Q2 = Q2 false (.bl (decide (z = a ∨ z = b))) := by
  apply propext; constructor
  · rintro ⟨k, ks', e1, e2, h⟩; cases e1; have e2 := map_str_inj (ks := [a, b]) (D.tup.inj e2); subst e2; simpa using h
  · intro h; exact ⟨z, [a, b], rfl, rfl, by simpa using h⟩
theorem v_inT3 {a b c : Str} : fInT (.str z) (.tup [.str a, .str b, .str c]) Q2 = Q2 false (.bl (decide (z = a ∨ z = b ∨ z = c))) := by
  apply propext; constructor
  · rintro ⟨k, ks', e1, e2, h⟩; cases e1; have e2 := map_str_inj (ks := [a, b, c]) (D.tup.inj e2); subst e2; simpa using h
  · intro h; exact ⟨z, [a, b, c], rfl, rfl, by simpa using h⟩
theorem v_lenL : fLenL [.lst xs] Q2 = Q2 false (.int xs.length) := by simp [fLenL]
theorem v_listOf : fListOf [.lst xs] Q2 = Q2 true (.lst xs) := by simp [fListOf]
theorem v_int1b : fInt1 [.bl b] Q2 = Q2 false (.int (if b then 1 else 0)) := by simp [fInt1]
theorem v_append : fAppend (.lst xs) [d] QM = (xs.length < sizeLine ∧ QM (.lst (xs ++ [d])) .non) := by simp [fAppend]
theorem v_extend : fExtend (.lst xs) [.lst ys] QM = (xs.length + ys.length ≤ sizeLine ∧ QM (.lst (xs ++ ys)) .non) := by simp [fExtend]
theorem v_pop : fPop (.lst xs) [] QM = ∃ d, xs[xs.length - 1]? = some d ∧ QM (.lst xs.dropLast) d := by simp [fPop]
theorem v_popAt : fPopAt (.lst xs) [.int x] QM = (-(2 ^ 63) ≤ x ∧ x < 2 ^ 63 ∧ ∃ k, seqIndex? x xs.length = some k ∧ ∃ d, xs[k]? = some d ∧ QM (.lst (xs.eraseIdx k)) d) := by simp [fPopAt]
theorem rsl_t : rsl true d = .ob false d := rfl
theorem rsl_f : rsl false d = .fz d := rfl
theorem v_is_bl_bool : fIsI [(.bl b), .ty "bool"] Q2 = Q2 false (.bl true) := by
  apply propext; constructor
  · rintro ⟨_, _, e, _, _, h⟩; cases e; exact h
  · exact fun h => ⟨_, _, rfl, (show ("bool" : String) ≠ "type" by decide), by decide, h⟩
theorem v_is_str_str : fIsI [(.str z), .ty "str"] Q2 = Q2 false (.bl true) := by
  apply propext; constructor
  · rintro ⟨_, _, e, _, _, h⟩; cases e; exact h
  · exact fun h => ⟨_, _, rfl, (show ("str" : String) ≠ "type" by decide), by decide, h⟩
theorem v_is_lst_list : fIsI [(.lst xs), .ty "list"] Q2 = Q2 false (.bl true) := by
  apply propext; constructor
  · rintro ⟨_, _, e, _, _, h⟩; cases e; exact h
  · exact fun h => ⟨_, _, rfl, (show ("list" : String) ≠ "type" by decide), by decide, h⟩
end
end VL
namespace VL
open PySem L2
def fAll : List D → (Bool → D → Prop) → Prop := fun ds Q => ∃ bs : List Bool, ds = [.lst (bs.map .bl)] ∧ Q false (.bl (bs.all id))
def fAny : List D → (Bool → D → Prop) → Prop := fun ds Q => ∃ bs : List Bool, ds = [.lst (bs.map .bl)] ∧ Q false (.bl (bs.any id))
def fSum : List D → (Bool → D → Prop) → Prop := fun ds Q => ∃ ns : List Int, ds = [.lst (ns.map .int)] ∧ ns.length ≤ 1000 ∧ (∀ x ∈ ns, 0 ≤ x ∧ x < 4294967296) ∧ Q false (.int ns.sum)
theorem cs_all : CallS (fun xs H Q => ∃ p, xs = [.ref p] ∧ ∃ bs : List Bool, H p = some (.lst (bs.map V.bl)) ∧ Q (.bl (bs.all id)) H) fAll := by
  intro io H0 F0 F δ σ H xs vs Q Qd I px q k
  obtain ⟨bs, rfl, q⟩ := q
  obtain ⟨v, rfl, pk⟩ := pks1 px
  obtain ⟨a, us, rfl, h1, r⟩ := pk.lst I
  rw [r.bls] at h1
  exact ⟨a, rfl, bs, h1, k false _ _ F H (Same.refl _) I.pB q⟩
theorem cs_any : CallS (fun xs H Q => ∃ p, xs = [.ref p] ∧ ∃ bs : List Bool, H p = some (.lst (bs.map V.bl)) ∧ Q (.bl (bs.any id)) H) fAny := by
  intro io H0 F0 F δ σ H xs vs Q Qd I px q k
  obtain ⟨bs, rfl, q⟩ := q
  obtain ⟨v, rfl, pk⟩ := pks1 px
  obtain ⟨a, us, rfl, h1, r⟩ := pk.lst I
  rw [r.bls] at h1
  exact ⟨a, rfl, bs, h1, k false _ _ F H (Same.refl _) I.pB q⟩
theorem cs_sum : CallS (fun xs H Q => ∃ p, xs = [.ref p] ∧ ∃ ns : List Int, H p = some (.lst (ns.map V.int)) ∧ ns.length ≤ 1000 ∧ (∀ x ∈ ns, 0 ≤ x ∧ x < 4294967296) ∧ Q (.int ns.sum) H) fSum := by
  intro io H0 F0 F δ σ H xs vs Q Qd I px q k
  obtain ⟨ns, rfl, h2, h3, q⟩ := q
  obtain ⟨v, rfl, pk⟩ := pks1 px
  obtain ⟨a, us, rfl, h1, r⟩ := pk.lst I
  rw [r.ints] at h1
  exact ⟨a, rfl, ns, h1, h2, h3, k false _ _ F H (Same.refl _) I.pI q⟩
section
variable {X : Cx}
def diRev (td : TEd) : TLd := fun δ Q => td δ fun _ d δ' => ∃ ds, d = .lst ds ∧ Q ds.reverse δ'
theorem itOk_rev {F : Hp} {a : Addr} {vs : List V} {ds : List D} (h : F a = some (.lst vs)) (r : Reps F ds vs) : ItOk (Itv a vs.length) F ds.reverse := by
  intro io H0 F0 F' δ σ H' sf I i
  have hH : H' a = some (.lst vs) := I.sub _ _ (sf _ _ h)
  have hl := r.len
  refine ⟨fun d e => ?_, fun e => ?_⟩
  · obtain ⟨v, ev, rv⟩ := r.rev.get e
    have hi : i < vs.length := by
      have := (List.getElem?_eq_some_iff.mp ev).1
      simpa using this
    rw [List.getElem?_reverse hi] at ev
    refine ⟨⟨vs, v, hH, hi, ev⟩, fun x H'' y => ?_⟩
    obtain ⟨e1, y⟩ := y
    subst e1
    have := y vs hH
    rw [ev] at this
    cases this
    exact ⟨F', Same.refl _, I, Rep.mono sf _ _ rv⟩
  · rw [e, List.length_reverse, hl]; exact rfl
theorem di_rev {tg l : Expr} {dl : TEd} {p2 p3 : Pos} (hgR : Gl X "reversed") (hmR : X.mg "reversed" = none) (hl : DE X l dl) (hs2 : starEach [l] X.env = [(false, eval l X.env)] := by rfl) : DI X tg (.Call (.Name "reversed" p2) [l] [] p3) (diRev dl) := by
  obtain ⟨t, p, s⟩ := hl
  refine ⟨_, pi_rev hgR hmR p hs2, fun io H0 F0 F δ σ H R Qd I q k => s.fz I q fun d v δ' F' H' sf I' r q' => ?_⟩
  obtain ⟨ds, rfl, q'⟩ := q'
  obtain ⟨a, vs, rfl, h1, r1⟩ := r
  exact ⟨a, rfl, vs, I'.sub _ _ h1, k _ ds.reverse δ' F' H' sf I' (itOk_rev h1 r1) q'⟩
def dDIn (neg : Bool) (ti td : TEd) : TEd := fun δ Q => ti δ fun _ y δ1 => td δ1 fun _ x δ2 => ∃ kds k, x = .dct kds ∧ y = .str k ∧ Q false (.bl (if neg then !(getS kds k).isSome else (getS kds k).isSome)) δ2
theorem sim_dinE {ti tx : TE} {td dx : TEd} (si : Sim ti td) (sx : Sim tx dx) : Sim (tDIn ti tx) (dDIn false td dx) ∧ Sim (tDNotIn ti tx) (dDIn true td dx) := by
  refine ⟨fun io H0 F0 F δ σ H Q Qd I q k => si.fz I q fun d v δ1 F1 H1 f1 I1 r1 q1 => sx.fz I1 q1 fun x u δ2 F2 H2 f2 I2 r2 q2 => ?_, fun io H0 F0 F δ σ H Q Qd I q k => si.fz I q fun d v δ1 F1 H1 f1 I1 r1 q1 => sx.fz I1 q1 fun x u δ2 F2 H2 f2 I2 r2 q2 => ?_⟩ <;>
  · obtain ⟨kds, key, rfl, rfl, q2⟩ := q2
    obtain ⟨a, kvs, rfl, h1, rk⟩ := r2
    cases (show v = V.str key from r1)
    have e : (valV kvs (Sum.inr key)).isSome = (getS kds key).isSome := by
      cases eg : getS kds key with
      | none => rw [(rk.val key).2 eg]; rfl
      | some d => obtain ⟨w, ew, _⟩ := (rk.val key).1 d eg; rw [ew]; rfl
    refine ⟨a, _, rfl, DGet.o (I2.sub _ _ h1), k false _ _ δ2 F2 H2 (f1.trans f2) (I2.pushF ?_) q2⟩
    rw [e]; rfl
theorem dt_din {a e : Expr} {ti td : TEd} {pos : Pos} (hu : X.A.units + 100 < cLine) (hi : DE X e ti) (ha : DE X a td) (hm : behindInMarks .In a = false := by rfl) : DT X (.Compare e [.In] [a] pos) (dTest (dDIn false ti td)) := by
  obtain ⟨t, pi, si⟩ := hi; obtain ⟨t', pa, sa⟩ := ha; exact ⟨_, pt_cmp (pc_din (by omega) pi pa) hm, simT_val (sim_dinE si sa).1⟩
def dIxC (K : PySem.W.Frag) (i : Nat) (ti : TEd) : TEd := fun δ Q => ∃ ns, δ[i]? = some (.sc K ns) ∧ ti δ fun _ y δ1 => ∃ j n, y = .int j ∧ atI ns j = some n ∧ Q false (.int n) δ1
theorem atI_map {α β : Type} (f : α → β) {xs : List α} {i : Int} {x : α} (h : atI xs i = some x) : atI (xs.map f) i = some (f x) := by
  unfold atI at h ⊢
  rw [List.length_map]
  obtain ⟨j, e, h⟩ := Option.bind_eq_some_iff.mp h
  rw [e]; simp [h]
theorem de_ixC {K : PySem.W.Frag} (hK : X.K = K) {i : Nat} {x : Str} {p pos : Pos} {ie : Expr} {ti : TEd} (ho : PE X (.Name x p) (tVar i)) (hi : DE X ie ti) (hs : NoSl ie := by intro _ _; rfl) : DE X (.Subscript (.Name x p) ie pos) (dIxC K i ti) := by
  subst hK
  obtain ⟨t, pi, si⟩ := hi
  refine ⟨_, pe_ix ix_list ho pi hs, fun io H0 F0 F δ σ H Q Qd I q k => ?_⟩
  obtain ⟨ns, e, q⟩ := q
  obtain ⟨a, ea, sq⟩ := I.get i _ e
  refine ⟨.ref a, getD_some ea, si.fz I q fun y u δ1 F1 H1 f1 I1 r1 q1 => ?_⟩
  obtain ⟨j, n, rfl, hj, q1⟩ := q1
  cases (show u = V.int j from r1)
  exact ⟨a, _, j, _, rfl, rfl, I1.sub.seq (f1.seq sq), atI_map V.int hj, k false _ _ δ1 F1 H1 f1 I1.pI q1⟩
def dLenC (K : PySem.W.Frag) (i : Nat) : TEd := fun δ Q => ∃ ns, δ[i]? = some (.sc K ns) ∧ Q false (.int ns.length) δ
theorem de_lenC {K : PySem.W.Frag} (hK : X.K = K) {i : Nat} {y : Str} {p p' pos : Pos} (hg : Gl X "len") (hm : X.mg "len" = none) (ha : PE X (.Name y p') (tVar i))
    (he : starEach [.Name y p'] X.env = [(false, eval (.Name y p') X.env)] := by rfl) (hpl : (backTo pos (starEach [] X.env)).any (·.1) = false := by rfl) : DE X (.Call (.Name "len" p) [.Name y p'] [] pos) (dLenC K i) := by
  subst hK
  refine ⟨_, pe_callB call_len_seq hg hm boot_len (pa_cons ha pa_nil he) (by decide) (by decide) he hpl, fun io H0 F0 F δ σ H Q Qd I q k => ?_⟩
  obtain ⟨ns, e, q⟩ := q
  obtain ⟨a, ea, sq⟩ := I.get i _ e
  refine ⟨.ref a, getD_some ea, a, _, rfl, .inl (I.sub.seq sq), ?_⟩
  rw [List.length_map]
  exact k false _ _ δ F H (Same.refl _) I.pI q
def fEqT : D → D → (Bool → D → Prop) → Prop := fun x y Q => ∃ xs, x = .tup xs ∧ y = .tup xs ∧ eqbL xs = true ∧ depL xs ≤ 90 ∧ Q false (.bl true)
theorem os_eqT (hu : X.A.units + 100 < cLine) : OpS (fun x y H Q => ∃ n a b, x = .ref a ∧ y = .ref b ∧ ∃ xs, H a = some (.tup xs) ∧ ∃ ys, H b = some (.tup ys) ∧ xs.length = ys.length ∧ (∀ (i : Nat) x y, xs[i]? = some x → ys[i]? = some y → EqT H n x y) ∧ X.A.units + n + 1 < cLine ∧ Q (.bl true) H) fEqT := by
  intro io H0 F0 F δ σ H x y v u Q Qd I px py q k
  obtain ⟨xs, rfl, rfl, he, hd, q⟩ := q
  obtain ⟨a, vs, rfl, h1, r1⟩ := px.tup I
  obtain ⟨b, us, rfl, h2, r2⟩ := py.tup I
  exact ⟨90, a, b, rfl, rfl, vs, h1, us, h2, by rw [← r1.len, ← r2.len], eqTs_of I.sub xs 90 vs us he hd r1 r2, by omega, k false _ _ F H (Same.refl _) I.pB q⟩
end
def dCallC (R : RD) (i : Nat) (u : TLd) : TEd := fun δ Q => ∃ K ns, δ[i]? = some (.sc K ns) ∧ u δ fun ds δ' => δ'[i]? = some (.sc K ns) ∧ R (.sc K ns :: ds.map .fz) fun b d _ => Q b d δ'
section
variable {X : Cx} {CX : CXT} {k : Nat} {f : Addr} {fd : FuncData} {ps : List Str} {R : RD} {E : XK} {x y : Str} {p p' pos : Pos} {es : List Expr} {u : TLd} {i : Nat}
theorem de_callC (G : FnOk X.prog X.w X.K X.mg X.base CX k f fd ps (spD R)) (hr : Room k X.A) (hg : Gl X x) (hm : X.mg x = some (.ref f)) (hk : PySem.W.keepIn X.K (.ref f) = true) (hb : Binds X.K fd ps []) (hx : Passes CX X E)
    (hv : PE X (.Name y p') (tVar i)) (ha : DL X es u) (hdb : (x == ("__debug__" : Str)) = false := by decide) (hs : starEach (.Name y p' :: es) X.env = (false, eval (.Name y p') X.env) :: starEach es X.env := by rfl) (hpl : (backTo pos (starEach es X.env)).any (·.1) = false := by rfl) :
    DE X (.Call (.Name x p) (.Name y p' :: es) [] pos) (dCallC R i u) := by
  obtain ⟨t, pt, s⟩ := ha
  refine ⟨_, pe_call G hr hg hm hk hb .nil hx (pa_cons hv pt hs) hdb hs hpl, fun io H0 F0 F δ σ H Q Qd I q kk => ?_⟩
  obtain ⟨K, ns, e0, q⟩ := q
  obtain ⟨a, ea, sq⟩ := I.get i _ e0
  refine ⟨.ref a, getD_some ea, s io H0 F0 F δ σ H _ _ I q fun ds vs δ' F' H' sf I' r q' => ?_⟩
  obtain ⟨e1, q'⟩ := q'
  show spD R ((.ref a :: vs) ++ []) H' Q E
  rw [List.append_nil]
  refine ⟨none, [none], F', .sc K ns :: ds.map .fz, _, fun p a e => by cases p <;> simp at e, (argsEI I'.sub r).push (s := .sc K ns) (v := .ref a) ⟨a, rfl, sf.seq sq⟩ (fun b c a e => by cases e), q', fun b d v δ2 F2 H2 C q2 => ?_⟩
  exact kk b d v δ' F2 H2 (sf.trans C.ext) (I'.back C) q2
end
section
variable {δ : List Slot} {Q : Bool → D → List Slot → Prop} {QL : List D → List Slot → Prop} {Q2 : Bool → D → Prop} {td ti : TEd} {ul : TLd} {i : Nat}
theorem v_iRev : diRev td δ QL = td δ fun _ d δ' => lstK d fun ds => QL ds.reverse δ' := by unfold diRev; simp only [lstK_eq]
theorem v_dinE {neg : Bool} : dDIn neg ti td δ Q = ti δ fun _ y δ1 => td δ1 fun _ x δ2 => dctK x fun kds => strK y fun k => Q false (.bl (if neg then !(getS kds k).isSome else (getS kds k).isSome)) δ2 := by
  unfold dDIn
  have key : ∀ (x y : D) (δ2 : List Slot), (∃ kds k, x = .dct kds ∧ y = .str k ∧ Q false (.bl (if neg then !(getS kds k).isSome else (getS kds k).isSome)) δ2) = (dctK x fun kds => strK y fun k => Q false (.bl (if neg then !(getS kds k).isSome else (getS kds k).isSome)) δ2) := by
    intro x y δ2
    simp only [← dctK_eq, ← strK_eq]
    apply propext
    constructor
    · rintro ⟨kds, k, rfl, rfl, h⟩; exact ⟨kds, rfl, k, rfl, h⟩
    · rintro ⟨kds, rfl, k, rfl, h⟩; exact ⟨kds, k, rfl, rfl, h⟩
  simp only [key]
theorem v_ixC {K : PySem.W.Frag} : dIxC K i ti δ Q = getK i δ fun s => scK K s fun ns => ti δ fun _ y δ1 => intK y fun j => ∃ n, atI ns j = some n ∧ Q false (.int n) δ1 := by
  unfold dIxC getK scK
  have key : ∀ (ns : List Int) (y : D) (δ1 : List Slot), (∃ j n, y = .int j ∧ atI ns j = some n ∧ Q false (.int n) δ1) = (intK y fun j => ∃ n, atI ns j = some n ∧ Q false (.int n) δ1) := by
    intro ns y δ1
    simp only [← intK_eq]
    apply propext
    constructor
    · rintro ⟨j, n, rfl, h⟩; exact ⟨j, rfl, n, h⟩
    · rintro ⟨j, rfl, n, h⟩; exact ⟨j, n, rfl, h⟩
  simp only [key]
  cases δ[i]? <;> simp
theorem v_lenC {K : PySem.W.Frag} : dLenC K i δ Q = getK i δ fun s => scK K s fun ns => Q false (.int ns.length) δ := by
  unfold dLenC getK scK
  cases δ[i]? <;> simp
def scA (s : Slot) (k : PySem.W.Frag → List Int → Prop) : Prop := match s with | .sc K ns => k K ns | _ => False
theorem v_scA {K : PySem.W.Frag} {ns : List Int} {k : PySem.W.Frag → List Int → Prop} : scA (.sc K ns) k = k K ns := rfl
theorem v_callC {R : RD} : dCallC R i ul δ Q = getK i δ fun s => scA s fun K ns => ul δ fun ds δ' => getK i δ' fun s' => s' = .sc K ns ∧ hold R (fun b d _ => Q b d δ') .mk (.sc K ns :: ds.map .fz) := by
  unfold dCallC getK hold
  have key : ∀ (K : PySem.W.Frag) (ns : List Int) (δ' : List Slot) (A : Prop), (δ'[i]? = some (.sc K ns) ∧ A) = (match δ'[i]? with | some s' => s' = .sc K ns ∧ A | none => False) := by
    intro K ns δ' A
    cases δ'[i]? <;> simp
  simp only [key]
  cases δ[i]? with
  | none => simp
  | some s =>
    cases s with
    | sc K ns =>
      apply propext
      constructor
      · rintro ⟨K', ns', e, h⟩; cases e; exact h
      · intro h; exact ⟨K, ns, rfl, h⟩
    | _ => simp [scA]
end
end VL
namespace L2
open PySem PySem.Spec PyProof.Rows PySem.SeqAt
end L2
namespace VL
open PySem L2
section
variable {Q2 : Bool → D → Prop} {x : Int} {ks : List Int}
end
end VL
namespace L2
open PySem
theorem inV_bls (k : Bool) (ks : List Bool) : inV (.bl k) (ks.map V.bl) = decide (k ∈ ks) := by
  unfold inV
  induction ks with
  | nil => simp
  | cons a r ih =>
    rw [List.map_cons, List.any_cons, ih, Bool.eq_iff_iff]
    simp [eqV, @eq_comm _ a k]
theorem flat_bls (ks : List Bool) : (ks.map V.bl).all flatV = true := by
  induction ks with
  | nil => rfl
  | cons a r ih => rw [List.map_cons, List.all_cons, ih]; rfl
end L2
namespace L2
open PySem PyProof.Rows
section
variable {X : Cx} {pos : Pos}
def tPar3 (i j k : Nat) (ta : TA) : TS := fun D σ H => ta σ H fun vs H1 => ∃ v w z, vs = [v, w, z] ∧ D.nx (((σ.set i (some v)).set j (some w)).set k (some z)) H1
theorem ps_par3 {i j k : Nat} {x y z : Str} {a b c : Expr} {ta : TA} {px py pz pt : Pos} {kt k2 pt2} (hc : X.calm = true) (hN : X.N.Nodup) (hi : X.N[i]? = some x) (hj : X.N[j]? = some y) (hk : X.N[k]? = some z) (hij : i ≠ j) (hik : i ≠ k) (hjk : j ≠ k)
    (hx : X.env.scope.names.lookup x = some .local) (hy : X.env.scope.names.lookup y = some .local) (hz : X.env.scope.names.lookup z = some .local) (ha : PA X [a, b, c] ta)
    (hw : swappedStores [.Tuple [.Name x px, .Name y py, .Name z pz] kt pt] (.Tuple [a, b, c] k2 pt2) X.env = pure (some [x, y, z]) := by rfl)
    (hs : swapsWithSole [.Tuple [.Name x px, .Name y py, .Name z pz] kt pt] (.Tuple [a, b, c] k2 pt2) pos.line X.env = pure false := by rfl) :
    PS X (.Assign [.Tuple [.Name x px, .Name y py, .Name z pz] kt pt] (.Tuple [a, b, c] k2 pt2) pos) (tPar3 i j k ta) := by
  intro pins s σ H D I h
  rw [exec_Assign_arm]
  refine wpAny_bind (wpAny_standAt ?_)
  rw [hs]
  refine wpAny_bind (wpAny_pure ?_)
  rw [if_neg (by decide)]
  refine wpAny_bind (Tuple_ (thn (ha _ pins s σ H _ I h) fun us s1 ⟨vs, H1, I1, r1, q1⟩ => ?_))
  obtain ⟨v, w, o, e1, q1⟩ := q1
  subst e1
  obtain ⟨u1, u2, u3, rfl, rv, rw', ro⟩ : ∃ u1 u2 u3, us = [u1, u2, u3] ∧ RelV v u1 ∧ RelV w u2 ∧ RelV o u3 := by
    cases r1 with
    | cons p q =>
      cases q with
      | cons p' q' =>
        cases q' with
        | cons p2 q2 =>
          cases q2
          exact ⟨_, _, _, rfl, p, p', p2⟩
  refine wpAny_newObj_type ?_ (by show 3 ≤ sizeLine; decide)
  have I2 : Inv X pins σ H1 { s1 with heap := s1.heap.push { cls := .type "tuple", data := .seq [u1, u2, u3].toArray } } := I1.kept (t' := s1.toks) fun b o e => Heap.get?_push_of_some _ e
  rw [hw]
  refine wpAny_bind (wpAny_pure ?_)
  show wpAny (model X.prog X.w) X.A (do rule "assign.swapped-stores"; let items ← unpackItems (.ref s1.heap.objs.size) 3 none; assignInOrder [fun v => bindName X.env z v, fun v => bindName X.env y v, fun v => bindName X.env x v] items.reverse; pure Flow.next) _ _ _
  refine wpAny_bind (wpAny_rule (wpAny_bind (unpackItems_tuple (items := #[u1, u2, u3]) (I.ok.hd hc) (IsTup.new s1.heap _) fun h' hx' => ?_)))
  have I3 := I2.kept (h' := h') (t' := s1.toks) fun b o e => hx' b o (Nat.ne_of_lt (Heap.lt_size e)) e
  show wpAny _ _ (assignInOrder [fun v => bindName X.env z v, fun v => bindName X.env y v, fun v => bindName X.env x v] [u3, u2, u1] >>= fun _ => pure Flow.next) _ _ _
  refine wpAny_bind (assignInOrder_cons (wpAny_bindName (store_ok I3 hN hk (.inl hz) ro (fun s2 I4 => ?_) (.inr hz))))
  refine assignInOrder_cons (wpAny_bindName (store_ok I4 hN hj (.inl hy) rw' (fun s3 I5 => ?_) (.inr hy)))
  refine assignInOrder_cons (wpAny_bindName (store_ok I5 hN hi (.inl hx) rv (fun s4 I6 => assignInOrder_nil (wpAny_pure ?_)) (.inr hx)))
  have e : ((σ.set k (some o)).set j (some w)).set i (some v) = ((σ.set i (some v)).set j (some w)).set k (some o) := by
    rw [List.set_comm _ _ (Ne.symm hjk), List.set_comm _ _ (Ne.symm hik), List.set_comm _ _ (Ne.symm hij)]
  rw [e] at I6
  exact ⟨_, H1, I6, q1⟩
end
end L2
namespace VL
open PySem L2
def dPar3 (i j k : Nat) (u : TLd) : TSd := fun E δ => u δ fun ds δ' => ∃ d1 d2 d3, ds = [d1, d2, d3] ∧ noIo δ' i ∧ noIo (δ'.set i (.fz d1)) j ∧ noIo ((δ'.set i (.fz d1)).set j (.fz d2)) k ∧ E.nx (((δ'.set i (.fz d1)).set j (.fz d2)).set k (.fz d3))
section
variable {X : Cx} {pos : Pos}
theorem ds_par3 {i j k : Nat} {x y z : Str} {a b c : Expr} {u : TLd} {px py pz pt : Pos} {kt k2 pt2} (hc : X.calm = true) (hN : X.N.Nodup) (hi : X.N[i]? = some x) (hj : X.N[j]? = some y) (hk : X.N[k]? = some z) (hij : i ≠ j) (hik : i ≠ k) (hjk : j ≠ k)
    (hx : X.env.scope.names.lookup x = some .local) (hy : X.env.scope.names.lookup y = some .local) (hz : X.env.scope.names.lookup z = some .local) (ha : DL X [a, b, c] u)
    (hw : swappedStores [.Tuple [.Name x px, .Name y py, .Name z pz] kt pt] (.Tuple [a, b, c] k2 pt2) X.env = pure (some [x, y, z]) := by rfl)
    (hs : swapsWithSole [.Tuple [.Name x px, .Name y py, .Name z pz] kt pt] (.Tuple [a, b, c] k2 pt2) pos.line X.env = pure false := by rfl) :
    DS X (.Assign [.Tuple [.Name x px, .Name y py, .Name z pz] kt pt] (.Tuple [a, b, c] k2 pt2) pos) (dPar3 i j k u) := by
  obtain ⟨t, pt', s⟩ := ha
  refine ⟨_, ps_par3 hc hN hi hj hk hij hik hjk hx hy hz pt' hw hs, fun io H0 F0 F δ σ H E Ed I q S => s io H0 F0 F δ σ H _ _ I q fun ds vs δ' F' H' sf I' r q' => ?_⟩
  obtain ⟨d1, d2, d3, rfl, n1, n2, n3, q'⟩ := q'
  obtain ⟨v1, r1, rfl, h1, v2, r2, rfl, h2, v3, r3, rfl, h3, h4⟩ := r
  cases (show r3 = [] from h4)
  obtain ⟨a1, b1⟩ := n1.ne
  obtain ⟨a2, b2⟩ := n2.ne
  obtain ⟨a3, b3⟩ := n3.ne
  have J1 := EI.setv (i := i) (b := false) (I'.pushF h1) a1 b1
  have J2 := EI.setv (i := j) (b := false) (J1.pushF h2) a2 b2
  have J3 := EI.setv (i := k) (b := false) (J2.pushF h3) a3 b3
  exact ⟨v1, v2, v3, rfl, S.nx F' _ _ H' sf J3 q'⟩
end
def lst3K (ds : List D) (k : D → D → D → Prop) : Prop := match ds with | [x, y, z] => k x y z | _ => False
theorem v_lst3 {x y z : D} {k : D → D → D → Prop} : lst3K [x, y, z] k = k x y z := rfl
theorem v_par3 {i j k : Nat} {u : TLd} {E : EndsD} {δ : List Slot} : dPar3 i j k u E δ = u δ fun ds δ' => lst3K ds fun d1 d2 d3 => setW i (.fz d1) δ' fun δ1 => setW j (.fz d2) δ1 fun δ2 => setW k (.fz d3) δ2 E.nx := by
  unfold dPar3 setW
  congr 1
  funext ds δ'
  apply propext
  constructor
  · rintro ⟨d1, d2, d3, rfl, h⟩; exact h
  · intro h
    unfold lst3K at h
    split at h
    · exact ⟨_, _, _, rfl, h⟩
    · exact h.elim
def fRep : D → D → (Bool → D → Prop) → Prop := fun x y Q => ∃ (xs : List D) (k : Int), x = .lst xs ∧ y = .int k ∧ -(2 ^ 63) ≤ k ∧ k < 2 ^ 63 ∧ xs.length * k.toNat ≤ sizeLine ∧ Q true (.lst (List.replicate k.toNat xs).flatten)
theorem Reps.rep {F : Hp} {ds : List D} {vs : List V} (r : Reps F ds vs) : ∀ k : Nat, Reps F (List.replicate k ds).flatten (List.replicate k vs).flatten
  | 0 => rfl
  | k + 1 => by
    rw [List.replicate_succ, List.replicate_succ, List.flatten_cons, List.flatten_cons]
    exact r.app (Reps.rep r k)
theorem os_rep : OpS rRep fRep := by
  intro io H0 F0 F δ σ H x y v u Q Qd I px py q k
  obtain ⟨xs, n, rfl, rfl, h1, h2, h3, q⟩ := q
  obtain ⟨a, vs, rfl, ha, r1⟩ := px.lst I
  cases py.int
  exact ⟨a, n, vs, rfl, rfl, ha, h1, h2, by rw [← r1.len]; exact h3, fun p hp => k true _ _ F _ (Same.refl _) (I.newL hp (r1.rep n.toNat)) q⟩
def fInB : D → D → (Bool → D → Prop) → Prop := fun x y Q => ∃ (k : Bool) (ks : List Bool), x = .bl k ∧ y = .lst (ks.map .bl) ∧ Q false (.bl (decide (k ∈ ks)))
theorem os_inB : OpS (fun x y H Q => ∃ p, y = .ref p ∧ ∃ xs, H p = some (.lst xs) ∧ flatV x = true ∧ xs.all flatV = true ∧ Q (.bl (inV x xs)) H) fInB := by
  intro io H0 F0 F δ σ H x y v u Q Qd I px py q k
  obtain ⟨s, ks, rfl, rfl, q⟩ := q
  obtain ⟨b, us, rfl, h2, r2⟩ := py.lst I
  cases px.bl
  cases r2.bls
  refine ⟨b, rfl, _, h2, rfl, flat_bls ks, k false _ _ F H (Same.refl _) (I.pushF ?_) q⟩
  rw [inV_bls]; rfl
end VL
namespace L2
open PySem PySem.Spec PyProof.Rows PySem.W
def tKeys (to : TE) : TE := fun σ H Q => to σ H fun x H1 => ∃ a, x = .ref a ∧ ∃ kvs, Rd H1 a (.dK kvs) ∧ kvs.length ≤ sizeLine ∧ ∀ l, H1 l = none → Q (.ref l) (upd H1 l (.lst (kvs.map fun kv => kV kv.1)))
theorem Vals.of_items {xs : List V} {us : List Value} (hl : us.length = xs.length) (h : ∀ (i : Nat) x u, xs[i]? = some x → us[i]? = some u → RelV x u) : Vals xs us := by
  induction xs generalizing us with
  | nil => cases us with
    | nil => exact .nil
    | cons a r => simp at hl
  | cons x xs ih => cases us with
    | nil => simp at hl
    | cons u us => exact .cons (h 0 x u rfl rfl) (ih (by simpa using hl) fun i x u e1 e2 => h (i + 1) x u (by simpa using e1) (by simpa using e2))
theorem pe_listKeys {X : Cx} {o : Expr} {to : TE} {p1 pos apos cpos : Pos} (hc : X.calm = true) (hgL : Gl X "list") (hmL : X.mg "list" = none) (ho : PE X o to)
    (hbase : attributeBase o "keys" X.env (eval o X.env) = eval o X.env := by rfl) (hline : (apos.endLine == cpos.line) = true := by rfl)
    (hs1 : starEach [.Call (.Attribute o "keys" apos) [] [] cpos] X.env = [(false, eval (.Call (.Attribute o "keys" apos) [] [] cpos) X.env)] := by rfl) :
    PE X (.Call (.Name "list" p1) [.Call (.Attribute o "keys" apos) [] [] cpos] [] pos) (tKeys to) := by
  intro pins s σ H Q I h
  refine wpAny_Call_Name_kw (ld_blt I hgL hmL PyProof.Rows.boot_list ?_)
  refine PyProof.Rows.callWith_type1 ?_ hs1 rfl
  rw [hs1]
  show wpAny _ _ (spliced ((false, eval _ X.env) :: [])) _ _ s
  refine Calls.spliced_cons (wpAny_Call_method0_late hbase hline (thn (ho pins s σ H _ I h) fun v s1 ⟨x, H1, I1, r1, q1⟩ => ?_))
  obtain ⟨a, rfl, kvs, hq, hz, q⟩ := q1
  cases r1
  obtain ⟨t1, t2, _⟩ := isD_at I1 (show IsD H1 a from .inl ⟨_, hq⟩)
  obtain ⟨z, hd, vs, rel, ob, es, ep, g, x1, x2, x3⟩ := (show ObjOk X.prog X.w H1 s1.heap a (.dK kvs) from hq.ok I1.hok)
  have da : s1.heap.DictAt (mixKind X.prog X.w) a vs ep := ⟨ob, es, g, x1, x2, x3⟩
  have dof : s1.heap.DictOf (mixKind X.prog X.w) a vs := da.dictOf
  refine ⟨"dict", "dict.keys", PySem.F.plainAttrs_dict, PySem.F.slot_dict_keys, PySem.F.type_dict_keys, t1, t2, Calls.callWith_builtin rfl (PySem.evalArgs_none ?_)⟩
  refine call_meetsIn PySem.F.slot_dict_keys dof.typeIs PySem.F.entry_dict_keys (PySem.F.args_dict_keys_1 _) (kdl_meets_keys (mixKind X.prog X.w) a hd) ⟨⟨vs, dof⟩, Calls.spliced_nil ?_⟩
  have I2 : Inv X pins σ H1 { s1 with heap := s1.heap.push { cls := .type "dict_keys", data := .fields #[.ref a] } } := I1.kept (t' := s1.toks) fun b o e => Heap.get?_push_of_some _ e
  refine kdl_call (kdl_keys (knd := mixKind X.prog X.w) (kvs := vs) (ep := ep) (r := s1.heap.objs.size) (d := a)) (I.ok.hd hc) ⟨⟨_, Heap.get?_push_size _ rfl, rfl, rfl⟩, da.push _⟩ (by rw [← rel.length]; exact hz) fun h' tk acc c kp eS items => ?_
  have rr : Vals (kvs.map fun kv => kV kv.1) acc.toList := by
    refine Vals.of_items (by rw [Array.length_toList, items.1, List.length_map, rel.length]) fun i x u e1 e2 => ?_
    rw [List.getElem?_map] at e1
    obtain ⟨kv, k1, rfl⟩ := Option.map_eq_some_iff.mp e1
    obtain ⟨k, y, g1, g2⟩ := items.2 i u (by rw [← Array.getElem?_toList]; exact e2)
    obtain ⟨q', g3, g4, _⟩ := paired_at rel k1
    rw [g1] at g3; cases g3
    rw [g4]; exact kV_of g2
  have e8 : acc = acc.toList.toArray := by simp
  refine ⟨.ref _, _, I2.laid (t' := tk) kp (Nat.le_refl _) (show ObjOk X.prog X.w _ h' _ (.lst (kvs.map fun kv => kV kv.1)) from ⟨by rw [List.length_map]; exact hz, acc.toList, c, rr, by rw [← e8]; exact eS⟩), rfl, q _ ?_⟩
  exact I2.fresh
def iDictR (tl : TE) : TI := fun σ H R => tl σ H fun x H1 => ∃ a, x = .ref a ∧ ∃ kvs, (H1 a = some (.dK kvs) ∧ ∀ ob, R (Itd a ob kvs) (upd H1 a (.frz ob (.dK kvs)))) ∨ ∃ ob, H1 a = some (.frz ob (.dK kvs)) ∧ R (Itd a ob kvs) H1
theorem pi_dictR {X : Cx} {tg l : Expr} {tl : TE} (hl : PE X l tl) : PI X tg l (iDictR tl) := by
  intro pins s σ H R I h
  refine thn (hl pins s σ H _ I h) fun v s1 ⟨x, H1, I1, r1, q1⟩ => ?_
  obtain ⟨a, rfl, kvs, q1⟩ := q1
  cases r1
  rcases q1 with ⟨hq, q⟩ | ⟨ob, hq, q⟩
  · obtain ⟨z, hd, vs, rel, ob, es, ep, g, x1, x2, x3⟩ := (show ObjOk X.prog X.w H1 s1.heap a (.dK kvs) from I1.hok a _ hq)
    have da : s1.heap.DictAt (mixKind X.prog X.w) a vs ep := ⟨ob, es, g, x1, x2, x3⟩
    have I2 : Inv X pins σ (upd H1 a (.frz ob (.dK kvs))) s1 := I1.write (x := a) (e := a) (o := .frz ob (.dK kvs)) (t' := s1.toks) (h' := s1.heap) (by rw [hq]; exact True.intro) (.inl rfl) (fun b u _ e => e) ⟨_, g⟩ ⟨g, z, hd, vs, rel, ob, es, ep, g, x1, x2, x3⟩
    refine wpAny_pyIter_dict hd da ?_
    refine ⟨s1.heap.objs.size, [s1.heap.objs.size], _, _, _, rfl, I2.kept (t' := s1.toks) fun b o e => Heap.get?_push_of_some _ e, turn_dict a _ ob kvs, ⟨es, ep, x2, _, Heap.get?_push_size _ rfl, rfl, by rw [KV.length rel]; rfl⟩, fun b hb => ?_, q ob⟩
    have e : b = s1.heap.objs.size := by simpa using hb
    subst e
    exact I2.fpOk (Nat.le_refl _) I2.fresh
  · obtain ⟨gg, z, hd, vs, rel, ob', es, ep, g, x1, x2, x3⟩ := (show ObjOk X.prog X.w H1 s1.heap a (.frz ob (.dK kvs)) from I1.hok a _ hq)
    rw [gg] at g
    cases g
    have da : s1.heap.DictAt (mixKind X.prog X.w) a vs ep := ⟨ob, es, gg, x1, x2, x3⟩
    refine wpAny_pyIter_dict hd da ?_
    refine ⟨s1.heap.objs.size, [s1.heap.objs.size], _, _, _, rfl, I1.kept (t' := s1.toks) fun b o e => Heap.get?_push_of_some _ e, turn_dict a _ ob kvs, ⟨es, ep, x2, _, Heap.get?_push_size _ rfl, rfl, by rw [KV.length rel]; rfl⟩, fun b hb => ?_, q⟩
    have e : b = s1.heap.objs.size := by simpa using hb
    subst e
    exact I1.fpOk (Nat.le_refl _) I1.fresh
end L2
namespace L2
open PySem PySem.Spec PyProof.Rows
structure Ent (K : PySem.W.Frag) (mg : Str → Option Value) (x : Str) (st : Stmt) (ps : List Str) (f : Addr) (fd : FuncData) : Prop where
  F : Fun K x x st f fd
  g : mg x = some (.ref f)
  b : Binds K fd ps []
theorem ent_mk {K : PySem.W.Frag} {mg : Str → Option Value} {h : Heap} {x : Str} {st : Stmt} {ps : List Str} {f : Addr} {oc : Value} {od an : Option Addr} {osl : Array (Option Value)} {kV doc pm cdv ct : Value} (X : K.In h) (G : h.Ns mainGlobals mg)
    (hb : ∀ (kV doc pm : Value) (an : Option Addr) (cdv ct : Value) (us : List Value), us.length = ps.length → bindArgs (PySem.W.fnOf x x (defArgs st) (defBody st) (defScope st) .none kV doc pm an cdv ct) ⟨us, []⟩ = pure (ps.zip us))
    (a : PySem.W.nsIn K mainGlobals x = some (some (.ref f))) (l : K.lookup f = some ⟨oc, od, .func (PySem.W.fnOf x x (defArgs st) (defBody st) (defScope st) .none kV doc pm an cdv ct), osl⟩)
    (c : PySem.W.codeIn K cdv x = true) (k : PySem.W.keepIn K (.ref f) = true) : ∃ f fd, Ent K mg x st ps f fd :=
  ⟨f, _, fun_mk l c k, PySem.W.mg_of X G a, (fun_mk (st := st) l c k).binds hb⟩
end L2
namespace K04
open PySem L2 VL
def top (i : Nat) : Stmt := PySem.Challenge.pw_formferry_k03_steps_of_patterns.main.body.getD i (.Pass ⟨0, 0, 0, 0⟩)
abbrev s_patterns_within : Stmt := top 1
abbrev s_signs : Stmt := top 2
abbrev s_bare : Stmt := top 3
abbrev s_firsts : Stmt := top 4
abbrev s_lasts : Stmt := top 5
abbrev s_link : Stmt := top 6
abbrev s_link_row : Stmt := top 7
abbrev s_link_all : Stmt := top 8
abbrev s_nexts : Stmt := top 9
abbrev s__law_cell_at : Stmt := top 11
abbrev s__law_mix : Stmt := top 12
abbrev s__law_texts : Stmt := top 13
abbrev s__law_joined : Stmt := top 14
abbrev s__law_twice : Stmt := top 15
abbrev s__law_pattern : Stmt := top 16
abbrev s__law_drawn_signs : Stmt := top 17
abbrev s__law_lay : Stmt := top 18
abbrev s__law_model : Stmt := top 19
abbrev s__law_signs : Stmt := top 20
abbrev s__law_table : Stmt := top 21
abbrev s__law_draws : Stmt := top 22
abbrev s_law : Stmt := top 23
theorem sc_patterns_within : FnScope ["pattern"] ["pattern"] (defScope s_patterns_within) := ⟨rfl, rfl, rfl, by decide +kernel, rfl, by decide +kernel, by decide +kernel⟩
theorem sc_signs : FnScope ["pattern", "found", "inner"] ["pattern"] (defScope s_signs) := ⟨rfl, rfl, rfl, by decide +kernel, rfl, by decide +kernel, by decide +kernel⟩
theorem sc_bare : FnScope ["pattern", "kind"] ["pattern"] (defScope s_bare) := ⟨rfl, rfl, rfl, by decide +kernel, rfl, by decide +kernel, by decide +kernel⟩
theorem sc_firsts : FnScope ["pattern", "found", "inner"] ["pattern"] (defScope s_firsts) := ⟨rfl, rfl, rfl, by decide +kernel, rfl, by decide +kernel, by decide +kernel⟩
theorem sc_lasts : FnScope ["pattern", "found", "inner"] ["pattern"] (defScope s_lasts) := ⟨rfl, rfl, rfl, by decide +kernel, rfl, by decide +kernel, by decide +kernel⟩
theorem sc_link : FnScope ["ends", "begins", "followers", "end", "begin"] ["ends", "begins", "followers"] (defScope s_link) := ⟨rfl, rfl, rfl, by decide +kernel, rfl, by decide +kernel, by decide +kernel⟩
theorem sc_link_row : FnScope ["patterns", "followers", "ends", "inner"] ["patterns", "followers"] (defScope s_link_row) := ⟨rfl, rfl, rfl, by decide +kernel, rfl, by decide +kernel, by decide +kernel⟩
theorem sc_link_all : FnScope ["pattern", "followers", "inner"] ["pattern", "followers"] (defScope s_link_all) := ⟨rfl, rfl, rfl, by decide +kernel, rfl, by decide +kernel, by decide +kernel⟩
theorem sc_nexts : FnScope ["pattern", "order", "followers", "sign", "told"] ["pattern"] (defScope s_nexts) := ⟨rfl, rfl, rfl, by decide +kernel, rfl, by decide +kernel, by decide +kernel⟩
theorem sc__law_cell_at : FnScope ["_law_script", "_law_k"] ["_law_script", "_law_k"] (defScope s__law_cell_at) := ⟨rfl, rfl, rfl, by decide +kernel, rfl, by decide +kernel, by decide +kernel⟩
theorem sc__law_mix : FnScope ["_law_cell", "_law_turn", "_law_number"] ["_law_cell", "_law_turn"] (defScope s__law_mix) := ⟨rfl, rfl, rfl, by decide +kernel, rfl, by decide +kernel, by decide +kernel⟩
theorem sc__law_texts : FnScope ["_law_found", "_law_due", "_law_k"] ["_law_found", "_law_due"] (defScope s__law_texts) := ⟨rfl, rfl, rfl, by decide +kernel, rfl, by decide +kernel, by decide +kernel⟩
theorem sc__law_joined : FnScope ["_law_kind", "_law_parts"] ["_law_kind", "_law_parts"] (defScope s__law_joined) := ⟨rfl, rfl, rfl, by decide +kernel, rfl, by decide +kernel, by decide +kernel⟩
theorem sc__law_twice : FnScope ["_law_pattern_here", "_law_wraps"] ["_law_pattern_here"] (defScope s__law_twice) := ⟨rfl, rfl, rfl, by decide +kernel, rfl, by decide +kernel, by decide +kernel⟩
theorem sc__law_pattern : FnScope ["_law_numbers", "_law_pool", "_law_pile", "_law_left", "_law_number", "_law_kind", "_law_many"] ["_law_numbers", "_law_pool"] (defScope s__law_pattern) := ⟨rfl, rfl, rfl, by decide +kernel, rfl, by decide +kernel, by decide +kernel⟩
theorem sc__law_drawn_signs : FnScope ["_law_number", "_law_some", "_law_found"] ["_law_number"] (defScope s__law_drawn_signs) := ⟨rfl, rfl, rfl, by decide +kernel, rfl, by decide +kernel, by decide +kernel⟩
theorem sc__law_lay : FnScope ["_law_table_here", "_law_heads", "_law_tails", "_law_head"] ["_law_table_here", "_law_heads", "_law_tails"] (defScope s__law_lay) := ⟨rfl, rfl, rfl, by decide +kernel, rfl, by decide +kernel, by decide +kernel⟩
theorem sc__law_model : FnScope ["_law_pattern_here", "_law_table_here", "_law_free", "_law_begin", "_law_end", "_law_one", "_law_empty", "_law_heads", "_law_tails", "_law_found"] ["_law_pattern_here", "_law_table_here"] (defScope s__law_model) := ⟨rfl, rfl, rfl, by decide +kernel, rfl, by decide +kernel, by decide +kernel⟩
theorem sc__law_signs : FnScope ["_law_pattern_here", "_law_found", "_law_one"] ["_law_pattern_here"] (defScope s__law_signs) := ⟨rfl, rfl, rfl, by decide +kernel, rfl, by decide +kernel, by decide +kernel⟩
theorem sc__law_table : FnScope ["_law_found", "_law_due"] ["_law_found", "_law_due"] (defScope s__law_table) := ⟨rfl, rfl, rfl, by decide +kernel, rfl, by decide +kernel, by decide +kernel⟩
theorem sc__law_draws : FnScope ["_law_script", "_law_turn", "_law_many", "_law_cells", "_law_found", "_law_lefts", "_law_k", "_law_at", "_law_number"] ["_law_script", "_law_turn", "_law_many"] (defScope s__law_draws) := ⟨rfl, rfl, rfl, by decide +kernel, rfl, by decide +kernel, by decide +kernel⟩
theorem sc_law : FnScope ["_law_script", "_law_numbers", "_law_names", "_law_pattern_here", "_law_kept", "_law_order", "_law_table_here", "_law_sign", "_law_free", "_law_begin", "_law_end", "_law_due", "_law_found", "_law_turn", "_law_told"] ["_law_script"] (defScope s_law) := ⟨rfl, rfl, rfl, by decide +kernel, rfl, by decide +kernel, by decide +kernel⟩
open PySem L2 VL
local macro_rules | `(tactic| walk_at "vd") => `(tactic| simp only [↓reduceIte, ↓getK_0, ↓getK_s, ↓setK_0, ↓setK_s, ↓setW_no, ↓setW_fz, ↓setW_ob, ↓setW_s, ↓varS_fz, ↓varS_ob, ↓pkS_fz, ↓pkS_ob, ↓obK_ob, ↓scK_sc, ↓ioK_t, ↓ioK_no, ↓intK_e, ↓strK_e, ↓blK_e, ↓lstK_e, ↓dctK_e, ↓isLK_e, ↓int1K_e, ↓dFor_eq, ↓dComp_eq, ↓v_seq, ↓v_next, ↓v_ret, ↓v_brk, ↓v_drop, ↓v_if, ↓v_set, ↓v_c, ↓v_var, ↓v_mv, ↓v_op, ↓v_opV, ↓v_opW, ↓v_test, ↓v_not, ↓v_and, ↓v_or, ↓v_andV, ↓v_orV, ↓v_neg, ↓v_nil, ↓v_cons, ↓v_tup, ↓v_lst, ↓v_CB, ↓v_CBV, ↓v_mt, ↓v_gN, ↓v_gTup3, ↓v_gCons, ↓v_gNil, ↓v_asg, ↓v_setL, ↓v_iList, ↓v_iRng1, ↓v_call, ↓v_aNil, ↓v_aV, ↓v_aO, ↓v_callIO, ↓v_oN, ↓v_oS, ↓v_slLV, ↓v_slC, ↓v_dict0, ↓v_dget, ↓v_dput, ↓v_I, ↓v_Ic, ↓v_eq_ii, ↓v_eq_ss, ↓v_ne_ii, ↓v_ne_ss, ↓v_ne_bb, ↓v_cat, ↓v_ixL, ↓v_ixT0, ↓v_ixT1, ↓v_ixT2, ↓v_eqL0, ↓v_neL0, ↓v_inL, ↓v_notInL, ↓v_inT2, ↓v_inT3, ↓v_lenL, ↓v_listOf, ↓v_int1b, ↓v_append, ↓v_extend, ↓v_pop, ↓v_popAt, ↓v_is_bl_bool, ↓v_is_str_str, ↓v_is_lst_list, ↓v_iRev, ↓v_dinE, ↓v_ixC, ↓v_lenC, ↓v_scA, ↓v_callC, ↓v_lst3, ↓v_par3, rsl_t, rsl_f, outS, keepIo_t, keepIo_fz, keepIo_sc, List.map_cons, List.map_nil, List.length_cons, List.length_nil, Nat.reduceAdd, List.replicate_succ, List.replicate_zero, List.cons_append, List.nil_append, List.append_nil, List.drop_succ_cons, List.drop_zero, List.filter_cons, List.filter_nil, Option.isNone_none, Option.isNone_some, and_true, true_and, decide_eq_true_eq, Bool.true_eq_false, Bool.false_eq_true, Bool.not_true, Bool.not_false, Bool.not_eq_eq_eq_not, decide_true, decide_false, if_true, if_false, eq_self, Int.zero_add, List.isEmpty_nil, List.isEmpty_cons, not_true_eq_false, not_false_eq_true, false_and, and_false, Option.isSome_some, argSlot, fgt, List.set_cons_zero, List.set_cons_succ])
structure Zs (K : PySem.W.Frag) (mg : Str → Option Value) : Prop where
  z_list : mg "list" = none
  z_reversed : mg "reversed" = none
  z_isinstance : mg "isinstance" = none
  z_len : mg "len" = none
  z_bool : mg "bool" = none
  z_range : mg "range" = none
  z_all : mg "all" = none
  z_any : mg "any" = none
  z_sum : mg "sum" = none
  z_zip : mg "zip" = none
  z_int : mg "int" = none
  z_str : mg "str" = none
  z_dict : mg "dict" = none
  kit : KitOk K
inductive Wk where
  | maybe | many | some
def Wk.str : Wk → Str
  | .maybe => "maybe"
  | .many => "many"
  | .some => "some"
inductive Pat where
  | none
  | one (s : Str)
  | row (ps : List Pat)
  | any (ps : List Pat)
  | wrap (k : Wk) (p : Pat)
mutual
def patD : Pat → D
  | .none => .tup [.str "none"]
  | .one s => .tup [.str "one", .str s]
  | .row ps => .tup [.str "row", .lst (patDs ps)]
  | .any ps => .tup [.str "any", .lst (patDs ps)]
  | .wrap k p => .tup [.str k.str, patD p]
def patDs : List Pat → List D
  | [] => []
  | p :: ps => patD p :: patDs ps
end
theorem patDs_map : ∀ ps : List Pat, patDs ps = ps.map patD
  | [] => rfl
  | p :: ps => by rw [patDs, patDs_map ps]; rfl
theorem patDs_len (ps : List Pat) : (patDs ps).length = ps.length := by rw [patDs_map]; simp
def kids : Pat → List Pat
  | .row ps => ps
  | .any ps => ps
  | .wrap _ p => [p]
  | _ => []
mutual
def szP : Pat → Nat
  | .none => 1
  | .one _ => 1
  | .row ps => 1 + szPs ps
  | .any ps => 1 + szPs ps
  | .wrap _ p => 1 + szP p
def szPs : List Pat → Nat
  | [] => 0
  | p :: ps => szP p + szPs ps
end
mutual
def dpP : Pat → Nat
  | .none => 0
  | .one _ => 0
  | .row ps => dpPs ps + 1
  | .any ps => dpPs ps + 1
  | .wrap _ p => dpP p + 1
def dpPs : List Pat → Nat
  | [] => 0
  | p :: ps => max (dpP p) (dpPs ps)
end
theorem dpPs_mem {p : Pat} : ∀ {ps : List Pat}, p ∈ ps → dpP p ≤ dpPs ps
  | q :: ps, h => by
    rcases List.mem_cons.mp h with rfl | h
    · simp only [dpPs]; omega
    · have := dpPs_mem h; simp only [dpPs]; omega
theorem szPs_mem {p : Pat} : ∀ {ps : List Pat}, p ∈ ps → szP p ≤ szPs ps
  | q :: ps, h => by
    rcases List.mem_cons.mp h with rfl | h
    · simp only [szPs]; omega
    · have := szPs_mem h; simp only [szPs]; omega
theorem szP_pos : ∀ p : Pat, 0 < szP p
  | .none => by simp [szP]
  | .one _ => by simp [szP]
  | .row ps => by simp only [szP]; omega
  | .any ps => by simp only [szP]; omega
  | .wrap _ p => by simp only [szP]; omega
theorem szPs_len : ∀ ps : List Pat, ps.length ≤ szPs ps
  | [] => Nat.le_refl _
  | p :: ps => by have := szPs_len ps; have := szP_pos p; simp only [szPs, List.length_cons]; omega
theorem szPs_app : ∀ ps qs : List Pat, szPs (ps ++ qs) = szPs ps + szPs qs
  | [], qs => by simp [szPs]
  | p :: ps, qs => by simp only [List.cons_append, szPs, szPs_app ps qs]; omega
theorem kids_sz (p : Pat) : szPs (kids p) < szP p := by
  cases p <;> simp [kids, szP, szPs]
theorem kids_dp {p q : Pat} (h : q ∈ kids p) : dpP q < dpP p := by
  cases p with
  | row ps => have := dpPs_mem (show q ∈ ps from h); simp only [dpP]; omega
  | any ps => have := dpPs_mem (show q ∈ ps from h); simp only [dpP]; omega
  | wrap k p => simp [kids] at h; subst h; simp [dpP]
  | none => simp [kids] at h
  | one s => simp [kids] at h
mutual
def signsP : Pat → List Str
  | .none => []
  | .one s => [s]
  | .row ps => signsPs ps
  | .any ps => signsPs ps
  | .wrap _ p => signsP p
def signsPs : List Pat → List Str
  | [] => []
  | p :: ps => signsP p ++ signsPs ps
end
theorem signsPs_app : ∀ ps qs : List Pat, signsPs (ps ++ qs) = signsPs ps ++ signsPs qs
  | [], qs => by simp [signsPs]
  | p :: ps, qs => by simp only [List.cons_append, signsPs, signsPs_app ps qs, List.append_assoc]
theorem signsP_kids {p : Pat} (h : ∀ s, p ≠ .one s) : signsP p = signsPs (kids p) := by
  cases p with
  | one s => exact absurd rfl (h s)
  | _ => simp [signsP, signsPs, kids]
mutual
theorem signsP_len : ∀ p : Pat, (signsP p).length ≤ szP p
  | .none => by simp [signsP]
  | .one _ => by simp [signsP, szP]
  | .row ps => by have := signsPs_len ps; simp only [signsP, szP]; omega
  | .any ps => by have := signsPs_len ps; simp only [signsP, szP]; omega
  | .wrap _ p => by have := signsP_len p; simp only [signsP, szP]; omega
theorem signsPs_len : ∀ ps : List Pat, (signsPs ps).length ≤ szPs ps
  | [] => by simp [signsPs]
  | p :: ps => by have := signsP_len p; have := signsPs_len ps; simp only [signsPs, szPs, List.length_append]; omega
end
mutual
def bareP : Pat → Bool
  | .none => true
  | .one _ => false
  | .row ps => bareAll ps
  | .any ps => bareAny ps
  | .wrap .some p => bareP p
  | .wrap _ _ => true
def bareAll : List Pat → Bool
  | [] => true
  | p :: ps => bareP p && bareAll ps
def bareAny : List Pat → Bool
  | [] => false
  | p :: ps => bareP p || bareAny ps
end
theorem bareAll_map : ∀ ps : List Pat, (ps.map bareP).all id = bareAll ps
  | [] => rfl
  | p :: ps => by simp only [List.map_cons, List.all_cons, id, bareAll, bareAll_map ps]
theorem bareAny_map : ∀ ps : List Pat, (ps.map bareP).any id = bareAny ps
  | [] => rfl
  | p :: ps => by simp only [List.map_cons, List.any_cons, id, bareAny, bareAny_map ps]
theorem bareAll_app : ∀ ps qs : List Pat, bareAll (ps ++ qs) = (bareAll ps && bareAll qs)
  | [], qs => by simp [bareAll]
  | p :: ps, qs => by simp only [List.cons_append, bareAll, bareAll_app ps qs, Bool.and_assoc]
mutual
def firstsP : Pat → List Str
  | .none => []
  | .one s => [s]
  | .row ps => firstsR ps
  | .any ps => firstsA ps
  | .wrap _ p => firstsP p
def firstsR : List Pat → List Str
  | [] => []
  | p :: ps => firstsP p ++ (if bareP p then firstsR ps else [])
def firstsA : List Pat → List Str
  | [] => []
  | p :: ps => firstsP p ++ firstsA ps
end
mutual
def lastsP : Pat → List Str
  | .none => []
  | .one s => [s]
  | .row ps => lastsR ps
  | .any ps => lastsA ps
  | .wrap _ p => lastsP p
def lastsR : List Pat → List Str
  | [] => []
  | p :: ps => (if bareAll ps then lastsP p else []) ++ lastsR ps
def lastsA : List Pat → List Str
  | [] => []
  | p :: ps => lastsP p ++ lastsA ps
end
mutual
theorem firstsP_len : ∀ p : Pat, (firstsP p).length ≤ szP p
  | .none => by simp [firstsP]
  | .one _ => by simp [firstsP, szP]
  | .row ps => by have := firstsR_len ps; simp only [firstsP, szP]; omega
  | .any ps => by have := firstsA_len ps; simp only [firstsP, szP]; omega
  | .wrap _ p => by have := firstsP_len p; simp only [firstsP, szP]; omega
theorem firstsR_len : ∀ ps : List Pat, (firstsR ps).length ≤ szPs ps
  | [] => by simp [firstsR]
  | p :: ps => by
    have := firstsP_len p; have := firstsR_len ps
    simp only [firstsR, szPs, List.length_append]
    split <;> simp <;> omega
theorem firstsA_len : ∀ ps : List Pat, (firstsA ps).length ≤ szPs ps
  | [] => by simp [firstsA]
  | p :: ps => by have := firstsP_len p; have := firstsA_len ps; simp only [firstsA, szPs, List.length_append]; omega
end
mutual
theorem lastsP_len : ∀ p : Pat, (lastsP p).length ≤ szP p
  | .none => by simp [lastsP]
  | .one _ => by simp [lastsP, szP]
  | .row ps => by have := lastsR_len ps; simp only [lastsP, szP]; omega
  | .any ps => by have := lastsA_len ps; simp only [lastsP, szP]; omega
  | .wrap _ p => by have := lastsP_len p; simp only [lastsP, szP]; omega
theorem lastsR_len : ∀ ps : List Pat, (lastsR ps).length ≤ szPs ps
  | [] => by simp [lastsR]
  | p :: ps => by
    have := lastsP_len p; have := lastsR_len ps
    simp only [lastsR, szPs, List.length_append]
    split <;> simp <;> omega
theorem lastsA_len : ∀ ps : List Pat, (lastsA ps).length ≤ szPs ps
  | [] => by simp [lastsA]
  | p :: ps => by have := lastsP_len p; have := lastsA_len ps; simp only [lastsA, szPs, List.length_append]; omega
end
theorem compL {α : Type} (f g : α → D) (xs : List α) {te : TEd} {Q : Bool → D → List VL.Slot → Prop} {δ : List VL.Slot} (hl : xs.length ≤ sizeLine)
    (h : ∀ x ∈ xs, ∀ P : D → List VL.Slot → Prop, P (g x) (.fz (f x) :: δ) → te (.fz (f x) :: δ) fun _ y δ' => P y δ') (q : Q true (.lst (xs.map g)) δ) : CompD 1 (xs.map f) (dgN 0) dYes te Q δ := by
  refine ⟨fun r acc δ1 => δ1 = δ ∧ ∃ pre suf, xs = pre ++ suf ∧ r = suf.map f ∧ acc = pre.map g, ⟨rfl, [], xs, rfl, rfl, rfl⟩, ?_, ?_⟩
  · rintro d r acc δ1 ⟨rfl, pre, suf, e, er, rfl⟩
    cases suf with
    | nil => cases er
    | cons x suf =>
      cases er
      refine ⟨trivial, ?_⟩
      unfold dYes
      dsimp only
      rw [if_pos rfl]
      have hlen : pre.length < sizeLine := by rw [e] at hl; simp at hl; omega
      exact h x (by rw [e]; simp) (fun y δ4 => (pre.map g).length < sizeLine ∧ List.drop 1 δ4 = δ1 ∧ ∃ pre' suf', xs = pre' ++ suf' ∧ suf.map f = suf'.map f ∧ pre.map g ++ [y] = pre'.map g) ⟨by simpa using hlen, rfl, pre ++ [x], suf, by rw [e]; simp, rfl, by simp⟩
  · rintro acc δ1 ⟨rfl, pre, suf, e, er, rfl⟩
    have es : suf = [] := by simpa using er.symm
    subst es
    simp at e
    subst e
    exact q
section
variable {P : Program} {w : World} {K : PySem.W.Frag} {mg : Str → Option Value} {base : Heap} {f : Addr} {fd : FuncData}
def R_within : RD := fun δ Q => ∃ p : Pat, δ = [.fz (patD p)] ∧ Q true (.lst (patDs (kids p))) [.no]
theorem ok_within (E : Ent K mg "patterns_within" s_patterns_within ["pattern"] f fd) (T : Zs K mg) : FnOk P w K mg base CX0 1 f fd ["pattern"] (spD R_within) := by
  refine VL.Fun.dok E.F sc_patterns_within (fun δ Qd h => ?_) (by decide) (fun cdv A outer s H E δ Qd hr h => ?_)
  · obtain ⟨p, rfl, _⟩ := h; rfl
  · obtain ⟨p, rfl, q⟩ := h
    have hu := hu100 hr
    refine ⟨_, (dss_cons (ds_if (dt_cmp os_inT op_in_tp (de_ixV os_ixT ix_tp (pv 0) de_int (fun _ _ => rfl)) (de_tup (dl_cons de_str (dl_cons de_str dl_nil))) rfl) (dss_one (ds_ret (de_callTy cs_list call_list_lst rfl T.z_list PyProof.Rows.boot_list (dl_cons (de_ixV os_ixT ix_tp (pv 0) de_int (fun _ _ => rfl)) dl_nil)))) dss_nil)
      (dss_cons (ds_if (dt_cmp os_inT op_in_tp (de_ixV os_ixT ix_tp (pv 0) de_int (fun _ _ => rfl)) (de_tup (dl_cons de_str (dl_cons de_str (dl_cons de_str dl_nil)))) rfl) (dss_one (ds_ret (de_lst (dl_cons (de_ixV os_ixT ix_tp (pv 0) de_int (fun _ _ => rfl)) dl_nil)))) dss_nil)
      (dss_one (ds_ret (de_lst dl_nil))))), ?_⟩
    have sz := sizeL24
    cases p with
    | none =>
      simp only [patD]
      walk_at "vd"
      refine ⟨by omega, ?_⟩
      rw [if_neg (by decide)]
      refine ⟨by omega, ?_⟩
      rw [if_neg (by decide)]
      exact ⟨by omega, q⟩
    | one s =>
      simp only [patD]
      walk_at "vd"
      refine ⟨by omega, ?_⟩
      rw [if_neg (by decide)]
      refine ⟨by omega, ?_⟩
      rw [if_neg (by decide)]
      exact ⟨by omega, q⟩
    | row ps =>
      simp only [patD]
      walk_at "vd"
      refine ⟨by omega, ?_⟩
      rw [if_pos (.inl trivial)]
      exact q
    | any ps =>
      simp only [patD]
      walk_at "vd"
      refine ⟨by omega, ?_⟩
      rw [if_pos (.inr trivial)]
      exact q
    | wrap k p =>
      cases k <;> simp only [patD, Wk.str] <;> walk_at "vd" <;> refine ⟨by omega, ?_⟩ <;> rw [if_neg (by decide)] <;> refine ⟨by omega, ?_⟩
      · rw [if_pos (.inl trivial)]; exact ⟨by omega, q⟩
      · rw [if_pos (.inr (.inl trivial))]; exact ⟨by omega, q⟩
      · rw [if_pos (.inr (.inr trivial))]; exact ⟨by omega, q⟩
theorem fn_none {k : Nat} {ps : List Str} {R : RD} (h : ∀ δ Q, ¬ R δ Q) : FnOk P w K mg base CX0 k f fd ps (spD R) :=
  ⟨fun vs H Q E q => by obtain ⟨_, _, _, _, _, _, _, z, _⟩ := q; exact (h _ _ z).elim, fun A outer s H args us vs Q E _ _ _ _ q => by obtain ⟨_, _, _, _, _, _, _, z, _⟩ := q; exact (h _ _ z).elim⟩
theorem pat_kind (p : Pat) : (∃ s, p = .one s) ∨ ((∀ s, p ≠ .one s) ∧ ∃ (z : Str) (r : List D), patD p = .tup (.str z :: r) ∧ z ≠ "one" ∧ (z = "row" ↔ ∃ ps, p = .row ps)) := by
  cases p with
  | one s => exact .inl ⟨s, rfl⟩
  | none => exact .inr ⟨(fun s e => by cases e), "none", _, rfl, by decide, ⟨fun h => absurd h (by decide), (fun ⟨_, e⟩ => by cases e)⟩⟩
  | row ps => exact .inr ⟨(fun s e => by cases e), "row", _, rfl, by decide, ⟨fun _ => ⟨ps, rfl⟩, fun _ => rfl⟩⟩
  | any ps => exact .inr ⟨(fun s e => by cases e), "any", _, rfl, by decide, ⟨fun h => absurd h (by decide), (fun ⟨_, e⟩ => by cases e)⟩⟩
  | wrap k p => exact .inr ⟨(fun s e => by cases e), k.str, _, rfl, by cases k <;> decide, ⟨fun h => absurd h (by cases k <;> decide), (fun ⟨_, e⟩ => by cases e)⟩⟩
def R_signs (n : Nat) : RD := fun δ Q => ∃ p : Pat, δ = [.fz (patD p)] ∧ dpP p < n ∧ szP p ≤ 1000000 ∧ Q true (.lst ((signsP p).map .str)) [.no]
theorem ok_signs {f1 : Addr} {fd1 : FuncData} (E_signs : Ent K mg "signs" s_signs ["pattern"] f fd) (T : Zs K mg) (E_patterns_within : Ent K mg "patterns_within" s_patterns_within ["pattern"] f1 fd1) : ∀ n, FnOk P w K mg base CX0 (n + 2) f fd ["pattern"] (spD (R_signs n)) := by
  have G_patterns_within : FnOk P w K mg base CX0 1 f1 fd1 _ (spD R_within) := ok_within E_patterns_within T
  intro n
  induction n with
  | zero => exact fn_none fun δ Q h => by obtain ⟨_, _, h, _⟩ := h; exact Nat.not_lt_zero _ h
  | succ n G_signs =>
  refine VL.Fun.dok E_signs.F sc_signs (fun δ Qd h => ?_) (by decide) (fun cdv A outer s H E δ Qd hr h => ?_)
  · obtain ⟨_, rfl, _⟩ := h; rfl
  · obtain ⟨p, rfl, hdp, hsz, q⟩ := h
    refine ⟨_, (dss_cons (ds_if (dt_cmp os_eq op_eq (de_ixV os_ixT ix_tp (pv 0) de_int (fun _ _ => rfl)) de_str (nomark _)) (dss_one (ds_ret (de_lst (dl_cons (de_ixV os_ixT ix_tp (pv 0) de_int (fun _ _ => rfl)) dl_nil)))) dss_nil)
      (dss_cons (ds_set (i := 1) sc_signs.nd rfl (Or.inl rfl) (de_lst dl_nil))
      (dss_cons (ds_for PassesOwn.never rfl (di_list (de_call G_patterns_within (hr.mono (by omega)) rfl E_patterns_within.g E_patterns_within.F.kp E_patterns_within.b pass0 (dl_cons (dv 0) dl_nil))) (dg_name (i := 2) sc_signs.nd rfl (Or.inl rfl)) (dss_one (ds_expr (de_mt ms_extend PySem.F.slot_list_extend PySem.F.type_list_extend mt_extend (pv 1) (dl_cons (de_call G_signs (hr.mono (by omega)) rfl E_signs.g E_signs.F.kp E_signs.b pass0 (dl_cons (dv 2) dl_nil)) dl_nil)))))
      (dss_one (ds_ret (dm 1)))))), ?_⟩
    have sz := sizeL24
    rcases pat_kind p with ⟨s, rfl⟩ | ⟨h1, z, r, ep, hz, _⟩
    · simp only [patD]
      walk_at "vd"
      exact ⟨by omega, q⟩
    · rw [ep]
      walk_at "vd"
      rw [if_neg (by simpa using hz), ← ep]
      refine ⟨by omega, p, rfl, ?_⟩
      walk_at "vd"
      refine loopD [2] (fun r δ => ∃ pre suf, kids p = pre ++ suf ∧ r = patDs suf ∧ δ = [.fz (patD p), .ob false (.lst ((signsPs pre).map .str)), .no]) ⟨[], kids p, rfl, rfl, rfl⟩ ?_ ?_
      · rintro d r δ ⟨pre, suf, e1, e2, rfl⟩
        cases suf with
        | nil => cases e2
        | cons c suf =>
          cases e2
          walk_at "vd"
          have hc : c ∈ kids p := by rw [e1]; simp
          have e5 := kids_sz p
          rw [e1, szPs_app, szPs] at e5
          have e6 := kids_dp hc
          have e7 := signsP_len c
          have e8 := signsPs_len pre
          refine ⟨c, rfl, by omega, by omega, ?_⟩
          walk_at "vd"
          refine ⟨by simp; omega, pre ++ [c], suf, by simp [e1], rfl, ?_⟩
          simp [signsPs_app, signsPs]
      · rintro δ ⟨pre, suf, e1, e2, rfl⟩
        cases suf with
        | cons c suf => cases e2
        | nil =>
          walk_at "vd"
          rw [List.append_nil] at e1
          rw [signsP_kids h1, e1] at q
          exact q
end
open PySem L2 VL
section
variable {P : Program} {w : World} {K : PySem.W.Frag} {mg : Str → Option Value} {base : Heap} {f : Addr} {fd : FuncData}
def R_bare (n : Nat) : RD := fun δ Q => ∃ p : Pat, δ = [.fz (patD p)] ∧ dpP p < n ∧ szP p ≤ 1000000 ∧ Q false (.bl (bareP p)) [.no]
theorem ok_bare (E_bare : Ent K mg "bare" s_bare ["pattern"] f fd) (T : Zs K mg) : ∀ n, FnOk P w K mg base CX0 (n + 2) f fd ["pattern"] (spD (R_bare n)) := by
  intro n
  induction n with
  | zero => exact fn_none fun δ Q h => by obtain ⟨_, _, h, _⟩ := h; exact Nat.not_lt_zero _ h
  | succ n G_bare =>
  refine VL.Fun.dok E_bare.F sc_bare (fun δ Qd h => ?_) (by decide) (fun cdv A outer s H E δ Qd hr h => ?_)
  · obtain ⟨_, rfl, _⟩ := h; rfl
  · obtain ⟨p, rfl, hdp, hsz, q⟩ := h
    refine ⟨_, (dss_cons (ds_set (i := 1) sc_bare.nd rfl (Or.inl rfl) (de_ixV os_ixT ix_tp (pv 0) de_int (fun _ _ => rfl)))
      (dss_cons (ds_if (dt_cmp os_eq op_eq (dv 1) de_str (nomark _)) (dss_one (ds_ret (de_callB cs_all (call_all_lst rfl) rfl T.z_all PyProof.Rows.boot_all (dl_cons (de_comp ["inner"] ["pattern", "kind"] rfl (show CScopeG (defScope s_bare) ["pattern", "kind"] ["inner"] _ _ from ⟨rfl, by decide +kernel, by decide +kernel, by decide +kernel, by decide +kernel⟩) (di_list (de_ixV os_ixT ix_tp (pv 0) de_int (fun _ _ => rfl))) (fun _ _ _ _ _ => (dgn_name (i := 0) (by decide) (show List.Nodup (["inner", "pattern", "kind"] : List Str) from by decide +kernel) rfl (Or.inl rfl))) (fun _ _ _ _ _ => df_nil) (fun _ _ _ _ _ => (de_call G_bare (hr.mono (by omega)) rfl E_bare.g E_bare.F.kp E_bare.b pass0 (dl_cons (dv 0) dl_nil)))) dl_nil)))) dss_nil)
      (dss_cons (ds_if (dt_cmp os_eq op_eq (dv 1) de_str (nomark _)) (dss_one (ds_ret (de_callB cs_any (call_any_lst rfl) rfl T.z_any PyProof.Rows.boot_any (dl_cons (de_comp ["inner"] ["pattern", "kind"] rfl (show CScopeG (defScope s_bare) ["pattern", "kind"] ["inner"] _ _ from ⟨rfl, by decide +kernel, by decide +kernel, by decide +kernel, by decide +kernel⟩) (di_list (de_ixV os_ixT ix_tp (pv 0) de_int (fun _ _ => rfl))) (fun _ _ _ _ _ => (dgn_name (i := 0) (by decide) (show List.Nodup (["inner", "pattern", "kind"] : List Str) from by decide +kernel) rfl (Or.inl rfl))) (fun _ _ _ _ _ => df_nil) (fun _ _ _ _ _ => (de_call G_bare (hr.mono (by omega)) rfl E_bare.g E_bare.F.kp E_bare.b pass0 (dl_cons (dv 0) dl_nil)))) dl_nil)))) dss_nil)
      (dss_cons (ds_if (dt_cmp os_eq op_eq (dv 1) de_str (nomark _)) (dss_one (ds_ret (de_call G_bare (hr.mono (by omega)) rfl E_bare.g E_bare.F.kp E_bare.b pass0 (dl_cons (de_ixV os_ixT ix_tp (pv 0) de_int (fun _ _ => rfl)) dl_nil)))) dss_nil)
      (dss_one (ds_ret (de_cmp os_ne op_ne (dv 1) de_str (nomark _)))))))), ?_⟩
    have sz := sizeL24
    cases p with
    | none =>
      simp only [patD]
      walk_at "vd"
      rw [if_neg (by decide), if_neg (by decide), if_neg (by decide)]
      exact q
    | one s =>
      simp only [patD]
      walk_at "vd"
      rw [if_neg (by decide), if_neg (by decide), if_neg (by decide)]
      exact q
    | row ps =>
      simp only [patD]
      simp only [dpP] at hdp
      simp only [szP] at hsz
      have hl := szPs_len ps
      walk_at "vd"
      rw [patDs_map]
      refine compL patD (fun p => .bl (bareP p)) ps (by omega) (fun c hc Pq hP => ?_) ?_
      · have h1 := dpPs_mem hc
        have h2 := szPs_mem hc
        walk_at "vd"
        refine ⟨c, rfl, by omega, by omega, ?_⟩
        walk_at "vd"
        exact hP
      · refine ⟨ps.map bareP, by simp, ?_⟩
        walk_at "vd"
        rw [bareAll_map]
        exact q
    | any ps =>
      simp only [patD]
      simp only [dpP] at hdp
      simp only [szP] at hsz
      have hl := szPs_len ps
      walk_at "vd"
      rw [if_neg (by decide)]
      rw [patDs_map]
      refine compL patD (fun p => .bl (bareP p)) ps (by omega) (fun c hc Pq hP => ?_) ?_
      · have h1 := dpPs_mem hc
        have h2 := szPs_mem hc
        walk_at "vd"
        refine ⟨c, rfl, by omega, by omega, ?_⟩
        walk_at "vd"
        exact hP
      · refine ⟨ps.map bareP, by simp, ?_⟩
        walk_at "vd"
        rw [bareAny_map]
        exact q
    | wrap k p =>
      simp only [dpP] at hdp
      simp only [szP] at hsz
      cases k with
      | maybe =>
        simp only [patD, Wk.str]
        walk_at "vd"
        rw [if_neg (by decide), if_neg (by decide), if_neg (by decide)]
        exact q
      | many =>
        simp only [patD, Wk.str]
        walk_at "vd"
        rw [if_neg (by decide), if_neg (by decide), if_neg (by decide)]
        exact q
      | some =>
        simp only [patD, Wk.str]
        walk_at "vd"
        rw [if_neg (by decide), if_neg (by decide)]
        exact ⟨p, rfl, by omega, by omega, q⟩
end
open PySem L2 VL
theorem firstsA_app : ∀ ps qs : List Pat, firstsA (ps ++ qs) = firstsA ps ++ firstsA qs
  | [], qs => by simp [firstsA]
  | p :: ps, qs => by simp only [List.cons_append, firstsA, firstsA_app ps qs, List.append_assoc]
theorem firstsR_app : ∀ ps qs : List Pat, bareAll ps = true → firstsR (ps ++ qs) = firstsR ps ++ firstsR qs
  | [], qs, _ => by simp [firstsR]
  | p :: ps, qs, h => by
    simp only [bareAll, Bool.and_eq_true] at h
    simp only [List.cons_append, firstsR, h.1, if_true, firstsR_app ps qs h.2, List.append_assoc]
theorem lastsR_no : ∀ ps qs : List Pat, bareAll qs = false → lastsR (ps ++ qs) = lastsR qs
  | [], qs, _ => rfl
  | p :: ps, qs, h => by
    have e : bareAll (ps ++ qs) = false := by rw [bareAll_app, h, Bool.and_false]
    simp only [List.cons_append, lastsR, e, lastsR_no ps qs h]
    simp
theorem firstsP_kids {p : Pat} (h : ∀ s, p ≠ .one s) (h' : ∀ ps, p ≠ .row ps) : firstsP p = firstsA (kids p) := by
  cases p with
  | one s => exact absurd rfl (h s)
  | row ps => exact absurd rfl (h' ps)
  | _ => simp [firstsP, firstsA, kids]
theorem lastsP_kids {p : Pat} (h : ∀ s, p ≠ .one s) (h' : ∀ ps, p ≠ .row ps) : lastsP p = lastsA (kids p) := by
  cases p with
  | one s => exact absurd rfl (h s)
  | row ps => exact absurd rfl (h' ps)
  | _ => simp [lastsP, lastsA, kids]
theorem patDs_app (ps qs : List Pat) : patDs (ps ++ qs) = patDs ps ++ patDs qs := by simp [patDs_map]
section
variable {P : Program} {w : World} {K : PySem.W.Frag} {mg : Str → Option Value} {base : Heap} {f : Addr} {fd : FuncData}
def R_firsts (n : Nat) : RD := fun δ Q => ∃ p : Pat, δ = [.fz (patD p)] ∧ dpP p < n ∧ szP p ≤ 1000000 ∧ Q true (.lst ((firstsP p).map .str)) [.no]
def R_lasts (n : Nat) : RD := fun δ Q => ∃ p : Pat, δ = [.fz (patD p)] ∧ dpP p < n ∧ szP p ≤ 1000000 ∧ Q true (.lst ((lastsP p).map .str)) [.no]
theorem ok_firsts {f1 f2 : Addr} {fd1 fd2 : FuncData} (E_firsts : Ent K mg "firsts" s_firsts ["pattern"] f fd) (T : Zs K mg) (E_patterns_within : Ent K mg "patterns_within" s_patterns_within ["pattern"] f1 fd1) (E_bare : Ent K mg "bare" s_bare ["pattern"] f2 fd2) : ∀ n, FnOk P w K mg base CX0 (n + 3) f fd ["pattern"] (spD (R_firsts n)) := by
  have G_patterns_within : FnOk P w K mg base CX0 1 f1 fd1 _ (spD R_within) := ok_within E_patterns_within T
  intro n
  induction n with
  | zero => exact fn_none fun δ Q h => by obtain ⟨_, _, h, _⟩ := h; exact Nat.not_lt_zero _ h
  | succ n G_firsts =>
  have G_bare : FnOk P w K mg base CX0 (n + 2) f2 fd2 _ (spD (R_bare n)) := ok_bare E_bare T n
  refine VL.Fun.dok E_firsts.F sc_firsts (fun δ Qd h => ?_) (by decide) (fun cdv A outer s H E δ Qd hr h => ?_)
  · obtain ⟨_, rfl, _⟩ := h; rfl
  · obtain ⟨p, rfl, hdp, hsz, q⟩ := h
    refine ⟨_, (dss_cons (ds_if (dt_cmp os_eq op_eq (de_ixV os_ixT ix_tp (pv 0) de_int (fun _ _ => rfl)) de_str (nomark _)) (dss_one (ds_ret (de_lst (dl_cons (de_ixV os_ixT ix_tp (pv 0) de_int (fun _ _ => rfl)) dl_nil)))) dss_nil)
      (dss_cons (ds_set (i := 1) sc_firsts.nd rfl (Or.inl rfl) (de_lst dl_nil))
      (dss_cons (ds_for PassesOwn.never rfl (di_list (de_call G_patterns_within (hr.mono (by omega)) rfl E_patterns_within.g E_patterns_within.F.kp E_patterns_within.b pass0 (dl_cons (dv 0) dl_nil))) (dg_name (i := 2) sc_firsts.nd rfl (Or.inl rfl)) (dss_cons (ds_expr (de_mt ms_extend PySem.F.slot_list_extend PySem.F.type_list_extend mt_extend (pv 1) (dl_cons (de_call G_firsts (hr.mono (by omega)) rfl E_firsts.g E_firsts.F.kp E_firsts.b pass0 (dl_cons (dv 2) dl_nil)) dl_nil)))
      (dss_one (ds_if (dt_w (dw_and (dt_cmp os_eq op_eq (de_ixV os_ixT ix_tp (pv 0) de_int (fun _ _ => rfl)) de_str (nomark _)) (dw_and1 (dt_not (dt_val (de_call G_bare (hr.mono (by omega)) rfl E_bare.g E_bare.F.kp E_bare.b pass0 (dl_cons (dv 2) dl_nil))))))) (dss_one ds_break) dss_nil))))
      (dss_one (ds_ret (dm 1)))))), ?_⟩
    have sz := sizeL24
    rcases pat_kind p with ⟨s, rfl⟩ | ⟨h1, z, r, ep, hz, hrow⟩
    · simp only [patD]
      walk_at "vd"
      exact ⟨by omega, q⟩
    · have er := ep
      rw [ep]
      walk_at "vd"
      rw [if_neg (by simpa using hz), ← ep]
      refine ⟨by omega, p, rfl, ?_⟩
      walk_at "vd"
      by_cases hzr : z = "row"
      · obtain ⟨ps, rfl⟩ := hrow.mp hzr
        subst hzr
        simp only [kids] at *
        refine loopD [2] (fun r δ => ∃ pre suf, ps = pre ++ suf ∧ r = patDs suf ∧ bareAll pre = true ∧ δ = [.fz (patD (.row ps)), .ob false (.lst ((firstsR pre).map .str)), .no]) ⟨[], ps, rfl, rfl, rfl, rfl⟩ ?_ ?_
        · rintro d r δ ⟨pre, suf, e1, e2, hb, rfl⟩
          cases suf with
          | nil => cases e2
          | cons c suf =>
            cases e2
            simp only [patD]
            walk_at "vd"
            have hc : c ∈ kids (.row ps) := by rw [e1]; simp [kids]
            have e5 := kids_sz (.row ps)
            rw [show kids (.row ps) = ps from rfl, e1, szPs_app, szPs] at e5
            rw [← e1] at e5
            have e6 := kids_dp hc
            have e7 := firstsP_len c
            have e9 := firstsR_len pre
            refine ⟨c, rfl, by omega, by omega, ?_⟩
            walk_at "vd"
            refine ⟨by simp; omega, c, rfl, by omega, by omega, ?_⟩
            walk_at "vd"
            cases hbc : bareP c with
            | true =>
              rw [if_neg (by simp)]
              refine ⟨pre ++ [c], suf, by simp [e1], rfl, by simp [bareAll_app, bareAll, hb, hbc], ?_⟩
              rw [firstsR_app _ _ hb]
              simp [firstsR]
            | false =>
              rw [if_pos (by simp)]
              simp only [firstsP, e1, firstsR_app _ _ hb, firstsR, hbc] at q
              simpa using q
        · rintro δ ⟨pre, suf, e1, e2, hb, rfl⟩
          cases suf with
          | cons c suf => cases e2
          | nil =>
            walk_at "vd"
            rw [List.append_nil] at e1
            subst e1
            exact q
      · have hnr : ∀ ps, p ≠ .row ps := fun ps e => hzr (hrow.mpr ⟨ps, e⟩)
        refine loopD [2] (fun r δ => ∃ pre suf, kids p = pre ++ suf ∧ r = patDs suf ∧ δ = [.fz (patD p), .ob false (.lst ((firstsA pre).map .str)), .no]) ⟨[], kids p, rfl, rfl, rfl⟩ ?_ ?_
        · rintro d r δ ⟨pre, suf, e1, e2, rfl⟩
          cases suf with
          | nil => cases e2
          | cons c suf =>
            cases e2
            rw [ep]
            walk_at "vd"
            have hc : c ∈ kids p := by rw [e1]; simp
            have e5 := kids_sz p
            rw [e1, szPs_app, szPs] at e5
            have e6 := kids_dp hc
            have e7 := firstsP_len c
            have e9 := firstsA_len pre
            refine ⟨c, rfl, by omega, by omega, ?_⟩
            walk_at "vd"
            refine ⟨by simp; omega, ?_⟩
            rw [if_neg (by simpa using hzr)]
            refine ⟨pre ++ [c], suf, by simp [e1], rfl, ?_⟩
            rw [firstsA_app]
            simp [firstsA]
        · rintro δ ⟨pre, suf, e1, e2, rfl⟩
          cases suf with
          | cons c suf => cases e2
          | nil =>
            walk_at "vd"
            rw [List.append_nil] at e1
            rw [firstsP_kids h1 hnr, e1] at q
            exact q
theorem ok_lasts {f1 f2 : Addr} {fd1 fd2 : FuncData} (E_lasts : Ent K mg "lasts" s_lasts ["pattern"] f fd) (T : Zs K mg) (E_patterns_within : Ent K mg "patterns_within" s_patterns_within ["pattern"] f1 fd1) (E_bare : Ent K mg "bare" s_bare ["pattern"] f2 fd2) : ∀ n, FnOk P w K mg base CX0 (n + 3) f fd ["pattern"] (spD (R_lasts n)) := by
  have G_patterns_within : FnOk P w K mg base CX0 1 f1 fd1 _ (spD R_within) := ok_within E_patterns_within T
  intro n
  induction n with
  | zero => exact fn_none fun δ Q h => by obtain ⟨_, _, h, _⟩ := h; exact Nat.not_lt_zero _ h
  | succ n G_lasts =>
  have G_bare : FnOk P w K mg base CX0 (n + 2) f2 fd2 _ (spD (R_bare n)) := ok_bare E_bare T n
  refine VL.Fun.dok E_lasts.F sc_lasts (fun δ Qd h => ?_) (by decide) (fun cdv A outer s H E δ Qd hr h => ?_)
  · obtain ⟨_, rfl, _⟩ := h; rfl
  · obtain ⟨p, rfl, hdp, hsz, q⟩ := h
    refine ⟨_, (dss_cons (ds_if (dt_cmp os_eq op_eq (de_ixV os_ixT ix_tp (pv 0) de_int (fun _ _ => rfl)) de_str (nomark _)) (dss_one (ds_ret (de_lst (dl_cons (de_ixV os_ixT ix_tp (pv 0) de_int (fun _ _ => rfl)) dl_nil)))) dss_nil)
      (dss_cons (ds_set (i := 1) sc_lasts.nd rfl (Or.inl rfl) (de_lst dl_nil))
      (dss_cons (ds_for PassesOwn.never rfl (di_rev rfl T.z_reversed (de_call G_patterns_within (hr.mono (by omega)) rfl E_patterns_within.g E_patterns_within.F.kp E_patterns_within.b pass0 (dl_cons (dv 0) dl_nil))) (dg_name (i := 2) sc_lasts.nd rfl (Or.inl rfl)) (dss_cons (ds_set (i := 1) sc_lasts.nd rfl (Or.inl rfl) (de_op os_cat op_cat (de_call G_lasts (hr.mono (by omega)) rfl E_lasts.g E_lasts.F.kp E_lasts.b pass0 (dl_cons (dv 2) dl_nil)) (dv 1)))
      (dss_one (ds_if (dt_w (dw_and (dt_cmp os_eq op_eq (de_ixV os_ixT ix_tp (pv 0) de_int (fun _ _ => rfl)) de_str (nomark _)) (dw_and1 (dt_not (dt_val (de_call G_bare (hr.mono (by omega)) rfl E_bare.g E_bare.F.kp E_bare.b pass0 (dl_cons (dv 2) dl_nil))))))) (dss_one ds_break) dss_nil))))
      (dss_one (ds_ret (dm 1)))))), ?_⟩
    have sz := sizeL24
    rcases pat_kind p with ⟨s, rfl⟩ | ⟨h1, z, r, ep, hz, hrow⟩
    · simp only [patD]
      walk_at "vd"
      exact ⟨by omega, q⟩
    · have er := ep
      rw [ep]
      walk_at "vd"
      rw [if_neg (by simpa using hz), ← ep]
      refine ⟨by omega, p, rfl, ?_⟩
      walk_at "vd"
      by_cases hzr : z = "row"
      · obtain ⟨ps, rfl⟩ := hrow.mp hzr
        subst hzr
        simp only [kids] at *
        refine loopD [2] (fun r δ => ∃ pre suf, ps = pre ++ suf ∧ r = (patDs pre).reverse ∧ bareAll suf = true ∧ δ = [.fz (patD (.row ps)), .ob false (.lst ((lastsR suf).map .str)), .no]) ⟨ps, [], by simp, rfl, rfl, rfl⟩ ?_ ?_
        · rintro d r δ ⟨pre, suf, e1, e2, hb, rfl⟩
          rcases List.eq_nil_or_concat pre with rfl | ⟨pre, c, rfl⟩
          · cases e2
          · rw [List.concat_eq_append, patDs_app, patDs, patDs, List.reverse_append] at e2
            cases e2
            rw [List.concat_eq_append, List.append_assoc] at e1
            simp only [patD]
            walk_at "vd"
            have hc : c ∈ kids (.row ps) := by rw [e1]; simp [kids]
            have e5 := kids_sz (.row ps)
            rw [show kids (.row ps) = ps from rfl, e1, szPs_app, szPs_app, szPs, szPs] at e5
            rw [← e1] at e5
            have e6 := kids_dp hc
            have e7 := lastsP_len c
            have e9 := lastsR_len suf
            refine ⟨c, rfl, by omega, by omega, ?_⟩
            walk_at "vd"
            refine ⟨by simp; omega, c, rfl, by omega, by omega, ?_⟩
            walk_at "vd"
            have el : lastsR (c :: suf) = lastsP c ++ lastsR suf := by simp [lastsR, hb]
            cases hbc : bareP c with
            | true =>
              rw [if_neg (by simp)]
              refine ⟨pre, c :: suf, by simp [e1], rfl, by simp [bareAll, hb, hbc], ?_⟩
              rw [el]
              simp
            | false =>
              rw [if_pos (by simp)]
              have en : bareAll (c :: suf) = false := by simp [bareAll, hbc]
              have eq : lastsP (.row ps) = lastsP c ++ lastsR suf := by
                rw [lastsP, e1, List.singleton_append, lastsR_no _ _ en, el]
              rw [eq] at q
              simpa using q
        · rintro δ ⟨pre, suf, e1, e2, hb, rfl⟩
          have ep : pre = [] := by
            have := congrArg List.length e2
            rw [List.length_reverse, patDs_len] at this
            exact List.length_eq_zero_iff.mp this.symm
          subst ep
          walk_at "vd"
          rw [List.nil_append] at e1
          subst e1
          exact q
      · have hnr : ∀ ps, p ≠ .row ps := fun ps e => hzr (hrow.mpr ⟨ps, e⟩)
        refine loopD [2] (fun r δ => ∃ pre suf, kids p = pre ++ suf ∧ r = (patDs pre).reverse ∧ δ = [.fz (patD p), .ob false (.lst ((lastsA suf).map .str)), .no]) ⟨kids p, [], by simp, rfl, rfl⟩ ?_ ?_
        · rintro d r δ ⟨pre, suf, e1, e2, rfl⟩
          rcases List.eq_nil_or_concat pre with rfl | ⟨pre, c, rfl⟩
          · cases e2
          · rw [List.concat_eq_append, patDs_app, patDs, patDs, List.reverse_append] at e2
            cases e2
            rw [List.concat_eq_append, List.append_assoc] at e1
            rw [ep]
            walk_at "vd"
            have hc : c ∈ kids p := by rw [e1]; simp
            have e5 := kids_sz p
            rw [e1, szPs_app, szPs_app, szPs, szPs] at e5
            have e6 := kids_dp hc
            have e7 := lastsP_len c
            have e9 := lastsA_len suf
            refine ⟨c, rfl, by omega, by omega, ?_⟩
            walk_at "vd"
            refine ⟨by simp; omega, ?_⟩
            rw [if_neg (by simpa using hzr)]
            refine ⟨pre, c :: suf, by simp [e1], rfl, ?_⟩
            simp [lastsA]
        · rintro δ ⟨pre, suf, e1, e2, rfl⟩
          have ep' : pre = [] := by
            have := congrArg List.length e2
            rw [List.length_reverse, patDs_len] at this
            exact List.length_eq_zero_iff.mp this.symm
          subst ep'
          walk_at "vd"
          rw [List.nil_append] at e1
          rw [lastsP_kids h1 hnr, e1] at q
          exact q
end
open PySem L2 VL
local macro_rules | `(tactic| walk_at "rd") => `(tactic| simp only [L2.start, tSeq, tNext, tAsg, gName, tVar, tC, tOp, tTest, tIfS, tRet, tDrop, tCall, tCB, tCons, tNil, tNot, tOr, tB, tTup, tLst, tIf, rEq, scal, rAppend, rCat, tLM, tLM0, tDGet, sDPut, tDNewK, tB, upd_none, upd_same, and_imp, ne_eq, HO.lst.injEq, HO.tup.injEq, cxOf_K, cxOf_A, Int.toNat_natCast, tFor_r1, tFor_l, List.map_cons, List.map_nil, List.length_cons, List.length_nil, Nat.reduceAdd, Nat.reduceSub, List.replicate_succ, List.replicate_zero, List.cons_append, List.nil_append, List.append_nil, List.getElem?_cons_zero, List.getElem?_cons_succ, List.set_cons_zero, List.set_cons_succ, Option.some.injEq, V.int.injEq, V.str.injEq, V.ref.injEq, V.bl.injEq, V.ty.injEq, List.cons.injEq, exists_eq_left', and_true, true_and, and_assoc, exists_and_left, reduceCtorEq, false_and, exists_false, false_or, or_false, decide_eq_true_eq, if_true, if_false, Bool.true_eq_false, Bool.false_eq_true, Bool.not_true, Bool.not_false, Bool.not_eq_eq_eq_not])
local macro_rules | `(tactic| walk_at "rs") => `(tactic| simp only [L2.start, tSeq, tNext, tAsg, gName, tVar, tC, tOp, tTest, tRet, tDrop, tCall, tCB, tCons, tNil, tNot, tOr, tB, tTup, tLst, tIf, rEq, scal, rAppend, rCat, tLM, tLM0, tDGet, sDPut, tDNewK, tB, upd_none, upd_same, and_imp, ne_eq, HO.lst.injEq, HO.tup.injEq, cxOf_K, cxOf_A, Int.toNat_natCast, tFor_r1, tFor_l, List.map_cons, List.map_nil, List.length_cons, List.length_nil, Nat.reduceAdd, Nat.reduceSub, List.replicate_succ, List.replicate_zero, List.cons_append, List.nil_append, List.append_nil, List.getElem?_cons_zero, List.getElem?_cons_succ, List.set_cons_zero, List.set_cons_succ, Option.some.injEq, V.int.injEq, V.str.injEq, V.ref.injEq, V.bl.injEq, V.ty.injEq, List.cons.injEq, exists_eq_left', and_true, true_and, and_assoc, exists_and_left, reduceCtorEq, false_and, exists_false, false_or, or_false, decide_eq_true_eq, if_true, if_false, Bool.true_eq_false, Bool.false_eq_true, Bool.not_true, Bool.not_false, Bool.not_eq_eq_eq_not])
theorem hu1 {n : Nat} (h : n + 100 < cLine) : n + 1 < cLine := by omega
theorem spD_plain {R : RD} {vs : List V} {ds : List D} {H : Hp} {Q : VK} {E : XK} {Qd : Bool → D → List Slot → Prop} (r : Reps H ds vs) (h : R (ds.map .fz) Qd) (k : ∀ b d δ' v H', Same H H' → Qd b d δ' → Rep H' d v → Q v H') : spD R vs H Q E := by
  refine ⟨none, [], H, _, Qd, fun p a e => by simp at e, argsEI (Same.refl _) r, h, fun b d v δ' F' H' I q => ?_⟩
  obtain ⟨F2, s, I2, rv⟩ := I.fr
  exact k b d δ' v H' I.base q (Rep.mono I2.sub _ _ rv)
theorem fn_noneS {P : Program} {w : World} {K : PySem.W.Frag} {mg : Str → Option Value} {base : Heap} {f : Addr} {fd : FuncData} {k : Nat} {ps : List Str} {S : Sp} (h : ∀ vs H Q E, ¬ S vs H Q E) : FnOk P w K mg base CX0 k f fd ps S :=
  ⟨fun vs H Q E q => (h _ _ _ _ q).elim, fun A outer s H args us vs Q E _ _ _ _ q => (h _ _ _ _ q).elim⟩
structure Fol (H : Hp) (a : Addr) (okvs : List (Key × V)) (S : List Str) (ad : Str → Addr) (M : Str → Str → Bool) (c : Nat) : Prop where
  at_ : H a = some (.dK okvs)
  out : ∀ s ∈ S, valV okvs (.inr s) = some (.ref (ad s))
  inj : ∀ s ∈ S, ∀ s' ∈ S, ad s = ad s' → s = s'
  na : ∀ s ∈ S, ad s ≠ a
  inn : ∀ s ∈ S, ∃ kvs, H (ad s) = some (.dK kvs) ∧ kvs.length ≤ c ∧ (∀ kv ∈ kvs, kv.2 = .bl true ∧ ∃ t, kv.1 = .inr t) ∧ ∀ t, (valV kvs (.inr t)).isSome = M s t
def Kp (S : List Str) (ad : Str → Addr) (H H' : Hp) : Prop := ∀ b o, (∀ s ∈ S, b ≠ ad s) → H b = some o → H' b = some o
theorem Kp.refl {S : List Str} {ad : Str → Addr} {H : Hp} : Kp S ad H H := fun _ _ _ e => e
theorem Kp.trans {S : List Str} {ad : Str → Addr} {H H' H'' : Hp} (h : Kp S ad H H') (h' : Kp S ad H' H'') : Kp S ad H H'' := fun b o n e => h' b o n (h b o n e)
theorem Kp.of {S : List Str} {ad : Str → Addr} {H H' : Hp} (h : Same H H') : Kp S ad H H' := fun b o _ e => h b o e
section
variable {H : Hp} {a : Addr} {okvs : List (Key × V)} {S : List Str} {ad : Str → Addr} {M : Str → Str → Bool} {c : Nat}
theorem Fol.lst (h : Fol H a okvs S ad M c) {b : Addr} {xs : List V} (e : H b = some (.lst xs)) : ∀ s ∈ S, b ≠ ad s := fun s hs z => by
  obtain ⟨kvs, e', _⟩ := h.inn s hs
  rw [← z, e] at e'; cases e'
theorem Fol.tup (h : Fol H a okvs S ad M c) {b : Addr} {xs : List V} (e : H b = some (.tup xs)) : ∀ s ∈ S, b ≠ ad s := fun s hs z => by
  obtain ⟨kvs, e', _⟩ := h.inn s hs
  rw [← z, e] at e'; cases e'
theorem Fol.same {H' : Hp} (h : Fol H a okvs S ad M c) (s : Same H H') : Fol H' a okvs S ad M c :=
  ⟨s _ _ h.at_, h.out, h.inj, h.na, fun z hz => by obtain ⟨kvs, e, r⟩ := h.inn z hz; exact ⟨kvs, s _ _ e, r⟩⟩
theorem Fol.cong {M' : Str → Str → Bool} {c' : Nat} (h : Fol H a okvs S ad M c) (e : ∀ s ∈ S, ∀ t, M s t = M' s t) (l : c ≤ c') : Fol H a okvs S ad M' c' :=
  ⟨h.at_, h.out, h.inj, h.na, fun z hz => by obtain ⟨kvs, e1, e2, e3, e4⟩ := h.inn z hz; exact ⟨kvs, e1, by omega, e3, fun t => by rw [e4, e z hz]⟩⟩
theorem putK_len {κ : Type} [DecidableEq κ] (kvs : List (κ × V)) (k : κ) (v : V) : (putK kvs k v).length ≤ kvs.length + 1 := by
  unfold putK
  split <;> simp
theorem putK_mem {κ : Type} [DecidableEq κ] {kvs : List (κ × V)} {k : κ} {v : V} {kv : κ × V} (h : kv ∈ putK kvs k v) : kv ∈ kvs ∨ kv = (k, v) := by
  unfold putK at h
  split at h
  · obtain ⟨q, hq, e⟩ := List.mem_map.mp h
    split at e
    · rename_i z; right; rw [← e, z]
    · left; rw [← e]; exact hq
  · rcases List.mem_append.mp h with h | h
    · exact .inl h
    · exact .inr (by simpa using h)
theorem Fol.put {kvs : List (Key × V)} {s t : Str} (h : Fol H a okvs S ad M c) (hs : s ∈ S) (e : H (ad s) = some (.dK kvs)) :
    Fol (upd H (ad s) (.dK (putK kvs (.inr t) (.bl true)))) a okvs S ad (fun s' t' => M s' t' || (decide (s' = s) && decide (t' = t))) (c + 1) where
  at_ := by rw [upd_ne fun z => h.na s hs z.symm]; exact h.at_
  out := h.out
  inj := h.inj
  na := h.na
  inn := fun s' hs' => by
    by_cases z : s' = s
    · subst z
      obtain ⟨kvs', e', l, all, m⟩ := h.inn s' hs'
      rw [e] at e'; cases e'
      refine ⟨_, upd_same, Nat.le_trans (putK_len _ _ _) (by omega), fun kv hkv => ?_, fun t' => ?_⟩
      · rcases putK_mem hkv with hk | rfl
        · exact all kv hk
        · exact ⟨rfl, t, rfl⟩
      · rw [valV_put]
        by_cases zt : t' = t
        · subst zt; simp
        · rw [if_neg (fun z => zt (Sum.inr.inj z)), m]; simp [zt]
    · obtain ⟨kvs', e', l, all, m⟩ := h.inn s' hs'
      refine ⟨kvs', by rw [upd_ne fun y => z (h.inj s' hs' s hs y)]; exact e', by omega, all, fun t' => ?_⟩
      rw [m]; simp [z]
end
section
variable {P : Program} {w : World} {K : PySem.W.Frag} {mg : Str → Option Value} {base : Heap} {f : Addr} {fd : FuncData}
def sp_link : Sp := fun vs H Q _ => ∃ (e b a : Addr) (ends begins : List Str) (okvs : List (Key × V)) (S : List Str) (ad : Str → Addr) (M : Str → Str → Bool) (c : Nat), vs = [.ref e, .ref b, .ref a] ∧ H e = some (.lst (ends.map .str)) ∧ H b = some (.lst (begins.map .str)) ∧ Fol H a okvs S ad M c ∧
  (∀ s ∈ ends, s ∈ S) ∧ ends.length ≤ 100 ∧ begins.length ≤ 100 ∧ c + 10000 < sizeLine ∧ ∀ H', Kp S ad H H' → Fol H' a okvs S ad (fun s t => M s t || (decide (s ∈ ends) && decide (t ∈ begins))) (c + 10000) → Q .non H'
theorem ok_link (E_link : Ent K mg "link" s_link ["ends", "begins", "followers"] f fd) (T : Zs K mg) : FnOk P w K mg base CX0 1 f fd ["ends", "begins", "followers"] sp_link := by
  refine E_link.F.ok sc_link (fun vs H Q E h => ?_) (fun cdv A outer s H vs Q E hr h => ?_)
  · obtain ⟨_, _, _, _, _, _, _, _, _, _, rfl, _⟩ := h; rfl
  · obtain ⟨e, b, a, ends, begins, okvs, S, ad, M, c, rfl, he, hb, fo, sub, l1, l2, hc, q⟩ := h
    have hu := hu100 hr
    refine ⟨_, (pss_one (ps_for PassesOwn.never rfl (pi_list (pv 0)) (pg_name (i := 3) sc_link.nd rfl (Or.inl rfl)) (pss_one (ps_for PassesOwn.never rfl (pi_list (pv 1)) (pg_name (i := 4) sc_link.nd rfl (Or.inl rfl)) (pss_one (ps_dput (hu1 hu) (pe_dget (hu1 hu) (pv 2) (pv 3) (fun _ _ => rfl)) (pv 4) pe_bl rfl)))))), ?_⟩
    have sz := sizeL24
    walk_at "rs"
    refine ⟨⟨_, SqL.of he⟩, loopL (xs := ends.map .str) (fun i σ H' => ∃ x3 x4, σ = [some (.ref e), some (.ref b), some (.ref a), x3, x4] ∧ Kp S ad H H' ∧ Fol H' a okvs S ad (fun s t => M s t || (decide (s ∈ ends.take i) && decide (t ∈ begins))) (c + 100 * i)) ⟨_, _, rfl, Kp.refl, fo.cong (fun s _ t => by simp) (by omega)⟩ (fun i σ H' _ h => ?_) (fun i x σ H' hx h => ?_) fun σ H' h => ?_⟩
    · obtain ⟨_, _, _, kp, _⟩ := h
      exact SqL.of (kp _ _ (fo.lst he) he)
    · obtain ⟨x3, x4, rfl, kp, fo1⟩ := h
      obtain ⟨s, hs, rfl⟩ : ∃ s, ends[i]? = some s ∧ x = .str s := by
        rw [List.getElem?_map] at hx
        obtain ⟨s, h1, h2⟩ := Option.map_eq_some_iff.mp hx
        exact ⟨s, h1, h2.symm⟩
      have hi := (List.getElem?_eq_some_iff.mp hs).1
      have hsS : s ∈ S := sub s (List.mem_of_getElem? hs)
      walk_at "rs"
      have hb' : H' b = some (.lst (begins.map .str)) := kp _ _ (fo.lst hb) hb
      refine ⟨⟨_, SqL.of hb'⟩, loopL (xs := begins.map .str) (fun j σ H2 => ∃ x4, σ = [some (.ref e), some (.ref b), some (.ref a), some (.str s), x4] ∧ Kp S ad H H2 ∧ Fol H2 a okvs S ad (fun s' t => M s' t || (decide (s' ∈ ends.take i) && decide (t ∈ begins)) || (decide (s' = s) && decide (t ∈ begins.take j))) (c + 100 * i + j)) ⟨_, rfl, kp, fo1.cong (fun s _ t => by simp) (by omega)⟩ (fun j σ H2 _ h => ?_) (fun j x σ H2 hx h => ?_) fun σ H2 h => ?_⟩
      · obtain ⟨_, _, kp, _⟩ := h
        exact SqL.of (kp _ _ (fo.lst hb) hb)
      · obtain ⟨x4, rfl, kp2, fo2⟩ := h
        obtain ⟨t, ht, rfl⟩ : ∃ t, begins[j]? = some t ∧ x = .str t := by
          rw [List.getElem?_map] at hx
          obtain ⟨s, h1, h2⟩ := Option.map_eq_some_iff.mp hx
          exact ⟨s, h1, h2.symm⟩
        have hj := (List.getElem?_eq_some_iff.mp ht).1
        obtain ⟨kvs, ek, lk, _⟩ := fo2.inn s hsS
        walk_at "rd"
        refine ⟨_, DGet.s fo2.at_ (fo2.out s hsS), ad s, rfl, _, DPut.s ek (by omega), fun b' o n e' => ?_, (fo2.put (t := t) hsS ek).cong (fun s' _ t' => ?_) (by omega)⟩
        · rw [upd_ne (n s hsS)]; exact kp2 b' o n e'
        · have et : begins.take (j + 1) = begins.take j ++ [t] := by rw [List.take_add_one, ht]; rfl
          rw [et]
          simp only [List.mem_append, List.mem_singleton]
          by_cases z1 : s' = s <;> by_cases z2 : t' ∈ begins.take j <;> by_cases z3 : t' = t <;> simp [z1, z2, z3]
      · obtain ⟨x4, rfl, kp2, fo2⟩ := h
        refine ⟨_, _, rfl, kp2, fo2.cong (fun s' _ t => ?_) (by rw [List.length_map]; omega)⟩
        have et : ends.take (i + 1) = ends.take i ++ [s] := by rw [List.take_add_one, hs]; rfl
        rw [et, List.length_map, List.take_length]
        simp only [List.mem_append, List.mem_singleton]
        by_cases z1 : s' ∈ ends.take i <;> by_cases z2 : s' = s <;> by_cases z3 : t ∈ begins <;> simp [z1, z2, z3]
    · obtain ⟨x3, x4, rfl, kp, fo1⟩ := h
      rw [List.length_map, List.take_length] at fo1
      exact q _ kp (fo1.cong (fun _ _ _ => rfl) (by omega))
end
open PySem L2 VL
def linkR : List Str → List Pat → Str → Str → Bool
  | _, [] => fun _ _ => false
  | ends, c :: cs => fun s t => (decide (s ∈ ends) && decide (t ∈ firstsP c)) || linkR (lastsP c ++ if bareP c then ends else []) cs s t
mutual
def LkP : Pat → Str → Str → Bool
  | .none => fun _ _ => false
  | .one _ => fun _ _ => false
  | .row ps => fun s t => LkL ps s t || linkR [] ps s t
  | .any ps => fun s t => LkL ps s t
  | .wrap .maybe p => fun s t => LkP p s t
  | .wrap _ p => fun s t => LkP p s t || (decide (s ∈ lastsP p) && decide (t ∈ firstsP p))
def LkL : List Pat → Str → Str → Bool
  | [] => fun _ _ => false
  | p :: ps => fun s t => LkP p s t || LkL ps s t
end
mutual
theorem lastsP_signs {s : Str} : ∀ p : Pat, s ∈ lastsP p → s ∈ signsP p
  | .none, h => by simp [lastsP] at h
  | .one _, h => by simpa [lastsP, signsP] using h
  | .row ps, h => by simp only [lastsP, signsP] at h ⊢; exact lastsR_signs ps h
  | .any ps, h => by simp only [lastsP, signsP] at h ⊢; exact lastsA_signs ps h
  | .wrap _ p, h => by simp only [lastsP, signsP] at h ⊢; exact lastsP_signs p h
theorem lastsR_signs {s : Str} : ∀ ps : List Pat, s ∈ lastsR ps → s ∈ signsPs ps
  | [], h => by simp [lastsR] at h
  | p :: ps, h => by
    simp only [lastsR, signsPs, List.mem_append] at h ⊢
    rcases h with h | h
    · split at h
      · exact .inl (lastsP_signs p h)
      · cases h
    · exact .inr (lastsR_signs ps h)
theorem lastsA_signs {s : Str} : ∀ ps : List Pat, s ∈ lastsA ps → s ∈ signsPs ps
  | [], h => by simp [lastsA] at h
  | p :: ps, h => by
    simp only [lastsA, signsPs, List.mem_append] at h ⊢
    rcases h with h | h
    · exact .inl (lastsP_signs p h)
    · exact .inr (lastsA_signs ps h)
end
theorem signs_mem {s : Str} {c : Pat} : ∀ {ps : List Pat}, c ∈ ps → s ∈ signsP c → s ∈ signsPs ps
  | q :: ps, h, hs => by
    simp only [signsPs, List.mem_append]
    rcases List.mem_cons.mp h with rfl | h
    · exact .inl hs
    · exact .inr (signs_mem h hs)
theorem Kp.frz {S : List Str} {ad : Str → Addr} {F H H' : Hp} (h : Kp S ad H H') (s : Same F H) (n : ∀ s ∈ S, F (ad s) = none) : Same F H' := fun b o e => h b o (fun z hz y => by rw [y, n z hz] at e; cases e) (s b o e)
theorem reps_at {F : Hp} : ∀ {ps : List Pat} {vs : List V} {i : Nat} {v : V}, Reps F (patDs ps) vs → vs[i]? = some v → ∃ c, ps[i]? = some c ∧ Rep F (patD c) v
  | ps, vs, i, v, r, e => by
    obtain ⟨d, ed, rd⟩ := r.get' e
    rw [patDs_map, List.getElem?_map] at ed
    obtain ⟨c, ec, rfl⟩ := Option.map_eq_some_iff.mp ed
    exact ⟨c, ec, rd⟩
section
variable {P : Program} {w : World} {K : PySem.W.Frag} {mg : Str → Option Value} {base : Heap} {f : Addr} {fd : FuncData}
def sp_link_row (n : Nat) : Sp := fun vs H Q _ => ∃ (l a : Addr) (ps : List Pat) (F : Hp) (okvs : List (Key × V)) (S : List Str) (ad : Str → Addr) (M : Str → Str → Bool) (c : Nat), vs = [.ref l, .ref a] ∧ Rep F (.lst (patDs ps)) (.ref l) ∧ Same F H ∧ (∀ s ∈ S, F (ad s) = none) ∧ Fol H a okvs S ad M c ∧
  (∀ s ∈ signsPs ps, s ∈ S) ∧ szPs ps ≤ 100 ∧ dpPs ps < n ∧ c + 10000 * ps.length < sizeLine ∧ ∀ H', Kp S ad H H' → Fol H' a okvs S ad (fun s t => M s t || linkR [] ps s t) (c + 10000 * ps.length) → Q .non H'
theorem ok_link_row {f1 f2 f3 f4 f5 : Addr} {fd1 fd2 fd3 fd4 fd5 : FuncData} (E_link_row : Ent K mg "link_row" s_link_row ["patterns", "followers"] f fd) (T : Zs K mg) (E_link : Ent K mg "link" s_link ["ends", "begins", "followers"] f1 fd1) (E_firsts : Ent K mg "firsts" s_firsts ["pattern"] f2 fd2) (E_lasts : Ent K mg "lasts" s_lasts ["pattern"] f3 fd3) (E_bare : Ent K mg "bare" s_bare ["pattern"] f4 fd4) (E_patterns_within : Ent K mg "patterns_within" s_patterns_within ["pattern"] f5 fd5) (n : Nat) :
    FnOk P w K mg base CX0 (n + 4) f fd ["patterns", "followers"] (sp_link_row n) := by
  have G_link : FnOk P w K mg base CX0 1 f1 fd1 _ sp_link := ok_link E_link T
  have G_firsts : FnOk P w K mg base CX0 (n + 3) f2 fd2 _ (spD (R_firsts n)) := ok_firsts E_firsts T E_patterns_within E_bare n
  have G_lasts : FnOk P w K mg base CX0 (n + 3) f3 fd3 _ (spD (R_lasts n)) := ok_lasts E_lasts T E_patterns_within E_bare n
  have G_bare : FnOk P w K mg base CX0 (n + 2) f4 fd4 _ (spD (R_bare n)) := ok_bare E_bare T n
  refine E_link_row.F.ok sc_link_row (fun vs H Q E h => ?_) (fun cdv A outer s H vs Q E hr h => ?_)
  · obtain ⟨_, _, _, _, _, _, _, _, _, rfl, _⟩ := h; rfl
  · obtain ⟨l, a, ps, F, okvs, S, ad, M, c, rfl, ⟨_, us, e0, hl, rl⟩, sF, nF, fo, sub, l1, l2, hc, q⟩ := h
    cases e0
    have hu := hu100 hr
    refine ⟨_, (pss_cons (ps_set (i := 2) sc_link_row.nd rfl (Or.inl rfl) (pe_lst pa_nil))
      (pss_one (ps_for PassesOwn.never rfl (pi_list (pv 0)) (pg_name (i := 3) sc_link_row.nd rfl (Or.inl rfl)) (pss_cons (ps_expr (pe_call G_link (hr.mono (by omega)) rfl E_link.g E_link.F.kp E_link.b .nil pass0 (pa_cons (pv 2) (pa_cons (pe_call G_firsts (hr.mono (by omega)) rfl E_firsts.g E_firsts.F.kp E_firsts.b .nil pass0 (pa_cons (pv 3) pa_nil)) (pa_cons (pv 1) pa_nil)))))
      (pss_one (ps_set (i := 2) sc_link_row.nd rfl (Or.inl rfl) (pe_op op_cat (pe_call G_lasts (hr.mono (by omega)) rfl E_lasts.g E_lasts.F.kp E_lasts.b .nil pass0 (pa_cons (pv 3) pa_nil)) (pe_ifExp (pt_val (pe_call G_bare (hr.mono (by omega)) rfl E_bare.g E_bare.F.kp E_bare.b .nil pass0 (pa_cons (pv 3) pa_nil))) (pv 2) (pe_lst pa_nil))))))))), ?_⟩
    have sz := sizeL24
    have plen := szPs_len ps
    have ulen := rl.len
    rw [patDs_len] at ulen
    walk_at "rs"
    refine ⟨by omega, fun p hp => ?_⟩
    have s0 : Same H (upd H p (.lst [])) := Same.of_new hp
    refine ⟨⟨us, SqL.of (s0 _ _ (sF _ _ hl))⟩, loopL (xs := us) (fun i σ H' => ∃ e Es M' x3, σ = [some (.ref l), some (.ref a), some (.ref e), x3] ∧ H' e = some (.lst (Es.map .str)) ∧ (∀ s ∈ Es, s ∈ S) ∧ Es.length ≤ szPs (ps.take i) ∧ Kp S ad H H' ∧ Fol H' a okvs S ad M' (c + 10000 * i) ∧ ∀ s t, (M' s t || linkR Es (ps.drop i) s t) = (M s t || linkR [] ps s t)) ⟨p, [], M, _, rfl, upd_same, fun s h => (by cases h), by simp, Kp.of s0, (fo.same s0).cong (fun _ _ _ => rfl) (by omega), fun _ _ => rfl⟩ (fun i σ H' _ h => ?_) (fun i x σ H' hx h => ?_) fun σ H' h => ?_⟩
    · obtain ⟨_, _, _, _, _, _, _, _, kp, _⟩ := h
      exact SqL.of (kp.frz sF nF _ _ hl)
    · obtain ⟨e, Es, M', x3, rfl, he, hEs, lEs, kp, fo1, eqn⟩ := h
      obtain ⟨ch, hch, rch⟩ := reps_at rl hx
      have hmem := List.mem_of_getElem? hch
      have d1 := dpPs_mem hmem
      have z1 := szPs_mem hmem
      have f1 := firstsP_len ch
      have la1 := lastsP_len ch
      have hi := (List.getElem?_eq_some_iff.mp hch).1
      have et : ps.take (i + 1) = ps.take i ++ [ch] := by rw [List.take_add_one, hch]; rfl
      have ed : ps.drop i = ch :: ps.drop (i + 1) := by
        obtain ⟨hi, e⟩ := List.getElem?_eq_some_iff.mp hch
        rw [← e]; exact List.drop_eq_getElem_cons hi
      have ez := congrArg szPs (List.take_append_drop i ps)
      rw [szPs_app, ed, szPs] at ez
      have sF1 := kp.frz sF nF
      walk_at "rs"
      refine spD_plain (ds := [patD ch]) (Qd := fun b d _ => d = .lst ((firstsP ch).map .str)) ⟨_, _, rfl, Rep.mono sF1 _ _ rch, rfl⟩ ⟨ch, rfl, by omega, by omega, rfl⟩ fun b1 dd1 δ1 v1 H1 s1 ed1 rd1 => ?_
      subst ed1
      obtain ⟨b, bs, rfl, hb, rb⟩ := rd1
      rw [rb.strs] at hb
      refine ⟨e, b, a, Es, firstsP ch, okvs, S, ad, M', _, rfl, s1 _ _ he, hb, fo1.same s1, hEs, by omega, by omega, by omega, fun H2 kp2 fo2 => ?_⟩
      have sF2 : Same F H2 := kp2.frz (sF1.trans s1) nF
      have kp02 : Kp S ad H H2 := (kp.trans (.of s1)).trans kp2
      have he2 : H2 e = some (.lst (Es.map .str)) := kp2 _ _ (fo1.lst he) (s1 _ _ he)
      refine spD_plain (ds := [patD ch]) (Qd := fun b d _ => d = .lst ((lastsP ch).map .str)) ⟨_, _, rfl, Rep.mono sF2 _ _ rch, rfl⟩ ⟨ch, rfl, by omega, by omega, rfl⟩ fun b3 dd3 δ3 v3 H3 s3 ed3 rd3 => ?_
      subst ed3
      obtain ⟨la, las, rfl, hla, rla⟩ := rd3
      rw [rla.strs] at hla
      refine spD_plain (ds := [patD ch]) (Qd := fun b d _ => d = .bl (bareP ch)) ⟨_, _, rfl, Rep.mono (sF2.trans s3) _ _ rch, rfl⟩ ⟨ch, rfl, by omega, by omega, rfl⟩ fun b4 dd4 δ4 v4 H4 s4 ed4 rd4 => ?_
      subst ed4
      have s24 := s3.trans s4
      have eqn' : ∀ Es', (∀ s t, linkR Es (ps.drop i) s t = ((decide (s ∈ Es) && decide (t ∈ firstsP ch)) || linkR Es' (ps.drop (i + 1)) s t)) → ∀ s t, ((M' s t || (decide (s ∈ Es) && decide (t ∈ firstsP ch))) || linkR Es' (ps.drop (i + 1)) s t) = (M s t || linkR [] ps s t) := fun Es' h s t => by
        rw [← eqn, h, Bool.or_assoc]
      have subl : ∀ s ∈ lastsP ch, s ∈ S := fun s hs => sub s (signs_mem hmem (lastsP_signs ch hs))
      refine ⟨bareP ch, rd4, ?_⟩
      cases hb : bareP ch with
      | true =>
        rw [if_pos rfl]
        refine ⟨la, rfl, _, s4 _ _ hla, _, s24 _ _ he2, by simp; omega, fun p hp => ⟨lastsP ch ++ Es, by simp, fun s hs => ?_, by rw [et, szPs_app, szPs, szPs]; simp; omega, kp02.trans (.of (s24.trans (Same.of_new hp))), _, (fo2.same (s24.trans (Same.of_new hp))).cong (fun _ _ _ => rfl) (by omega), eqn' _ fun s t => by rw [ed, linkR, hb]; rfl⟩⟩
        rcases List.mem_append.mp hs with h | h
        · exact subl s h
        · exact hEs s h
      | false =>
        rw [if_neg (by simp)]
        refine ⟨by omega, fun p hp => ⟨la, rfl, _, (Same.of_new hp) _ _ (s4 _ _ hla), by simp; omega, fun p1 np hp1 => ⟨lastsP ch, rfl, subl, by rw [et, szPs_app, szPs, szPs]; omega, ?_, _, (fo2.same ((s24.trans (Same.of_new hp)).trans (Same.of_new (upd_none.mpr ⟨np, hp1⟩)))).cong (fun _ _ _ => rfl) (by omega), eqn' _ fun s t => by rw [ed, linkR, hb]; simp⟩⟩⟩
        exact kp02.trans (.of ((s24.trans (Same.of_new hp)).trans (Same.of_new (upd_none.mpr ⟨np, hp1⟩))))
    · obtain ⟨e, Es, M', x3, rfl, he, hEs, lEs, kp, fo1, eqn⟩ := h
      rw [← ulen, List.drop_length] at eqn
      exact q _ kp (fo1.cong (fun s _ t => by rw [← eqn]; simp [linkR]) (by omega))
end
open PySem L2 VL
def noD (H : Hp) : Hp := fun b => match H b with | some (.dK _) => none | o => o
theorem noD_sub {H : Hp} : Same (noD H) H := fun b o e => by
  unfold noD at e
  split at e
  · cases e
  · exact e
theorem noD_d {H : Hp} {b : Addr} {kvs : List (Key × V)} (e : H b = some (.dK kvs)) : noD H b = none := by unfold noD; rw [e]
theorem noD_t {H : Hp} {b : Addr} {xs : List V} (e : H b = some (.tup xs)) : noD H b = some (.tup xs) := by unfold noD; rw [e]
theorem noD_l {H : Hp} {b : Addr} {xs : List V} (e : H b = some (.lst xs)) : noD H b = some (.lst xs) := by unfold noD; rw [e]
mutual
theorem rep_noD {H : Hp} : ∀ (p : Pat) (v : V), Rep H (patD p) v → Rep (noD H) (patD p) v
  | .none, v, h => by
    obtain ⟨a, vs, e, h1, h2⟩ := h
    exact ⟨a, vs, e, noD_t h1, h2⟩
  | .one s, v, h => by
    obtain ⟨a, vs, e, h1, h2⟩ := h
    exact ⟨a, vs, e, noD_t h1, h2⟩
  | .row ps, v, h => by
    obtain ⟨a, vs, e, h1, u, r, e2, h2, u', r', e3, ⟨l, us, e4, h4, h5⟩, h6⟩ := h
    exact ⟨a, vs, e, noD_t h1, u, r, e2, h2, u', r', e3, ⟨l, us, e4, noD_l h4, reps_noD ps us h5⟩, h6⟩
  | .any ps, v, h => by
    obtain ⟨a, vs, e, h1, u, r, e2, h2, u', r', e3, ⟨l, us, e4, h4, h5⟩, h6⟩ := h
    exact ⟨a, vs, e, noD_t h1, u, r, e2, h2, u', r', e3, ⟨l, us, e4, noD_l h4, reps_noD ps us h5⟩, h6⟩
  | .wrap k p, v, h => by
    obtain ⟨a, vs, e, h1, u, r, e2, h2, u', r', e3, h3, h6⟩ := h
    exact ⟨a, vs, e, noD_t h1, u, r, e2, h2, u', r', e3, rep_noD p u' h3, h6⟩
theorem reps_noD {H : Hp} : ∀ (ps : List Pat) (vs : List V), Reps H (patDs ps) vs → Reps (noD H) (patDs ps) vs
  | [], vs, h => h
  | p :: ps, vs, h => by
    obtain ⟨v, r, e, h1, h2⟩ := h
    exact ⟨v, r, e, rep_noD p v h1, reps_noD ps r h2⟩
end
theorem Fol.noD {H : Hp} {a : Addr} {okvs : List (Key × V)} {S : List Str} {ad : Str → Addr} {M : Str → Str → Bool} {c : Nat} (h : Fol H a okvs S ad M c) : ∀ s ∈ S, noD H (ad s) = none := fun s hs => by
  obtain ⟨kvs, e, _⟩ := h.inn s hs
  exact noD_d e
theorem LkL_snoc (c : Pat) (s t : Str) : ∀ ps : List Pat, LkL (ps ++ [c]) s t = (LkL ps s t || LkP c s t)
  | [] => by simp [LkL]
  | p :: ps => by simp only [List.cons_append, LkL, LkL_snoc c s t ps, Bool.or_assoc]
theorem kids_signs {p : Pat} {s : Str} (h : s ∈ signsPs (kids p)) : s ∈ signsP p := by
  cases p <;> simpa [kids, signsP, signsPs] using h
section
variable {P : Program} {w : World} {K : PySem.W.Frag} {mg : Str → Option Value} {base : Heap} {f : Addr} {fd : FuncData}
def sp_link_all (n : Nat) : Sp := fun vs H Q _ => ∃ (x : V) (a : Addr) (p : Pat) (okvs : List (Key × V)) (S : List Str) (ad : Str → Addr) (M : Str → Str → Bool) (c : Nat), vs = [x, .ref a] ∧ Rep H (patD p) x ∧ Fol H a okvs S ad M c ∧
  (∀ s ∈ signsP p, s ∈ S) ∧ szP p ≤ 100 ∧ dpP p < n ∧ c + 20000 * szP p < sizeLine ∧ ∀ H', Kp S ad H H' → Fol H' a okvs S ad (fun s t => M s t || LkP p s t) (c + (20000 * szP p - 10000)) → Q .non H'
theorem ok_link_all {f1 f2 f3 f4 f5 f6 : Addr} {fd1 fd2 fd3 fd4 fd5 fd6 : FuncData} (E_link_all : Ent K mg "link_all" s_link_all ["pattern", "followers"] f fd) (T : Zs K mg) (E_link : Ent K mg "link" s_link ["ends", "begins", "followers"] f1 fd1) (E_firsts : Ent K mg "firsts" s_firsts ["pattern"] f2 fd2) (E_lasts : Ent K mg "lasts" s_lasts ["pattern"] f3 fd3) (E_bare : Ent K mg "bare" s_bare ["pattern"] f4 fd4) (E_patterns_within : Ent K mg "patterns_within" s_patterns_within ["pattern"] f5 fd5) (E_link_row : Ent K mg "link_row" s_link_row ["patterns", "followers"] f6 fd6) :
    ∀ n, FnOk P w K mg base CX0 (n + 5) f fd ["pattern", "followers"] (sp_link_all n) := by
  have G_link : FnOk P w K mg base CX0 1 f1 fd1 _ sp_link := ok_link E_link T
  have G_patterns_within : FnOk P w K mg base CX0 1 f5 fd5 _ (spD R_within) := ok_within E_patterns_within T
  intro n
  induction n with
  | zero => exact fn_noneS fun vs H Q E h => by obtain ⟨_, _, _, _, _, _, _, _, _, _, _, _, _, h, _⟩ := h; exact Nat.not_lt_zero _ h
  | succ n ih =>
    have G_link_all : FnOk P w K mg base CX0 (n + 5) f fd _ (sp_link_all n) := ih
    have G_link_row : FnOk P w K mg base CX0 (n + 4) f6 fd6 _ (sp_link_row n) := ok_link_row E_link_row T E_link E_firsts E_lasts E_bare E_patterns_within n
    have G_firsts : FnOk P w K mg base CX0 (n + 3) f2 fd2 _ (spD (R_firsts n)) := ok_firsts E_firsts T E_patterns_within E_bare n
    have G_lasts : FnOk P w K mg base CX0 (n + 3) f3 fd3 _ (spD (R_lasts n)) := ok_lasts E_lasts T E_patterns_within E_bare n
    refine E_link_all.F.ok sc_link_all (fun vs H Q E h => ?_) (fun cdv A outer s H vs Q E hr h => ?_)
    · obtain ⟨_, _, _, _, _, _, _, _, rfl, _⟩ := h; rfl
    · obtain ⟨x, a, p, okvs, S, ad, M, c, rfl, rx, fo, sub, l1, l2, hc, q⟩ := h
      have hu := hu100 hr
      refine ⟨_, (pss_cons (ps_for PassesOwn.never rfl (pi_list (pe_call G_patterns_within (hr.mono (by omega)) rfl E_patterns_within.g E_patterns_within.F.kp E_patterns_within.b .nil pass0 (pa_cons (pv 0) pa_nil))) (pg_name (i := 2) sc_link_all.nd rfl (Or.inl rfl)) (pss_one (ps_expr (pe_call G_link_all (hr.mono (by omega)) rfl E_link_all.g E_link_all.F.kp E_link_all.b .nil pass0 (pa_cons (pv 2) (pa_cons (pv 1) pa_nil))))))
      (pss_cons (ps_if (pt_cmpR op_eq (pe_ix ix_tp (pv 0) pe_int (fun _ _ => rfl)) pe_str (nomark _)) (pss_one (ps_expr (pe_call G_link_row (hr.mono (by omega)) rfl E_link_row.g E_link_row.F.kp E_link_row.b .nil pass0 (pa_cons (pe_ix ix_tp (pv 0) pe_int (fun _ _ => rfl)) (pa_cons (pv 1) pa_nil))))) pss_nil)
      (pss_one (ps_if (pt_cmpR op_in_tp (pe_ix ix_tp (pv 0) pe_int (fun _ _ => rfl)) (pe_tup (pa_cons pe_str (pa_cons pe_str pa_nil))) rfl) (pss_one (ps_expr (pe_call G_link (hr.mono (by omega)) rfl E_link.g E_link.F.kp E_link.b .nil pass0 (pa_cons (pe_call G_lasts (hr.mono (by omega)) rfl E_lasts.g E_lasts.F.kp E_lasts.b .nil pass0 (pa_cons (pe_ix ix_tp (pv 0) pe_int (fun _ _ => rfl)) pa_nil)) (pa_cons (pe_call G_firsts (hr.mono (by omega)) rfl E_firsts.g E_firsts.F.kp E_firsts.b .nil pass0 (pa_cons (pe_ix ix_tp (pv 0) pe_int (fun _ _ => rfl)) pa_nil)) (pa_cons (pv 1) pa_nil)))))) pss_nil)))), ?_⟩
      have sz := sizeL24
      walk_at "rs"
      refine spD_plain (ds := [patD p]) (Qd := fun b d _ => d = .lst (patDs (kids p))) ⟨_, _, rfl, rx, rfl⟩ ⟨p, rfl, rfl⟩ fun b1 dd1 δ1 v1 H1 s1 ed1 rd1 => ?_
      subst ed1
      obtain ⟨l, us, rfl, hl, rl⟩ := rd1
      have fo1 := fo.same s1
      have rF := reps_noD _ _ rl
      have nF := fo1.noD
      have kz := kids_sz p
      have ulen := rl.len
      rw [patDs_len] at ulen
      refine ⟨l, rfl, ⟨us, SqL.of hl⟩, loopL (xs := us) (fun i σ H' => ∃ x2, σ = [some x, some (.ref a), x2] ∧ Kp S ad H1 H' ∧ Fol H' a okvs S ad (fun s t => M s t || LkL ((kids p).take i) s t) (c + (20000 * szPs ((kids p).take i) - 10000 * i))) ⟨_, rfl, Kp.refl, fo1.cong (fun _ _ _ => by simp [LkL]) (by omega)⟩ (fun i σ H' _ h => ?_) (fun i x' σ H' hx h => ?_) fun σ H' h => ?_⟩
      · obtain ⟨_, _, kp, _⟩ := h
        exact SqL.of (kp.frz noD_sub nF _ _ (noD_l hl))
      · obtain ⟨x2, rfl, kp, fo2⟩ := h
        obtain ⟨ch, hch, rch⟩ := reps_at rF hx
        have hmem := List.mem_of_getElem? hch
        have d1 := kids_dp hmem
        have hi := (List.getElem?_eq_some_iff.mp hch).1
        have et : (kids p).take (i + 1) = (kids p).take i ++ [ch] := by rw [List.take_add_one, hch]; rfl
        have ed : (kids p).drop i = ch :: (kids p).drop (i + 1) := by
          obtain ⟨hi, e⟩ := List.getElem?_eq_some_iff.mp hch
          rw [← e]; exact List.drop_eq_getElem_cons hi
        have ez := congrArg szPs (List.take_append_drop i (kids p))
        rw [szPs_app, ed, szPs] at ez
        have tl := szPs_len ((kids p).take i)
        rw [List.length_take, Nat.min_eq_left (by omega)] at tl
        have cp := szP_pos ch
        walk_at "rs"
        refine ⟨x', a, ch, okvs, S, ad, _, _, rfl, Rep.mono (kp.frz noD_sub nF) _ _ rch, fo2, fun s hs => sub s (kids_signs (signs_mem hmem hs)), by omega, by omega, by omega, fun H2 kp2 fo3 => ⟨kp.trans kp2, fo3.cong (fun s _ t => ?_) ?_⟩⟩
        · rw [et, LkL_snoc, Bool.or_assoc]
        · rw [et, szPs_app, szPs, szPs]; omega
      · obtain ⟨x2, rfl, kp, fo2⟩ := h
        rw [← ulen, List.take_length] at fo2
        have kp0 : Kp S ad H H' := (Kp.of s1).trans kp
        have rx' := Rep.mono (kp0.frz noD_sub fo.noD) _ _ (rep_noD p x rx)
        have kl := szPs_len (kids p)
        cases p with
        | none =>
          obtain ⟨tp, vs, rfl, ht, u, r, rfl, h2, h3⟩ := rx'
          cases (show r = [] from h3)
          cases (show u = .str "none" from h2)
          walk_at "rd"
          refine ⟨_, ht, _, atI0, rfl, ?_⟩
          rw [if_neg (by decide)]
          refine ⟨_, ht, _, atI0, by omega, fun p hp => ⟨rfl, rfl, ?_⟩⟩
          rw [if_neg (by decide)]
          exact q _ (kp0.trans (.of (Same.of_new hp))) ((fo2.same (Same.of_new hp)).cong (fun _ _ _ => by simp [LkP, LkL, kids]) (by simp only [kids, szPs, szP, List.length_nil]; omega))
        | one s =>
          obtain ⟨tp, vs, rfl, ht, u, r, rfl, h2, u', r', rfl, h4, h3⟩ := rx'
          cases (show r' = [] from h3)
          cases (show u = .str "one" from h2)
          walk_at "rd"
          refine ⟨_, ht, _, atI0, rfl, ?_⟩
          rw [if_neg (by decide)]
          refine ⟨_, ht, _, atI0, by omega, fun p hp => ⟨rfl, rfl, ?_⟩⟩
          rw [if_neg (by decide)]
          exact q _ (kp0.trans (.of (Same.of_new hp))) ((fo2.same (Same.of_new hp)).cong (fun _ _ _ => by simp [LkP, LkL, kids]) (by simp only [kids, szPs, szP, List.length_nil]; omega))
        | row ps =>
          obtain ⟨tp, vs, rfl, ht, u, r, rfl, h2, u', r', rfl, ⟨l2, us2, rfl, hl2, rl2⟩, h3⟩ := rx'
          cases (show r' = [] from h3)
          cases (show u = .str "row" from h2)
          simp only [kids, szP, dpP] at *
          walk_at "rd"
          refine ⟨_, ht, _, atI0, rfl, ?_⟩
          rw [if_pos rfl]
          refine ⟨_, ht, _, atI1, l2, a, ps, noD H', okvs, S, ad, _, _, rfl, ⟨l2, us2, rfl, noD_l hl2, reps_noD _ _ rl2⟩, noD_sub, fo2.noD, fo2, fun s hs => sub s (by simpa [signsP] using hs), by omega, by omega, by omega, fun H2 kp2 fo3 => ?_⟩
          have ht2 := kp2 _ _ (fo2.tup ht) ht
          refine ⟨_, ht2, _, atI0, by omega, fun p hp => ⟨rfl, rfl, ?_⟩⟩
          rw [if_neg (by decide)]
          exact q _ ((kp0.trans kp2).trans (.of (Same.of_new hp))) ((fo3.same (Same.of_new hp)).cong (fun _ _ _ => by simp [LkP, Bool.or_assoc]) (by omega))
        | any ps =>
          obtain ⟨tp, vs, rfl, ht, u, r, rfl, h2, u', r', rfl, ⟨l2, us2, rfl, hl2, rl2⟩, h3⟩ := rx'
          cases (show r' = [] from h3)
          cases (show u = .str "any" from h2)
          simp only [kids, szP, dpP] at *
          walk_at "rd"
          refine ⟨_, ht, _, atI0, rfl, ?_⟩
          rw [if_neg (by decide)]
          refine ⟨_, ht, _, atI0, by omega, fun p hp => ⟨rfl, rfl, ?_⟩⟩
          rw [if_neg (by decide)]
          exact q _ (kp0.trans (.of (Same.of_new hp))) ((fo2.same (Same.of_new hp)).cong (fun _ _ _ => by simp [LkP]) (by omega))
        | wrap k p =>
          have fl := firstsP_len p
          have ll := lastsP_len p
          have sp := szP_pos p
          simp only [kids, szP, dpP, szPs, List.length_cons, List.length_nil] at *
          cases k with
          | maybe =>
            obtain ⟨tp, vs, rfl, ht, u, r, rfl, h2, u', r', rfl, h4, h3⟩ := rx'
            cases (show r' = [] from h3)
            cases (show u = .str "maybe" from h2)
            walk_at "rd"
            refine ⟨_, ht, _, atI0, rfl, ?_⟩
            rw [if_neg (by decide)]
            refine ⟨_, ht, _, atI0, by omega, fun p hp => ⟨rfl, rfl, ?_⟩⟩
            rw [if_neg (by decide)]
            exact q _ (kp0.trans (.of (Same.of_new hp))) ((fo2.same (Same.of_new hp)).cong (fun _ _ _ => by simp [LkP, LkL]) (by omega))
          | many =>
            obtain ⟨tp, vs, rfl, ht, u, r, rfl, h2, u', r', rfl, h4, h3⟩ := rx'
            cases (show r' = [] from h3)
            cases (show u = .str "many" from h2)
            walk_at "rd"
            refine ⟨_, ht, _, atI0, rfl, ?_⟩
            rw [if_neg (by decide)]
            refine ⟨_, ht, _, atI0, by omega, fun p0 hp => ⟨rfl, rfl, ?_⟩⟩
            have sp0 : Same H' (upd H' p0 (.tup [.str "many", .str "some"])) := Same.of_new hp
            rw [if_pos (by decide)]
            refine ⟨_, sp0 _ _ ht, _, atI1, ?_⟩
            refine spD_plain (ds := [patD p]) (Qd := fun b d _ => d = .lst ((lastsP p).map .str)) ⟨_, _, rfl, Rep.mono sp0 _ _ h4, rfl⟩ ⟨p, rfl, by omega, by omega, rfl⟩ fun b3 dd3 δ3 v3 H3 s3 ed3 rd3 => ?_
            subst ed3
            obtain ⟨la, las, rfl, hla, rla⟩ := rd3
            rw [rla.strs] at hla
            refine ⟨_, s3 _ _ (sp0 _ _ ht), _, atI1, ?_⟩
            refine spD_plain (ds := [patD p]) (Qd := fun b d _ => d = .lst ((firstsP p).map .str)) ⟨_, _, rfl, Rep.mono (sp0.trans s3) _ _ h4, rfl⟩ ⟨p, rfl, by omega, by omega, rfl⟩ fun b4 dd4 δ4 v4 H4 s4 ed4 rd4 => ?_
            subst ed4
            obtain ⟨fa, fas, rfl, hfa, rfa⟩ := rd4
            rw [rfa.strs] at hfa
            have s04 := (sp0.trans s3).trans s4
            exact ⟨la, fa, a, lastsP p, firstsP p, okvs, S, ad, _, _, rfl, s4 _ _ hla, hfa, fo2.same s04, fun s hs => sub s (by simpa [signsP] using lastsP_signs p hs), by omega, by omega, by omega, fun H5 kp5 fo5 => q _ ((kp0.trans (.of s04)).trans kp5) (fo5.cong (fun _ _ _ => by simp [LkP, LkL, Bool.or_assoc]) (by omega))⟩
          | some =>
            obtain ⟨tp, vs, rfl, ht, u, r, rfl, h2, u', r', rfl, h4, h3⟩ := rx'
            cases (show r' = [] from h3)
            cases (show u = .str "some" from h2)
            walk_at "rd"
            refine ⟨_, ht, _, atI0, rfl, ?_⟩
            rw [if_neg (by decide)]
            refine ⟨_, ht, _, atI0, by omega, fun p0 hp => ⟨rfl, rfl, ?_⟩⟩
            have sp0 : Same H' (upd H' p0 (.tup [.str "many", .str "some"])) := Same.of_new hp
            rw [if_pos (by decide)]
            refine ⟨_, sp0 _ _ ht, _, atI1, ?_⟩
            refine spD_plain (ds := [patD p]) (Qd := fun b d _ => d = .lst ((lastsP p).map .str)) ⟨_, _, rfl, Rep.mono sp0 _ _ h4, rfl⟩ ⟨p, rfl, by omega, by omega, rfl⟩ fun b3 dd3 δ3 v3 H3 s3 ed3 rd3 => ?_
            subst ed3
            obtain ⟨la, las, rfl, hla, rla⟩ := rd3
            rw [rla.strs] at hla
            refine ⟨_, s3 _ _ (sp0 _ _ ht), _, atI1, ?_⟩
            refine spD_plain (ds := [patD p]) (Qd := fun b d _ => d = .lst ((firstsP p).map .str)) ⟨_, _, rfl, Rep.mono (sp0.trans s3) _ _ h4, rfl⟩ ⟨p, rfl, by omega, by omega, rfl⟩ fun b4 dd4 δ4 v4 H4 s4 ed4 rd4 => ?_
            subst ed4
            obtain ⟨fa, fas, rfl, hfa, rfa⟩ := rd4
            rw [rfa.strs] at hfa
            have s04 := (sp0.trans s3).trans s4
            exact ⟨la, fa, a, lastsP p, firstsP p, okvs, S, ad, _, _, rfl, s4 _ _ hla, hfa, fo2.same s04, fun s hs => sub s (by simpa [signsP] using lastsP_signs p hs), by omega, by omega, by omega, fun H5 kp5 fo5 => q _ ((kp0.trans (.of s04)).trans kp5) (fo5.cong (fun _ _ _ => by simp [LkP, LkL, Bool.or_assoc]) (by omega))⟩
end
open PySem L2 VL
section
variable {X : Cx}
theorem dss_heap3 {s1 s2 s3 : Stmt} {rest : List Stmt} {t1 t2 t3 : TS} {u : TSd} (V : TSd → TSd) (p1 : PS X s1 t1) (p2 : PS X s2 t2) (p3 : PS X s3 t3) (h : DSs X rest u) (hs : ∀ t, SimS t u → SimS (tSeq t1 (tSeq t2 (tSeq t3 t))) (V u)) : DSs X (s1 :: s2 :: s3 :: rest) (V u) := by
  obtain ⟨t, p, s⟩ := h
  exact ⟨_, pss_cons p1 (pss_cons p2 (pss_cons p3 p)), hs t s⟩
end
theorem EI.junk {io : List (Option Addr)} {H0 F0 F H : Hp} {δ : List VL.Slot} {σ : St} {i : Nat} {o : Option V} (I : EI io H0 F0 F δ σ H) (h : δ[i]? = some .no) : EI io H0 F0 F δ (σ.set i o) H := by
  refine ⟨I.base, I.sub, I.ext, I.new, by simpa using I.len, fun j s e => ?_, fun j k b c b' c' a ne e1 e2 e3 e4 => ?_⟩
  · by_cases hj : j = i
    · subst hj; rw [h] at e; cases e; trivial
    · have := I.get j s e
      have e2 : (σ.set i o).getD j none = σ.getD j none := by
        rw [List.getD_eq_getElem?_getD, List.getElem?_set_ne (fun z => hj z.symm), ← List.getD_eq_getElem?_getD]
      rw [e2]; exact this
  · have key : ∀ {j : Nat} {b : Bool} {c : D}, δ[j]? = some (.ob b c) → (σ.set i o).getD j none = σ.getD j none := fun {j b c} e => by
      have hj : i ≠ j := fun z => by rw [← z, h] at e; cases e
      rw [List.getD_eq_getElem?_getD, List.getElem?_set_ne hj, ← List.getD_eq_getElem?_getD]
    rw [key e1] at e3
    rw [key e2] at e4
    exact I.apart j k b c b' c' a ne e1 e2 e3 e4
theorem putK_mem2 {κ : Type} [DecidableEq κ] {kvs : List (κ × V)} {k : κ} {v : V} {kv : κ × V} (h : kv ∈ putK kvs k v) : (kv ∈ kvs ∧ kv.1 ≠ k) ∨ kv = (k, v) := by
  unfold putK at h
  split at h
  · obtain ⟨q, hq, e⟩ := List.mem_map.mp h
    split at e
    · rename_i z; right; rw [← e, z]
    · rename_i z; left; rw [← e]; exact ⟨hq, z⟩
  · rename_i z
    rcases List.mem_append.mp h with h | h
    · refine .inl ⟨h, fun e => z (List.any_eq_true.mpr ⟨kv, h, decide_eq_true e⟩)⟩
    · exact .inr (by simpa using h)
theorem repK_ex {F : Hp} : ∀ {kvs : List (Key × V)}, (∀ kv ∈ kvs, ∃ d, Rep F d kv.2) → ∃ kds, RepK F kds kvs
  | [], _ => ⟨[], rfl⟩
  | kv :: kvs, h => by
    obtain ⟨d, rd⟩ := h kv List.mem_cons_self
    obtain ⟨kds, rk⟩ := repK_ex fun q hq => h q (List.mem_cons_of_mem _ hq)
    exact ⟨(kv.1, d) :: kds, kv, kvs, rfl, ⟨rfl, rd⟩, rk⟩
theorem repK_iso {F : Hp} {kds : List (Key × D)} {kvs : List (Key × V)} (r : RepK F kds kvs) (t : Str) : (getS kds t).isSome = (valV kvs (.inr t)).isSome := by
  cases e : getS kds t with
  | none => rw [(r.val t).2 e]; rfl
  | some d => obtain ⟨v, ev, _⟩ := (r.val t).1 d e; rw [ev]; rfl
def FolD (p : Pat) (kds : List (Key × D)) : Prop := ∀ s ∈ signsP p, ∃ ik, getS kds s = some (.dct ik) ∧ ∀ t, (getS ik t).isSome = LkP p s t
theorem fol_data {H : Hp} {a : Addr} {okvs : List (Key × V)} {ad : Str → Addr} {c : Nat} {p : Pat} (fo : Fol H a okvs (signsP p) ad (fun s t => LkP p s t) c) (ent : ∀ kv ∈ okvs, ∃ s ∈ signsP p, kv.2 = .ref (ad s)) :
    ∃ kds, FolD p kds ∧ Rep (fun b => if b = a ∨ ∃ s ∈ signsP p, b = ad s then H b else none) (.dct kds) (.ref a) := by
  have hat : ∀ s ∈ signsP p, (fun b => if b = a ∨ ∃ s ∈ signsP p, b = ad s then H b else none) (ad s) = H (ad s) := fun s hs => if_pos (.inr ⟨s, hs, rfl⟩)
  have inner : ∀ s ∈ signsP p, ∃ ik kvs, H (ad s) = some (.dK kvs) ∧ RepK (fun b => if b = a ∨ ∃ s ∈ signsP p, b = ad s then H b else none) ik kvs ∧ ∀ t, (valV kvs (.inr t)).isSome = LkP p s t := fun s hs => by
    obtain ⟨kvs, e, _, al, m⟩ := fo.inn s hs
    obtain ⟨ik, rk⟩ := repK_ex (F := fun b => if b = a ∨ ∃ s ∈ signsP p, b = ad s then H b else none) (kvs := kvs) fun kv hkv => ⟨.bl true, (al kv hkv).1⟩
    exact ⟨ik, kvs, e, rk, m⟩
  obtain ⟨kds, rk⟩ := repK_ex (F := fun b => if b = a ∨ ∃ s ∈ signsP p, b = ad s then H b else none) (kvs := okvs) fun kv hkv => by
    obtain ⟨s, hs, e⟩ := ent kv hkv
    obtain ⟨ik, kvs, e1, rk, _⟩ := inner s hs
    exact ⟨.dct ik, by rw [e]; exact ⟨ad s, kvs, rfl, (hat s hs).trans e1, rk⟩⟩
  refine ⟨kds, fun s hs => ?_, a, okvs, rfl, (if_pos (.inl rfl)).trans fo.at_, rk⟩
  obtain ⟨kvs, e, _, _, m⟩ := fo.inn s hs
  have ev := fo.out s hs
  have es : (getS kds s).isSome = true := by rw [repK_iso rk, ev]; rfl
  obtain ⟨d, ed⟩ := Option.isSome_iff_exists.mp es
  obtain ⟨v, ev', rd⟩ := (rk.val s).1 d ed
  rw [ev] at ev'; cases ev'
  cases d with
  | dct ik =>
    obtain ⟨a', kvs', e1, e2, r2⟩ := rd
    cases e1
    rw [hat s hs, e] at e2
    cases e2
    exact ⟨ik, ed, fun t => by rw [repK_iso r2, m]⟩
  | lst ds => obtain ⟨a', vs, e1, e2, _⟩ := rd; cases e1; rw [hat s hs, e] at e2; cases e2
  | tup ds => obtain ⟨a', vs, e1, e2, _⟩ := rd; cases e1; rw [hat s hs, e] at e2; cases e2
  | non => cases rd
  | bl b => cases rd
  | int i => cases rd
  | str x => cases rd
  | ty x => cases rd
theorem putS_len (kds : List (Key × D)) (k : Str) (v : D) : (putS kds k v).length ≤ kds.length + 1 := by
  unfold putS
  split <;> simp
theorem foldput_len (g : Str → D) : ∀ (l : List Str) (acc : List (Key × D)), (l.foldl (fun acc s => putS acc s (g s)) acc).length ≤ acc.length + l.length
  | [], acc => by simp
  | s :: l, acc => by
    have h1 := foldput_len g l (putS acc s (g s))
    have h2 := putS_len acc s (g s)
    simp only [List.foldl_cons, List.length_cons]; omega
def dLink (n : Nat) (u : TSd) : TSd := fun E δ => ∃ (p : Pat) (b1 : Bool), δ = [.fz (patD p), rsl b1 (.lst ((signsP p).map .str)), .no, .no, .no] ∧ szP p ≤ 100 ∧ dpP p < n ∧ ∀ kds, FolD p kds → u E [.fz (patD p), .fz (.lst ((signsP p).map .str)), .fz (.dct kds), .no, .no]
section
variable {P : Program} {w : World} {K : PySem.W.Frag} {mg : Str → Option Value} {base : Heap} {f : Addr} {fd : FuncData}
def nextsD (p : Pat) : List (Key × D) := (signsP p).foldl (fun acc s => putS acc s (.lst (((signsP p).filter (LkP p s)).map .str))) []
def R_nexts (n : Nat) : RD := fun δ Q => ∃ p : Pat, δ = [.fz (patD p)] ∧ dpP p < n ∧ szP p ≤ 100 ∧ Q true (.dct (nextsD p)) [.no]
theorem ok_nexts {f1 f2 f3 f4 f5 f6 f7 f8 : Addr} {fd1 fd2 fd3 fd4 fd5 fd6 fd7 fd8 : FuncData} (E_nexts : Ent K mg "nexts" s_nexts ["pattern"] f fd) (T : Zs K mg) (E_link : Ent K mg "link" s_link ["ends", "begins", "followers"] f1 fd1) (E_firsts : Ent K mg "firsts" s_firsts ["pattern"] f2 fd2) (E_lasts : Ent K mg "lasts" s_lasts ["pattern"] f3 fd3) (E_bare : Ent K mg "bare" s_bare ["pattern"] f4 fd4) (E_patterns_within : Ent K mg "patterns_within" s_patterns_within ["pattern"] f5 fd5) (E_link_row : Ent K mg "link_row" s_link_row ["patterns", "followers"] f6 fd6) (E_link_all : Ent K mg "link_all" s_link_all ["pattern", "followers"] f7 fd7) (E_signs : Ent K mg "signs" s_signs ["pattern"] f8 fd8) (n : Nat) :
    FnOk P w K mg base CX0 (n + 6) f fd ["pattern"] (spD (R_nexts n)) := by
  have G_link_all : FnOk P w K mg base CX0 (n + 5) f7 fd7 _ (sp_link_all n) := ok_link_all E_link_all T E_link E_firsts E_lasts E_bare E_patterns_within E_link_row n
  have G_signs : FnOk P w K mg base CX0 (n + 2) f8 fd8 _ (spD (R_signs n)) := ok_signs E_signs T E_patterns_within n
  refine VL.Fun.dok E_nexts.F sc_nexts (fun δ Qd h => ?_) (by decide) (fun cdv A outer s H E δ Qd hr h => ?_)
  · obtain ⟨_, rfl, _⟩ := h; rfl
  · obtain ⟨p, rfl, hdp, hsz, q⟩ := h
    have hu := hu100 hr
    refine ⟨_, (dss_cons (ds_set (i := 1) sc_nexts.nd rfl (Or.inl rfl) (de_call G_signs (hr.mono (by omega)) rfl E_signs.g E_signs.F.kp E_signs.b pass0 (dl_cons (dv 0) dl_nil)))
      (dss_heap3 (dLink n) (ps_set (i := 2) sc_nexts.nd rfl (Or.inr rfl) pe_dnewK)
      (ps_for PassesOwn.never rfl (pi_list (pv 1)) (pg_name (i := 3) sc_nexts.nd rfl (Or.inr rfl)) (pss_one (ps_dput (hu1 hu) (pv 2) (pv 3) pe_dnewK rfl)))
      (ps_expr (pe_call G_link_all (hr.mono (by omega)) rfl E_link_all.g E_link_all.F.kp E_link_all.b .nil pass0 (pa_cons (pv 0) (pa_cons (pv 2) pa_nil))))
      (dss_cons (ds_set (i := 4) sc_nexts.nd rfl (Or.inl rfl) de_dict0)
      (dss_cons (ds_for PassesOwn.never rfl (di_list (dv 1)) (dg_name (i := 3) sc_nexts.nd rfl (Or.inr rfl)) (dss_one (ds_dput hu (pv 4) (dv 3) (de_comp ["behind"] ["pattern", "order", "followers", "sign", "told"] rfl (show CScopeG (defScope s_nexts) ["pattern", "order", "followers", "sign", "told"] ["behind"] _ _ from ⟨rfl, by decide +kernel, by decide +kernel, by decide +kernel, by decide +kernel⟩) (di_list (dv 1)) (fun _ _ _ _ _ => (dgn_name (i := 0) (by decide) (show List.Nodup (["behind", "pattern", "order", "followers", "sign", "told"] : List Str) from by decide +kernel) rfl (Or.inl rfl))) (fun _ _ _ _ _ => (df_one (dt_din hu (dv 0) (de_dgetV hu (pv 3) (dv 4))))) (fun _ _ _ _ _ => (dv 0))))))
      (dss_one (ds_ret (dm 4))))) ?five)), ?_⟩
    case five =>
      intro t st io H0 F0 F δ σ H E Ed I q S
      obtain ⟨p', b1, rfl, z1, z2, q⟩ := q
      have sz := sizeL24
      obtain ⟨F', J, sJ⟩ : ∃ F', EI io H0 F0 F' [.fz (patD p'), .fz (.lst ((signsP p').map .str)), .no, .no, .no] σ H ∧ Same F F' := by
        cases b1 with
        | false => exact ⟨F, I, Same.refl _⟩
        | true =>
          obtain ⟨F', a, s, I', _⟩ := I.freeze (i := 1) rfl
          exact ⟨F', I', s⟩
      obtain ⟨s0, s1, s2, s3, s4, rfl⟩ : ∃ s0 s1 s2 s3 s4, σ = [s0, s1, s2, s3, s4] := by
        have hl := J.len
        match σ, hl with
        | [s0, s1, s2, s3, s4], _ => exact ⟨s0, s1, s2, s3, s4, rfl⟩
      obtain ⟨v0, e0, r0⟩ := J.get 0 _ rfl
      obtain ⟨v1, e1, r1⟩ := J.get 1 _ rfl
      cases (show s0 = some v0 from e0)
      cases (show s1 = some v1 from e1)
      obtain ⟨a1, us, rfl, h1, r1'⟩ := r1
      have eus := r1'.strs
      subst eus
      have hS : SqL K H a1 ((signsP p').map .str) := SqL.of (J.sub _ _ h1)
      walk_at "rs"
      intro a ha
      have sa : Same H (upd H a (.dK [])) := Same.of_new ha
      refine ⟨⟨_, SqL.of (sa _ _ (J.sub _ _ h1))⟩, loopL (xs := (signsP p').map .str) (fun i σ H' => ∃ okvs ad x3, σ = [some v0, some (.ref a1), some (.ref a), x3, s4] ∧ Same H H' ∧ (∀ s ∈ (signsP p').take i, H (ad s) = none) ∧ okvs.length ≤ i ∧ (∀ kv ∈ okvs, ∃ s ∈ (signsP p').take i, kv.1 = .inr s ∧ kv.2 = .ref (ad s)) ∧ Fol H' a okvs ((signsP p').take i) ad (fun _ _ => false) 0) ?_ (fun i σ H' _ h => ?_) (fun i x σ H' hx h => ?_) fun σ H' h => ?_⟩
      · refine ⟨[], fun _ => a, _, rfl, sa, fun s h => (by simp at h), Nat.le_refl _, fun kv h => (by cases h), ⟨upd_same, fun s h => (by simp at h), fun s h => (by simp at h), fun s h => (by simp at h), fun s h => (by simp at h)⟩⟩
      · obtain ⟨_, _, _, _, sH, _⟩ := h
        exact SqL.of (sH _ _ (J.sub _ _ h1))
      · obtain ⟨okvs, ad, x3, rfl, sH, nw, ol, ent, fo⟩ := h
        obtain ⟨c, hc, rfl⟩ : ∃ s, (signsP p')[i]? = some s ∧ x = .str s := by
          rw [List.getElem?_map] at hx
          obtain ⟨s, h1, h2⟩ := Option.map_eq_some_iff.mp hx
          exact ⟨s, h1, h2.symm⟩
        walk_at "rd"
        intro qa hq
        have hi := (List.getElem?_eq_some_iff.mp hc).1
        have sl := signsP_len p'
        have et : (signsP p').take (i + 1) = (signsP p').take i ++ [c] := by rw [List.take_add_one, hc]; rfl
        have naq : a ≠ qa := ne_of_none fo.at_ hq
        have hin : ∀ s ∈ (signsP p').take (i + 1), s ≠ c → s ∈ (signsP p').take i := fun s hs hn => by
          rw [et] at hs
          rcases List.mem_append.mp hs with h | h
          · exact h
          · exact absurd (by simpa using h) hn
        have old : ∀ s ∈ (signsP p').take i, ad s ≠ qa := fun s hs => by
          obtain ⟨kvs, e, _⟩ := fo.inn s hs
          exact ne_of_none e hq
        refine ⟨_, DPut.s (by rw [upd_ne naq]; exact fo.at_) (by omega), fun b o e => ?_, _, fun s => if s = c then qa else ad s, fun s hs => ?_, Nat.le_trans (putK_len _ _ _) (by omega), fun kv hkv => ?_, ⟨upd_same, fun s hs => ?_, fun s hs s' hs' e => ?_, fun s hs => ?_, fun s hs => ?_⟩⟩
        · rw [upd_ne (fun z => by rw [z, ha] at e; cases e), upd_ne (ne_of_none (sH _ _ e) hq)]
          exact sH _ _ e
        · show H (if s = c then qa else ad s) = none
          split
          · exact sH.free hq
          · rename_i hn
            exact nw s (hin s hs hn)
        · rcases putK_mem2 hkv with ⟨hk, hne⟩ | rfl
          · obtain ⟨s, hs, k1, k2⟩ := ent kv hk
            refine ⟨s, by rw [et]; exact List.mem_append_left _ hs, k1, ?_⟩
            show kv.2 = .ref (if s = c then qa else ad s)
            rw [k2, if_neg (fun z => hne (by rw [k1, z]))]
          · exact ⟨c, by rw [et]; simp, rfl, by show _ = V.ref (if c = c then qa else ad c); rw [if_pos rfl]⟩
        · show valV _ _ = some (.ref (if s = c then qa else ad s))
          rw [valV_put]
          by_cases hn : s = c
          · rw [if_pos (by rw [hn]), if_pos hn]
          · rw [if_neg (fun z => hn (Sum.inr.inj z)), if_neg hn]
            exact fo.out s (hin s hs hn)
        · by_cases h1 : s = c <;> by_cases h2 : s' = c
          · rw [h1, h2]
          · exact absurd (by simpa [h1, h2] using e.symm) (old s' (hin s' hs' h2))
          · exact absurd (by simpa [h1, h2] using e) (old s (hin s hs h1))
          · exact fo.inj s (hin s hs h1) s' (hin s' hs' h2) (by simpa [h1, h2] using e)
        · show (if s = c then qa else ad s) ≠ a
          split
          · exact naq.symm
          · rename_i hn
            exact fo.na s (hin s hs hn)
        · by_cases hn : s = c
          · refine ⟨[], ?_, Nat.le_refl _, fun kv h => (by cases h), fun t => rfl⟩
            rw [if_pos hn, upd_ne naq.symm, upd_same]
          · obtain ⟨kvs, e, r⟩ := fo.inn s (hin s hs hn)
            refine ⟨kvs, ?_, r⟩
            rw [if_neg hn, upd_ne (fo.na s (hin s hs hn)), upd_ne (old s (hin s hs hn))]
            exact e
      · obtain ⟨okvs, ad, x3, rfl, sH, nw, ol, ent, fo⟩ := h
        rw [List.length_map, List.take_length] at nw ent fo
        walk_at "rd"
        refine ⟨v0, a, p', okvs, signsP p', ad, _, 0, rfl, Rep.mono (J.sub.trans sH) _ _ r0, fo, fun s h => h, z1, z2, by omega, fun H2 kp fo2 => ?_⟩
        have fo3 : Fol H2 a okvs (signsP p') ad (fun s t => LkP p' s t) _ := fo2.cong (fun _ _ _ => by simp) (Nat.le_refl _)
        obtain ⟨kds, fd, rd⟩ := fol_data fo3 fun kv hkv => by
          obtain ⟨s, hs, _, e⟩ := ent kv hkv
          exact ⟨s, hs, e⟩
        have sHH : Same H H2 := fun b o e => kp b o (fun s hs z => by rw [z, nw s hs] at e; cases e) (sH _ _ e)
        have out : ∀ b o, H b = some o → ¬ (b = a ∨ ∃ s ∈ signsP p', b = ad s) := fun b o e h => by
          rcases h with rfl | ⟨s, hs, rfl⟩
          · rw [ha] at e; cases e
          · rw [nw s hs] at e; cases e
        have sF : Same F' (fun b => if b = a ∨ ∃ s ∈ signsP p', b = ad s then H2 b else F' b) := fun b o e => (if_neg (out b o (J.sub _ _ e))).trans e
        have sub : Same (fun b => if b = a ∨ ∃ s ∈ signsP p', b = ad s then H2 b else F' b) H2 := fun b o e => by
          by_cases h : b = a ∨ ∃ s ∈ signsP p', b = ad s
          · simp only [h, if_true] at e; exact e
          · simp only [h, if_false] at e; exact sHH _ _ (J.sub _ _ e)
        have J2 := J.back0 sF sHH sub fun b o e n => by
          by_cases h : b = a ∨ ∃ s ∈ signsP p', b = ad s
          · rcases h with rfl | ⟨s, hs, rfl⟩
            · exact ha
            · exact nw s hs
          · simp only [h, if_false] at e; rw [n] at e; cases e
        have rd' := Rep.mono (F' := fun b => if b = a ∨ ∃ s ∈ signsP p', b = ad s then H2 b else F' b) (fun b o e => by
          by_cases h : b = a ∨ ∃ s ∈ signsP p', b = ad s
          · simp only [h, if_true] at e ⊢; exact e
          · simp only [h, if_false] at e; cases e) _ _ rd
        have J3 := EI.setv (i := 2) (b := false) (J2.pushF rd') (by simp) (by simp)
        exact st io H0 F0 _ _ _ H2 E Ed (EI.junk (i := 3) (o := x3) J3 rfl) (q kds fd) (S.mono (sJ.trans sF))
    have sz := sizeL24
    walk_at "vd"
    refine ⟨p, rfl, by omega, by omega, ?_⟩
    walk_at "vd"
    refine ⟨p, true, rfl, by omega, by omega, fun kds hk => ?_⟩
    walk_at "vd"
    have sl := signsP_len p
    refine loopD [3] (fun r δ => ∃ pre suf, signsP p = pre ++ suf ∧ r = suf.map .str ∧ δ = [.fz (patD p), .fz (.lst ((signsP p).map .str)), .fz (.dct kds), .no, .ob false (.dct (pre.foldl (fun acc s => putS acc s (.lst (((signsP p).filter (LkP p s)).map .str))) []))]) ⟨[], signsP p, rfl, rfl, rfl⟩ ?_ ?_
    · rintro d r δ ⟨pre, suf, e1, e2, rfl⟩
      cases suf with
      | nil => cases e2
      | cons c suf =>
        cases e2
        walk_at "vd"
        have hc : c ∈ signsP p := by rw [e1]; simp
        obtain ⟨ik, ek, em⟩ := hk c hc
        refine comp1f (fun d => match d with | .str z => LkP p c z | _ => false) id (by simp; omega) (fun d hd Pq hP => ?_) (fun d hd _ Pq hP => ?_) ?_
        · obtain ⟨z, hz, rfl⟩ := List.mem_map.mp hd
          walk_at "vd"
          refine ⟨.dct ik, ek, ?_⟩
          walk_at "vd"
          rw [em]
          exact hP
        · obtain ⟨z, hz, rfl⟩ := List.mem_map.mp hd
          walk_at "vd"
          exact hP
        · have ef : ((signsP p).map D.str).filter (fun d => match d with | .str z => LkP p c z | _ => false) = ((signsP p).filter (LkP p c)).map D.str := by
            rw [List.filter_map]; rfl
          rw [ef, List.map_id]
          walk_at "vd"
          refine ⟨?_, pre ++ [c], suf, by simp [e1], rfl, by simp⟩
          have := foldput_len (fun s => .lst (((signsP p).filter (LkP p s)).map .str)) pre []
          have := congrArg List.length e1
          simp at this
          simp at *
          omega
    · rintro δ ⟨pre, suf, e1, e2, rfl⟩
      cases suf with
      | cons c suf => cases e2
      | nil =>
        walk_at "vd"
        rw [List.append_nil] at e1
        rw [← e1]
        exact q
end
open PySem L2 VL
theorem getS_put (kds : List (Key × D)) (k j : Str) (d : D) : getS (putS kds k d) j = if j = k then some d else getS kds j := by
  unfold putS
  split
  · rename_i h
    induction kds with
    | nil => simp at h
    | cons a r ih =>
      by_cases ha : a.1 = .inr k
      · by_cases hj : j = k
        · subst hj; simp [getS, List.find?_cons, ha]
        · have : ¬ (Sum.inr k : Key) = .inr j := fun z => hj (Sum.inr.inj z).symm
          rw [if_neg hj]
          simp only [getS, List.map_cons, ha, if_true, List.find?_cons, this, decide_false]
          clear ih h
          induction r with
          | nil => rfl
          | cons b r ih =>
            simp only [List.map_cons, List.find?_cons]
            by_cases hb : b.1 = .inr k
            · simp only [hb, if_true, this, decide_false]; exact ih
            · simp only [hb, if_false]
              cases decide (b.1 = Sum.inr j) with
              | true => rfl
              | false => exact ih
      · have h' : (r.any fun kv => decide (kv.1 = .inr k)) = true := by simpa [ha] using h
        have := ih h'
        simp only [getS, List.map_cons, ha, if_false, List.find?_cons] at this ⊢
        by_cases hj : j = k
        · subst hj; simpa [ha] using this
        · cases decide (a.1 = Sum.inr j) with
          | true => simp [hj]
          | false => exact this
  · rename_i h
    unfold getS
    rw [List.find?_append]
    by_cases hj : j = k
    · subst hj
      have : kds.find? (fun kv => decide (kv.1 = .inr j)) = none := by
        rw [List.find?_eq_none]
        intro x hx hd
        exact h (List.any_eq_true.mpr ⟨x, hx, hd⟩)
      simp [this]
    · rw [if_neg hj]
      have : ¬ (Sum.inr k : Key) = .inr j := fun z => hj (Sum.inr.inj z).symm
      simp [List.find?_cons, this]
theorem getS_fold (g : Str → D) (j : Str) : ∀ (l : List Str) (acc : List (Key × D)), getS (l.foldl (fun acc s => putS acc s (g s)) acc) j = if j ∈ l then some (g j) else getS acc j
  | [], acc => by simp
  | s :: l, acc => by
    rw [List.foldl_cons, getS_fold g j l, getS_put]
    by_cases h1 : j ∈ l
    · simp [h1]
    · by_cases h2 : j = s
      · subst h2; simp
      · simp [h1, h2]
def nx (p : Pat) (s : Str) : List Str := (signsP p).filter (LkP p s)
theorem getS_nexts (p : Pat) {s : Str} (h : s ∈ signsP p) : getS (nextsD p) s = some (.lst ((nx p s).map .str)) := by
  unfold nextsD
  rw [getS_fold (fun s => .lst (((signsP p).filter (LkP p s)).map .str)), if_pos h]
  rfl
theorem atI_last {α : Type} {xs : List α} (h : xs ≠ []) : atI xs (-1) = some (xs.getLast h) := by
  have hl : 0 < xs.length := List.length_pos_iff.mpr h
  unfold atI ixN
  rw [List.getLast_eq_getElem, if_neg (by decide), if_pos (by omega)]
  have e : ((-1 : Int) + xs.length).toNat = xs.length - 1 := by omega
  rw [e]
  show xs[xs.length - 1]? = _
  rw [List.getElem?_eq_getElem (by omega)]
open PySem L2 VL
def mixF (c t : Int) : Int := ((c % 2147483647 + t * t * 7919 + 104729) * 48271 % 2147483647 * ((c % 2147483647 + t * t * 7919 + 104729) * 48271 % 2147483647) + 69621 * t) % 2147483629
theorem mixF_b (c t : Int) : 0 ≤ mixF c t ∧ mixF c t < 2147483629 := ⟨mod_nn (by decide), mod_lt (by decide)⟩
def iterA (ls : List Int) : Nat → List Int × List Int
  | 0 => (ls, [])
  | i + 1 => ((iterA ls i).1.set (i % ls.length) ((iterA ls i).1.getD (i % ls.length) 0 / 2147483587), (iterA ls i).2 ++ [(iterA ls i).1.getD (i % ls.length) 0 % 2147483587])
theorem iterA_len (ls : List Int) : ∀ i, (iterA ls i).1.length = ls.length ∧ (iterA ls i).2.length = i
  | 0 => ⟨rfl, rfl⟩
  | i + 1 => by have := iterA_len ls i; simp only [iterA, List.length_set, List.length_append, List.length_cons, List.length_nil]; omega
theorem iterA_b (ls : List Int) : ∀ i, ∀ x ∈ (iterA ls i).2, 0 ≤ x ∧ x < 2147483587
  | 0, x, h => by cases h
  | i + 1, x, h => by
    simp only [iterA] at h
    rcases List.mem_append.mp h with h | h
    · exact iterA_b ls i x h
    · have e : x = (iterA ls i).1.getD (i % ls.length) 0 % 2147483587 := by simpa using h
      rw [e]
      exact ⟨mod_nn (by decide), mod_lt (by decide)⟩
def cells (ns : List Int) (t : Nat) : List Int := ns.take 63 ++ [(t : Int)]
def drawsF (ns : List Int) (t m : Nat) : List Int :=
  if (cells ns t).getD 0 0 / 50000 % 2 = 1 then (iterA ((cells ns t).map (· / 100000)) (t + m)).2.drop t
  else (List.range m).map fun (k : Nat) => (mixF ((cells ns t).getD (k % (cells ns t).length) 0) ((k : Int) + t) * mixF ((cells ns t).getD (k % (cells ns t).length) 0) ((k : Int) + t) + 7 * (k : Int)) % 2147483587
theorem drawsF_len (ns : List Int) (t m : Nat) : (drawsF ns t m).length = m := by
  unfold drawsF
  split
  · rw [List.length_drop, (iterA_len _ _).2]; omega
  · simp
theorem drawsF_b (ns : List Int) (t m : Nat) : ∀ x ∈ drawsF ns t m, 0 ≤ x ∧ x < 2147483587 := by
  intro x h
  unfold drawsF at h
  split at h
  · exact iterA_b _ _ x (List.mem_of_mem_drop h)
  · obtain ⟨k, _, rfl⟩ := List.mem_map.mp h
    exact ⟨mod_nn (by decide), mod_lt (by decide)⟩
theorem atI_getD {ns : List Int} {k : Nat} (h : k < ns.length) : atI (ns.map D.int) (k : Int) = some (.int (ns.getD k 0)) := by
  refine atI_nat ?_
  rw [List.getElem?_map, List.getElem?_eq_getElem h, List.getD_eq_getElem?_getD, List.getElem?_eq_getElem h]
  rfl
section
variable {P : Program} {w : World} {K : PySem.W.Frag} {mg : Str → Option Value} {base : Heap} {f : Addr} {fd : FuncData}
def R_mix : RD := fun δ Q => ∃ c t : Int, δ = [.fz (.int c), .fz (.int t)] ∧ 0 ≤ t ∧ t ≤ 1000 ∧ Q false (.int (mixF c t)) [.no, .no]
theorem ok_mix (E__law_mix : Ent K mg "_law_mix" s__law_mix ["_law_cell", "_law_turn"] f fd) (T : Zs K mg) : FnOk P w K mg base CX0 1 f fd ["_law_cell", "_law_turn"] (spD R_mix) := by
  refine VL.Fun.dok E__law_mix.F sc__law_mix (fun δ Qd h => ?_) (by decide) (fun cdv A outer s H E δ Qd hr h => ?_)
  · obtain ⟨_, _, rfl, _⟩ := h; rfl
  · obtain ⟨c, t, rfl, h0, h1, q⟩ := h
    refine ⟨_, (dss_cons (ds_set (i := 2) sc__law_mix.nd rfl (Or.inl rfl) (de_op os_mod op_mod (de_op os_mul op_mul (de_op os_add op_add (de_op os_add op_add (de_op os_mod op_mod (dv 0) de_int) (de_op os_mul op_mul (de_op os_mul op_mul (dv 1) (dv 1)) de_int)) de_int) de_int) de_int))
      (dss_one (ds_ret (de_op os_mod op_mod (de_op os_add op_add (de_op os_mul op_mul (dv 2) (dv 2)) (de_op os_mul op_mul de_int (dv 1))) de_int)))), ?_⟩
    unfold mixF at q
    walk_at "vd"
    have b1 := mod_nn (a := (c % 2147483647 + t * t * 7919 + 104729) * 48271) (b := 2147483647) (by decide)
    have b2 := mod_lt (a := (c % 2147483647 + t * t * 7919 + 104729) * 48271) (b := 2147483647) (by decide)
    generalize (c % 2147483647 + t * t * 7919 + 104729) * 48271 % 2147483647 = y at b1 b2 q ⊢
    exact ⟨by decide, .inl ⟨by omega, by omega⟩, .inr ⟨by decide, by decide⟩, .inr ⟨by decide, by decide⟩, by decide, .inl ⟨by omega, by omega⟩, .inl ⟨by decide, by decide⟩, by decide, q⟩
def R_cell (K : PySem.W.Frag) : RD := fun δ Q => ∃ (ns : List Int) (k : Nat), δ = [.sc K ns, .fz (.int k)] ∧ Q false (.int (ns.getD k 0)) [.no, .no]
theorem ok_cell (E__law_cell_at : Ent K mg "_law_cell_at" s__law_cell_at ["_law_script", "_law_k"] f fd) (T : Zs K mg) : FnOk P w K mg base CX0 1 f fd ["_law_script", "_law_k"] (spD (R_cell K)) := by
  refine VL.Fun.dok E__law_cell_at.F sc__law_cell_at (fun δ Qd h => ?_) (by decide) (fun cdv A outer s H E δ Qd hr h => ?_)
  · obtain ⟨_, _, rfl, _⟩ := h; rfl
  · obtain ⟨ns, k, rfl, q⟩ := h
    refine ⟨_, (dss_cons (ds_if (dt_cmp os_lt op_lt (dv 1) (de_lenC (K := K) rfl rfl T.z_len (pv 0)) (nomark _)) (dss_one (ds_ret (de_ixC (K := K) rfl (pv 0) (dv 1)))) dss_nil)
      (dss_one (ds_ret de_int))), ?_⟩
    walk_at "vd"
    by_cases hk : (k : Int) < ns.length
    · rw [if_pos hk]
      have hk' : k < ns.length := by omega
      refine ⟨ns[k], atI_nat (by rw [List.getElem?_eq_getElem hk']), ?_⟩
      rw [List.getD_eq_getElem?_getD, List.getElem?_eq_getElem hk'] at q
      exact q
    · rw [if_neg hk]
      rw [List.getD_eq_getElem?_getD, List.getElem?_eq_none (by omega)] at q
      exact q
def R_draws (K : PySem.W.Frag) : RD := fun δ Q => ∃ (ns : List Int) (t m : Nat), δ = [.sc K ns, .fz (.int t), .fz (.int m)] ∧ t ≤ 500 ∧ m ≤ 400 ∧ Q true (.lst ((drawsF ns t m).map .int)) [.no, .no, .no]
theorem ixN_of {n : Nat} {k : Nat} (h1 : k < n) : ixN n (k : Int) = some k := by
  unfold ixN
  rw [if_pos (by omega), if_pos (by omega)]
  rfl
theorem ok_draws {f1 : Addr} {fd1 : FuncData} (E__law_draws : Ent K mg "_law_draws" s__law_draws ["_law_script", "_law_turn", "_law_many"] f fd) (T : Zs K mg) (E__law_mix : Ent K mg "_law_mix" s__law_mix ["_law_cell", "_law_turn"] f1 fd1) : FnOk P w K mg base CX0 2 f fd ["_law_script", "_law_turn", "_law_many"] (spD (R_draws K)) := by
  have G__law_mix : FnOk P w K mg base CX0 1 f1 fd1 _ (spD R_mix) := ok_mix E__law_mix T
  refine VL.Fun.dok E__law_draws.F sc__law_draws (fun δ Qd h => ?_) (by decide) (fun cdv A outer s H E δ Qd hr h => ?_)
  · obtain ⟨_, _, _, rfl, _⟩ := h; rfl
  · obtain ⟨ns, t, m, rfl, ht, hm, q⟩ := h
    refine ⟨_, (dss_cons (ds_set (i := 3) sc__law_draws.nd rfl (Or.inl rfl) (de_op os_cat op_cat (de_sliceC (K := K) rfl (pv 0) do_none (do_some de_int)) (de_lst (dl_cons (dv 1) dl_nil))))
      (dss_cons (ds_set (i := 4) sc__law_draws.nd rfl (Or.inl rfl) (de_lst dl_nil))
      (dss_cons (ds_if (dt_cmp os_eq op_eq (de_op os_mod op_mod (de_op os_fdiv op_fdivL (de_ixV os_ixL ix_lst (pv 3) de_int (fun _ _ => rfl)) de_int) de_int) de_int (nomark _)) (dss_cons (ds_comp (j := 5) ["_law_cell"] ["_law_script", "_law_turn", "_law_many", "_law_cells", "_law_found", "_law_lefts", "_law_k", "_law_at", "_law_number"] sc__law_draws.nd rfl rfl rfl (show CScopeG (defScope s__law_draws) ["_law_script", "_law_turn", "_law_many", "_law_cells", "_law_found", "_law_lefts", "_law_k", "_law_at", "_law_number"] ["_law_cell"] _ _ from ⟨rfl, by decide +kernel, by decide +kernel, by decide +kernel, by decide +kernel⟩) (di_list (dv 3)) (fun _ _ _ _ _ => (dgn_name (i := 0) (by decide) (show List.Nodup (["_law_cell", "_law_script", "_law_turn", "_law_many", "_law_cells", "_law_found", "_law_lefts", "_law_k", "_law_at", "_law_number"] : List Str) from by decide +kernel) rfl (Or.inl rfl))) (fun _ _ _ _ _ => df_nil) (fun _ _ _ _ _ => (de_op os_fdiv op_fdivL (dv 0) de_int)))
      (dss_cons (ds_for PassesOwn.never rfl (di_range1 rfl T.z_range (dl_cons (de_op os_add op_add (dv 1) (dv 2)) dl_nil)) (dg_name (i := 6) sc__law_draws.nd rfl (Or.inl rfl)) (dss_cons (ds_set (i := 7) sc__law_draws.nd rfl (Or.inl rfl) (de_op os_mod op_mod (dv 6) (de_callBV cs_lenL call_len_lst rfl T.z_len PySem.boot_len (pv 5))))
      (dss_cons (ds_expr (de_mt ms_append PySem.F.slot_list_append PySem.F.type_list_append mt_append (pv 4) (dl_cons (de_op os_mod op_mod (de_ixV os_ixL ix_lst (pv 5) (dv 7) (fun _ _ => rfl)) de_int) dl_nil)))
      (dss_one (ds_setL (pv 5) (dv 7) (de_op os_fdiv op_fdivL (de_ixV os_ixL ix_lst (pv 5) (dv 7) (fun _ _ => rfl)) de_int))))))
      (dss_one (ds_ret (de_sliceLV (pv 4) (do_some (dv 1)) do_none))))) dss_nil)
      (dss_cons (ds_for PassesOwn.never rfl (di_range1 rfl T.z_range (dl_cons (dv 2) dl_nil)) (dg_name (i := 6) sc__law_draws.nd rfl (Or.inl rfl)) (dss_cons (ds_set (i := 8) sc__law_draws.nd rfl (Or.inl rfl) (de_call G__law_mix (hr.mono (by omega)) rfl E__law_mix.g E__law_mix.F.kp E__law_mix.b pass0 (dl_cons (de_ixV os_ixL ix_lst (pv 3) (de_op os_mod op_mod (dv 6) (de_callBV cs_lenL call_len_lst rfl T.z_len PySem.boot_len (pv 3))) (fun _ _ => rfl)) (dl_cons (de_op os_add op_add (dv 6) (dv 1)) dl_nil))))
      (dss_one (ds_expr (de_mt ms_append PySem.F.slot_list_append PySem.F.type_list_append mt_append (pv 4) (dl_cons (de_op os_mod op_mod (de_op os_add op_add (de_op os_mul op_mul (dv 8) (dv 8)) (de_op os_mul op_mul de_int (dv 6))) de_int) dl_nil))))))
      (dss_one (ds_ret (dm 4))))))), ?_⟩
    have sz := sizeL24
    have ec : cutD (ns.map .int) none (some 63) = (ns.take 63).map .int := by
      rw [show (63 : Int) = ((63 : Nat) : Int) from rfl, cutD_take, List.map_take]
    walk_at "vd"
    rw [ec]
    have e2 : List.map D.int (ns.take 63) ++ [D.int t] = (cells ns t).map .int := by simp [cells]
    rw [e2]
    unfold drawsF at q
    have hcs1 : 0 < (cells ns t).length := by simp [cells]
    have hcs2 : (cells ns t).length ≤ 64 := by simp [cells]; omega
    generalize cells ns t = cs at hcs1 hcs2 q ⊢
    refine ⟨by omega, by simp; omega, by omega, _, atI_getD (k := 0) hcs1, ?_⟩
    walk_at "vd"
    refine ⟨⟨by decide, by decide⟩, by decide, ite2 (fun hc => ?_) fun hc => ?_⟩
    · rw [if_pos hc] at q
      refine compL .int (fun x => .int (x / 100000)) cs (by omega) (fun x hx Pq hP => ?_) ?_
      · walk_at "vd"
        exact ⟨⟨by decide, by decide⟩, hP⟩
      · have el : List.map (fun x => D.int (x / 100000)) cs = (cs.map (· / 100000)).map .int := by simp
        rw [el]
        have hll : (cs.map (· / 100000)).length = cs.length := by simp
        generalize cs.map (· / 100000) = ls at hll q ⊢
        walk_at "vd"
        have etm : ((t : Int) + m).toNat = t + m := by omega
        rw [etm]
        refine ⟨by omega, by omega, loopN [6, 7] (fun i δ => δ = [.sc K ns, .fz (.int t), .fz (.int m), .fz (.lst (cs.map .int)), .ob false (.lst ((iterA ls i).2.map .int)), .ob false (.lst ((iterA ls i).1.map .int)), .no, .no, .no]) rfl ?_ ?_⟩
        · rintro i δ hi rfl
          walk_at "vd"
          obtain ⟨l1, l2⟩ := iterA_len ls i
          have h0 : 0 < ls.length := by omega
          have hlt : i % ls.length < ls.length := Nat.mod_lt _ h0
          have ek : (i : Int) % ((List.map D.int (iterA ls i).1).length : Int) = ((i % ls.length : Nat) : Int) := by
            rw [List.length_map, l1]; rfl
          rw [ek]
          refine ⟨by rw [List.length_map]; omega, _, atI_getD (by omega), ?_⟩
          walk_at "vd"
          refine ⟨by decide, by rw [List.length_map]; omega, _, atI_getD (by omega), ?_⟩
          walk_at "vd"
          refine ⟨⟨by decide, by decide⟩, _, ixN_of (by rw [List.length_map]; omega), ?_⟩
          simp [iterA]
        · rintro δ rfl
          walk_at "vd"
          rw [cutD_drop, ← List.map_drop]
          exact q
    · rw [if_neg hc] at q
      have em : ((m : Int)).toNat = m := by omega
      rw [em]
      refine ⟨by omega, by omega, loopN [6, 8] (fun i δ => δ = [.sc K ns, .fz (.int t), .fz (.int m), .ob false (.lst (cs.map .int)), .ob false (.lst (((List.range i).map fun (k : Nat) => (mixF (cs.getD (k % cs.length) 0) ((k : Int) + t) * mixF (cs.getD (k % cs.length) 0) ((k : Int) + t) + 7 * (k : Int)) % 2147483587).map .int)), .no, .no, .no, .no]) rfl ?_ ?_⟩
      · rintro i δ hi rfl
        walk_at "vd"
        have hlt : i % cs.length < cs.length := Nat.mod_lt _ hcs1
        have ek : (i : Int) % ((List.map D.int cs).length : Int) = ((i % cs.length : Nat) : Int) := by
          rw [List.length_map]; rfl
        rw [ek]
        refine ⟨by rw [List.length_map]; omega, _, atI_getD hlt, ?_⟩
        refine ⟨_, _, rfl, by omega, by omega, ?_⟩
        walk_at "vd"
        obtain ⟨b1, b2⟩ := mixF_b (cs.getD (i % cs.length) 0) ((i : Int) + t)
        refine ⟨.inl ⟨by omega, by omega⟩, .inl ⟨by decide, by decide⟩, by decide, by simp; omega, ?_⟩
        simp [List.range_succ]
      · rintro δ rfl
        walk_at "vd"
        exact q
end
open PySem L2 VL
def sg0 : List Str := ["a", "b", "#", "cab", "ba", "dddddddddddd", "c"]
def sgI (n : Int) : Nat → List Str × List Str × Int
  | 0 => (sg0, [], n)
  | i + 1 => ((sgI n i).1.eraseIdx ((sgI n i).2.2 % (sgI n i).1.length).toNat, (sgI n i).2.1 ++ [(sgI n i).1.getD ((sgI n i).2.2 % (sgI n i).1.length).toNat ""], (sgI n i).2.2 / 7 + 3)
theorem sgI_len (n : Int) : ∀ i, i ≤ 7 → (sgI n i).1.length = 7 - i ∧ (sgI n i).2.1.length = i
  | 0, _ => ⟨rfl, rfl⟩
  | i + 1, h => by
    obtain ⟨h1, h2⟩ := sgI_len n i (by omega)
    have b1 := mod_nn (a := (sgI n i).2.2) (b := ((sgI n i).1.length : Int)) (by omega)
    have b2 := mod_lt (a := (sgI n i).2.2) (b := ((sgI n i).1.length : Int)) (by omega)
    simp only [sgI, List.length_append, List.length_cons, List.length_nil]
    rw [List.length_eraseIdx_of_lt (by omega)]
    omega
def signsF (n : Int) : List Str := (sgI n 7).2.1
theorem signsF_len (n : Int) : (signsF n).length = 7 := (sgI_len n 7 (by omega)).2
theorem seqIx {x : Int} {n : Nat} (h0 : 0 ≤ x) (h1 : x < n) : seqIndex? x n = some x.toNat := by
  unfold seqIndex?
  simp only [show ¬ x < 0 by omega, if_false]
  rw [if_pos (by simp; omega)]
theorem eraseIdx_mp {α β : Type} (f : α → β) : ∀ (l : List α) (k : Nat), (l.map f).eraseIdx k = (l.eraseIdx k).map f
  | [], k => by simp
  | a :: l, 0 => rfl
  | a :: l, k + 1 => by simp [eraseIdx_mp f l k]
theorem wkMem (k : Wk) : k.str ∈ ([("maybe" : Str), "many", "some"] : List Str) := by cases k <;> decide
section
variable {P : Program} {w : World} {K : PySem.W.Frag} {mg : Str → Option Value} {base : Heap} {f : Addr} {fd : FuncData}
def R_dsigns : RD := fun δ Q => ∃ n : Int, δ = [.fz (.int n)] ∧ Q true (.lst ((signsF n).map .str)) [.no]
theorem ok_dsigns (E__law_drawn_signs : Ent K mg "_law_drawn_signs" s__law_drawn_signs ["_law_number"] f fd) (T : Zs K mg) : FnOk P w K mg base CX0 1 f fd ["_law_number"] (spD R_dsigns) := by
  refine VL.Fun.dok E__law_drawn_signs.F sc__law_drawn_signs (fun δ Qd h => ?_) (by decide) (fun cdv A outer s H E δ Qd hr h => ?_)
  · obtain ⟨_, rfl, _⟩ := h; rfl
  · obtain ⟨n, rfl, q⟩ := h
    have hu := hu100 hr
    refine ⟨_, (dss_cons (ds_set (i := 1) sc__law_drawn_signs.nd rfl (Or.inl rfl) (de_lst (dl_cons de_str (dl_cons de_str (dl_cons de_str (dl_cons de_str (dl_cons de_str (dl_cons de_str (dl_cons de_str dl_nil)))))))))
      (dss_cons (ds_set (i := 2) sc__law_drawn_signs.nd rfl (Or.inl rfl) (de_lst dl_nil))
      (dss_cons (ds_while PassesOwn.never (dt_cmpV (os_neL hu) op_ne_tree (pv 1) (de_lst dl_nil) (nomark _)) (dss_cons (ds_expr (de_mt ms_append PySem.F.slot_list_append PySem.F.type_list_append mt_append (pv 2) (dl_cons (de_mt ms_popAt PySem.F.slot_list_pop PySem.F.type_list_pop mt_popAt (pv 1) (dl_cons (de_op os_mod op_mod (dv 0) (de_callBV cs_lenL call_len_lst rfl T.z_len PySem.boot_len (pv 1))) dl_nil)) dl_nil)))
      (dss_one (ds_set (i := 0) sc__law_drawn_signs.nd rfl (Or.inl rfl) (de_op os_add op_add (de_op os_fdiv op_fdivL (dv 0) de_int) de_int)))))
      (dss_one (ds_ret (dm 2)))))), ?_⟩
    have sz := sizeL24
    walk_at "vd"
    refine ⟨by omega, by omega, [], fun δ => ∃ i, i ≤ 7 ∧ δ = [.fz (.int (sgI n i).2.2), .ob false (.lst ((sgI n i).1.map .str)), .ob false (.lst ((sgI n i).2.1.map .str))], fun δ => match δ with | [_, .ob _ (.lst xs), _] => xs.length | _ => 0, ⟨0, by omega, rfl⟩, ?_⟩
    rintro δ ⟨i, hi, rfl⟩
    obtain ⟨l1, l2⟩ := sgI_len n i hi
    walk_at "vd"
    refine ⟨by omega, ?_⟩
    by_cases h7 : i = 7
    · subst h7
      have e : (sgI n 7).1 = [] := List.length_eq_zero_iff.mp (by omega)
      rw [e, if_neg (by simp)]
      exact q
    · have b1 := mod_nn (a := (sgI n i).2.2) (b := ((sgI n i).1.length : Int)) (by omega)
      have b2 := mod_lt (a := (sgI n i).2.2) (b := ((sgI n i).1.length : Int)) (by omega)
      rw [if_pos (by cases hs : (sgI n i).1 with | nil => (rw [hs] at l1; simp at l1; omega) | cons a r => rfl)]
      simp only [List.length_map]
      have hk : ((sgI n i).2.2 % ((sgI n i).1.length : Int)).toNat < (sgI n i).1.length := by omega
      refine ⟨by omega, by omega, by omega, _, seqIx b1 b2, .str ((sgI n i).1.getD ((sgI n i).2.2 % ((sgI n i).1.length : Int)).toNat ""), ?_, by omega, ⟨by decide, by decide⟩, ⟨i + 1, by omega, ?_⟩, ?_⟩
      · rw [List.getElem?_map, List.getElem?_eq_getElem hk, List.getD_eq_getElem?_getD, List.getElem?_eq_getElem hk]; rfl
      · simp [sgI, eraseIdx_mp]
      · rw [List.length_eraseIdx_of_lt (by simpa using hk), List.length_map]; omega
def twiceP : Pat → Bool
  | .wrap _ (.wrap _ _) => true
  | _ => false
def R_twice : RD := fun δ Q => ∃ p : Pat, δ = [.fz (patD p)] ∧ Q false (.bl (twiceP p)) [.no]
theorem ok_twice (E__law_twice : Ent K mg "_law_twice" s__law_twice ["_law_pattern_here"] f fd) (T : Zs K mg) : FnOk P w K mg base CX0 1 f fd ["_law_pattern_here"] (spD R_twice) := by
  refine VL.Fun.dok E__law_twice.F sc__law_twice (fun δ Qd h => ?_) (by decide) (fun cdv A outer s H E δ Qd hr h => ?_)
  · obtain ⟨_, rfl, _⟩ := h; rfl
  · obtain ⟨p, rfl, q⟩ := h
    have hu := hu100 hr
    refine ⟨_, (dss_cons (ds_set (i := 1) sc__law_twice.nd rfl (Or.inl rfl) (de_lst (dl_cons de_str (dl_cons de_str (dl_cons de_str dl_nil)))))
      (dss_one (ds_ret (de_and (de_cmpW os_inL op_in_lst (de_ixV os_ixT ix_tp (pv 0) de_int (fun _ _ => rfl)) (pv 1) rfl) (de_one (de_cmpW os_inL op_in_lst (de_ix os_ixT ix_tp (de_ixV os_ixT ix_tp (pv 0) de_int (fun _ _ => rfl)) de_int (fun _ _ => rfl)) (pv 1) rfl)))))), ?_⟩
    have sz := sizeL24
    have wk : ∀ (z : Str) {Q : Bool → D → Prop}, Q false (.bl (decide (z ∈ ([("maybe" : Str), "many", "some"] : List Str)))) → fInL (.str z) (.lst [.str "maybe", .str "many", .str "some"]) Q := fun z Q h => ⟨z, ["maybe", "many", "some"], rfl, rfl, h⟩
    cases p with
    | none =>
      simp only [patD]
      walk_at "vd"
      refine ⟨by omega, wk _ ?_⟩
      walk_at "vd"
      rw [if_neg (by decide)]
      exact q
    | one s =>
      simp only [patD]
      walk_at "vd"
      refine ⟨by omega, wk _ ?_⟩
      walk_at "vd"
      rw [if_neg (by decide)]
      exact q
    | row ps =>
      simp only [patD]
      walk_at "vd"
      refine ⟨by omega, wk _ ?_⟩
      walk_at "vd"
      rw [if_neg (by decide)]
      exact q
    | any ps =>
      simp only [patD]
      walk_at "vd"
      refine ⟨by omega, wk _ ?_⟩
      walk_at "vd"
      rw [if_neg (by decide)]
      exact q
    | wrap k p =>
      simp only [patD]
      walk_at "vd"
      refine ⟨by omega, wk _ ?_⟩
      walk_at "vd"
      rw [if_pos (wkMem k)]
      cases p with
      | wrap k' p =>
        simp only [patD]
        walk_at "vd"
        refine wk _ ?_
        rw [decide_eq_true (wkMem k')]
        exact q
      | none =>
        simp only [patD]
        walk_at "vd"
        exact wk _ q
      | one s =>
        simp only [patD]
        walk_at "vd"
        exact wk _ q
      | row ps =>
        simp only [patD]
        walk_at "vd"
        exact wk _ q
      | any ps =>
        simp only [patD]
        walk_at "vd"
        exact wk _ q
def joinP (k : Int) : List Pat → Pat
  | [p] => p
  | ps => if k % 2 = 0 then .row ps else .any ps
def R_joined : RD := fun δ Q => ∃ (k : Int) (ps : List Pat), δ = [.fz (.int k), .fz (.lst (patDs ps))] ∧ ps ≠ [] ∧ Q false (patD (joinP k ps)) [.no, .no]
theorem ok_joined (E__law_joined : Ent K mg "_law_joined" s__law_joined ["_law_kind", "_law_parts"] f fd) (T : Zs K mg) : FnOk P w K mg base CX0 1 f fd ["_law_kind", "_law_parts"] (spD R_joined) := by
  refine VL.Fun.dok E__law_joined.F sc__law_joined (fun δ Qd h => ?_) (by decide) (fun cdv A outer s H E δ Qd hr h => ?_)
  · obtain ⟨_, _, rfl, _⟩ := h; rfl
  · obtain ⟨k, ps, rfl, hne, q⟩ := h
    refine ⟨_, (dss_cons (ds_if (dt_cmp os_eq op_eq (de_callBV cs_lenL call_len_lst rfl T.z_len PySem.boot_len (pv 1)) de_int (nomark _)) (dss_one (ds_ret (de_ixV os_ixL ix_lst (pv 1) de_int (fun _ _ => rfl)))) dss_nil)
      (dss_one (ds_ret (de_tup (dl_cons (de_ix os_ixL ix_lst (de_lst (dl_cons de_str (dl_cons de_str dl_nil))) (de_op os_mod op_mod (dv 0) de_int) (fun _ _ => rfl)) (dl_cons (dv 1) dl_nil)))))), ?_⟩
    have sz := sizeL24
    walk_at "vd"
    rw [patDs_len]
    by_cases h1 : (ps.length : Int) = 1
    · rw [if_pos h1]
      match ps, h1 with
      | [p], _ => exact ⟨_, atI0, q⟩
    · rw [if_neg h1]
      have ej : joinP k ps = if k % 2 = 0 then .row ps else .any ps := by
        match ps, h1, hne with
        | a :: b :: r, _, _ => rfl
        | [a], h1, _ => exact absurd rfl h1
        | [], _, hne => exact absurd rfl hne
      rw [ej] at q
      have b1 := mod_nn (a := k) (b := 2) (by decide)
      have b2 := mod_lt (a := k) (b := 2) (by decide)
      refine ⟨by omega, by decide, ?_⟩
      by_cases hk : k % 2 = 0
      · rw [hk]
        rw [if_pos hk] at q
        exact ⟨_, atI0, by omega, q⟩
      · have e1 : k % 2 = 1 := by omega
        rw [e1]
        rw [if_neg hk] at q
        exact ⟨_, atI1, by omega, q⟩
end
open PySem L2 VL
def wkOf (k : Int) : Wk := if k = 0 then .maybe else if k = 1 then .many else .some
def lastP (ps : List Pat) : Pat := ps.getLast?.getD .none
def stepP (s : List Pat × List Str) (n : Int) : List Pat × List Str :=
  if s.1 ≠ [] ∧ n % 9 < 3 ∧ twiceP (lastP s.1) = false then (s.1.dropLast ++ [.wrap (wkOf (n % 9)) (lastP s.1)], s.2)
  else if 1 < s.1.length ∧ n % 9 < 6 then (s.1.take (s.1.length - (2 + n / 9 % 2).toNat) ++ [joinP (n % 9) (s.1.drop (s.1.length - (2 + n / 9 % 2).toNat))], s.2)
  else if s.2 ≠ [] ∧ n % 9 < 8 then (s.1 ++ [.one (s.2.getLast?.getD "")], s.2.dropLast)
  else if n % 9 = 8 then (s.1 ++ [.none], s.2) else s
def pileF (ns : List Int) (pool : List Str) : List Pat × List Str := ns.foldl stepP ([], pool)
def patF (ns : List Int) (pool : List Str) : Pat := if (pileF ns pool).1 = [] then .none else joinP ns.sum (pileF ns pool).1
theorem pileF_snoc (ns : List Int) (pool : List Str) (n : Int) : pileF (ns ++ [n]) pool = stepP (pileF ns pool) n := by simp [pileF]
mutual
def okP : Pat → Bool
  | .none => true
  | .one _ => true
  | .row ps => okPs ps
  | .any ps => !ps.isEmpty && okPs ps
  | .wrap _ p => okP p
def okPs : List Pat → Bool
  | [] => true
  | p :: ps => okP p && okPs ps
end
theorem okPs_app : ∀ ps qs : List Pat, okPs (ps ++ qs) = (okPs ps && okPs qs)
  | [], qs => by simp [okPs]
  | p :: ps, qs => by simp only [List.cons_append, okPs, okPs_app ps qs, Bool.and_assoc]
theorem joinP_ok {k : Int} {ps : List Pat} (h : okPs ps = true) (hne : ps ≠ []) : okP (joinP k ps) = true := by
  match ps, hne with
  | [p], _ => simpa [joinP, okPs] using h
  | a :: b :: r, _ =>
    simp only [joinP]
    split
    · simpa [okP] using h
    · simpa [okP] using h
theorem joinP_sz {k : Int} {ps : List Pat} (hne : ps ≠ []) : szP (joinP k ps) ≤ szPs ps + 1 := by
  match ps, hne with
  | [p], _ => simp [joinP, szPs]
  | a :: b :: r, _ =>
    simp only [joinP]
    split <;> simp only [szP] <;> omega
theorem lastP_spec {ps : List Pat} (h : ps ≠ []) : ps = ps.dropLast ++ [lastP ps] := by
  unfold lastP
  rw [List.getLast?_eq_some_getLast h]
  exact (List.dropLast_concat_getLast h).symm
theorem stepP_ok (s : List Pat × List Str) (n : Int) (h : okPs s.1 = true) : okPs (stepP s n).1 = true ∧ szPs (stepP s n).1 ≤ szPs s.1 + 1 := by
  unfold stepP
  split
  · rename_i h1
    have e := lastP_spec h1.1
    have eo := congrArg okPs e
    have ez := congrArg szPs e
    rw [okPs_app, h] at eo
    rw [szPs_app] at ez
    simp only [okPs, szPs, Bool.and_true] at eo ez
    have eo := eo.symm
    simp only [Bool.and_eq_true] at eo
    simp only [okPs_app, szPs_app, okPs, szPs, okP, szP, eo.1, eo.2]
    exact ⟨rfl, by omega⟩
  · split
    · rename_i h1
      have e := List.take_append_drop (s.1.length - (2 + n / 9 % 2).toNat) s.1
      have hne : s.1.drop (s.1.length - (2 + n / 9 % 2).toNat) ≠ [] := by
        intro z
        have := congrArg List.length z
        simp only [List.length_drop, List.length_nil] at this
        have b1 := mod_nn (a := n / 9) (b := 2) (by decide)
        omega
      have eo := congrArg okPs e
      have ez := congrArg szPs e
      rw [okPs_app, h] at eo
      rw [szPs_app] at ez
      simp only [Bool.and_eq_true] at eo
      have j1 := joinP_ok (k := n % 9) eo.2 hne
      have j2 := joinP_sz (k := n % 9) hne
      simp only [okPs_app, szPs_app, okPs, szPs, j1, eo.1]
      exact ⟨rfl, by omega⟩
    · split
      · simp only [okPs_app, szPs_app, okPs, szPs, okP, szP, h]
        exact ⟨rfl, by omega⟩
      · split
        · simp only [okPs_app, szPs_app, okPs, szPs, okP, szP, h]
          exact ⟨rfl, by omega⟩
        · exact ⟨h, by omega⟩
theorem pileF_ok (pool : List Str) : ∀ (k : Nat) (ns : List Int), ns.length = k → okPs (pileF ns pool).1 = true ∧ szPs (pileF ns pool).1 ≤ k := by
  intro k
  induction k with
  | zero =>
    intro ns h
    have e : ns = [] := List.length_eq_zero_iff.mp h
    subst e
    exact ⟨rfl, Nat.le_refl _⟩
  | succ k ih =>
    intro ns h
    rcases List.eq_nil_or_concat ns with rfl | ⟨ms, n, rfl⟩
    · cases h
    · rw [List.concat_eq_append] at h ⊢
      rw [pileF_snoc]
      obtain ⟨h1, h2⟩ := ih ms (by simpa using h)
      obtain ⟨h3, h4⟩ := stepP_ok (pileF ms pool) n h1
      exact ⟨h3, by omega⟩
theorem patF_ok (ns : List Int) (pool : List Str) : okP (patF ns pool) = true ∧ szP (patF ns pool) ≤ ns.length + 1 := by
  obtain ⟨h1, h2⟩ := pileF_ok pool ns.length ns rfl
  unfold patF
  split
  · exact ⟨rfl, by simp [szP]⟩
  · rename_i hne
    have j1 := joinP_ok (k := ns.sum) h1 hne
    have j2 := joinP_sz (k := ns.sum) hne
    exact ⟨j1, by omega⟩
mutual
theorem dpP_sz : ∀ p : Pat, dpP p ≤ szP p
  | .none => by simp [dpP, szP]
  | .one _ => by simp [dpP, szP]
  | .row ps => by have := dpPs_sz ps; simp only [dpP, szP]; omega
  | .any ps => by have := dpPs_sz ps; simp only [dpP, szP]; omega
  | .wrap _ p => by have := dpP_sz p; simp only [dpP, szP]; omega
theorem dpPs_sz : ∀ ps : List Pat, dpPs ps ≤ szPs ps
  | [] => by simp [dpPs]
  | p :: ps => by have := dpP_sz p; have := dpPs_sz ps; simp only [dpPs, szPs]; omega
end
theorem atI_wk {k : Int} (h0 : 0 ≤ k) (h3 : k < 3) : atI [D.str "maybe", D.str "many", D.str "some"] k = some (.str (wkOf k).str) := by
  have : k = 0 ∨ k = 1 ∨ k = 2 := by omega
  rcases this with rfl | rfl | rfl
  · exact atI0
  · exact atI1
  · exact atI2
theorem itd {c1 c2 A B : Prop} [Decidable c1] [Decidable c2] (h1 : c1 ∧ c2 → A) (h2 : ¬ (c1 ∧ c2) → B) : if c1 then (if c2 then A else B) else B := by
  by_cases z1 : c1 <;> by_cases z2 : c2 <;> simp only [z1, z2, if_true, if_false]
  · exact h1 ⟨z1, z2⟩
  · exact h2 fun h => z2 h.2
  · exact h2 fun h => z1 h.1
  · exact h2 fun h => z1 h.1
theorem itd3 {c1 c2 A B : Prop} [Decidable c1] [Decidable c2] (h1 : c1 → c2 → A) (h2 : ¬ (c1 ∧ c2) → B) : if c1 then (if c2 then A else B) else B := itd (fun h => h1 h.1 h.2) h2
theorem cut_end (xs : List D) {m : Int} (h : 0 < m) : cutD xs (some (-m)) none = xs.drop (xs.length - m.toNat) := by
  unfold cutD
  have e : HT.sIx xs.length 0 (some (-m)) = xs.length - m.toNat := by
    show (if -m < 0 then (-m + (xs.length : Int)).toNat else min (-m).toNat xs.length) = _
    rw [if_pos (by omega)]; omega
  rw [e, HT.sIx_none, List.take_of_length_le (by rw [List.length_drop]; exact Nat.le_refl _)]
theorem cut_head (xs : List D) {m : Int} (h : 0 < m) : cutD xs none (some (-m)) = xs.take (xs.length - m.toNat) := by
  unfold cutD
  have e : HT.sIx xs.length xs.length (some (-m)) = xs.length - m.toNat := by
    show (if -m < 0 then (-m + (xs.length : Int)).toNat else min (-m).toNat xs.length) = _
    rw [if_pos (by omega)]; omega
  rw [e, HT.sIx_none, List.drop_zero, Nat.sub_zero]
section
variable {P : Program} {w : World} {K : PySem.W.Frag} {mg : Str → Option Value} {base : Heap} {f : Addr} {fd : FuncData}
def R_pattern : RD := fun δ Q => ∃ (ns : List Int) (pool : List Str), δ = [.fz (.lst (ns.map .int)), .fz (.lst (pool.map .str))] ∧ ns.length ≤ 90 ∧ (∀ x ∈ ns, 0 ≤ x ∧ x < 4294967296) ∧ pool.length ≤ 100 ∧ Q false (patD (patF ns pool)) [.no, .no]
theorem ok_pattern {f1 f2 : Addr} {fd1 fd2 : FuncData} (E__law_pattern : Ent K mg "_law_pattern" s__law_pattern ["_law_numbers", "_law_pool"] f fd) (T : Zs K mg) (E__law_joined : Ent K mg "_law_joined" s__law_joined ["_law_kind", "_law_parts"] f1 fd1) (E__law_twice : Ent K mg "_law_twice" s__law_twice ["_law_pattern_here"] f2 fd2) : FnOk P w K mg base CX0 2 f fd ["_law_numbers", "_law_pool"] (spD R_pattern) := by
  have G__law_joined : FnOk P w K mg base CX0 1 f1 fd1 _ (spD R_joined) := ok_joined E__law_joined T
  have G__law_twice : FnOk P w K mg base CX0 1 f2 fd2 _ (spD R_twice) := ok_twice E__law_twice T
  refine VL.Fun.dok E__law_pattern.F sc__law_pattern (fun δ Qd h => ?_) (by decide) (fun cdv A outer s H E δ Qd hr h => ?_)
  · obtain ⟨_, _, rfl, _⟩ := h; rfl
  · obtain ⟨ns, pool, rfl, hl, hb, hp, q⟩ := h
    have hu := hu100 hr
    refine ⟨_, (dss_cons (ds_set (i := 2) sc__law_pattern.nd rfl (Or.inl rfl) (de_lst dl_nil))
      (dss_cons (ds_set (i := 3) sc__law_pattern.nd rfl (Or.inl rfl) (de_callTy cs_list call_list_lst rfl T.z_list PyProof.Rows.boot_list (dl_cons (dv 1) dl_nil)))
      (dss_cons (ds_for PassesOwn.never rfl (di_list (dv 0)) (dg_name (i := 4) sc__law_pattern.nd rfl (Or.inl rfl)) (dss_cons (ds_set (i := 5) sc__law_pattern.nd rfl (Or.inl rfl) (de_op os_mod op_mod (dv 4) de_int))
      (dss_one (ds_if (dt_w (dw_and (dt_cmpV (os_neL hu) op_ne_tree (pv 2) (de_lst dl_nil) (nomark _)) (dw_and (dt_cmp os_lt op_lt (dv 5) de_int (nomark _)) (dw_and1 (dt_not (dt_val (de_call G__law_twice (hr.mono (by omega)) rfl E__law_twice.g E__law_twice.F.kp E__law_twice.b pass0 (dl_cons (de_ixV os_ixL ix_lst (pv 2) (de_neg de_int) (fun _ _ => rfl)) dl_nil)))))))) (dss_one (ds_setL (pv 2) (de_neg de_int) (de_tup (dl_cons (de_ix os_ixL ix_lst (de_lst (dl_cons de_str (dl_cons de_str (dl_cons de_str dl_nil)))) (dv 5) (fun _ _ => rfl)) (dl_cons (de_ixV os_ixL ix_lst (pv 2) (de_neg de_int) (fun _ _ => rfl)) dl_nil))))) (dss_one (ds_if (dt_w (dw_and (dt_cmp os_gt op_gt (de_callBV cs_lenL call_len_lst rfl T.z_len PySem.boot_len (pv 2)) de_int (nomark _)) (dw_and1 (dt_cmp os_lt op_lt (dv 5) de_int (nomark _))))) (dss_cons (ds_set (i := 6) sc__law_pattern.nd rfl (Or.inl rfl) (de_op os_add op_add de_int (de_op os_mod op_mod (de_op os_fdiv op_fdivL (dv 4) de_int) de_int)))
      (dss_one (ds_set (i := 2) sc__law_pattern.nd rfl (Or.inl rfl) (de_op os_cat op_cat (de_sliceLV (pv 2) do_none (do_some (de_neg (dv 6)))) (de_lst (dl_cons (de_call G__law_joined (hr.mono (by omega)) rfl E__law_joined.g E__law_joined.F.kp E__law_joined.b pass0 (dl_cons (dv 5) (dl_cons (de_sliceLV (pv 2) (do_some (de_neg (dv 6))) do_none) dl_nil))) dl_nil)))))) (dss_one (ds_if (dt_w (dw_and (dt_cmpV (os_neL hu) op_ne_tree (pv 3) (de_lst dl_nil) (nomark _)) (dw_and1 (dt_cmp os_lt op_lt (dv 5) de_int (nomark _))))) (dss_one (ds_expr (de_mt ms_append PySem.F.slot_list_append PySem.F.type_list_append mt_append (pv 2) (dl_cons (de_tup (dl_cons de_str (dl_cons (de_mt0 ms_pop PySem.F.slot_list_pop PySem.F.type_list_pop mt_pop (pv 3)) dl_nil))) dl_nil)))) (dss_one (ds_if (dt_cmp os_eq op_eq (dv 5) de_int (nomark _)) (dss_one (ds_expr (de_mt ms_append PySem.F.slot_list_append PySem.F.type_list_append mt_append (pv 2) (dl_cons (de_tup (dl_cons de_str dl_nil)) dl_nil)))) dss_nil))))))))))
      (dss_cons (ds_if (dt_cmpV (os_eqL hu) op_eq_len (pv 2) (de_lst dl_nil) (nomark _)) (dss_one (ds_ret (de_tup (dl_cons de_str dl_nil)))) dss_nil)
      (dss_one (ds_ret (de_call G__law_joined (hr.mono (by omega)) rfl E__law_joined.g E__law_joined.F.kp E__law_joined.b pass0 (dl_cons (de_callB cs_sum (call_sum_lst rfl) rfl T.z_sum PyProof.Rows.boot_sum (dl_cons (dv 0) dl_nil)) (dl_cons (dv 2) dl_nil))))))))), ?_⟩
    have sz := sizeL24
    walk_at "vd"
    refine ⟨by omega, loopD [4, 5, 6] (fun r δ => ∃ pre suf, ns = pre ++ suf ∧ r = suf.map .int ∧ δ = [.fz (.lst (ns.map .int)), .fz (.lst (pool.map .str)), .ob false (.lst (patDs (pileF pre pool).1)), .ob false (.lst ((pileF pre pool).2.map .str)), .no, .no, .no]) ⟨[], ns, rfl, rfl, rfl⟩ ?_ ?_⟩
    · rintro d r δ ⟨pre, suf, e1, e2, rfl⟩
      cases suf with
      | nil => cases e2
      | cons n suf =>
        cases e2
        have hstep := pileF_snoc pre pool n
        obtain ⟨o1, o2⟩ := pileF_ok pool pre.length pre rfl
        have hlen : pre.length < 90 := by have := congrArg List.length e1; simp at this; omega
        have pl := szPs_len (pileF pre pool).1
        have n1 := mod_nn (a := n) (b := 9) (by decide)
        have n2 := mod_lt (a := n) (b := 9) (by decide)
        have fin : ∀ δ : List VL.Slot, δ = [.fz (.lst (ns.map .int)), .fz (.lst (pool.map .str)), .ob false (.lst (patDs (stepP (pileF pre pool) n).1)), .ob false (.lst ((stepP (pileF pre pool) n).2.map .str)), .no, .no, .no] → ∃ pre_1 suf_1, ns = pre_1 ++ suf_1 ∧ List.map D.int suf = List.map D.int suf_1 ∧ δ = [.fz (.lst (ns.map .int)), .fz (.lst (pool.map .str)), .ob false (.lst (patDs (pileF pre_1 pool).1)), .ob false (.lst ((pileF pre_1 pool).2.map .str)), .no, .no, .no] := fun δ e => ⟨pre ++ [n], suf, by simp [e1], rfl, by rw [e, hstep]⟩
        clear hstep
        generalize pileF pre pool = s at o1 o2 pl fin ⊢
        obtain ⟨pile, left⟩ := s
        simp only at o1 o2 pl fin ⊢
        walk_at "vd"
        refine ⟨by decide, by omega, ?_⟩
        have elast : ∀ h : pile ≠ [], (patDs pile).getLast (by rw [patDs_map]; simpa using h) = patD (lastP pile) := fun h => by
          have e : patDs pile = patDs pile.dropLast ++ [patD (lastP pile)] := by
            conv => lhs; rw [lastP_spec h, patDs_app]
            rfl
          simp [e]
        have m1 := mod_nn (a := n / 9) (b := 2) (by decide)
        have m2 := mod_lt (a := n / 9) (b := 2) (by decide)
        have mm : 0 < 2 + n / 9 % 2 := by omega
        have neg : ¬ (pile ≠ [] ∧ n % 9 < 3 ∧ twiceP (lastP pile) = false) → stepP (pile, left) n = if 1 < pile.length ∧ n % 9 < 6 then (pile.take (pile.length - (2 + n / 9 % 2).toNat) ++ [joinP (n % 9) (pile.drop (pile.length - (2 + n / 9 % 2).toNat))], left)
              else if left ≠ [] ∧ n % 9 < 8 then (pile ++ [.one (left.getLast?.getD "")], left.dropLast)
              else if n % 9 = 8 then (pile ++ [.none], left) else (pile, left) := fun c1 => by unfold stepP; rw [if_neg c1]
        refine itd3 (fun hn0 hk => ?_) fun c1 => ?_
        · have hne' : patDs pile ≠ [] := by simpa using hn0
          have hne : pile ≠ [] := fun z => hne' (by rw [z]; rfl)
          refine ⟨_, atI_last hne', lastP pile, by rw [elast hne], ?_⟩
          walk_at "vd"
          refine ite2 (fun htw => ?_) fun htw => ?_
          · have htw : twiceP (lastP pile) = false := by simpa using htw
            have es : stepP (pile, left) n = (pile.dropLast ++ [.wrap (wkOf (n % 9)) (lastP pile)], left) := by unfold stepP; rw [if_pos ⟨hne, hk, htw⟩]
            rw [es] at fin
            have hlen2 : 0 < pile.length := List.length_pos_iff.mpr hne
            have ei : ixN (patDs pile).length (-1) = some (pile.length - 1) := by
              rw [patDs_len]
              unfold ixN
              rw [if_neg (by decide), if_pos (by omega)]
              congr 1
              omega
            refine ⟨by omega, _, atI_wk n1 hk, _, atI_last hne', by omega, _, ei, fin _ ?_⟩
            rw [elast hne]
            have e : patDs pile = patDs pile.dropLast ++ [patD (lastP pile)] := by
              conv => lhs; rw [lastP_spec hne, patDs_app]
              rfl
            have ed : pile.length - 1 = (patDs pile.dropLast).length := by rw [patDs_len, List.length_dropLast]
            rw [e, ed, patDs_app]
            simp [patDs, patD]
          · have htw : twiceP (lastP pile) = true := by simpa using htw
            rw [neg (fun h => by rw [htw] at h; exact absurd h.2.2 (by simp))] at fin
            refine itd (fun c2 => ?_) fun c2 => ⟨by omega, itd (fun c3 => ?_) fun c3 => ite2 (fun c4 => ?_) fun c4 => ?_⟩
            · have c2' : 1 < pile.length ∧ n % 9 < 6 := ⟨by have := c2.1; rw [patDs_len] at this; omega, c2.2⟩
              rw [if_pos c2'] at fin
              rw [cut_end _ mm, cut_head _ mm, patDs_len]
              have hd : pile.drop (pile.length - (2 + n / 9 % 2).toNat) ≠ [] := by
                intro z
                have := congrArg List.length z
                simp only [List.length_drop, List.length_nil] at this
                omega
              have ed : (patDs pile).drop (pile.length - (2 + n / 9 % 2).toNat) = patDs (pile.drop (pile.length - (2 + n / 9 % 2).toNat)) := by simp [patDs_map, List.map_drop]
              have et : (patDs pile).take (pile.length - (2 + n / 9 % 2).toNat) = patDs (pile.take (pile.length - (2 + n / 9 % 2).toNat)) := by simp [patDs_map, List.map_take]
              rw [ed]
              refine ⟨⟨by decide, by decide⟩, by decide, _, _, rfl, hd, ?_⟩
              rw [et]
              walk_at "vd"
              refine ⟨by omega, by rw [patDs_len, List.length_take]; omega, fin _ ?_⟩
              rw [patDs_app]; rfl
            · have c3' : left ≠ [] ∧ n % 9 < 8 := ⟨by have := c3.1; simpa using this, c3.2⟩
              rw [if_neg (fun h => c2 ⟨by rw [patDs_len]; omega, h.2⟩), if_pos c3'] at fin
              have hl : 0 < left.length := List.length_pos_iff.mpr c3'.1
              refine ⟨.str (left.getLast?.getD ""), ?_, by omega, by rw [patDs_len]; omega, fin _ ?_⟩
              · rw [List.length_map, List.getElem?_map, List.getLast?_eq_getElem?, List.getElem?_eq_getElem (by omega)]; rfl
              · rw [patDs_app, List.map_dropLast]; rfl
            · rw [if_neg (fun h => c2 ⟨by rw [patDs_len]; omega, h.2⟩), if_neg (fun h => c3 ⟨by simpa using h.1, h.2⟩), if_pos c4] at fin
              exact ⟨by omega, by rw [patDs_len]; omega, fin _ (by rw [patDs_app]; rfl)⟩
            · rw [if_neg (fun h => c2 ⟨by rw [patDs_len]; omega, h.2⟩), if_neg (fun h => c3 ⟨by simpa using h.1, h.2⟩), if_neg c4] at fin
              exact fin _ rfl
        · rw [neg (fun h => c1 ⟨by rw [patDs_map]; simpa using h.1, h.2.1⟩)] at fin
          refine itd (fun c2 => ?_) fun c2 => ⟨by omega, itd (fun c3 => ?_) fun c3 => ite2 (fun c4 => ?_) fun c4 => ?_⟩
          · have c2' : 1 < pile.length ∧ n % 9 < 6 := ⟨by have := c2.1; rw [patDs_len] at this; omega, c2.2⟩
            rw [if_pos c2'] at fin
            rw [cut_end _ mm, cut_head _ mm, patDs_len]
            have hd : pile.drop (pile.length - (2 + n / 9 % 2).toNat) ≠ [] := by
              intro z
              have := congrArg List.length z
              simp only [List.length_drop, List.length_nil] at this
              omega
            have ed : (patDs pile).drop (pile.length - (2 + n / 9 % 2).toNat) = patDs (pile.drop (pile.length - (2 + n / 9 % 2).toNat)) := by simp [patDs_map, List.map_drop]
            have et : (patDs pile).take (pile.length - (2 + n / 9 % 2).toNat) = patDs (pile.take (pile.length - (2 + n / 9 % 2).toNat)) := by simp [patDs_map, List.map_take]
            rw [ed]
            refine ⟨⟨by decide, by decide⟩, by decide, _, _, rfl, hd, ?_⟩
            rw [et]
            walk_at "vd"
            refine ⟨by omega, by rw [patDs_len, List.length_take]; omega, fin _ ?_⟩
            rw [patDs_app]; rfl
          · have c3' : left ≠ [] ∧ n % 9 < 8 := ⟨by have := c3.1; simpa using this, c3.2⟩
            rw [if_neg (fun h => c2 ⟨by rw [patDs_len]; omega, h.2⟩), if_pos c3'] at fin
            have hl : 0 < left.length := List.length_pos_iff.mpr c3'.1
            refine ⟨.str (left.getLast?.getD ""), ?_, by omega, by rw [patDs_len]; omega, fin _ ?_⟩
            · rw [List.length_map, List.getElem?_map, List.getLast?_eq_getElem?, List.getElem?_eq_getElem (by omega)]; rfl
            · rw [patDs_app, List.map_dropLast]; rfl
          · rw [if_neg (fun h => c2 ⟨by rw [patDs_len]; omega, h.2⟩), if_neg (fun h => c3 ⟨by simpa using h.1, h.2⟩), if_pos c4] at fin
            exact ⟨by omega, by rw [patDs_len]; omega, fin _ (by rw [patDs_app]; rfl)⟩
          · rw [if_neg (fun h => c2 ⟨by rw [patDs_len]; omega, h.2⟩), if_neg (fun h => c3 ⟨by simpa using h.1, h.2⟩), if_neg c4] at fin
            exact fin _ rfl
    · rintro δ ⟨pre, suf, e1, e2, rfl⟩
      cases suf with
      | cons c suf => cases e2
      | nil =>
        walk_at "vd"
        rw [List.append_nil] at e1
        subst e1
        refine ⟨by omega, ?_⟩
        unfold patF at q
        by_cases hn : (pileF ns pool).1 = []
        · rw [if_pos (by rw [hn]; rfl)]
          rw [if_pos hn] at q
          exact ⟨by omega, q⟩
        · have hn' : patDs (pileF ns pool).1 ≠ [] := by rw [patDs_map]; simpa using hn
          rw [if_neg (by simpa using hn')]
          rw [if_neg hn] at q
          refine ⟨ns, rfl, by omega, hb, ns.sum, _, rfl, hn, q⟩
end
open PySem L2 VL
theorem compF {α : Type} (f g : α → D) (c : α → Bool) (xs : List α) {tc : TTd} {te : TEd} {Q : Bool → D → List VL.Slot → Prop} {δ : List VL.Slot} (hl : xs.length ≤ sizeLine)
    (hc : ∀ x ∈ xs, ∀ P : Bool → List VL.Slot → Prop, P (c x) (.fz (f x) :: δ) → tc (.fz (f x) :: δ) P)
    (h : ∀ x ∈ xs, c x = true → ∀ P : D → List VL.Slot → Prop, P (g x) (.fz (f x) :: δ) → te (.fz (f x) :: δ) fun _ y δ' => P y δ') (q : Q true (.lst ((xs.filter c).map g)) δ) : CompD 1 (xs.map f) (dgN 0) tc te Q δ := by
  refine ⟨fun r acc δ1 => δ1 = δ ∧ ∃ pre suf, xs = pre ++ suf ∧ r = suf.map f ∧ acc = (pre.filter c).map g, ⟨rfl, [], xs, rfl, rfl, rfl⟩, ?_, ?_⟩
  · rintro d r acc δ1 ⟨rfl, pre, suf, e, er, rfl⟩
    cases suf with
    | nil => cases er
    | cons x suf =>
      cases er
      refine ⟨trivial, ?_⟩
      have hx : x ∈ xs := by rw [e]; simp
      have hlen : pre.length < sizeLine := by rw [e] at hl; simp at hl; omega
      refine hc x hx _ ?_
      cases hcx : c x with
      | false =>
        rw [if_neg Bool.false_ne_true]
        exact ⟨rfl, pre ++ [x], suf, by rw [e]; simp, rfl, by simp [List.filter_append, hcx]⟩
      | true =>
        rw [if_pos rfl]
        refine h x hx hcx _ ⟨?_, rfl, pre ++ [x], suf, by rw [e]; simp, rfl, by simp [List.filter_append, hcx]⟩
        have := List.length_filter_le c pre
        simp; omega
  · rintro acc δ1 ⟨rfl, pre, suf, e, er, rfl⟩
    have es : suf = [] := by simpa using er.symm
    subst es
    simp at e
    subst e
    exact q
def TabD (S : List Str) (M : Str → Str → Bool) (c : Nat) (kds : List (Key × D)) : Prop := ∀ s ∈ S, ∃ l : List Str, getS kds s = some (.lst (l.map .str)) ∧ (∀ t, t ∈ l ↔ M s t = true) ∧ l.length ≤ c
theorem TabD.cong {S : List Str} {M M' : Str → Str → Bool} {c c' : Nat} {kds : List (Key × D)} (h : TabD S M c kds) (e : ∀ s ∈ S, ∀ t, M s t = M' s t) (l : c ≤ c') : TabD S M' c' kds := fun s hs => by
  obtain ⟨ls, h1, h2, h3⟩ := h s hs
  exact ⟨ls, h1, fun t => by rw [h2, e s hs], by omega⟩
theorem putS_old {kds : List (Key × D)} {k : Str} {d d' : D} (h : getS kds k = some d) : (putS kds k d').length = kds.length := by
  unfold putS
  split
  · simp
  · rename_i hn
    exfalso
    apply hn
    unfold getS at h
    obtain ⟨kv, h1, _⟩ := Option.map_eq_some_iff.mp h
    exact List.any_eq_true.mpr ⟨kv, List.mem_of_find?_eq_some h1, by simpa using List.find?_some h1⟩
section
variable {P : Program} {w : World} {K : PySem.W.Frag} {mg : Str → Option Value} {base : Heap} {f : Addr} {fd : FuncData}
def R_texts : RD := fun δ Q => ∃ xs : List Str, δ = [.fz (.lst (xs.map .str)), .fz (.lst (xs.map .str))] ∧ xs.length ≤ 1000 ∧ Q false (.bl true) [.no, .no]
theorem ok_texts (E__law_texts : Ent K mg "_law_texts" s__law_texts ["_law_found", "_law_due"] f fd) (T : Zs K mg) : FnOk P w K mg base CX0 1 f fd ["_law_found", "_law_due"] (spD R_texts) := by
  refine VL.Fun.dok E__law_texts.F sc__law_texts (fun δ Qd h => ?_) (by decide) (fun cdv A outer s H E δ Qd hr h => ?_)
  · obtain ⟨_, rfl, _⟩ := h; rfl
  · obtain ⟨xs, rfl, hl, q⟩ := h
    have sz := sizeL24
    refine ⟨_, (dss_cons (ds_if (dt_w (dw_or (dt_not (dt_val (de_callB (cs_isI T.kit) (call_isinst (K := K) rfl) rfl T.z_isinstance PyProof.Rows.boot_isinstance (dl_cons (dv 0) (dl_cons (de_ty rfl T.z_list PyProof.Rows.boot_list) dl_nil))))) (dw_or1 (dt_cmp os_ne op_ne (de_callBV cs_lenL call_len_lst rfl T.z_len PySem.boot_len (pv 0)) (de_callBV cs_lenL call_len_lst rfl T.z_len PySem.boot_len (pv 1)) (nomark _))))) (dss_one (ds_ret de_bl)) dss_nil)
      (dss_cons (ds_for PassesOwn.never rfl (di_range1 rfl T.z_range (dl_cons (de_callBV cs_lenL call_len_lst rfl T.z_len PySem.boot_len (pv 1)) dl_nil)) (dg_name (i := 2) sc__law_texts.nd rfl (Or.inl rfl)) (dss_one (ds_if (dt_w (dw_or (dt_not (dt_val (de_callB (cs_isI T.kit) (call_isinst (K := K) rfl) rfl T.z_isinstance PyProof.Rows.boot_isinstance (dl_cons (de_ixV os_ixL ix_lst (pv 0) (dv 2) (fun _ _ => rfl)) (dl_cons (de_ty rfl T.z_str PyProof.Rows.boot_str) dl_nil))))) (dw_or1 (dt_cmp os_ne op_ne (de_ixV os_ixL ix_lst (pv 0) (dv 2) (fun _ _ => rfl)) (de_ixV os_ixL ix_lst (pv 1) (dv 2) (fun _ _ => rfl)) (nomark _))))) (dss_one (ds_ret de_bl)) dss_nil)))
      (dss_one (ds_ret de_bl)))), ?_⟩
    walk_at "vd"
    refine ⟨by omega, by simp; omega, ?_⟩
    have el : ((List.map D.str xs).length : Int).toNat = xs.length := by simp
    rw [el]
    refine loopN [2] (fun i δ => δ = [.fz (.lst (xs.map .str)), .fz (.lst (xs.map .str)), .no]) rfl ?_ ?_
    · rintro i δ hi rfl
      have ei : atI (List.map D.str xs) (i : Int) = some (.str xs[i]) := atI_nat (by rw [List.getElem?_map, List.getElem?_eq_getElem hi]; rfl)
      walk_at "vd"
      refine ⟨_, ei, ?_⟩
      walk_at "vd"
      refine ⟨_, ei, _, ei, ?_⟩
      walk_at "vd"
    · rintro δ rfl
      walk_at "vd"
      exact q
def R_lay : RD := fun δ Q => ∃ (kds : List (Key × D)) (heads tails S : List Str) (M : Str → Str → Bool) (c : Nat), δ = [.ob true (.dct kds), .fz (.lst (heads.map .str)), .fz (.lst (tails.map .str))] ∧ TabD S M c kds ∧ kds.length ≤ 1000 ∧ (∀ s ∈ heads, s ∈ S) ∧ heads.length ≤ 100 ∧ tails.length ≤ 100 ∧ c + 10000 < sizeLine ∧
  ∀ kds' : List (Key × D), kds'.length ≤ 1000 → TabD S (fun s t => M s t || (decide (s ∈ heads) && decide (t ∈ tails))) (c + 10000) kds' → Q false .non [.ob true (.dct kds'), .no, .no]
theorem ok_lay (E__law_lay : Ent K mg "_law_lay" s__law_lay ["_law_table_here", "_law_heads", "_law_tails"] f fd) (T : Zs K mg) : FnOk P w K mg base CX0 1 f fd ["_law_table_here", "_law_heads", "_law_tails"] (spD R_lay) := by
  refine VL.Fun.dok E__law_lay.F sc__law_lay (fun δ Qd h => ?_) (by decide) (fun cdv A outer s H E δ Qd hr h => ?_)
  · obtain ⟨_, _, _, _, _, _, rfl, _⟩ := h; rfl
  · obtain ⟨kds, heads, tails, S, M, c, rfl, tb, kl, sub, l1, l2, hc, q⟩ := h
    have hu := hu100 hr
    have sz := sizeL24
    refine ⟨_, (dss_one (ds_for PassesOwn.never rfl (di_list (dv 1)) (dg_name (i := 3) sc__law_lay.nd rfl (Or.inr rfl)) (dss_one (ds_dput hu (pv 0) (dv 3) (de_op os_cat op_cat (de_dgetV hu (pv 0) (dv 3)) (de_comp ["_law_tail"] ["_law_table_here", "_law_heads", "_law_tails", "_law_head"] rfl (show CScopeG (defScope s__law_lay) ["_law_table_here", "_law_heads", "_law_tails", "_law_head"] ["_law_tail"] _ _ from ⟨rfl, by decide +kernel, by decide +kernel, by decide +kernel, by decide +kernel⟩) (di_list (dv 2)) (fun _ _ _ _ _ => (dgn_name (i := 0) (by decide) (show List.Nodup (["_law_tail", "_law_table_here", "_law_heads", "_law_tails", "_law_head"] : List Str) from by decide +kernel) rfl (Or.inl rfl))) (fun _ _ _ _ _ => (df_one (dt_cmp os_notInL op_notIn_lst (dv 0) (de_dgetV hu (pv 1) (dv 4)) rfl))) (fun _ _ _ _ _ => (dv 0)))))))), ?_⟩
    walk_at "vd"
    refine loopD [3] (fun r δ => ∃ pre suf kds', heads = pre ++ suf ∧ r = suf.map .str ∧ kds'.length ≤ 1000 ∧ TabD S (fun s t => M s t || (decide (s ∈ pre) && decide (t ∈ tails))) (c + 100 * pre.length) kds' ∧ δ = [.ob true (.dct kds'), .fz (.lst (heads.map .str)), .fz (.lst (tails.map .str)), .no]) ⟨[], heads, kds, rfl, rfl, kl, tb.cong (fun _ _ _ => by simp) (by simp), rfl⟩ ?_ ?_
    · rintro d r δ ⟨pre, suf, kds', e1, e2, kl', tb', rfl⟩
      cases suf with
      | nil => cases e2
      | cons s suf =>
        cases e2
        have hs : s ∈ S := sub s (by rw [e1]; simp)
        have hpl : pre.length < 100 := by have := congrArg List.length e1; simp at this; omega
        obtain ⟨l, g1, g2, g3⟩ := tb' s hs
        walk_at "vd"
        refine ⟨_, g1, ?_⟩
        refine compF .str .str (fun t => !decide (t ∈ l)) tails (by omega) (fun t ht Pq hP => ?_) (fun t ht _ Pq hP => ?_) ?_
        · walk_at "vd"
          refine ⟨_, g1, ?_⟩
          walk_at "vd"
          exact hP
        · walk_at "vd"
          exact hP
        · walk_at "vd"
          have fl := List.length_filter_le (fun t => !decide (t ∈ l)) tails
          rw [← List.map_append]
          refine ⟨by simp; omega, by omega, pre ++ [s], suf, _, by simp [e1], rfl, by rw [putS_old g1]; exact kl', fun s' hs' => ?_, rfl⟩
          by_cases z : s' = s
          · subst z
            refine ⟨l ++ tails.filter fun t => !decide (t ∈ l), by rw [getS_put, if_pos rfl], fun t => ?_, by simp; omega⟩
            rw [List.mem_append, List.mem_filter]
            have g2t := g2 t
            by_cases h0 : t ∈ l <;> by_cases h1 : M s' t = true <;> by_cases h2 : t ∈ tails <;> by_cases h3 : s' ∈ pre <;> simp_all
          · obtain ⟨l', k1, k2, k3⟩ := tb' s' hs'
            refine ⟨l', by rw [getS_put, if_neg z]; exact k1, fun t => ?_, by simp; omega⟩
            rw [k2]
            simp [z]
    · rintro δ ⟨pre, suf, kds', e1, e2, kl', tb', rfl⟩
      cases suf with
      | cons s suf => cases e2
      | nil =>
        walk_at "vd"
        rw [List.append_nil] at e1
        subst e1
        exact q kds' kl' (tb'.cong (fun _ _ _ => rfl) (by omega))
end
open PySem L2 VL
theorem linkR_ends : ∀ (ps : List Pat) (Es : List Str) (s t : Str), linkR Es ps s t = ((decide (s ∈ Es) && decide (t ∈ firstsR ps)) || linkR [] ps s t)
  | [], Es, s, t => by simp [linkR, firstsR]
  | c :: cs, Es, s, t => by
    simp only [linkR, firstsR]
    rw [linkR_ends cs (lastsP c ++ if bareP c = true then Es else []), linkR_ends cs (lastsP c ++ if bareP c = true then [] else [])]
    by_cases hb : bareP c = true <;> by_cases h1 : s ∈ Es <;> by_cases h2 : t ∈ firstsP c <;> by_cases h3 : s ∈ lastsP c <;> by_cases h4 : t ∈ firstsR cs <;> simp [hb, h1, h2, h3, h4]
theorem linkR_cong {Es Es' : List Str} (h : ∀ s, s ∈ Es ↔ s ∈ Es') (ps : List Pat) (s t : Str) : linkR Es ps s t = linkR Es' ps s t := by
  rw [linkR_ends ps Es, linkR_ends ps Es']
  have := h s
  by_cases h1 : s ∈ Es <;> simp_all
section
variable {P : Program} {w : World} {K : PySem.W.Frag} {mg : Str → Option Value} {base : Heap} {f : Addr} {fd : FuncData}
def R_lsigns (n : Nat) : RD := fun δ Q => ∃ p : Pat, δ = [.fz (patD p)] ∧ dpP p < n ∧ szP p ≤ 1000000 ∧ Q true (.lst ((signsP p).map .str)) [.no]
theorem ok_lsigns (E__law_signs : Ent K mg "_law_signs" s__law_signs ["_law_pattern_here"] f fd) (T : Zs K mg) : ∀ n, FnOk P w K mg base CX0 (n + 1) f fd ["_law_pattern_here"] (spD (R_lsigns n)) := by
  intro n
  induction n with
  | zero => exact fn_none fun δ Q h => by obtain ⟨_, _, h, _⟩ := h; exact Nat.not_lt_zero _ h
  | succ n G__law_signs =>
  refine VL.Fun.dok E__law_signs.F sc__law_signs (fun δ Qd h => ?_) (by decide) (fun cdv A outer s H E δ Qd hr h => ?_)
  · obtain ⟨_, rfl, _⟩ := h; rfl
  · obtain ⟨p, rfl, hdp, hsz, q⟩ := h
    refine ⟨_, (dss_cons (ds_if (dt_cmp os_eq op_eq (de_ixV os_ixT ix_tp (pv 0) de_int (fun _ _ => rfl)) de_str (nomark _)) (dss_one (ds_ret (de_lst dl_nil))) dss_nil)
      (dss_cons (ds_if (dt_cmp os_eq op_eq (de_ixV os_ixT ix_tp (pv 0) de_int (fun _ _ => rfl)) de_str (nomark _)) (dss_one (ds_ret (de_lst (dl_cons (de_ixV os_ixT ix_tp (pv 0) de_int (fun _ _ => rfl)) dl_nil)))) dss_nil)
      (dss_cons (ds_if (dt_cmp os_inL op_in_lst (de_ixV os_ixT ix_tp (pv 0) de_int (fun _ _ => rfl)) (de_lst (dl_cons de_str (dl_cons de_str dl_nil))) rfl) (dss_cons (ds_set (i := 1) sc__law_signs.nd rfl (Or.inl rfl) (de_lst dl_nil))
      (dss_cons (ds_for PassesOwn.never rfl (di_list (de_ixV os_ixT ix_tp (pv 0) de_int (fun _ _ => rfl))) (dg_name (i := 2) sc__law_signs.nd rfl (Or.inl rfl)) (dss_one (ds_set (i := 1) sc__law_signs.nd rfl (Or.inl rfl) (de_op os_cat op_cat (dv 1) (de_call G__law_signs (hr.mono (by omega)) rfl E__law_signs.g E__law_signs.F.kp E__law_signs.b pass0 (dl_cons (dv 2) dl_nil))))))
      (dss_one (ds_ret (dm 1))))) dss_nil)
      (dss_one (ds_ret (de_call G__law_signs (hr.mono (by omega)) rfl E__law_signs.g E__law_signs.F.kp E__law_signs.b pass0 (dl_cons (de_ixV os_ixT ix_tp (pv 0) de_int (fun _ _ => rfl)) dl_nil))))))), ?_⟩
    have sz := sizeL24
    have rowD : ∀ (ps : List Pat) (z : Str) (E : EndsD), dpPs ps < n → szPs ps ≤ 1000000 → E.nx [.fz (.tup [.str z, .lst (patDs ps)]), .ob false (.lst ((signsPs ps).map .str)), .no] → LoopD (patDs ps) (dgN 2) (dSet 1 (dOp fCat (dVar 1) (dCall (R_lsigns n) (dCons (dVar 2) dNil)))) E [.fz (.tup [.str z, .lst (patDs ps)]), .ob false (.lst []), .no] := fun ps z E hd hs h => by
      refine loopD [2] (fun r δ => ∃ pre suf, ps = pre ++ suf ∧ r = patDs suf ∧ δ = [.fz (.tup [.str z, .lst (patDs ps)]), .ob false (.lst ((signsPs pre).map .str)), .no]) ⟨[], ps, rfl, rfl, rfl⟩ ?_ ?_
      · rintro d r δ ⟨pre, suf, e1, e2, rfl⟩
        cases suf with
        | nil => cases e2
        | cons c suf =>
          cases e2
          walk_at "vd"
          have hc : c ∈ ps := by rw [e1]; simp
          have e5 := congrArg szPs e1
          rw [szPs_app, szPs] at e5
          have e6 := dpPs_mem hc
          have e7 := signsP_len c
          have e8 := signsPs_len pre
          refine ⟨c, rfl, by omega, by omega, ?_⟩
          walk_at "vd"
          refine ⟨by simp; omega, pre ++ [c], suf, by simp [e1], rfl, ?_⟩
          simp [signsPs_app, signsPs]
      · rintro δ ⟨pre, suf, e1, e2, rfl⟩
        cases suf with
        | cons c suf => cases e2
        | nil =>
          rw [List.append_nil] at e1
          subst e1
          exact h
    have inL : ∀ (z : Str) {Q : Bool → D → Prop}, Q false (.bl (decide (z ∈ ([("row" : Str), "any"] : List Str)))) → fInL (.str z) (.lst [.str "row", .str "any"]) Q := fun z Q h => ⟨z, ["row", "any"], rfl, rfl, h⟩
    cases p with
    | none =>
      simp only [patD]
      walk_at "vd"
      exact ⟨by omega, q⟩
    | one s =>
      simp only [patD]
      walk_at "vd"
      rw [if_neg (by decide)]
      exact ⟨by omega, q⟩
    | row ps =>
      simp only [patD]
      simp only [dpP, szP] at hdp hsz
      walk_at "vd"
      rw [if_neg (by decide), if_neg (by decide)]
      refine ⟨by omega, inL _ ?_⟩
      walk_at "vd"
      rw [if_pos (by decide)]
      refine ⟨by omega, rowD ps _ _ (by omega) (by omega) ?_⟩
      walk_at "vd"
      exact q
    | any ps =>
      simp only [patD]
      simp only [dpP, szP] at hdp hsz
      walk_at "vd"
      rw [if_neg (by decide), if_neg (by decide)]
      refine ⟨by omega, inL _ ?_⟩
      walk_at "vd"
      rw [if_pos (by decide)]
      refine ⟨by omega, rowD ps _ _ (by omega) (by omega) ?_⟩
      walk_at "vd"
      exact q
    | wrap k p =>
      simp only [dpP, szP] at hdp hsz
      cases k <;> simp only [patD, Wk.str] <;> walk_at "vd" <;> rw [if_neg (by decide), if_neg (by decide)] <;> refine ⟨by omega, inL _ ?_⟩ <;> walk_at "vd" <;> rw [if_neg (by decide)] <;> exact ⟨p, rfl, by omega, by omega, q⟩
end
open PySem L2 VL
theorem firstsR_snoc (c : Pat) : ∀ ps : List Pat, firstsR (ps ++ [c]) = firstsR ps ++ (if bareAll ps = true then firstsP c else [])
  | [] => by simp [firstsR, bareAll]
  | p :: ps => by
    simp only [List.cons_append, firstsR, firstsR_snoc c ps, bareAll]
    by_cases h1 : bareP p = true <;> by_cases h2 : bareAll ps = true <;> simp [h1, h2]
theorem lastsR_snoc (c : Pat) (s : Str) : ∀ ps : List Pat, s ∈ lastsR (ps ++ [c]) ↔ s ∈ lastsP c ∨ (bareP c = true ∧ s ∈ lastsR ps)
  | [] => by simp [lastsR, bareAll]
  | p :: ps => by
    simp only [List.cons_append, lastsR, List.mem_append, lastsR_snoc c s ps, bareAll_app, bareAll]
    by_cases h1 : bareP c = true <;> by_cases h2 : bareAll ps = true <;> simp [h1, h2]
    · constructor
      · rintro (h | h | h)
        · exact .inr (.inl h)
        · exact .inl h
        · exact .inr (.inr h)
      · rintro (h | h | h)
        · exact .inr (.inl h)
        · exact .inl h
        · exact .inr (.inr h)
def itemD (x : Pat × List Str) : D := .tup [.bl (bareP x.1), .lst ((firstsP x.1).map .str), .lst (x.2.map .str)]
theorem flat_len : ∀ (tr : List (Pat × List Str)), (∀ y ∈ tr, y.2.length ≤ szP y.1) → (tr.map (·.2)).flatten.length ≤ szPs (tr.map (·.1))
  | [], _ => by simp
  | x :: tr, h => by
    have h1 := flat_len tr fun y hy => h y (List.mem_cons_of_mem _ hy)
    have h2 := h x List.mem_cons_self
    simp only [List.map_cons, List.flatten_cons, List.length_append, szPs]; omega
theorem lastsA_mem {s : Str} : ∀ {ps : List Pat}, s ∈ lastsA ps ↔ ∃ c ∈ ps, s ∈ lastsP c
  | [] => by simp [lastsA]
  | p :: ps => by simp only [lastsA, List.mem_append, lastsA_mem (ps := ps)]; simp
section
variable {P : Program} {w : World} {K : PySem.W.Frag} {mg : Str → Option Value} {base : Heap} {f : Addr} {fd : FuncData}
def R_model (n : Nat) : RD := fun δ Q => ∃ (p : Pat) (kds : List (Key × D)) (S : List Str) (M : Str → Str → Bool) (c : Nat), δ = [.fz (patD p), .ob true (.dct kds)] ∧ dpP p < n ∧ szP p ≤ 100 ∧ (∀ s ∈ signsP p, s ∈ S) ∧ TabD S M c kds ∧ kds.length ≤ 1000 ∧ c + 20000 * szP p < sizeLine ∧
  ∀ (es : List Str) (kds' : List (Key × D)), (∀ s, s ∈ es ↔ s ∈ lastsP p) → es.length ≤ szP p → kds'.length ≤ 1000 → TabD S (fun s t => M s t || LkP p s t) (c + (20000 * szP p - 10000)) kds' →
    Q false (.tup [.bl (bareP p), .lst ((firstsP p).map .str), .lst (es.map .str)]) [.no, .ob true (.dct kds')]
theorem ok_model {f1 : Addr} {fd1 : FuncData} (E__law_model : Ent K mg "_law_model" s__law_model ["_law_pattern_here", "_law_table_here"] f fd) (T : Zs K mg) (E__law_lay : Ent K mg "_law_lay" s__law_lay ["_law_table_here", "_law_heads", "_law_tails"] f1 fd1) : ∀ n, FnOk P w K mg base CX0 (n + 2) f fd ["_law_pattern_here", "_law_table_here"] (spD (R_model n)) := by
  have G__law_lay : FnOk P w K mg base CX0 1 f1 fd1 _ (spD R_lay) := ok_lay E__law_lay T
  intro n
  induction n with
  | zero => exact fn_none fun δ Q h => by obtain ⟨_, _, _, _, _, _, h, _⟩ := h; exact Nat.not_lt_zero _ h
  | succ n G__law_model =>
  refine VL.Fun.dok E__law_model.F sc__law_model (fun δ Qd h => ?_) (by decide) (fun cdv A outer s H E δ Qd hr h => ?_)
  · obtain ⟨_, _, _, _, _, rfl, _⟩ := h; rfl
  · obtain ⟨p, kds, S, M, c, rfl, hdp, hsz, sub, tb, kl, hc, q⟩ := h
    have hu := hu100 hr
    refine ⟨_, (dss_cons (ds_if (dt_cmp os_eq op_eq (de_ixV os_ixT ix_tp (pv 0) de_int (fun _ _ => rfl)) de_str (nomark _)) (dss_one (ds_ret (de_tup (dl_cons de_bl (dl_cons (de_lst dl_nil) (dl_cons (de_lst dl_nil) dl_nil)))))) dss_nil)
      (dss_cons (ds_if (dt_cmp os_eq op_eq (de_ixV os_ixT ix_tp (pv 0) de_int (fun _ _ => rfl)) de_str (nomark _)) (dss_one (ds_ret (de_tup (dl_cons de_bl (dl_cons (de_lst (dl_cons (de_ixV os_ixT ix_tp (pv 0) de_int (fun _ _ => rfl)) dl_nil)) (dl_cons (de_lst (dl_cons (de_ixV os_ixT ix_tp (pv 0) de_int (fun _ _ => rfl)) dl_nil)) dl_nil)))))) dss_nil)
      (dss_cons (ds_if (dt_cmp os_eq op_eq (de_ixV os_ixT ix_tp (pv 0) de_int (fun _ _ => rfl)) de_str (nomark _)) (dss_cons (ds_par3 (i := 2) (j := 3) (k := 4) rfl sc__law_model.nd rfl rfl rfl (by decide) (by decide) (by decide) rfl rfl rfl (dl_cons de_bl (dl_cons (de_lst dl_nil) (dl_cons (de_lst dl_nil) dl_nil))))
      (dss_cons (ds_for PassesOwn.never rfl (di_list (de_ixV os_ixT ix_tp (pv 0) de_int (fun _ _ => rfl))) (dg_name (i := 5) sc__law_model.nd rfl (Or.inl rfl)) (dss_cons (ds_asg (de_callIO (i := 1) G__law_model (hr.mono (by omega)) rfl E__law_model.g E__law_model.F.kp E__law_model.b pass0 (da_v (dv 5) (da_o (pv 1) da_nil))) (dg_tup (n := 3) rfl (dgs_cons (dg_name (i := 6) sc__law_model.nd rfl (Or.inl rfl)) (dgs_cons (dg_name (i := 7) sc__law_model.nd rfl (Or.inl rfl)) (dgs_cons (dg_name (i := 8) sc__law_model.nd rfl (Or.inl rfl)) dgs_nil)))))
      (dss_cons (ds_expr (de_callIO (i := 1) G__law_lay (hr.mono (by omega)) rfl E__law_lay.g E__law_lay.F.kp E__law_lay.b pass0 (da_o (pv 1) (da_v (dv 4) (da_v (dv 7) da_nil)))))
      (dss_cons (ds_if (dt_val (dv 2)) (dss_one (ds_set (i := 3) sc__law_model.nd rfl (Or.inl rfl) (de_op os_cat op_cat (dv 3) (dv 7)))) dss_nil)
      (dss_cons (ds_set (i := 4) sc__law_model.nd rfl (Or.inl rfl) (de_op os_cat op_cat (dv 8) (de_op os_rep op_rep (dv 4) (de_callTy cs_int call_int1 rfl T.z_int PyProof.Rows.boot_int (dl_cons (dv 6) dl_nil)))))
      (dss_one (ds_set (i := 2) sc__law_model.nd rfl (Or.inl rfl) (de_and (dv 2) (de_one (dv 6))))))))))
      (dss_one (ds_ret (de_tup (dl_cons (dv 2) (dl_cons (dv 3) (dl_cons (dv 4) dl_nil)))))))) dss_nil)
      (dss_cons (ds_if (dt_cmp os_eq op_eq (de_ixV os_ixT ix_tp (pv 0) de_int (fun _ _ => rfl)) de_str (nomark _)) (dss_cons (ds_comp (j := 9) ["_law_one"] ["_law_pattern_here", "_law_table_here", "_law_free", "_law_begin", "_law_end", "", "_law_empty", "_law_heads", "_law_tails", "_law_found"] sc__law_model.nd rfl rfl rfl (show CScopeG (defScope s__law_model) ["_law_pattern_here", "_law_table_here", "_law_free", "_law_begin", "_law_end", "_law_one", "_law_empty", "_law_heads", "_law_tails", "_law_found"] ["_law_one"] _ _ from ⟨rfl, by decide +kernel, by decide +kernel, by decide +kernel, by decide +kernel⟩) (di_list (de_ixV os_ixT ix_tp (pv 0) de_int (fun _ _ => rfl))) (fun _ _ _ _ _ => (dgn_name (i := 0) (by decide) (show List.Nodup (["_law_one", "_law_pattern_here", "_law_table_here", "_law_free", "_law_begin", "_law_end", "", "_law_empty", "_law_heads", "_law_tails", "_law_found"] : List Str) from by decide +kernel) rfl (Or.inl rfl))) (fun _ _ _ _ _ => df_nil) (fun _ _ _ _ _ => (de_callIO (i := 2) G__law_model (hr.mono (by omega)) rfl E__law_model.g E__law_model.F.kp E__law_model.b pass0 (da_v (dv 0) (da_o (pv 2) da_nil)))))
      (dss_cons (ds_set (i := 3) sc__law_model.nd rfl (Or.inl rfl) (de_lst dl_nil))
      (dss_cons (ds_set (i := 4) sc__law_model.nd rfl (Or.inl rfl) (de_lst dl_nil))
      (dss_cons (ds_for PassesOwn.never rfl (di_list (dv 9)) (dg_name (i := 5) sc__law_model.nd rfl (Or.inl rfl)) (dss_cons (ds_set (i := 3) sc__law_model.nd rfl (Or.inl rfl) (de_op os_cat op_cat (dv 3) (de_ixV os_ixT ix_tp (pv 5) de_int (fun _ _ => rfl))))
      (dss_one (ds_set (i := 4) sc__law_model.nd rfl (Or.inl rfl) (de_op os_cat op_cat (dv 4) (de_ixV os_ixT ix_tp (pv 5) de_int (fun _ _ => rfl)))))))
      (dss_one (ds_ret (de_tup (dl_cons (de_cmp os_inB op_in_lst de_bl (de_comp ["_law_one"] ["_law_pattern_here", "_law_table_here", "_law_free", "_law_begin", "_law_end", "", "_law_empty", "_law_heads", "_law_tails", "_law_found"] rfl (show CScopeG (defScope s__law_model) ["_law_pattern_here", "_law_table_here", "_law_free", "_law_begin", "_law_end", "_law_one", "_law_empty", "_law_heads", "_law_tails", "_law_found"] ["_law_one"] _ _ from ⟨rfl, by decide +kernel, by decide +kernel, by decide +kernel, by decide +kernel⟩) (di_list (dv 9)) (fun _ _ _ _ _ => (dgn_name (i := 0) (by decide) (show List.Nodup (["_law_one", "_law_pattern_here", "_law_table_here", "_law_free", "_law_begin", "_law_end", "", "_law_empty", "_law_heads", "_law_tails", "_law_found"] : List Str) from by decide +kernel) rfl (Or.inl rfl))) (fun _ _ _ _ _ => df_nil) (fun _ _ _ _ _ => (de_ixV os_ixT ix_tp (pv 0) de_int (fun _ _ => rfl)))) rfl) (dl_cons (dv 3) (dl_cons (dv 4) dl_nil)))))))))) dss_nil)
      (dss_cons (ds_asg (de_callIO (i := 1) G__law_model (hr.mono (by omega)) rfl E__law_model.g E__law_model.F.kp E__law_model.b pass0 (da_v (de_ixV os_ixT ix_tp (pv 0) de_int (fun _ _ => rfl)) (da_o (pv 1) da_nil))) (dg_tup (n := 3) rfl (dgs_cons (dg_name (i := 2) sc__law_model.nd rfl (Or.inl rfl)) (dgs_cons (dg_name (i := 3) sc__law_model.nd rfl (Or.inl rfl)) (dgs_cons (dg_name (i := 4) sc__law_model.nd rfl (Or.inl rfl)) dgs_nil)))))
      (dss_cons (ds_if (dt_cmp os_ne op_ne (de_ixV os_ixT ix_tp (pv 0) de_int (fun _ _ => rfl)) de_str (nomark _)) (dss_one (ds_expr (de_callIO (i := 1) G__law_lay (hr.mono (by omega)) rfl E__law_lay.g E__law_lay.F.kp E__law_lay.b pass0 (da_o (pv 1) (da_v (dv 4) (da_v (dv 3) da_nil)))))) dss_nil)
      (dss_one (ds_ret (de_tup (dl_cons (de_or (dv 2) (de_one (de_cmp os_ne op_ne (de_ixV os_ixT ix_tp (pv 0) de_int (fun _ _ => rfl)) de_str (nomark _)))) (dl_cons (dv 3) (dl_cons (dv 4) dl_nil)))))))))))), ?_⟩
    have sz := sizeL24
    cases p with
    | none =>
      simp only [patD]
      walk_at "vd"
      exact ⟨by omega, by omega, by omega, q [] kds (by simp [lastsP]) (by simp) kl (tb.cong (fun _ _ _ => by simp [LkP]) (by omega))⟩
    | one s =>
      simp only [patD]
      walk_at "vd"
      rw [if_neg (by decide)]
      exact ⟨by omega, by omega, by omega, q [s] kds (by simp [lastsP]) (by simp [szP]) kl (tb.cong (fun _ _ _ => by simp [LkP]) (by omega))⟩
    | row ps =>
      simp only [patD]
      simp only [dpP, szP] at hdp hsz hc q
      walk_at "vd"
      rw [if_neg (by decide), if_neg (by decide)]
      refine ⟨by omega, by omega, loopD [5, 6, 7, 8] (fun r δ => ∃ pre suf es kds' M' b3 b4, ps = pre ++ suf ∧ r = patDs suf ∧ (∀ s, s ∈ es ↔ s ∈ lastsR pre) ∧ es.length ≤ szPs pre ∧ kds'.length ≤ 1000 ∧ TabD S M' (c + 20000 * szPs pre) kds' ∧ (∀ s t, (M' s t || LkL suf s t || linkR es suf s t) = (M s t || LkL ps s t || linkR [] ps s t)) ∧
        δ = [.fz (.tup [.str "row", .lst (patDs ps)]), .ob true (.dct kds'), .fz (.bl (bareAll pre)), rsl b3 (.lst ((firstsR pre).map .str)), rsl b4 (.lst (es.map .str)), .no, .no, .no, .no, .no]) ⟨[], ps, [], kds, M, false, false, rfl, rfl, by simp [lastsR], by simp, kl, tb.cong (fun _ _ _ => rfl) (by omega), fun _ _ => rfl, rfl⟩ ?_ ?_⟩
      · rintro d r δ ⟨pre, suf, es, kds', M', b3, b4, e1, e2, he, el, kl', tb', eqn, rfl⟩
        cases suf with
        | nil => cases e2
        | cons c0 suf =>
          cases e2
          have hc0 : c0 ∈ ps := by rw [e1]; simp
          have d1 := dpPs_mem hc0
          have z1 := szPs_mem hc0
          have z2 := congrArg szPs e1
          rw [szPs_app, szPs] at z2
          have fl := firstsP_len c0
          have frl := firstsR_len pre
          have sp := szP_pos c0
          have subl : ∀ s ∈ es, s ∈ S := fun s hs => sub s (by
            have h := lastsR_signs pre ((he s).mp hs)
            simp only [signsP]
            rw [e1, signsPs_app]
            exact List.mem_append_left _ h)
          cases b3 <;> cases b4 <;> walk_at "vd"
          all_goals
            refine ⟨c0, kds', S, M', _, rfl, by omega, by omega, fun s hs => sub s (by simp only [signsP]; exact signs_mem hc0 hs), tb', kl', by omega, fun fs kds2 h1 h2 h3 h4 => ?_⟩
            walk_at "vd"
            refine ⟨kds2, es, firstsP c0, S, _, _, rfl, h4, h3, subl, by omega, by omega, by omega, fun kds3 g1 g2 => ?_⟩
            walk_at "vd"
            have hes : ∀ s, s ∈ fs ++ (if bareP c0 = true then es else []) ↔ s ∈ lastsR (pre ++ [c0]) := fun s => by
              rw [lastsR_snoc, List.mem_append, h1, ← he]
              by_cases hb : bareP c0 = true <;> simp [hb]
            have hsz2 : szPs (pre ++ [c0]) = szPs pre + szP c0 := by rw [szPs_app]; simp [szPs]
            have hel : (fs ++ (if bareP c0 = true then es else [])).length ≤ szPs (pre ++ [c0]) := by
              rw [hsz2, List.length_append]
              by_cases hb : bareP c0 = true <;> simp [hb] <;> omega
            have tb3 := g2.cong (M' := fun s t => (M' s t || LkP c0 s t) || (decide (s ∈ es) && decide (t ∈ firstsP c0))) (c' := c + 20000 * szPs (pre ++ [c0])) (fun _ _ _ => rfl) (by rw [hsz2]; omega)
            have eqn2 : ∀ s t, (((M' s t || LkP c0 s t) || (decide (s ∈ es) && decide (t ∈ firstsP c0))) || LkL suf s t || linkR (fs ++ (if bareP c0 = true then es else [])) suf s t) = (M s t || LkL ps s t || linkR [] ps s t) := fun s t => by
              rw [← eqn s t]
              have lc : linkR (fs ++ (if bareP c0 = true then es else [])) suf s t = linkR (lastsP c0 ++ if bareP c0 = true then es else []) suf s t := linkR_cong (fun s => by rw [List.mem_append, List.mem_append, h1]) suf s t
              simp only [LkL, linkR, lc]
              cases M' s t <;> cases LkP c0 s t <;> cases LkL suf s t <;> simp
            have rep : ∀ {Q : Bool → D → Prop}, Q true (.lst ((if bareP c0 = true then es else []).map .str)) → fRep (.lst (es.map .str)) (.int (if bareP c0 = true then 1 else 0)) Q := fun {Q} h => by
              by_cases hb : bareP c0 = true
              · rw [if_pos hb] at h ⊢
                exact ⟨_, 1, rfl, rfl, by decide, by decide, by simp; omega, by simpa using h⟩
              · rw [if_neg hb] at h ⊢
                exact ⟨_, 0, rfl, rfl, by decide, by decide, by simp, by simpa using h⟩
            have cat : ∀ {Q : Bool → D → Prop}, Q true (.lst ((fs ++ (if bareP c0 = true then es else [])).map .str)) → fCat (.lst (fs.map .str)) (.lst ((if bareP c0 = true then es else []).map .str)) Q := fun {Q} h => ⟨_, _, rfl, rfl, by
              have := hel
              rw [List.length_append] at this
              simp only [List.length_map]
              omega, by rw [← List.map_append]; exact h⟩
            refine ite2 (fun hb => ⟨by simp; omega, rep (cat ?_)⟩) fun hb => rep (cat ?_)
            · rw [if_pos hb]
              refine ⟨pre ++ [c0], suf, _, kds3, _, true, true, by simp [e1], rfl, hes, hel, g1, tb3, eqn2, ?_⟩
              rw [firstsR_snoc, if_pos hb, bareAll_app, hb]
              simp [bareAll, rsl]
            · rw [if_neg hb]
              have hb' : bareAll pre = false := by simpa using hb
              first
                | (refine ⟨pre ++ [c0], suf, _, kds3, _, false, true, by simp [e1], rfl, hes, hel, g1, tb3, eqn2, ?_⟩
                   rw [firstsR_snoc, if_neg hb, bareAll_app, hb']
                   simp [rsl]
                   done)
                | (refine ⟨pre ++ [c0], suf, _, kds3, _, true, true, by simp [e1], rfl, hes, hel, g1, tb3, eqn2, ?_⟩
                   rw [firstsR_snoc, if_neg hb, bareAll_app, hb']
                   simp [rsl])
      · rintro δ ⟨pre, suf, es, kds', M', b3, b4, e1, e2, he, el, kl', tb', eqn, rfl⟩
        cases suf with
        | cons c0 suf => cases e2
        | nil =>
          rw [List.append_nil] at e1
          subst e1
          cases b3 <;> cases b4 <;> walk_at "vd"
          all_goals
            refine ⟨by omega, q es kds' (by simpa [lastsP] using he) (by omega) kl' (tb'.cong (fun s _ t => ?_) (by omega))⟩
            have := eqn s t
            simp only [LkL, linkR, Bool.or_false] at this
            rw [this]
            simp [LkP, Bool.or_assoc]
    | any ps =>
      simp only [patD]
      simp only [dpP, szP] at hdp hsz hc q
      have pl := szPs_len ps
      walk_at "vd"
      rw [if_neg (by decide), if_neg (by decide), if_neg (by decide)]
      refine ⟨fun r acc δ1 => ∃ (tr : List (Pat × List Str)) (suf : List Pat) (kds' : List (Key × D)), ps = tr.map (·.1) ++ suf ∧ r = patDs suf ∧ acc = tr.map itemD ∧ (∀ x ∈ tr, (∀ s, s ∈ x.2 ↔ s ∈ lastsP x.1) ∧ x.2.length ≤ szP x.1) ∧ kds'.length ≤ 1000 ∧ TabD S (fun s t => M s t || LkL (tr.map (·.1)) s t) (c + 20000 * szPs (tr.map (·.1))) kds' ∧
        δ1 = [.fz (.tup [.str "any", .lst (patDs ps)]), .ob true (.dct kds'), .no, .no, .no, .no, .no, .no, .no, .no], ⟨[], ps, kds, rfl, rfl, rfl, fun x h => (by cases h), kl, tb.cong (fun _ _ _ => by simp [LkL]) (by omega), rfl⟩, ?_, ?_⟩
      · rintro d r acc δ1 ⟨tr, suf, kds', e1, e2, e3, hx, kl', tb', rfl⟩
        cases suf with
        | nil => cases e2
        | cons c0 suf =>
          cases e2
          subst e3
          have hc0 : c0 ∈ ps := by rw [e1]; simp
          have d1 := dpPs_mem hc0
          have z2 := congrArg szPs e1
          rw [szPs_app, szPs] at z2
          have sp := szP_pos c0
          have trl : tr.length ≤ szPs (tr.map (·.1)) := by have := szPs_len (tr.map (·.1)); simpa using this
          walk_at "vd"
          unfold dYes
          dsimp only
          rw [if_pos rfl]
          walk_at "vd"
          refine ⟨c0, kds', S, _, _, rfl, by omega, by omega, fun s hs => sub s (by simp only [signsP]; exact signs_mem hc0 hs), tb', kl', by omega, fun fs kds2 h1 h2 h3 h4 => ?_⟩
          walk_at "vd"
          have hsz2 : szPs ((tr ++ [(c0, fs)]).map (·.1)) = szPs (tr.map (·.1)) + szP c0 := by rw [List.map_append, szPs_app]; simp [szPs]
          refine ⟨by simp; omega, tr ++ [(c0, fs)], suf, kds2, by simp [e1], rfl, by simp [itemD], fun x hx2 => ?_, h3, h4.cong (fun s _ t => ?_) (by rw [hsz2]; omega), rfl⟩
          · rcases List.mem_append.mp hx2 with h | h
            · exact hx x h
            · have : x = (c0, fs) := by simpa using h
              rw [this]; exact ⟨h1, h2⟩
          · rw [List.map_append, List.map_cons, List.map_nil, LkL_snoc, Bool.or_assoc]
      · rintro acc δ1 ⟨tr, suf, kds', e1, e2, e3, hx, kl', tb', rfl⟩
        cases suf with
        | cons c0 suf => cases e2
        | nil =>
          rw [List.append_nil] at e1
          subst e3
          have trl : tr.length ≤ szPs ps := by have := szPs_len ps; rw [e1] at this ⊢; simpa using this
          walk_at "vd"
          refine ⟨by omega, by omega, loopD [5] (fun r δ => ∃ pre suf b3 b4, tr = pre ++ suf ∧ r = suf.map itemD ∧ δ = [.fz (.tup [.str "any", .lst (patDs ps)]), .ob true (.dct kds'), .no, rsl b3 (.lst ((firstsA (pre.map (·.1))).map .str)), rsl b4 (.lst ((pre.map (·.2)).flatten.map .str)), .no, .no, .no, .no, .fz (.lst (tr.map itemD))]) ⟨[], tr, true, true, rfl, rfl, rfl⟩ ?_ ?_⟩
          · rintro d r δ ⟨pre, suf, b3, b4, f1, f2, rfl⟩
            cases suf with
            | nil => cases f2
            | cons x suf =>
              cases f2
              have l1 := firstsA_len (pre.map (·.1))
              have l2 := firstsP_len x.1
              have l3 := flat_len pre fun y hy => (hx y (by rw [f1]; exact List.mem_append_left _ hy)).2
              have l4 := (hx x (by rw [f1]; simp)).2
              have z2 : szPs ps = szPs (pre.map (·.1)) + (szP x.1 + szPs (suf.map (·.1))) := by rw [e1, f1, List.map_append, szPs_app]; simp [szPs]
              cases b3 <;> cases b4 <;> simp only [itemD] <;> walk_at "vd"
              all_goals
                refine ⟨by simp; omega, by rw [List.length_map, List.length_map]; omega, pre ++ [x], suf, true, true, by simp [f1], rfl, ?_⟩
                simp [firstsA_app, firstsA, rsl]
          · rintro δ ⟨pre, suf, b3, b4, f1, f2, rfl⟩
            cases suf with
            | cons x suf => cases f2
            | nil =>
              rw [List.append_nil] at f1
              subst f1
              have l3 := flat_len tr fun y hy => (hx y hy).2
              rw [← e1] at l3 tb' ⊢
              have fin := q (tr.map (·.2)).flatten kds' (fun s => ?m) (by omega) kl' (tb'.cong (fun s _ t => by simp [LkP]) (by omega))
              case m =>
                rw [List.mem_flatten]
                simp only [lastsP]
                rw [lastsA_mem, e1]
                constructor
                · rintro ⟨l, hl, hs⟩
                  obtain ⟨x, hx1, rfl⟩ := List.mem_map.mp hl
                  exact ⟨x.1, List.mem_map.mpr ⟨x, hx1, rfl⟩, ((hx x hx1).1 s).mp hs⟩
                · rintro ⟨c1, hc1, hs⟩
                  obtain ⟨x, hx1, rfl⟩ := List.mem_map.mp hc1
                  exact ⟨x.2, List.mem_map.mpr ⟨x, hx1, rfl⟩, ((hx x hx1).1 s).mpr hs⟩
              simp only [bareP, firstsP] at fin
              cases b3 <;> cases b4 <;> walk_at "vd"
              all_goals
                refine compL itemD (fun x => .bl (bareP x.1)) tr (by omega) (fun x hx1 Pq hP => ?_) ?_
                · simp only [itemD]
                  walk_at "vd"
                  exact hP
                · refine ⟨true, tr.map (fun x => bareP x.1), rfl, by simp, ?_⟩
                  have eb : decide (true ∈ tr.map (fun x => bareP x.1)) = bareAny ps := by
                    rw [e1, ← bareAny_map, List.map_map, Bool.eq_iff_iff]
                    simp
                  rw [eb]
                  walk_at "vd"
                  exact ⟨by omega, fin⟩
    | wrap k p =>
      have fl := firstsP_len p
      simp only [dpP, szP] at hdp hsz hc q
      cases k with
      | maybe =>
        simp only [patD, Wk.str]
        walk_at "vd"
        rw [if_neg (by decide), if_neg (by decide), if_neg (by decide), if_neg (by decide)]
        refine ⟨p, kds, S, M, c, rfl, by omega, by omega, fun s hs => sub s (by simpa [signsP] using hs), tb, kl, by omega, fun es kds' h1 h2 h3 h4 => ?_⟩
        walk_at "vd"
        have tb2 : TabD S (fun s t => M s t || LkP (.wrap .maybe p) s t) (c + (20000 * (1 + szP p) - 10000)) kds' := h4.cong (fun s _ t => by simp [LkP]) (by omega)
        refine ite2 (fun _ => ⟨by omega, q es kds' (by simpa [lastsP] using h1) (by omega) h3 tb2⟩) fun _ => ⟨by omega, ?_⟩
        exact q es kds' (by simpa [lastsP] using h1) (by omega) h3 tb2
      | many =>
        simp only [patD, Wk.str]
        walk_at "vd"
        rw [if_neg (by decide), if_neg (by decide), if_neg (by decide), if_neg (by decide)]
        refine ⟨p, kds, S, M, c, rfl, by omega, by omega, fun s hs => sub s (by simpa [signsP] using hs), tb, kl, by omega, fun es kds' h1 h2 h3 h4 => ?_⟩
        walk_at "vd"
        rw [if_pos (by decide)]
        refine ⟨kds', es, firstsP p, S, _, _, rfl, h4, h3, fun s hs => sub s (by simpa [signsP] using lastsP_signs p ((h1 s).mp hs)), by omega, by omega, by omega, fun kds2 g1 g2 => ?_⟩
        walk_at "vd"
        have tb2 : TabD S (fun s t => M s t || LkP (.wrap .many p) s t) (c + (20000 * (1 + szP p) - 10000)) kds2 := g2.cong (fun s _ t => by
          have := h1 s
          simp only [LkP, Bool.or_assoc]
          congr 2
          by_cases z : s ∈ es <;> simp_all) (by have := szP_pos p; omega)
        refine ite2 (fun _ => ⟨by omega, q es kds2 (by simpa [lastsP] using h1) (by omega) g1 tb2⟩) fun _ => ⟨by omega, ?_⟩
        exact q es kds2 (by simpa [lastsP] using h1) (by omega) g1 tb2
      | some =>
        simp only [patD, Wk.str]
        walk_at "vd"
        rw [if_neg (by decide), if_neg (by decide), if_neg (by decide), if_neg (by decide)]
        refine ⟨p, kds, S, M, c, rfl, by omega, by omega, fun s hs => sub s (by simpa [signsP] using hs), tb, kl, by omega, fun es kds' h1 h2 h3 h4 => ?_⟩
        walk_at "vd"
        rw [if_pos (by decide)]
        refine ⟨kds', es, firstsP p, S, _, _, rfl, h4, h3, fun s hs => sub s (by simpa [signsP] using lastsP_signs p ((h1 s).mp hs)), by omega, by omega, by omega, fun kds2 g1 g2 => ?_⟩
        walk_at "vd"
        have tb2 : TabD S (fun s t => M s t || LkP (.wrap .some p) s t) (c + (20000 * (1 + szP p) - 10000)) kds2 := g2.cong (fun s _ t => by
          have := h1 s
          simp only [LkP, Bool.or_assoc]
          congr 2
          by_cases z : s ∈ es <;> simp_all) (by have := szP_pos p; omega)
        refine ite2 (fun hb => ⟨by omega, ?_⟩) fun hb => ⟨by omega, ?_⟩
        · have := q es kds2 (by simpa [lastsP] using h1) (by omega) g1 tb2
          simpa [bareP, hb, firstsP] using this
        · have := q es kds2 (by simpa [lastsP] using h1) (by omega) g1 tb2
          simpa [bareP, hb, firstsP] using this
end
open PySem L2 VL
def LstK (kds : List (Key × D)) : Prop := ∀ kv ∈ kds, ∃ (s : Str) (l : List Str), kv.1 = .inr s ∧ getS kds s = some (.lst (l.map .str)) ∧ l.length ≤ 1000
theorem RepK.keys {F : Hp} : ∀ {kds : List (Key × D)} {kvs : List (Key × V)}, RepK F kds kvs → kvs.map (·.1) = kds.map (·.1)
  | [], kvs, h => by cases (show kvs = [] from h); rfl
  | (k, d) :: kds, kvs, h => by
    obtain ⟨kv, r, rfl, ⟨e, _⟩, h2⟩ := h
    simp only [List.map_cons]
    rw [RepK.keys h2, e]
theorem rep_strs {F : Hp} {l : List Str} {v : V} : Rep F (.lst (l.map .str)) v ↔ ∃ a, v = .ref a ∧ F a = some (.lst (l.map .str)) := by
  constructor
  · rintro ⟨a, vs, rfl, h, r⟩
    rw [r.strs] at h
    exact ⟨a, rfl, h⟩
  · rintro ⟨a, rfl, h⟩
    exact ⟨a, _, rfl, h, reps_strs l⟩
theorem compItd {b D : Addr} {ob : Obj} {kvs : List (Key × V)} {σ : L2.St} {H1 : Hp} {tc : TT} {te : TE} {Q : VK} (Pv : Nat → List V → Hp → Prop) (h0 : Pv 0 [] (upd H1 D (.lst []))) (hd : ∀ i ys H, Pv i ys H → H D = some (.lst ys) ∧ H b = some (.frz ob (.dK kvs)))
    (hs : ∀ i kv ys H, kvs[i]? = some kv → Pv i ys H → tc (some (kV kv.1) :: σ) H fun c H4 => if c = true then te (some (kV kv.1) :: σ) H4 fun y H5 => H5 D = some (.lst ys) ∧ ys.length < sizeLine ∧ Pv (i + 1) (ys ++ [y]) (upd H5 D (.lst (ys ++ [y]))) else Pv (i + 1) ys H4)
    (hq : ∀ ys H, Pv kvs.length ys H → Q (.ref D) H) :
    ∃ W : Nat → Nat → List V → Hp → Prop, (∃ m, W 0 m [] (upd H1 D (.lst []))) ∧ ∀ i m ys H2, W i m ys H2 →
  H2 D = some (.lst ys) ∧ (((Itd b ob kvs).stop i H2 ∧ Q (.ref D) H2) ∨ ((Itd b ob kvs).go i H2 ∧ ∃ N : List V → Hp → Prop, (∀ ys' H', N ys' H' → ∃ m', m' < m ∧ W (i + 1) m' ys' H') ∧ ∀ v H3, (Itd b ob kvs).yld i H2 v H3 → ∀ τ : L2.St, τ.length = 1 → gName 0 v (τ ++ σ) H3 fun σ4 H4 => (∃ τ' : L2.St, τ'.length = 1 ∧ σ4 = τ' ++ σ) ∧ tc σ4 H4 fun b H5 => if b = true then te σ4 H5 fun y H6 => H6 D = some (.lst ys) ∧ ys.length < sizeLine ∧ N (ys ++ [y]) (upd H6 D (.lst (ys ++ [y])))
      else N ys H5)) := by
  refine ⟨fun i m ys H => m = kvs.length - i ∧ i ≤ kvs.length ∧ Pv i ys H, ⟨_, rfl, Nat.zero_le _, h0⟩, ?_⟩
  rintro i m ys H2 ⟨rfl, hi, p⟩
  obtain ⟨k1, k2⟩ := hd i ys H2 p
  refine ⟨k1, ?_⟩
  by_cases hlt : i < kvs.length
  · refine .inr ⟨⟨k2, hlt⟩, fun ys' H' => Pv (i + 1) ys' H', fun ys' H' h => ⟨_, by omega, rfl, by omega, h⟩, ?_⟩
    rintro v H3 ⟨rfl, kv, e1, rfl⟩ τ hτ
    match τ, hτ with
    | [t0], _ => exact ⟨⟨[_], rfl, rfl⟩, hs i kv ys _ e1 p⟩
  · have e : i = kvs.length := by omega
    subst e
    exact .inl ⟨⟨k2, rfl⟩, hq ys H2 p⟩
theorem compRd {j : Nat} {b : Addr} {kvs : List (Key × V)} {σ : L2.St} {H : Hp} {tc : TT} {te : TE} {Q : VK} (hv : σ[j]? = some (some (.ref b))) (hb : Rd H b (.dK kvs))
    (run : ∀ (ob : Obj) (H3 : Hp), H3 b = some (.frz ob (.dK kvs)) → (∀ c o, c ≠ b → H c = some o → H3 c = some o) → ∀ D, H3 D = none → ∃ Pv : Nat → List V → Hp → Prop, Pv 0 [] (upd H3 D (.lst [])) ∧ (∀ i ys H, Pv i ys H → H D = some (.lst ys) ∧ H b = some (.frz ob (.dK kvs))) ∧
      (∀ i kv ys H, kvs[i]? = some kv → Pv i ys H → tc (some (kV kv.1) :: σ) H fun c H4 => if c = true then te (some (kV kv.1) :: σ) H4 fun y H5 => H5 D = some (.lst ys) ∧ ys.length < sizeLine ∧ Pv (i + 1) (ys ++ [y]) (upd H5 D (.lst (ys ++ [y]))) else Pv (i + 1) ys H4) ∧ ∀ ys H, Pv kvs.length ys H → Q (.ref D) H) :
    tCompG 1 (iDictR (tVar j)) (gName 0) tc te σ H Q := by
  rcases hb with hb | ⟨o, hb⟩
  · refine ⟨.ref b, hv, b, rfl, kvs, .inl ⟨hb, fun ob D hD => ?_⟩⟩
    obtain ⟨Pv, h0, h1, h2, h3⟩ := run ob _ upd_same (fun c o cb e => by rw [upd_ne cb]; exact e) D hD
    exact compItd (tc := tc) (te := te) (Q := Q) (σ := σ) Pv h0 h1 h2 h3
  · refine ⟨.ref b, hv, b, rfl, kvs, .inr ⟨o, hb, fun D hD => ?_⟩⟩
    obtain ⟨Pv, h0, h1, h2, h3⟩ := run o _ hb (fun c o cb e => e) D hD
    exact compItd (tc := tc) (te := te) (Q := Q) (σ := σ) Pv h0 h1 h2 h3
section
variable {P : Program} {w : World} {K : PySem.W.Frag} {mg : Str → Option Value} {base : Heap} {f : Addr} {fd : FuncData}
def sp_ltable : Sp := fun vs H Q _ => ∃ (a b : Addr) (kvs kvs' : List (Key × V)) (kds : List (Key × D)) (F : Hp), vs = [.ref a, .ref b] ∧ a ≠ b ∧ H a = some (.dK kvs) ∧ Rd H b (.dK kvs') ∧ RepK F kds kvs ∧ RepK F kds kvs' ∧ Same F H ∧ F b = none ∧ LstK kds ∧ kds.length ≤ 1000 ∧
  ∀ H', (∀ c o, c ≠ b → H c = some o → H' c = some o) → (∃ ob, H' b = some (.frz ob (.dK kvs'))) → Q (.bl true) H'
theorem ok_ltable {f1 : Addr} {fd1 : FuncData} (E__law_table : Ent K mg "_law_table" s__law_table ["_law_found", "_law_due"] f fd) (T : Zs K mg) (ktd : PySem.W.kitOne K (.type "dict") (.type "dict") = some true) (E__law_texts : Ent K mg "_law_texts" s__law_texts ["_law_found", "_law_due"] f1 fd1) : FnOk P w K mg base CX0 2 f fd ["_law_found", "_law_due"] sp_ltable := by
  have G__law_texts : FnOk P w K mg base CX0 1 f1 fd1 _ (spD R_texts) := ok_texts E__law_texts T
  refine E__law_table.F.ok sc__law_table (fun vs H Q E h => ?_) (fun cdv A outer s H vs Q E hr h => ?_)
  · obtain ⟨_, _, _, _, _, _, rfl, _⟩ := h; rfl
  · obtain ⟨a, b, kvs, kvs', kds, F, rfl, nab, ha, hb, rk, rk', sF, nb, lk, kl, q⟩ := h
    have hu := hu100 hr
    refine ⟨_, (pss_cons (ps_if (PW.pt (pw_or (pt_not (pt_val (pe_callB (call_isinst (K := K) rfl) rfl T.z_isinstance PyProof.Rows.boot_isinstance (pa_cons (pv 0) (pa_cons (pe_bltn (v := .ty "dict") rfl T.z_dict PyProof.Rows.boot_dict rfl) pa_nil))))) (pw_or1 (pt_cmpR op_ne_tree (pe_listKeys rfl rfl T.z_list (pv 0)) (pe_listKeys rfl rfl T.z_list (pv 1)) (nomark _))))) (pss_one (ps_ret pe_bl)) pss_nil)
      (pss_one (ps_ret (pe_cmpR op_eq_tree (pe_compG ["_law_sign"] ["_law_found", "_law_due"] rfl (fun _ _ _ _ _ => (pg_name (i := 0) (show List.Nodup (["_law_sign", "_law_found", "_law_due"] : List Str) from by decide +kernel) rfl (Or.inl rfl))) (show CScopeG (defScope s__law_table) ["_law_found", "_law_due"] ["_law_sign"] _ _ from ⟨rfl, by decide +kernel, by decide +kernel, by decide +kernel, by decide +kernel⟩) (pi_dictR (pv 1)) (fun _ _ _ _ _ => (pf_one (pt_not (pt_val (pe_call G__law_texts (hr.mono (by omega)) rfl E__law_texts.g E__law_texts.F.kp E__law_texts.b .nil pass0 (pa_cons (pe_dget (hu1 hu) (pv 1) (pv 0) (fun _ _ => rfl)) (pa_cons (pe_dget (hu1 hu) (pv 2) (pv 0) (fun _ _ => rfl)) pa_nil))))))) (fun _ _ _ _ _ => (pv 0))) (pe_lst pa_nil) (nomark _))))), ?_⟩
    have sz := sizeL24
    have ke : kvs'.map (·.1) = kvs.map (·.1) := by rw [RepK.keys rk', RepK.keys rk]
    have l1 := rk.len
    have l2 := rk'.len
    walk_at "rs"
    unfold tIfS
    walk_at "rd"
    refine ⟨_, .dK ha, true, ktd, ?_⟩
    rw [if_neg (by simp)]
    refine ⟨.ref a, rfl, a, rfl, kvs, .inl ha, by omega, fun c1 hc1 => ?_⟩
    have s1 : Same H (upd H c1 (.lst (kvs.map fun kv => kV kv.1))) := Same.of_new hc1
    have rd1 : ∀ {H' : Hp}, Same H H' → Rd H' b (.dK kvs') := fun s => by
      rcases hb with hb | ⟨o, hb⟩
      · exact .inl (s _ _ hb)
      · exact .inr ⟨o, s _ _ hb⟩
    refine ⟨.ref b, rfl, b, rfl, kvs', rd1 s1, by omega, fun c2 hc2 => ?_⟩
    have n12 : c1 ≠ c2 := fun z => by rw [← z, upd_same] at hc2; cases hc2
    have s2 := s1.trans (Same.of_new (o := .lst (kvs'.map fun kv => kV kv.1)) hc2)
    have ek : (kvs'.map fun kv => kV kv.1) = kvs.map fun kv => kV kv.1 := by
      have := congrArg (List.map kV) ke
      simpa [List.map_map, Function.comp_def] using this
    refine ⟨c1, rfl, c2, rfl, _, by rw [upd_ne n12]; exact upd_same, _, upd_same, by omega, .inr ⟨by rw [ek], ⟨1, fun i x y e1 e2 => ?_, by omega⟩, ?_⟩⟩
    · rw [ek, e1] at e2
      cases e2
      rw [List.getElem?_map] at e1
      obtain ⟨kv, h1, rfl⟩ := Option.map_eq_some_iff.mp e1
      have hm : kv.1 ∈ kds.map (·.1) := by rw [← RepK.keys rk]; exact List.mem_map.mpr ⟨kv, List.mem_of_getElem? h1, rfl⟩
      obtain ⟨kd, h2, h3⟩ := List.mem_map.mp hm
      obtain ⟨s0, _, h4, _⟩ := lk kd h2
      rw [← h3, h4]
      exact .str s0
    · have fb : ∀ {c : Addr} {o : HO}, H c = some o → c ≠ c1 ∧ c ≠ c2 := fun e => ⟨ne_of_none e hc1, fun z => by rw [z] at e; have := s1 _ _ e; rw [hc2] at this; cases this⟩
      have fin : ∀ (ob : Obj) (H3 : Hp) (D : Addr), H3 b = some (.frz ob (.dK kvs')) → (∀ c o, c ≠ b → H c = some o → H3 c = some o) → H3 D = none → ∀ (i : Nat) (kv : Key × V) (ys : List V) (H4 : Hp), kvs'[i]? = some kv → (ys = [] ∧ H4 D = some (.lst []) ∧ H4 b = some (.frz ob (.dK kvs')) ∧ ∀ c o, c ≠ b → c ≠ D → H3 c = some o → H4 c = some o) →
          ∃ (u1 u2 : V) (l : List Str), DGet H4 a (kV kv.1) (some u1) ∧ DGet H4 b (kV kv.1) (some u2) ∧ Rep H4 (.lst (l.map .str)) u1 ∧ Rep H4 (.lst (l.map .str)) u2 ∧ l.length ≤ 1000 := by
        intro ob H3 D h3b h3 h3D i kv ys H4 e1 ⟨_, k1, k2, k3⟩
        have hm : kv.1 ∈ kds.map (·.1) := by rw [← RepK.keys rk']; exact List.mem_map.mpr ⟨kv, List.mem_of_getElem? e1, rfl⟩
        obtain ⟨kd, h2, h3'⟩ := List.mem_map.mp hm
        obtain ⟨s0, l, h4, h5, h6⟩ := lk kd h2
        obtain ⟨v1, w1, r1⟩ := (rk.val s0).1 _ h5
        obtain ⟨v2, w2, r2⟩ := (rk'.val s0).1 _ h5
        have ekv : kV kv.1 = .str s0 := by rw [← h3', h4]; rfl
        have sF4 : Same F H4 := fun c o e => by
          have e0 := sF _ _ e
          have cb : c ≠ b := fun z => by rw [z, nb] at e; cases e
          exact k3 c o cb (ne_of_none (h3 c o cb e0) h3D) (h3 c o cb e0)
        have ha4 : H4 a = some (.dK kvs) := k3 a _ nab (ne_of_none (h3 a _ nab ha) h3D) (h3 a _ nab ha)
        rw [ekv]
        exact ⟨v1, v2, l, .inl ⟨kvs, .inr s0, .inl ha4, rfl, w1.symm⟩, .inl ⟨kvs', .inr s0, .inr ⟨ob, k2⟩, rfl, w2.symm⟩, Rep.mono sF4 _ _ r1, Rep.mono sF4 _ _ r2, h6⟩
      have run : ∀ (ob : Obj) (H3 : Hp) (D : Addr), H3 b = some (.frz ob (.dK kvs')) → (∀ c o, c ≠ b → H c = some o → H3 c = some o) → H3 D = none → ∀ H4, H4 D = some (.lst []) → H4 b = some (.frz ob (.dK kvs')) → (∀ c o, c ≠ b → c ≠ D → H3 c = some o → H4 c = some o) → ∀ p, H4 p = none → Q (.bl true) (upd H4 p (.lst [])) := by
        intro ob H3 D h3b h3 h3D H4 k1 k2 k3 p hp
        refine q _ (fun c o cb e => ?_) ⟨ob, ?_⟩
        · have e4 := k3 c o cb (ne_of_none (h3 c o cb e) h3D) (h3 c o cb e)
          rw [upd_ne (ne_of_none e4 hp)]; exact e4
        · rw [upd_ne (ne_of_none k2 hp)]; exact k2
      refine compRd rfl (rd1 s2) fun ob H3 h3b h3' D hD => ?_
      have h3 : ∀ c o, c ≠ b → H c = some o → H3 c = some o := fun c o cb e => h3' c o cb (s2 _ _ e)
      refine ⟨fun i ys H4 => ys = [] ∧ H4 D = some (.lst []) ∧ H4 b = some (.frz ob (.dK kvs')) ∧ ∀ c o, c ≠ b → c ≠ D → H3 c = some o → H4 c = some o, ⟨rfl, upd_same, by rw [upd_ne (ne_of_none h3b hD)]; exact h3b, fun c o _ cD e => by rw [upd_ne cD]; exact e⟩, fun i ys H4 h => ⟨by rw [h.1]; exact h.2.1, h.2.2.1⟩, fun i kv ys H4 e1 hp => ?_, fun ys H4 h => ?_⟩
      · obtain ⟨u1, u2, l, g1, g2, r1, r2, hl⟩ := fin ob H3 D h3b h3 hD i kv ys H4 e1 hp
        walk_at "rd"
        obtain ⟨k0, k1, k2, k3⟩ := hp
        refine ⟨u1, g1, u2, g2, spD_plain (ds := [.lst (l.map .str), .lst (l.map .str)]) (Qd := fun b d _ => d = .bl true) ⟨_, _, rfl, r1, _, _, rfl, r2, rfl⟩ ⟨l, rfl, hl, rfl⟩ fun b1 d1 δ1 v1 H5 s5 ed1 rd1 => ?_⟩
        subst ed1
        refine ⟨true, rd1, ?_⟩
        rw [if_neg (by simp)]
        exact ⟨k0, s5 _ _ k1, s5 _ _ k2, fun c o cb cD e => s5 _ _ (k3 c o cb cD e)⟩
      · obtain ⟨rfl, k1, k2, k3⟩ := h
        refine ⟨by omega, fun p hp => ⟨0, D, rfl, [], by rw [upd_ne (ne_of_none k1 hp)]; exact k1, rfl, fun i x y e => by simp at e, by omega, run ob H3 D h3b h3 hD H4 k1 k2 k3 p hp⟩⟩
end
open PySem L2 VL
theorem compIn {K : PySem.W.Frag} {j m : Nat} {a c : Addr} {order bs : List Str} {σ : L2.St} {H : Hp} {Q : VK} (hj : σ[j]? = some (some (.ref a))) (hm : σ[m]? = some (some (.ref c))) (ha : H a = some (.lst (order.map .str))) (hc : H c = some (.lst (bs.map .str))) (hl : order.length ≤ sizeLine)
    (q : ∀ D H', H D = none → Same H H' → H' D = some (.lst ((order.filter fun s => decide (s ∈ bs)).map .str)) → Q (.ref D) H') :
    tCompG 1 (iList K (tVar j)) (gName 0) (tTest (tOp (fun x y H Q => ∃ p, y = .ref p ∧ ∃ xs, H p = some (.lst xs) ∧ flatV x = true ∧ xs.all flatV = true ∧ Q (.bl (inV x xs)) H) (tVar 0) (tVar (m + 1)))) (tVar 0) σ H Q := by
  refine ⟨.ref a, hj, a, rfl, ⟨_, SqL.of ha⟩, fun D hD => ?_⟩
  refine ⟨fun i n ys H2 => n = order.length - i ∧ i ≤ order.length ∧ ys = ((order.take i).filter fun s => decide (s ∈ bs)).map V.str ∧ H2 D = some (.lst ys) ∧ ∀ x o, x ≠ D → H x = some o → H2 x = some o, ⟨_, rfl, Nat.zero_le _, rfl, upd_same, fun x o n e => by rw [upd_ne n]; exact e⟩, ?_⟩
  rintro i n ys H2 ⟨rfl, hi, rfl, k1, k2⟩
  have ha2 : H2 a = some (.lst (order.map .str)) := k2 a _ (ne_of_none ha hD) ha
  have hc2 : H2 c = some (.lst (bs.map .str)) := k2 c _ (ne_of_none hc hD) hc
  refine ⟨k1, ?_⟩
  by_cases hlt : i < order.length
  · have e1 : (order.map V.str)[i]? = some (.str order[i]) := by rw [List.getElem?_map, List.getElem?_eq_getElem hlt]; rfl
    have et : order.take (i + 1) = order.take i ++ [order[i]] := by rw [List.take_add_one, List.getElem?_eq_getElem hlt]; rfl
    refine .inr ⟨⟨_, _, SqL.of ha2, e1⟩, fun ys' H' => ys' = ((order.take (i + 1)).filter fun s => decide (s ∈ bs)).map V.str ∧ H' D = some (.lst ys') ∧ ∀ x o, x ≠ D → H x = some o → H' x = some o, fun ys' H' ⟨h1, h2, h3⟩ => ⟨_, by omega, rfl, by omega, h1, h2, h3⟩, ?_⟩
    rintro v H3 ⟨rfl, hv⟩ τ hτ
    have ev := hv _ (SqL.of ha2)
    rw [e1] at ev
    cases ev
    match τ, hτ with
    | [t0], _ =>
      refine ⟨⟨[_], rfl, rfl⟩, .str order[i], rfl, .ref c, hm, c, rfl, _, hc2, rfl, flat_strs bs, _, rfl, ?_⟩
      rw [inV_strs]
      by_cases hb : order[i] ∈ bs
      · show (if _ then _ else _)
        rw [if_pos (by simpa using hb)]
        have ex : ((order.take i).filter fun s => decide (s ∈ bs)).map V.str ++ [V.str order[i]] = ((order.take (i + 1)).filter fun s => decide (s ∈ bs)).map V.str := by
          rw [et, List.filter_append, List.map_append]; simp [hb]
        refine ⟨.str order[i], rfl, k1, ?_, ex, upd_same, fun x o n e => by rw [upd_ne n]; exact k2 x o n e⟩
        have := List.length_filter_le (fun s => decide (s ∈ bs)) (order.take i)
        rw [List.length_map]
        rw [List.length_take] at this
        omega
      · show (if _ then _ else _)
        rw [if_neg (by simpa using hb)]
        have ex : ((order.take i).filter fun s => decide (s ∈ bs)).map V.str = ((order.take (i + 1)).filter fun s => decide (s ∈ bs)).map V.str := by
          rw [et, List.filter_append, List.map_append]; simp [hb]
        exact ⟨ex, k1, k2⟩
  · have e : i = order.length := by omega
    subst e
    rw [List.take_length] at k1
    exact .inl ⟨⟨_, SqL.of ha2, by simp⟩, q D H2 hD (fun x o e => k2 x o (ne_of_none e hD) e) k1⟩
def refH (H : Hp) : Hp := fun b => match H b with | some (.tup xs) => some (.tup xs) | some (.lst (.ref r :: xs)) => some (.lst (.ref r :: xs)) | _ => none
theorem refH_sub {H : Hp} : Same (refH H) H := fun b o e => by
  unfold refH at e
  split at e
  · rename_i h; rw [h]; exact e
  · rename_i h; rw [h]; exact e
  · cases e
theorem refH_t {H : Hp} {b : Addr} {xs : List V} (e : H b = some (.tup xs)) : refH H b = some (.tup xs) := by unfold refH; rw [e]
theorem refH_l {H : Hp} {b r : Addr} {xs : List V} (e : H b = some (.lst (.ref r :: xs))) : refH H b = some (.lst (.ref r :: xs)) := by unfold refH; rw [e]
theorem refH_no {H : Hp} {b : Addr} {l : List Str} : refH H b ≠ some (.lst (l.map .str)) := fun e => by
  unfold refH at e
  split at e
  · cases e
  · cases l with
    | nil => cases e
    | cons a r => cases e
  · cases e
mutual
def neP : Pat → Bool
  | .none => true
  | .one _ => true
  | .row ps => !ps.isEmpty && nePs ps
  | .any ps => !ps.isEmpty && nePs ps
  | .wrap _ p => neP p
def nePs : List Pat → Bool
  | [] => true
  | p :: ps => neP p && nePs ps
end
theorem pat_ref {H : Hp} {p : Pat} {v : V} (h : Rep H (patD p) v) : ∃ r, v = .ref r := by
  cases p <;> (obtain ⟨a, _, e, _⟩ := h; exact ⟨a, e⟩)
mutual
theorem rep_ref {H : Hp} : ∀ (p : Pat) (v : V), neP p = true → Rep H (patD p) v → Rep (refH H) (patD p) v
  | .none, v, _, h => by
    obtain ⟨a, vs, e, h1, h2⟩ := h
    exact ⟨a, vs, e, refH_t h1, h2⟩
  | .one s, v, _, h => by
    obtain ⟨a, vs, e, h1, h2⟩ := h
    exact ⟨a, vs, e, refH_t h1, h2⟩
  | .row ps, v, n, h => by
    obtain ⟨a, vs, e, h1, u, r, e2, h2, u', r', e3, ⟨l, us, e4, h4, h5⟩, h6⟩ := h
    simp only [neP, Bool.and_eq_true] at n
    have h5' := reps_ref ps us n.2 h5
    refine ⟨a, vs, e, refH_t h1, u, r, e2, h2, u', r', e3, ⟨l, us, e4, ?_, h5'⟩, h6⟩
    cases ps with
    | nil => simp at n
    | cons p ps =>
      obtain ⟨v, r, rfl, hv, _⟩ := h5
      obtain ⟨q, rfl⟩ := pat_ref hv
      exact refH_l h4
  | .any ps, v, n, h => by
    obtain ⟨a, vs, e, h1, u, r, e2, h2, u', r', e3, ⟨l, us, e4, h4, h5⟩, h6⟩ := h
    simp only [neP, Bool.and_eq_true] at n
    have h5' := reps_ref ps us n.2 h5
    refine ⟨a, vs, e, refH_t h1, u, r, e2, h2, u', r', e3, ⟨l, us, e4, ?_, h5'⟩, h6⟩
    cases ps with
    | nil => simp at n
    | cons p ps =>
      obtain ⟨v, r, rfl, hv, _⟩ := h5
      obtain ⟨q, rfl⟩ := pat_ref hv
      exact refH_l h4
  | .wrap k p, v, n, h => by
    obtain ⟨a, vs, e, h1, u, r, e2, h2, u', r', e3, h3, h6⟩ := h
    simp only [neP] at n
    exact ⟨a, vs, e, refH_t h1, u, r, e2, h2, u', r', e3, rep_ref p u' n h3, h6⟩
theorem reps_ref {H : Hp} : ∀ (ps : List Pat) (vs : List V), nePs ps = true → Reps H (patDs ps) vs → Reps (refH H) (patDs ps) vs
  | [], vs, _, h => h
  | p :: ps, vs, n, h => by
    obtain ⟨v, r, e, h1, h2⟩ := h
    simp only [nePs, Bool.and_eq_true] at n
    exact ⟨v, r, e, rep_ref p v n.1 h1, reps_ref ps r n.2 h2⟩
end
theorem spD_own {R : RD} {vs : List V} {ds : List D} {F H : Hp} {Q : VK} {E : XK} {Qd : Bool → D → List VL.Slot → Prop} (sF : Same F H) (r : Reps F ds vs) (h : R (ds.map .fz) Qd)
    (k : ∀ b d δ' v F' H', Same H H' → Same F F' → Same F' H' → (∀ c o, F' c = some o → F c = none → H c = none) → Qd b d δ' → SOk H F' H' none (some v) (rsl b d) → Q v H') : spD R vs H Q E := by
  refine ⟨none, [], F, _, Qd, fun p a e => by simp at e, argsEI sF r, h, fun b d v δ' F' H' I q => ?_⟩
  exact k b d δ' v F' H' I.base I.ext I.sub I.new q (I.get 0 _ rfl)
theorem filt_sub : ∀ {l s : List Str}, s.Sublist l → l.Nodup → (l.filter fun x => decide (x ∈ s)) = s
  | [], s, h, _ => by cases h; rfl
  | a :: l, s, h, nd => by
    obtain ⟨na, nl⟩ := List.nodup_cons.mp nd
    cases h with
    | cons _ h =>
      have : a ∉ s := fun z => na (h.subset z)
      simp only [List.filter_cons, this, decide_false, Bool.false_eq_true, if_false]
      exact filt_sub h nl
    | cons_cons _ h =>
      rename_i s
      simp only [List.filter_cons, List.mem_cons_self, decide_true, if_true]
      congr 1
      have e : (l.filter fun x => decide (x ∈ a :: s)) = l.filter fun x => decide (x ∈ s) := List.filter_congr fun x hx => by
        have : x ≠ a := fun z => na (z ▸ hx)
        simp [this]
      rw [e]
      exact filt_sub h nl
mutual
theorem firstsP_sub : ∀ p : Pat, (firstsP p).Sublist (signsP p)
  | .none => by simp [firstsP, signsP]
  | .one _ => by simp [firstsP, signsP]
  | .row ps => by simp only [firstsP, signsP]; exact firstsR_sub ps
  | .any ps => by simp only [firstsP, signsP]; exact firstsA_sub ps
  | .wrap _ p => by simp only [firstsP, signsP]; exact firstsP_sub p
theorem firstsR_sub : ∀ ps : List Pat, (firstsR ps).Sublist (signsPs ps)
  | [] => by simp [firstsR, signsPs]
  | p :: ps => by
    simp only [firstsR, signsPs]
    by_cases h : bareP p = true
    · rw [if_pos h]; exact (firstsP_sub p).append (firstsR_sub ps)
    · rw [if_neg h]; exact (firstsP_sub p).append (List.nil_sublist _)
theorem firstsA_sub : ∀ ps : List Pat, (firstsA ps).Sublist (signsPs ps)
  | [] => by simp [firstsA, signsPs]
  | p :: ps => by simp only [firstsA, signsPs]; exact (firstsP_sub p).append (firstsA_sub ps)
end
mutual
theorem lastsP_sub : ∀ p : Pat, (lastsP p).Sublist (signsP p)
  | .none => by simp [lastsP, signsP]
  | .one _ => by simp [lastsP, signsP]
  | .row ps => by simp only [lastsP, signsP]; exact lastsR_sub ps
  | .any ps => by simp only [lastsP, signsP]; exact lastsA_sub ps
  | .wrap _ p => by simp only [lastsP, signsP]; exact lastsP_sub p
theorem lastsR_sub : ∀ ps : List Pat, (lastsR ps).Sublist (signsPs ps)
  | [] => by simp [lastsR, signsPs]
  | p :: ps => by
    simp only [lastsR, signsPs]
    by_cases h : bareAll ps = true
    · rw [if_pos h]; exact (lastsP_sub p).append (lastsR_sub ps)
    · rw [if_neg h]; exact (List.nil_sublist _).append (lastsR_sub ps)
theorem lastsA_sub : ∀ ps : List Pat, (lastsA ps).Sublist (signsPs ps)
  | [] => by simp [lastsA, signsPs]
  | p :: ps => by simp only [lastsA, signsPs]; exact (lastsP_sub p).append (lastsA_sub ps)
end
theorem nePs_app : ∀ ps qs : List Pat, nePs (ps ++ qs) = (nePs ps && nePs qs)
  | [], qs => by simp [nePs]
  | p :: ps, qs => by simp only [List.cons_append, nePs, nePs_app ps qs, Bool.and_assoc]
theorem joinP_ne {k : Int} {ps : List Pat} (h : nePs ps = true) (hne : ps ≠ []) : neP (joinP k ps) = true := by
  match ps, hne with
  | [p], _ => simpa [joinP, nePs] using h
  | a :: b :: r, _ =>
    simp only [joinP]
    split
    · simpa [neP] using h
    · simpa [neP] using h
theorem stepP_ne (s : List Pat × List Str) (n : Int) (h : nePs s.1 = true) : nePs (stepP s n).1 = true := by
  unfold stepP
  split
  · rename_i h1
    have eo := congrArg nePs (lastP_spec h1.1)
    rw [nePs_app, h] at eo
    simp only [nePs, Bool.and_true] at eo
    have eo := eo.symm
    simp only [Bool.and_eq_true] at eo
    simp only [nePs_app, nePs, neP, eo.1, eo.2]
    rfl
  · split
    · rename_i h1
      have e := List.take_append_drop (s.1.length - (2 + n / 9 % 2).toNat) s.1
      have hne : s.1.drop (s.1.length - (2 + n / 9 % 2).toNat) ≠ [] := by
        intro z
        have := congrArg List.length z
        simp only [List.length_drop, List.length_nil] at this
        have b1 := mod_nn (a := n / 9) (b := 2) (by decide)
        omega
      have eo := congrArg nePs e
      rw [nePs_app, h] at eo
      simp only [Bool.and_eq_true] at eo
      have j1 := joinP_ne (k := n % 9) eo.2 hne
      simp only [nePs_app, nePs, j1, eo.1]
      rfl
    · split
      · simp only [nePs_app, nePs, neP, h]
        rfl
      · split
        · simp only [nePs_app, nePs, neP, h]
          rfl
        · exact h
theorem pileF_ne (pool : List Str) : ∀ (k : Nat) (ns : List Int), ns.length = k → nePs (pileF ns pool).1 = true := by
  intro k
  induction k with
  | zero =>
    intro ns h
    have e : ns = [] := List.length_eq_zero_iff.mp h
    subst e
    rfl
  | succ k ih =>
    intro ns h
    rcases List.eq_nil_or_concat ns with rfl | ⟨ms, n, rfl⟩
    · cases h
    · rw [List.concat_eq_append] at h ⊢
      rw [pileF_snoc]
      exact stepP_ne (pileF ms pool) n (ih ms (by simpa using h))
theorem patF_ne (ns : List Int) (pool : List Str) : neP (patF ns pool) = true := by
  have h1 := pileF_ne pool ns.length ns rfl
  unfold patF
  split
  · rfl
  · rename_i hne
    exact joinP_ne h1 hne
theorem putS_keys {kds : List (Key × D)} {k : Str} {d : D} {kv : Key × D} (h : kv ∈ putS kds k d) : (∃ kv' ∈ kds, kv'.1 = kv.1) ∨ kv.1 = .inr k := by
  unfold putS at h
  split at h
  · obtain ⟨kv', h1, rfl⟩ := List.mem_map.mp h
    refine .inl ⟨kv', h1, ?_⟩
    split
    · rfl
    · rfl
  · rcases List.mem_append.mp h with h | h
    · exact .inl ⟨kv, h, rfl⟩
    · exact .inr (by simp at h; rw [h])
theorem foldput_keys (g : Str → D) : ∀ (l : List Str) (acc : List (Key × D)) (kv : Key × D), kv ∈ l.foldl (fun acc s => putS acc s (g s)) acc → (∃ kv' ∈ acc, kv'.1 = kv.1) ∨ ∃ s ∈ l, kv.1 = .inr s
  | [], acc, kv, h => .inl ⟨kv, h, rfl⟩
  | s :: l, acc, kv, h => by
    rcases foldput_keys g l _ kv h with ⟨kv', h1, h2⟩ | ⟨s', h1, h2⟩
    · rcases putS_keys h1 with ⟨k2, h3, h4⟩ | h3
      · exact .inl ⟨k2, h3, h4.trans h2⟩
      · exact .inr ⟨s, by simp, by rw [← h2, h3]⟩
    · exact .inr ⟨s', by simp [h1], h2⟩
theorem nexts_lst (p : Pat) (h : szP p ≤ 1000) : LstK (nextsD p) := fun kv hkv => by
  rcases foldput_keys _ _ _ _ hkv with ⟨_, h1, _⟩ | ⟨s, h1, h2⟩
  · cases h1
  · refine ⟨s, _, h2, getS_nexts p h1, ?_⟩
    have h3 := List.length_filter_le (LkP p s) (signsP p)
    have h4 := signsP_len p
    unfold nx
    omega
theorem nexts_len (p : Pat) : (nextsD p).length ≤ szP p := by
  have := foldput_len (fun s => .lst (((signsP p).filter (LkP p s)).map .str)) (signsP p) []
  have := signsP_len p
  unfold nextsD
  simp only [List.length_nil, Nat.zero_add] at *
  omega
theorem ifS {c : TT} {t u : TS} {D : Ends} {σ : L2.St} {H : Hp} (h : c σ H fun b H1 => if b = true then t D σ H1 else u D σ H1) : tIfS c t u D σ H := h
theorem EI.off {io : List (Option Addr)} {H0 F0 F H H' : Hp} {δ : List VL.Slot} {σ : L2.St} {i : Nat} {b : Addr} {c : D} (I : EI io H0 F0 F δ σ H) (e : δ[i]? = some (.ob false c)) (eb : σ.getD i none = some (.ref b)) (kp : ∀ x o, x ≠ b → H x = some o → H' x = some o) : EI io H0 F0 F (δ.set i .no) σ H' := by
  obtain ⟨b', e', n0, nF, _⟩ := I.get i _ e
  rw [eb] at e'
  cases e'
  have J := I.forget (i := i)
  refine ⟨fun x o h => kp x o (ne_of_none h n0) (I.base _ _ h), fun x o h => kp x o (ne_of_none h nF) (I.sub _ _ h), I.ext, I.new, J.len, fun j s h => ?_, J.apart⟩
  refine SOk.mono (Same.refl _) (J.get j s h) fun a fl cc es ea => ?_
  by_cases hj : i = j
  · subst hj
    have hi : i < δ.length := by rw [List.getElem?_eq_some_iff] at e; exact e.1
    rw [List.getElem?_set_self hi, es] at h
    cases h
  · rw [List.getElem?_set_ne hj, es] at h
    have nab : a ≠ b := fun z => I.apart j i fl cc false c b (fun z => hj z.symm) h e (by rw [ea, z]) eb
    obtain ⟨a', e1, _, e2, _⟩ := I.get j _ h
    rw [ea] at e1
    cases e1
    exact ⟨e2, fun u hu => kp a u nab hu⟩
open PySem L2 VL
section
variable {X : Cx}
theorem dss_heap1 {s1 : Stmt} {rest : List Stmt} {t1 : TS} {u : TSd} (V : TSd → TSd) (p1 : PS X s1 t1) (h : DSs X rest u) (hs : ∀ t, SimS t u → SimS (tSeq t1 t) (V u)) : DSs X (s1 :: rest) (V u) := by
  obtain ⟨t, p, s⟩ := h
  exact ⟨_, pss_cons p1 p, hs t s⟩
end
def numsF (ns : List Int) : List Int := (drawsF ns 7 19).take ((drawsF ns 7 19).getD 18 0 % 19).toNat
theorem perm_erase {α : Type} : ∀ (l : List α) (k : Nat) (h : k < l.length), List.Perm (l[k] :: l.eraseIdx k) l
  | a :: l, 0, _ => .refl _
  | a :: l, k + 1, h => (List.Perm.swap a (l[k]'(by simpa using h)) (l.eraseIdx k)).trans (List.Perm.cons a (perm_erase l k (by simpa using h)))
theorem sgI_nd (n : Int) : ∀ i, i ≤ 7 → ((sgI n i).2.1 ++ (sgI n i).1).Nodup
  | 0, _ => by simp only [sgI, List.nil_append]; decide
  | i + 1, h => by
    have ih := sgI_nd n i (by omega)
    obtain ⟨h1, h2⟩ := sgI_len n i (by omega)
    have b1 := mod_nn (a := (sgI n i).2.2) (b := ((sgI n i).1.length : Int)) (by omega)
    have b2 := mod_lt (a := (sgI n i).2.2) (b := ((sgI n i).1.length : Int)) (by omega)
    have hk : ((sgI n i).2.2 % ((sgI n i).1.length : Int)).toNat < (sgI n i).1.length := by omega
    simp only [sgI]
    generalize ((sgI n i).2.2 % ((sgI n i).1.length : Int)).toNat = k at hk ⊢
    generalize (sgI n i).1 = l at ih hk ⊢
    generalize (sgI n i).2.1 = f at ih ⊢
    have e : l.getD k "" = l[k] := by rw [List.getD_eq_getElem?_getD, List.getElem?_eq_getElem hk]; rfl
    rw [e, List.append_assoc]
    refine (List.Perm.nodup_iff ?_).mpr ih
    exact List.Perm.append_left _ (perm_erase l k hk)
theorem signsF_nd (n : Int) : (signsF n).Nodup := (List.nodup_append.mp (sgI_nd n 7 (by omega))).1
theorem joinP_signs {k : Int} {ps : List Pat} (hne : ps ≠ []) : signsP (joinP k ps) = signsPs ps := by
  match ps, hne with
  | [p], _ => simp [joinP, signsPs]
  | a :: b :: r, _ =>
    simp only [joinP]
    split <;> simp [signsP]
theorem stepP_nd (s : List Pat × List Str) (n : Int) (h : (signsPs s.1 ++ s.2).Nodup) : (signsPs (stepP s n).1 ++ (stepP s n).2).Nodup := by
  unfold stepP
  split
  · rename_i h1
    have e := congrArg signsPs (lastP_spec h1.1)
    rw [signsPs_app] at e
    simp only [signsPs_app, signsPs, signsP]
    simp only [signsPs] at e
    rw [← e]
    exact h
  · split
    · rename_i h1
      have b1 := mod_nn (a := n / 9) (b := 2) (by decide)
      have hne : s.1.drop (s.1.length - (2 + n / 9 % 2).toNat) ≠ [] := by
        intro z
        have := congrArg List.length z
        simp only [List.length_drop, List.length_nil] at this
        omega
      have e := congrArg signsPs (List.take_append_drop (s.1.length - (2 + n / 9 % 2).toNat) s.1)
      rw [signsPs_app] at e
      simp only [signsPs_app, signsPs, joinP_signs hne, List.append_nil]
      rw [e]
      exact h
    · split
      · rename_i h1
        have e : s.2 = s.2.dropLast ++ [s.2.getLast?.getD ""] := by
          rw [List.getLast?_eq_some_getLast h1.1]
          exact (List.dropLast_concat_getLast h1.1).symm
        simp only [signsPs_app, signsPs, signsP, List.append_nil]
        refine (List.Perm.nodup_iff ?_).mpr h
        conv => rhs; rw [e]
        rw [List.append_assoc]
        exact List.Perm.append_left _ (List.perm_append_comm)
      · split
        · simpa [signsPs_app, signsPs, signsP] using h
        · exact h
theorem pileF_nd {pool : List Str} (h : pool.Nodup) : ∀ (k : Nat) (ns : List Int), ns.length = k → (signsPs (pileF ns pool).1 ++ (pileF ns pool).2).Nodup := by
  intro k
  induction k with
  | zero =>
    intro ns hl
    have e : ns = [] := List.length_eq_zero_iff.mp hl
    subst e
    simpa [pileF, signsPs] using h
  | succ k ih =>
    intro ns hl
    rcases List.eq_nil_or_concat ns with rfl | ⟨ms, n, rfl⟩
    · cases hl
    · rw [List.concat_eq_append] at hl ⊢
      rw [pileF_snoc]
      exact stepP_nd _ n (ih ms (by simpa using hl))
theorem patF_nd {pool : List Str} (h : pool.Nodup) (ns : List Int) : (signsP (patF ns pool)).Nodup := by
  have := (List.nodup_append.mp (pileF_nd h ns.length ns rfl)).1
  unfold patF
  split
  · simp [signsP]
  · rename_i hne
    rw [joinP_signs hne]; exact this
mutual
theorem eqb_pat : ∀ p : Pat, eqb (patD p) = true
  | .none => by simp [patD, eqb, eqbL]
  | .one s => by simp [patD, eqb, eqbL]
  | .row ps => by simp [patD, eqb, eqbL, eqbL_pats ps]
  | .any ps => by simp [patD, eqb, eqbL, eqbL_pats ps]
  | .wrap k p => by simp [patD, eqb, eqbL, eqb_pat p]
theorem eqbL_pats : ∀ ps : List Pat, eqbL (patDs ps) = true
  | [] => rfl
  | p :: ps => by simp [patDs, eqbL, eqb_pat p, eqbL_pats ps]
end
mutual
theorem dep_pat : ∀ p : Pat, dep (patD p) ≤ 2 * dpP p + 2
  | .none => by simp [patD, dep, depL]
  | .one s => by simp [patD, dep, depL]
  | .row ps => by have := depL_pats ps; simp only [patD, dep, depL, dpP]; omega
  | .any ps => by have := depL_pats ps; simp only [patD, dep, depL, dpP]; omega
  | .wrap k p => by have := dep_pat p; simp only [patD, dep, depL, dpP]; omega
theorem depL_pats : ∀ ps : List Pat, depL (patDs ps) ≤ 2 * dpPs ps + 2
  | [] => by simp [patDs, depL]
  | p :: ps => by have := dep_pat p; have := depL_pats ps; simp only [patDs, depL, dpPs]; omega
end
def dTurns (n : Nat) (u : TSd) : TSd := fun E δ => ∃ (K : PySem.W.Frag) (ns : List Int) (p : Pat) (es : List Str) (x1 x2 x6 x8 x12 : VL.Slot) (b5 : Bool), δ = [.sc K ns, x1, x2, .fz (patD p), .fz (patD p), rsl b5 (.lst ((signsP p).map .str)), x6, .no, x8, .fz (.lst ((firstsP p).map .str)), .fz (.lst (es.map .str)), .ob false (.dct (nextsD p)), x12, .no, .no] ∧
  (∀ s, s ∈ es ↔ s ∈ lastsP p) ∧ (signsP p).Nodup ∧ neP p = true ∧ szP p ≤ 100 ∧ dpP p < n ∧ es.length ≤ 100 ∧
  u E [.sc K ns, x1, x2, .fz (patD p), .fz (patD p), .fz (.lst ((signsP p).map .str)), x6, .no, x8, .fz (.lst ((firstsP p).map .str)), .fz (.lst (es.map .str)), .no, x12, .no, .no]
section
variable {P : Program} {w : World} {K : PySem.W.Frag} {mg : Str → Option Value} {base : Heap} {f : Addr} {fd : FuncData}
def R_law (K : PySem.W.Frag) : RD := fun δ Q => ∃ ns : List Int, δ = [.sc K ns] ∧ Q false (.bl true) [.no]
structure AllE (K : PySem.W.Frag) (mg : Str → Option Value) : Prop where
  T : Zs K mg
  kts : PySem.W.kitOne K (.type "dict") (.type "dict") = some true
  E_patterns_within : ∃ f fd, Ent K mg "patterns_within" s_patterns_within ["pattern"] f fd
  E_signs : ∃ f fd, Ent K mg "signs" s_signs ["pattern"] f fd
  E_bare : ∃ f fd, Ent K mg "bare" s_bare ["pattern"] f fd
  E_firsts : ∃ f fd, Ent K mg "firsts" s_firsts ["pattern"] f fd
  E_lasts : ∃ f fd, Ent K mg "lasts" s_lasts ["pattern"] f fd
  E_link : ∃ f fd, Ent K mg "link" s_link ["ends", "begins", "followers"] f fd
  E_link_row : ∃ f fd, Ent K mg "link_row" s_link_row ["patterns", "followers"] f fd
  E_link_all : ∃ f fd, Ent K mg "link_all" s_link_all ["pattern", "followers"] f fd
  E_nexts : ∃ f fd, Ent K mg "nexts" s_nexts ["pattern"] f fd
  E__law_cell_at : ∃ f fd, Ent K mg "_law_cell_at" s__law_cell_at ["_law_script", "_law_k"] f fd
  E__law_mix : ∃ f fd, Ent K mg "_law_mix" s__law_mix ["_law_cell", "_law_turn"] f fd
  E__law_texts : ∃ f fd, Ent K mg "_law_texts" s__law_texts ["_law_found", "_law_due"] f fd
  E__law_joined : ∃ f fd, Ent K mg "_law_joined" s__law_joined ["_law_kind", "_law_parts"] f fd
  E__law_twice : ∃ f fd, Ent K mg "_law_twice" s__law_twice ["_law_pattern_here"] f fd
  E__law_pattern : ∃ f fd, Ent K mg "_law_pattern" s__law_pattern ["_law_numbers", "_law_pool"] f fd
  E__law_drawn_signs : ∃ f fd, Ent K mg "_law_drawn_signs" s__law_drawn_signs ["_law_number"] f fd
  E__law_lay : ∃ f fd, Ent K mg "_law_lay" s__law_lay ["_law_table_here", "_law_heads", "_law_tails"] f fd
  E__law_model : ∃ f fd, Ent K mg "_law_model" s__law_model ["_law_pattern_here", "_law_table_here"] f fd
  E__law_signs : ∃ f fd, Ent K mg "_law_signs" s__law_signs ["_law_pattern_here"] f fd
  E__law_table : ∃ f fd, Ent K mg "_law_table" s__law_table ["_law_found", "_law_due"] f fd
  E__law_draws : ∃ f fd, Ent K mg "_law_draws" s__law_draws ["_law_script", "_law_turn", "_law_many"] f fd
theorem ok_law (E_law : Ent K mg "law" s_law ["_law_script"] f fd) (U : AllE K mg) : FnOk P w K mg base CX0 60 f fd ["_law_script"] (spD (R_law K)) := by
  obtain ⟨T, ktd, ⟨f_patterns_within, fd_patterns_within, E_patterns_within⟩, ⟨f_signs, fd_signs, E_signs⟩, ⟨f_bare, fd_bare, E_bare⟩, ⟨f_firsts, fd_firsts, E_firsts⟩, ⟨f_lasts, fd_lasts, E_lasts⟩, ⟨f_link, fd_link, E_link⟩, ⟨f_link_row, fd_link_row, E_link_row⟩, ⟨f_link_all, fd_link_all, E_link_all⟩, ⟨f_nexts, fd_nexts, E_nexts⟩, ⟨f__law_cell_at, fd__law_cell_at, E__law_cell_at⟩, ⟨f__law_mix, fd__law_mix, E__law_mix⟩, ⟨f__law_texts, fd__law_texts, E__law_texts⟩, ⟨f__law_joined, fd__law_joined, E__law_joined⟩, ⟨f__law_twice, fd__law_twice, E__law_twice⟩, ⟨f__law_pattern, fd__law_pattern, E__law_pattern⟩, ⟨f__law_drawn_signs, fd__law_drawn_signs, E__law_drawn_signs⟩, ⟨f__law_lay, fd__law_lay, E__law_lay⟩, ⟨f__law_model, fd__law_model, E__law_model⟩, ⟨f__law_signs, fd__law_signs, E__law_signs⟩, ⟨f__law_table, fd__law_table, E__law_table⟩, ⟨f__law_draws, fd__law_draws, E__law_draws⟩⟩ := U
  have G__law_draws : FnOk P w K mg base CX0 2 _ _ _ (spD (R_draws K)) := ok_draws E__law_draws T E__law_mix
  have G__law_mix : FnOk P w K mg base CX0 1 _ _ _ (spD R_mix) := ok_mix E__law_mix T
  have G__law_cell_at : FnOk P w K mg base CX0 1 _ _ _ (spD (R_cell K)) := ok_cell E__law_cell_at T
  have G__law_drawn_signs : FnOk P w K mg base CX0 1 _ _ _ (spD R_dsigns) := ok_dsigns E__law_drawn_signs T
  have G__law_pattern : FnOk P w K mg base CX0 2 _ _ _ (spD R_pattern) := ok_pattern E__law_pattern T E__law_joined E__law_twice
  have G__law_signs : FnOk P w K mg base CX0 31 _ _ _ (spD (R_lsigns 30)) := ok_lsigns E__law_signs T 30
  have G__law_model : FnOk P w K mg base CX0 32 _ _ _ (spD (R_model 30)) := ok_model E__law_model T E__law_lay 30
  have G__law_texts : FnOk P w K mg base CX0 1 _ _ _ (spD R_texts) := ok_texts E__law_texts T
  have G__law_table : FnOk P w K mg base CX0 2 _ _ _ sp_ltable := ok_ltable E__law_table T ktd E__law_texts
  have G_bare : FnOk P w K mg base CX0 32 _ _ _ (spD (R_bare 30)) := ok_bare E_bare T 30
  have G_signs : FnOk P w K mg base CX0 32 _ _ _ (spD (R_signs 30)) := ok_signs E_signs T E_patterns_within 30
  have G_firsts : FnOk P w K mg base CX0 33 _ _ _ (spD (R_firsts 30)) := ok_firsts E_firsts T E_patterns_within E_bare 30
  have G_lasts : FnOk P w K mg base CX0 33 _ _ _ (spD (R_lasts 30)) := ok_lasts E_lasts T E_patterns_within E_bare 30
  have G_nexts : FnOk P w K mg base CX0 36 _ _ _ (spD (R_nexts 30)) := ok_nexts E_nexts T E_link E_firsts E_lasts E_bare E_patterns_within E_link_row E_link_all E_signs 30
  refine VL.Fun.dok E_law.F sc_law (fun δ Qd h => ?_) (by decide) (fun cdv A outer s H E δ Qd hr h => ?_)
  · obtain ⟨_, rfl, _⟩ := h; rfl
  · obtain ⟨ns, rfl, q⟩ := h
    have hu := hu100 hr
    refine ⟨_, (dss_cons (ds_set (i := 1) sc_law.nd rfl (Or.inl rfl) (de_callC G__law_draws (hr.mono (by omega)) rfl E__law_draws.g E__law_draws.F.kp E__law_draws.b pass0 (pv 0) (dl_cons de_int (dl_cons de_int dl_nil))))
      (dss_cons (ds_set (i := 1) sc_law.nd rfl (Or.inl rfl) (de_sliceLV (pv 1) do_none (do_some (de_op os_mod op_mod (de_ixV os_ixL ix_lst (pv 1) de_int (fun _ _ => rfl)) de_int))))
      (dss_cons (ds_set (i := 2) sc_law.nd rfl (Or.inl rfl) (de_call G__law_drawn_signs (hr.mono (by omega)) rfl E__law_drawn_signs.g E__law_drawn_signs.F.kp E__law_drawn_signs.b pass0 (dl_cons (de_call G__law_mix (hr.mono (by omega)) rfl E__law_mix.g E__law_mix.F.kp E__law_mix.b pass0 (dl_cons (de_callC G__law_cell_at (hr.mono (by omega)) rfl E__law_cell_at.g E__law_cell_at.F.kp E__law_cell_at.b pass0 (pv 0) (dl_cons de_int dl_nil)) (dl_cons de_int dl_nil))) dl_nil)))
      (dss_cons (ds_set (i := 3) sc_law.nd rfl (Or.inl rfl) (de_call G__law_pattern (hr.mono (by omega)) rfl E__law_pattern.g E__law_pattern.F.kp E__law_pattern.b pass0 (dl_cons (dv 1) (dl_cons (dv 2) dl_nil))))
      (dss_cons (ds_set (i := 4) sc_law.nd rfl (Or.inl rfl) (de_call G__law_pattern (hr.mono (by omega)) rfl E__law_pattern.g E__law_pattern.F.kp E__law_pattern.b pass0 (dl_cons (dv 1) (dl_cons (dv 2) dl_nil))))
      (dss_cons (ds_set (i := 5) sc_law.nd rfl (Or.inl rfl) (de_call G__law_signs (hr.mono (by omega)) rfl E__law_signs.g E__law_signs.F.kp E__law_signs.b pass0 (dl_cons (dv 3) dl_nil)))
      (dss_cons (ds_set (i := 6) sc_law.nd rfl (Or.inr rfl) de_dict0)
      (dss_cons (ds_for PassesOwn.never rfl (di_list (dv 5)) (dg_name (i := 7) sc_law.nd rfl (Or.inr rfl)) (dss_one (ds_dput hu (pv 6) (dv 7) (de_lst dl_nil))))
      (dss_cons (ds_asg (de_callIO (i := 6) G__law_model (hr.mono (by omega)) rfl E__law_model.g E__law_model.F.kp E__law_model.b pass0 (da_v (dv 3) (da_o (pv 6) da_nil))) (dg_tup (n := 3) rfl (dgs_cons (dg_name (i := 8) sc_law.nd rfl (Or.inl rfl)) (dgs_cons (dg_name (i := 9) sc_law.nd rfl (Or.inr rfl)) (dgs_cons (dg_name (i := 10) sc_law.nd rfl (Or.inr rfl)) dgs_nil)))))
      (dss_cons (ds_set (i := 11) sc_law.nd rfl (Or.inl rfl) de_dict0)
      (dss_cons (ds_for PassesOwn.never rfl (di_list (dv 5)) (dg_name (i := 7) sc_law.nd rfl (Or.inr rfl)) (dss_one (ds_dput hu (pv 11) (dv 7) (de_comp ["_law_one"] ["_law_script", "_law_numbers", "_law_names", "_law_pattern_here", "_law_kept", "_law_order", "_law_table_here", "_law_sign", "_law_free", "_law_begin", "_law_end", "_law_due", "_law_found", "_law_turn", "_law_told"] rfl (show CScopeG (defScope s_law) ["_law_script", "_law_numbers", "_law_names", "_law_pattern_here", "_law_kept", "_law_order", "_law_table_here", "_law_sign", "_law_free", "_law_begin", "_law_end", "_law_due", "_law_found", "_law_turn", "_law_told"] ["_law_one"] _ _ from ⟨rfl, by decide +kernel, by decide +kernel, by decide +kernel, by decide +kernel⟩) (di_list (dv 5)) (fun _ _ _ _ _ => (dgn_name (i := 0) (by decide) (show List.Nodup (["_law_one", "_law_script", "_law_numbers", "_law_names", "_law_pattern_here", "_law_kept", "_law_order", "_law_table_here", "_law_sign", "_law_free", "_law_begin", "_law_end", "_law_due", "_law_found", "_law_turn", "_law_told"] : List Str) from by decide +kernel) rfl (Or.inl rfl))) (fun _ _ _ _ _ => (df_one (dt_cmp os_inL op_in_lst (dv 0) (de_dgetV hu (pv 7) (dv 8)) rfl))) (fun _ _ _ _ _ => (dv 0))))))
      (dss_cons (ds_set (i := 12) sc_law.nd rfl (Or.inl rfl) (de_call G_bare (hr.mono (by omega)) rfl E_bare.g E_bare.F.kp E_bare.b pass0 (dl_cons (dv 3) dl_nil)))
      (dss_cons (ds_if (dt_w (dw_or (dt_not (dt_val (de_callB (cs_isI T.kit) (call_isinst (K := K) rfl) rfl T.z_isinstance PyProof.Rows.boot_isinstance (dl_cons (dv 12) (dl_cons (de_ty rfl T.z_bool PyProof.Rows.boot_bool) dl_nil))))) (dw_or (dt_cmp os_ne op_ne (dv 12) (dv 8) (nomark _)) (dw_or1 (dt_not (dt_val (de_call G__law_texts (hr.mono (by omega)) rfl E__law_texts.g E__law_texts.F.kp E__law_texts.b pass0 (dl_cons (de_call G_signs (hr.mono (by omega)) rfl E_signs.g E_signs.F.kp E_signs.b pass0 (dl_cons (dv 3) dl_nil)) (dl_cons (dv 5) dl_nil))))))))) (dss_one (ds_ret de_bl)) dss_nil)
      (dss_heap1 (dTurns 30) (ps_for PassesOwn.never rfl (pi_range1 rfl T.z_range (pa_cons pe_int pa_nil)) (pg_name (i := 13) sc_law.nd rfl (Or.inl rfl)) (pss_cons (ps_set (i := 14) sc_law.nd rfl (Or.inl rfl) (pe_lst (pa_cons (pe_call G_firsts (hr.mono (by omega)) rfl E_firsts.g E_firsts.F.kp E_firsts.b .nil pass0 (pa_cons (pv 3) pa_nil)) (pa_cons (pe_call G_lasts (hr.mono (by omega)) rfl E_lasts.g E_lasts.F.kp E_lasts.b .nil pass0 (pa_cons (pv 3) pa_nil)) (pa_cons (pe_call G_nexts (hr.mono (by omega)) rfl E_nexts.g E_nexts.F.kp E_nexts.b .nil pass0 (pa_cons (pv 3) pa_nil)) pa_nil)))))
      (pss_cons (ps_if (pt_not (pt_val (pe_call G__law_texts (hr.mono (by omega)) rfl E__law_texts.g E__law_texts.F.kp E__law_texts.b .nil pass0 (pa_cons (pe_ix ix_lst (pv 14) pe_int (fun _ _ => rfl)) (pa_cons (pe_compG ["_law_one"] ["_law_script", "_law_numbers", "_law_names", "_law_pattern_here", "_law_kept", "_law_order", "_law_table_here", "_law_sign", "_law_free", "_law_begin", "_law_end", "_law_due", "_law_found", "_law_turn", "_law_told"] rfl (fun _ _ _ _ _ => (pg_name (i := 0) (show List.Nodup (["_law_one", "_law_script", "_law_numbers", "_law_names", "_law_pattern_here", "_law_kept", "_law_order", "_law_table_here", "_law_sign", "_law_free", "_law_begin", "_law_end", "_law_due", "_law_found", "_law_turn", "_law_told"] : List Str) from by decide +kernel) rfl (Or.inl rfl))) (show CScopeG (defScope s_law) ["_law_script", "_law_numbers", "_law_names", "_law_pattern_here", "_law_kept", "_law_order", "_law_table_here", "_law_sign", "_law_free", "_law_begin", "_law_end", "_law_due", "_law_found", "_law_turn", "_law_told"] ["_law_one"] _ _ from ⟨rfl, by decide +kernel, by decide +kernel, by decide +kernel, by decide +kernel⟩) (pi_list (pv 5)) (fun _ _ _ _ _ => (pf_one (pt_cmpR op_in_lst (pv 0) (pv 10) rfl))) (fun _ _ _ _ _ => (pv 0))) pa_nil))))) (pss_one (ps_ret pe_bl)) pss_nil)
      (pss_cons (ps_if (PW.pt (pw_or (pt_not (pt_val (pe_call G__law_texts (hr.mono (by omega)) rfl E__law_texts.g E__law_texts.F.kp E__law_texts.b .nil pass0 (pa_cons (pe_ix ix_lst (pv 14) pe_int (fun _ _ => rfl)) (pa_cons (pe_compG ["_law_one"] ["_law_script", "_law_numbers", "_law_names", "_law_pattern_here", "_law_kept", "_law_order", "_law_table_here", "_law_sign", "_law_free", "_law_begin", "_law_end", "_law_due", "_law_found", "_law_turn", "_law_told"] rfl (fun _ _ _ _ _ => (pg_name (i := 0) (show List.Nodup (["_law_one", "_law_script", "_law_numbers", "_law_names", "_law_pattern_here", "_law_kept", "_law_order", "_law_table_here", "_law_sign", "_law_free", "_law_begin", "_law_end", "_law_due", "_law_found", "_law_turn", "_law_told"] : List Str) from by decide +kernel) rfl (Or.inl rfl))) (show CScopeG (defScope s_law) ["_law_script", "_law_numbers", "_law_names", "_law_pattern_here", "_law_kept", "_law_order", "_law_table_here", "_law_sign", "_law_free", "_law_begin", "_law_end", "_law_due", "_law_found", "_law_turn", "_law_told"] ["_law_one"] _ _ from ⟨rfl, by decide +kernel, by decide +kernel, by decide +kernel, by decide +kernel⟩) (pi_list (pv 5)) (fun _ _ _ _ _ => (pf_one (pt_cmpR op_in_lst (pv 0) (pv 11) rfl))) (fun _ _ _ _ _ => (pv 0))) pa_nil))))) (pw_or1 (pt_not (pt_val (pe_call G__law_table (hr.mono (by omega)) rfl E__law_table.g E__law_table.F.kp E__law_table.b .nil pass0 (pa_cons (pe_ix ix_lst (pv 14) pe_int (fun _ _ => rfl)) (pa_cons (pv 11) pa_nil)))))))) (pss_one (ps_ret pe_bl)) pss_nil)
      (pss_cons (ps_expr (pe_lm PySem.F.slot_list_append PySem.F.type_list_append mt_append (pe_ix ix_lst (pv 14) pe_int (fun _ _ => rfl)) (pa_cons pe_str pa_nil)))
      (pss_cons (ps_expr (pe_lm0 PySem.F.slot_list_clear PySem.F.type_list_clear mt_clear (pe_ix ix_lst (pv 14) pe_int (fun _ _ => rfl))))
      (pss_one (ps_for PassesOwn.never rfl (pi_list (pv 5)) (pg_name (i := 7) sc_law.nd rfl (Or.inr rfl)) (pss_one (ps_expr (pe_lm PySem.F.slot_list_append PySem.F.type_list_append mt_append (pe_dget (hu1 hu) (pe_ix ix_lst (pv 14) pe_int (fun _ _ => rfl)) (pv 7) (fun _ _ => rfl)) (pa_cons pe_str pa_nil))))))))))))
      (dss_one (ds_ret (de_cmpV (os_eqT hu) op_eq_tup (pv 3) (dv 4) (nomark _)))) ?five)))))))))))))), ?_⟩
    case five =>
      intro t st io H0 F0 F δ σ H E Ed I q S
      obtain ⟨K', ns', p', es, x1, x2, x6, x8, x12, b5, rfl, hes, pn, hne, z1, z2, z3, q⟩ := q
      have sz := sizeL24
      obtain ⟨F', J, sJ⟩ : ∃ F', EI io H0 F0 F' [.sc K' ns', x1, x2, .fz (patD p'), .fz (patD p'), .fz (.lst ((signsP p').map .str)), x6, .no, x8, .fz (.lst ((firstsP p').map .str)), .fz (.lst (es.map .str)), .ob false (.dct (nextsD p')), x12, .no, .no] σ H ∧ Same F F' := by
        cases b5 with
        | false => exact ⟨F, I, Same.refl _⟩
        | true =>
          obtain ⟨F', a, s, I', _⟩ := I.freeze (i := 5) rfl
          exact ⟨F', I', s⟩
      obtain ⟨l0, l1, l2, l3, l4, l5, l6, l7, l8, l9, l10, l11, l12, l13, l14, rfl⟩ : ∃ l0 l1 l2 l3 l4 l5 l6 l7 l8 l9 l10 l11 l12 l13 l14, σ = [l0, l1, l2, l3, l4, l5, l6, l7, l8, l9, l10, l11, l12, l13, l14] := by
        have hl := J.len
        match σ, hl with
        | [l0, l1, l2, l3, l4, l5, l6, l7, l8, l9, l10, l11, l12, l13, l14], _ => exact ⟨l0, l1, l2, l3, l4, l5, l6, l7, l8, l9, l10, l11, l12, l13, l14, rfl⟩
      obtain ⟨v3, e3, r3⟩ := J.get 3 _ rfl
      obtain ⟨v5, e5, r5⟩ := J.get 5 _ rfl
      obtain ⟨v9, e9, r9⟩ := J.get 9 _ rfl
      obtain ⟨v10, e10, r10⟩ := J.get 10 _ rfl
      obtain ⟨b, e11, nb0, nbF, ⟨kvs', hb, rk'⟩, _⟩ := J.get 11 _ rfl
      cases (show l3 = some v3 from e3)
      cases (show l5 = some v5 from e5)
      cases (show l9 = some v9 from e9)
      cases (show l10 = some v10 from e10)
      cases (show l11 = some (.ref b) from e11)
      obtain ⟨a5, rfl, h5⟩ := rep_strs.mp r5
      obtain ⟨a9, rfl, h9⟩ := rep_strs.mp r9
      obtain ⟨a10, rfl, h10⟩ := rep_strs.mp r10
      walk_at "rs"
      refine ⟨by decide, by decide, loopR (fun i σ H' => ∃ x7 x13 x14, σ = [l0, l1, l2, some v3, l4, some (.ref a5), l6, x7, l8, some (.ref a9), some (.ref a10), some (.ref b), l12, x13, x14] ∧ Rd H' b (.dK kvs') ∧ ∀ c o, c ≠ b → H c = some o → H' c = some o) ⟨_, _, _, rfl, .inl hb, fun c o _ e => e⟩ ?_ ?_⟩
      · rintro i σ H1 hi ⟨x7, x13, x14, rfl, rb, kp⟩
        have sF1 : Same F' H1 := fun c o e => kp c o (fun z => by rw [z, nbF] at e; cases e) (J.sub _ _ e)
        have hsl := signsP_len p'
        have hfl := (firstsP_sub p').length_le
        have hll := (lastsP_sub p').length_le
        have r3' := rep_ref p' v3 hne r3
        have sR : Same (refH F') H1 := refH_sub.trans sF1
        have bH1 : ∀ {H' : Hp}, Same H1 H' → Rd H' b (.dK kvs') := fun s => by
          rcases rb with h | ⟨o, h⟩
          · exact .inl (s _ _ h)
          · exact .inr ⟨o, s _ _ h⟩
        have bN : ∀ {H' : Hp} {c : Addr}, Same H1 H' → H' c = none → c ≠ b := fun s h z => by
          rcases bH1 s with h' | ⟨o, h'⟩ <;> (rw [← z, h] at h'; cases h')
        walk_at "rs"
        refine spD_own (ds := [patD p']) (Qd := fun b d _ => b = true ∧ d = .lst ((firstsP p').map .str)) sR ⟨_, _, rfl, r3', rfl⟩ ⟨p', rfl, z2, by omega, rfl, rfl⟩ fun b1 d1 δ1 w1 G1 H2 s2 _ _ _ ⟨eb, ed⟩ k => ?_
        subst eb ed
        obtain ⟨c1, e1, n1, _, ⟨vs1, h1, t1⟩, _⟩ := k
        cases e1
        rw [t1.strs] at h1
        refine spD_own (ds := [patD p']) (Qd := fun b d _ => b = true ∧ d = .lst ((lastsP p').map .str)) (sR.trans s2) ⟨_, _, rfl, r3', rfl⟩ ⟨p', rfl, z2, by omega, rfl, rfl⟩ fun b1 d1 δ1 w1 G2 H3 s3 _ _ _ ⟨eb, ed⟩ k => ?_
        subst eb ed
        obtain ⟨c2, e2, n2, _, ⟨vs2, h2, t2⟩, _⟩ := k
        cases e2
        rw [t2.strs] at h2
        refine spD_own (ds := [patD p']) (Qd := fun b d _ => b = true ∧ d = .dct (nextsD p')) ((sR.trans s2).trans s3) ⟨_, _, rfl, r3', rfl⟩ ⟨p', rfl, z2, by omega, rfl, rfl⟩ fun b1 d1 δ1 w1 G3 H4 s4 x3 y3 m3 ⟨eb, ed⟩ k => ?_
        subst eb ed
        obtain ⟨c3, e3, n3, _, ⟨kvs, h3, t3⟩, _⟩ := k
        cases e3
        refine ⟨by omega, fun tp htp => ifS ?_⟩
        have s5 : Same H4 (upd H4 tp (.lst [.ref c1, .ref c2, .ref c3])) := Same.of_new htp
        have t5 : (upd H4 tp (.lst [.ref c1, .ref c2, .ref c3])) tp = some (.lst [.ref c1, .ref c2, .ref c3]) := upd_same
        generalize upd H4 tp (.lst [.ref c1, .ref c2, .ref c3]) = H5 at s5 t5 ⊢
        have s15 : Same H1 H5 := ((s2.trans s3).trans s4).trans s5
        walk_at "rs"
        have a5H : H1 a5 = some (.lst ((signsP p').map .str)) := sF1 _ _ h5
        have a9H : H1 a9 = some (.lst ((firstsP p').map .str)) := sF1 _ _ h9
        have a10H : H1 a10 = some (.lst (es.map .str)) := sF1 _ _ h10
        refine ⟨_, t5, _, rfl, compIn (m := 9) rfl rfl (s15 _ _ a5H) (s15 _ _ a9H) (by omega) fun D1 H6 _ s6 hD1 => ?_⟩
        rw [filt_sub (firstsP_sub p') pn] at hD1
        refine spD_plain (ds := [.lst ((firstsP p').map .str), .lst ((firstsP p').map .str)]) (Qd := fun b d _ => d = .bl true) ⟨_, _, rfl, rep_strs.mpr ⟨c1, rfl, s6 _ _ (s5 _ _ (s4 _ _ (s3 _ _ h1)))⟩, _, _, rfl, rep_strs.mpr ⟨_, rfl, hD1⟩, rfl⟩ ⟨_, rfl, by omega, rfl⟩ fun b1 d1 δ1 v1 H7 s7 ed1 rd1 => ?_
        subst ed1
        refine ⟨true, rd1, ?_⟩
        rw [if_neg (by simp)]
        refine ifS ?_
        have s57 := s6.trans s7
        walk_at "rs"
        have eq : ((signsP p').filter fun s => decide (s ∈ es)) = lastsP p' := by
          rw [← filt_sub (lastsP_sub p') pn]
          exact List.filter_congr fun x _ => by simp only [hes]
        refine ⟨_, s57 _ _ t5, _, rfl, compIn (m := 10) rfl rfl (s57 _ _ (s15 _ _ a5H)) (s57 _ _ (s15 _ _ a10H)) (by omega) fun D2 H8 _ s8 hD2 => ?_⟩
        rw [eq] at hD2
        refine spD_plain (ds := [.lst ((lastsP p').map .str), .lst ((lastsP p').map .str)]) (Qd := fun b d _ => d = .bl true) ⟨_, _, rfl, rep_strs.mpr ⟨c2, rfl, s8 _ _ (s57 _ _ (s5 _ _ (s4 _ _ h2)))⟩, _, _, rfl, rep_strs.mpr ⟨_, rfl, hD2⟩, rfl⟩ ⟨_, rfl, by omega, rfl⟩ fun b1 d1 δ1 v1 H9 s9 ed1 rd1 => ?_
        subst ed1
        refine ⟨true, rd1, ?_⟩
        have s59 := (s57.trans s8).trans s9
        have s19 := s15.trans s59
        walk_at "rs"
        have s13 := s2.trans s3
        have s49 := s5.trans s59
        have f1 : ∀ {c : Addr} {o : HO}, H3 c = some o → H9 c = some o := fun e => s49 _ _ (s4 _ _ e)
        have nb3 : c3 ≠ b := bN s13 n3
        have n12 : c1 ≠ c2 := ne_of_none h1 n2
        have n13 : c1 ≠ c3 := ne_of_none (s3 _ _ h1) n3
        have n23 : c2 ≠ c3 := ne_of_none h2 n3
        have nt1 : c1 ≠ tp := ne_of_none (s4 _ _ (s3 _ _ h1)) htp
        have nt2 : c2 ≠ tp := ne_of_none (s4 _ _ h2) htp
        have nt3 : c3 ≠ tp := ne_of_none h3 htp
        have nb1 : c1 ≠ b := bN (Same.refl _) n1
        have nb2 : c2 ≠ b := bN s2 n2
        have nbt : tp ≠ b := bN (s13.trans s4) htp
        have sFm : Same (fun c => if c = b then none else H9 c) H9 := fun c o e => by
          by_cases z : c = b
          · simp only [z, if_true] at e; cases e
          · simp only [z, if_false] at e; exact e
        have G3b : G3 b = none := by
          cases hg : G3 b with
          | none => rfl
          | some o =>
            have := m3 b o hg (by unfold refH; rw [nbF])
            exact absurd rfl (bN s13 this)
        have toFm : ∀ {F2 : Hp}, Same F2 H9 → F2 b = none → Same F2 (fun c => if c = b then none else H9 c) := fun s n c o e => by
          have z : c ≠ b := fun z => by rw [z, n] at e; cases e
          simp only [z, if_false]; exact s _ _ e
        have inn : ∀ s ∈ signsP p', ∃ c, valV kvs (.inr s) = some (.ref c) ∧ H3 c = none ∧ H4 c = some (.lst ((nx p' s).map .str)) := fun s hs => by
          obtain ⟨v, w1, w2⟩ := (t3.val s).1 _ (getS_nexts p' hs)
          obtain ⟨c, rfl, hc⟩ := rep_strs.mp w2
          refine ⟨c, w1, m3 c _ hc ?_, y3 _ _ hc⟩
          cases hr : refH F' c with
          | none => rfl
          | some o =>
            have := x3 _ _ hr
            rw [hc] at this
            cases this
            exact absurd hr refH_no
        refine ⟨_, s59 _ _ t5, _, rfl, c3, b, kvs, kvs', nextsD p', fun c => if c = b then none else H9 c, rfl, nb3, s49 _ _ h3, bH1 s19, RepK.mono (toFm (y3.trans s49) G3b) _ _ t3, RepK.mono (toFm (sF1.trans s19) nbF) _ _ rk', sFm, by simp, nexts_lst p' (by omega), by have := nexts_len p'; omega, fun H10 kp10 ⟨ob, hb10⟩ => ?_⟩
        have f2 : ∀ {c : Addr} {o : HO}, c ≠ b → H9 c = some o → H10 c = some o := fun n e => kp10 _ _ n e
        refine ⟨true, rfl, ?_⟩
        rw [if_neg (by simp)]
        have g1 : H10 c1 = some (.lst ((firstsP p').map .str)) := f2 nb1 (f1 (s3 _ _ h1))
        have g2 : H10 c2 = some (.lst ((lastsP p').map .str)) := f2 nb2 (f1 h2)
        have g3 : H10 c3 = some (.dK kvs) := f2 nb3 (s49 _ _ h3)
        have gt : H10 tp = some (.lst [.ref c1, .ref c2, .ref c3]) := f2 nbt (s59 _ _ t5)
        refine ⟨_, gt, _, rfl, c1, rfl, ⟨_, g1⟩, _, g1, by rw [List.length_map]; omega, _, by rw [upd_ne nt1.symm]; exact gt, _, rfl, c2, rfl, ⟨_, by rw [upd_ne n12.symm]; exact g2⟩, c2, _, rfl, rfl, by rw [upd_ne n12.symm]; exact g2, ?_⟩
        generalize hH12 : upd (upd H10 c1 _) c2 _ = H12
        have old : ∀ c o, c ≠ b → H c = some o → H12 c = some o := fun c o cb e => by
          have e1 := kp c o cb e
          rw [← hH12, upd_ne (ne_of_none (s2 _ _ e1) n2), upd_ne (ne_of_none e1 n1)]
          exact f2 cb (s19 _ _ e1)
        have keep : ∀ c o, c ≠ c1 → c ≠ c2 → H10 c = some o → H12 c = some o := fun c o k1 k2 e => by
          rw [← hH12, upd_ne k2, upd_ne k1]; exact e
        have a5b : a5 ≠ b := fun z => by rw [z, nbF] at h5; cases h5
        refine ⟨⟨_, SqL.of (old _ _ a5b (J.sub _ _ h5))⟩, loopL (xs := (signsP p').map .str) (fun i' σ H' => ∃ y7, σ = [l0, l1, l2, some v3, l4, some (.ref a5), l6, y7, l8, some (.ref a9), some (.ref a10), some (.ref b), l12, some (V.int (0 + ↑i)), some (.ref tp)] ∧ H' tp = some (.lst [.ref c1, .ref c2, .ref c3]) ∧ H' c3 = some (.dK kvs) ∧ Rd H' b (.dK kvs') ∧ (∀ c o, c ≠ b → H c = some o → H' c = some o) ∧ ∀ s ∈ signsP p', ∃ c xs, valV kvs (.inr s) = some (.ref c) ∧ H3 c = none ∧ c ≠ c3 ∧ c ≠ tp ∧ H' c = some (.lst xs) ∧ xs.length ≤ 1000 + i') ?_ (fun i' σ H' _ h => ?_) (fun i' x σ H' hx h => ?_) fun σ H' h => ?_⟩
        · refine ⟨_, rfl, keep _ _ nt1.symm nt2.symm gt, keep _ _ n13.symm n23.symm g3, .inr ⟨ob, keep _ _ nb1.symm nb2.symm hb10⟩, old, fun s hs => ?_⟩
          obtain ⟨c, w1, w2, w3⟩ := inn s hs
          have k1 : c ≠ c1 := (ne_of_none (s3 _ _ h1) w2).symm
          have k2 : c ≠ c2 := (ne_of_none h2 w2).symm
          refine ⟨c, _, w1, w2, fun z => ?_, ne_of_none w3 htp, keep _ _ k1 k2 (f2 (bN s13 w2) (s49 _ _ w3)), ?_⟩
          · rw [z, h3] at w3; cases w3
          · have h3 := List.length_filter_le (LkP p' s) (signsP p')
            rw [List.length_map]
            unfold nx
            omega
        · obtain ⟨_, _, _, _, _, ol, _⟩ := h
          exact SqL.of (ol _ _ a5b (J.sub _ _ h5))
        · obtain ⟨y7, rfl, k1, k2, k3, k4, k5⟩ := h
          obtain ⟨c, hc, rfl⟩ : ∃ s, (signsP p')[i']? = some s ∧ x = .str s := by
            rw [List.getElem?_map] at hx
            obtain ⟨s, h1, h2⟩ := Option.map_eq_some_iff.mp hx
            exact ⟨s, h1, h2.symm⟩
          have hi' := (List.getElem?_eq_some_iff.mp hc).1
          obtain ⟨q, xs, w1, w2, w3, w4, w5, w6⟩ := k5 c (List.mem_of_getElem? hc)
          walk_at "rs"
          have qb : q ≠ b := bN s13 w2
          refine ⟨_, k1, _, rfl, c3, rfl, _, .inl ⟨kvs, .inr c, .inl k2, rfl, w1.symm⟩, q, rfl, ⟨_, w5⟩, xs, w5, by omega, by rw [upd_ne (Ne.symm w4)]; exact k1, by rw [upd_ne (Ne.symm w3)]; exact k2, ?_, fun c' o cb e => ?_, fun s hs => ?_⟩
          · rcases k3 with h | ⟨o, h⟩
            · exact .inl (by rw [upd_ne qb.symm]; exact h)
            · exact .inr ⟨o, by rw [upd_ne qb.symm]; exact h⟩
          · have nq : c' ≠ q := ne_of_none (s13 _ _ (kp c' o cb e)) w2
            rw [upd_ne nq]; exact k4 c' o cb e
          · obtain ⟨q', xs', u1, u2, u3, u4, u5, u6⟩ := k5 s hs
            by_cases z : q' = q
            · subst z
              rw [w5] at u5
              exact ⟨q', u1, u2, u3, u4, _, upd_same, by simp; omega⟩
            · exact ⟨q', u1, u2, u3, u4, xs', by rw [upd_ne z]; exact u5, by omega⟩
        · obtain ⟨y7, rfl, k1, k2, k3, k4, k5⟩ := h
          exact ⟨_, _, _, rfl, k3, k4⟩
      · rintro σ H1 ⟨x7, x13, x14, rfl, rb, kp⟩
        have J1 := EI.off (H' := H1) (i := 11) J rfl rfl kp
        exact st io H0 F0 _ _ _ H1 E Ed (EI.junk (i := 14) (o := x14) (EI.junk (i := 13) (o := x13) (EI.junk (i := 7) (o := x7) J1 rfl) rfl) rfl) q (S.mono sJ)
    have sz := sizeL24
    have cutE : ∀ (l : List Int) (x : Int), 0 ≤ x → cutD (l.map .int) none (some x) = (l.take x.toNat).map .int := fun l x hx => by
      have : x = ((x.toNat : Nat) : Int) := by omega
      rw [this, cutD_take, List.map_take]; rfl
    walk_at "vd"
    refine ⟨ns, 7, 19, rfl, by omega, by omega, ?_⟩
    walk_at "vd"
    refine ⟨_, atI_getD (k := 18) (by rw [drawsF_len]; decide), ?_⟩
    walk_at "vd"
    have b1 := mod_nn (a := (drawsF ns 7 19).getD 18 0) (b := 19) (by decide)
    refine ⟨by decide, ns, 0, rfl, ?_⟩
    walk_at "vd"
    refine ⟨_, 1, rfl, by decide, by decide, ?_⟩
    walk_at "vd"
    refine ⟨_, rfl, ?_⟩
    rw [cutE _ _ b1]
    walk_at "vd"
    have nln : (numsF ns).length ≤ 19 := by unfold numsF; rw [List.length_take, drawsF_len]; omega
    have nbb : ∀ x ∈ numsF ns, 0 ≤ x ∧ x < 4294967296 := fun x hx => by
      obtain ⟨h1, h2⟩ := drawsF_b ns 7 19 x (List.mem_of_mem_take hx)
      exact ⟨h1, by omega⟩
    refine ⟨numsF ns, signsF (mixF (ns.getD 0 0) 1), rfl, by omega, nbb, by rw [signsF_len]; omega, ?_⟩
    walk_at "vd"
    refine ⟨numsF ns, signsF (mixF (ns.getD 0 0) 1), rfl, by omega, nbb, by rw [signsF_len]; omega, ?_⟩
    have ps := (patF_ok (numsF ns) (signsF (mixF (ns.getD 0 0) 1))).2
    have pn := patF_nd (signsF_nd (mixF (ns.getD 0 0) 1)) (numsF ns)
    have pe := patF_ne (numsF ns) (signsF (mixF (ns.getD 0 0) 1))
    generalize patF (numsF ns) (signsF (mixF (ns.getD 0 0) 1)) = p at ps pn pe ⊢
    have pd := dpP_sz p
    walk_at "vd"
    refine ⟨p, rfl, by omega, by omega, ?_⟩
    walk_at "vd"
    have sl := signsP_len p
    refine loopD [7] (fun r δ => ∃ pre suf kds, signsP p = pre ++ suf ∧ r = suf.map .str ∧ kds.length ≤ pre.length ∧ TabD pre (fun _ _ => false) 0 kds ∧ δ = [.sc K ns, .fz (.lst ((numsF ns).map .int)), .fz (.lst ((signsF (mixF (ns.getD 0 0) 1)).map .str)), .fz (patD p), .fz (patD p), .fz (.lst ((signsP p).map .str)), .ob false (.dct kds), .no, .no, .no, .no, .no, .no, .no, .no]) ⟨[], signsP p, [], rfl, rfl, Nat.le_refl _, fun s h => (by cases h), ?_⟩ ?_ ?_
    · rfl
    · rintro d r δ ⟨pre, suf, kds, e1, e2, kl, tb, rfl⟩
      cases suf with
      | nil => cases e2
      | cons s suf =>
        cases e2
        have hpl : pre.length < 100 := by have := congrArg List.length e1; simp at this; omega
        walk_at "vd"
        refine ⟨by omega, by omega, pre ++ [s], suf, _, by simp [e1], rfl, ?_, fun s' hs' => ?_, rfl⟩
        · have := putS_len kds s (.lst [])
          simp; omega
        · by_cases z : s' = s
          · subst z; exact ⟨[], by rw [getS_put, if_pos rfl]; rfl, by simp, by simp⟩
          · obtain ⟨l, g1, g2, g3⟩ := tb s' (by rcases List.mem_append.mp hs' with h | h; exact h; exact absurd (by simpa using h) z)
            exact ⟨l, by rw [getS_put, if_neg z]; exact g1, g2, g3⟩
    · rintro δ ⟨pre, suf, kds, e1, e2, kl, tb, rfl⟩
      cases suf with
      | cons s suf => cases e2
      | nil =>
        rw [List.append_nil] at e1
        rw [← e1] at kl tb
        walk_at "vd"
        refine ⟨p, kds, signsP p, _, 0, rfl, by omega, by omega, fun s h => h, tb, by omega, by omega, fun es kds' he el kl' tb' => ?_⟩
        walk_at "vd"
        have tbm : ∀ s ∈ signsP p, ∃ l : List Str, getS kds' s = some (.lst (l.map .str)) ∧ ∀ t, decide (t ∈ l) = LkP p s t := fun s hs => by
          obtain ⟨l, g1, g2, _⟩ := tb' s hs
          refine ⟨l, g1, fun t => ?_⟩
          rw [Bool.eq_iff_iff, decide_eq_true_eq, g2]; simp
        refine loopD [7] (fun r δ => ∃ pre suf, signsP p = pre ++ suf ∧ r = suf.map .str ∧ δ = [.sc K ns, .fz (.lst ((numsF ns).map .int)), .fz (.lst ((signsF (mixF (ns.getD 0 0) 1)).map .str)), .fz (patD p), .fz (patD p), .fz (.lst ((signsP p).map .str)), .ob false (.dct kds'), .no, .fz (.bl (bareP p)), .fz (.lst ((firstsP p).map .str)), .fz (.lst (es.map .str)), .ob false (.dct (pre.foldl (fun acc s => putS acc s (.lst (((signsP p).filter (LkP p s)).map .str))) [])), .no, .no, .no]) ⟨[], signsP p, rfl, rfl, rfl⟩ ?_ ?_
        · rintro d r δ ⟨pre, suf, e1, e2, rfl⟩
          cases suf with
          | nil => cases e2
          | cons s suf =>
            cases e2
            obtain ⟨l, g1, g2⟩ := tbm s (by rw [e1]; simp)
            have hpl : pre.length < 100 := by have := congrArg List.length e1; simp at this; omega
            walk_at "vd"
            refine compF .str .str (LkP p s) (signsP p) (by omega) (fun z hz Pq hP => ?_) (fun z hz _ Pq hP => ?_) ?_
            · walk_at "vd"
              refine ⟨_, g1, ?_⟩
              walk_at "vd"
              rw [g2]
              exact hP
            · walk_at "vd"
              exact hP
            · walk_at "vd"
              have fl := foldput_len (fun s => .lst (((signsP p).filter (LkP p s)).map .str)) pre []
              simp only [List.length_nil, Nat.zero_add] at fl
              exact ⟨by omega, pre ++ [s], suf, by simp [e1], rfl, by simp⟩
        · rintro δ ⟨pre, suf, e1, e2, rfl⟩
          cases suf with
          | cons s suf => cases e2
          | nil =>
            rw [List.append_nil] at e1
            rw [← e1]
            walk_at "vd"
            refine ⟨p, rfl, by omega, by omega, ?_⟩
            walk_at "vd"
            refine ⟨p, rfl, by omega, by omega, ?_⟩
            walk_at "vd"
            refine ⟨signsP p, rfl, by omega, ?_⟩
            walk_at "vd"
            refine ⟨K, ns, p, es, _, _, _, _, _, false, rfl, he, pn, pe, by omega, by omega, by omega, ?_⟩
            walk_at "vd"
            have ep := eqb_pat p
            have dp := dep_pat p
            obtain ⟨z, r, e⟩ : ∃ (z : D) (r : List D), patD p = .tup (z :: r) := by cases p <;> exact ⟨_, _, rfl⟩
            rw [e] at ep dp ⊢
            simp only [eqb, dep] at ep dp
            exact ⟨_, rfl, rfl, ep, by omega, q⟩
end
open PySem L2 VL PyProof.Rows
@[elab_as_elim] theorem lnS {α : Type _} {P : List α → Prop} {n : Nat} (us : List α) (h : us.length = n + 1) (k : ∀ a r, r.length = n → P (a :: r)) : P us := by
  cases us with
  | nil => cases h
  | cons a r => exact k a r (Nat.succ.inj h)
@[elab_as_elim] theorem ln0 {α : Type _} {P : List α → Prop} (us : List α) (h : us.length = 0) (k : P []) : P us := by
  cases us with
  | nil => exact k
  | cons a r => cases h
@[elab_as_elim] theorem ln1 {α : Type _} {P : List α → Prop} (us : List α) (h : us.length = 1) (k : ∀ a, P [a]) : P us :=
  lnS us h fun a r h => ln0 (P := fun r => P (a :: r)) r h (k a)
@[elab_as_elim] theorem ln2 {α : Type _} {P : List α → Prop} (us : List α) (h : us.length = 2) (k : ∀ a b, P [a, b]) : P us :=
  lnS us h fun a r h => ln1 (P := fun r => P (a :: r)) r h (k a)
@[elab_as_elim] theorem ln3 {α : Type _} {P : List α → Prop} (us : List α) (h : us.length = 3) (k : ∀ a b c, P [a, b, c]) : P us :=
  lnS us h fun a r h => ln2 (P := fun r => P (a :: r)) r h (k a)
@[elab_as_elim] theorem ln4 {α : Type _} {P : List α → Prop} (us : List α) (h : us.length = 4) (k : ∀ a b c d, P [a, b, c, d]) : P us :=
  lnS us h fun a r h => ln3 (P := fun r => P (a :: r)) r h (k a)
set_option maxHeartbeats 0 in
theorem all_mk {K : PySem.W.Frag} {h : Heap} {mg : Str → Option Value}  (X : K.In h) (G : h.Ns mainGlobals mg) {f1 : Addr} {od1 an1 : Option Addr} {sl1 : Array (Option Value)} {oc1 kV1 dc1 pm1 cd1 ct1 : Value} {f2 : Addr} {od2 an2 : Option Addr} {sl2 : Array (Option Value)} {oc2 kV2 dc2 pm2 cd2 ct2 : Value} {f3 : Addr} {od3 an3 : Option Addr} {sl3 : Array (Option Value)} {oc3 kV3 dc3 pm3 cd3 ct3 : Value} {f4 : Addr} {od4 an4 : Option Addr} {sl4 : Array (Option Value)} {oc4 kV4 dc4 pm4 cd4 ct4 : Value} {f5 : Addr} {od5 an5 : Option Addr} {sl5 : Array (Option Value)} {oc5 kV5 dc5 pm5 cd5 ct5 : Value} {f6 : Addr} {od6 an6 : Option Addr} {sl6 : Array (Option Value)} {oc6 kV6 dc6 pm6 cd6 ct6 : Value} {f7 : Addr} {od7 an7 : Option Addr} {sl7 : Array (Option Value)} {oc7 kV7 dc7 pm7 cd7 ct7 : Value} {f8 : Addr} {od8 an8 : Option Addr} {sl8 : Array (Option Value)} {oc8 kV8 dc8 pm8 cd8 ct8 : Value} {f9 : Addr} {od9 an9 : Option Addr} {sl9 : Array (Option Value)} {oc9 kV9 dc9 pm9 cd9 ct9 : Value} {f10 : Addr} {od10 an10 : Option Addr} {sl10 : Array (Option Value)} {oc10 kV10 dc10 pm10 cd10 ct10 : Value} {f11 : Addr} {od11 an11 : Option Addr} {sl11 : Array (Option Value)} {oc11 kV11 dc11 pm11 cd11 ct11 : Value} {f12 : Addr} {od12 an12 : Option Addr} {sl12 : Array (Option Value)} {oc12 kV12 dc12 pm12 cd12 ct12 : Value} {f13 : Addr} {od13 an13 : Option Addr} {sl13 : Array (Option Value)} {oc13 kV13 dc13 pm13 cd13 ct13 : Value} {f14 : Addr} {od14 an14 : Option Addr} {sl14 : Array (Option Value)} {oc14 kV14 dc14 pm14 cd14 ct14 : Value} {f15 : Addr} {od15 an15 : Option Addr} {sl15 : Array (Option Value)} {oc15 kV15 dc15 pm15 cd15 ct15 : Value} {f16 : Addr} {od16 an16 : Option Addr} {sl16 : Array (Option Value)} {oc16 kV16 dc16 pm16 cd16 ct16 : Value} {f17 : Addr} {od17 an17 : Option Addr} {sl17 : Array (Option Value)} {oc17 kV17 dc17 pm17 cd17 ct17 : Value} {f18 : Addr} {od18 an18 : Option Addr} {sl18 : Array (Option Value)} {oc18 kV18 dc18 pm18 cd18 ct18 : Value} {f19 : Addr} {od19 an19 : Option Addr} {sl19 : Array (Option Value)} {oc19 kV19 dc19 pm19 cd19 ct19 : Value} {f20 : Addr} {od20 an20 : Option Addr} {sl20 : Array (Option Value)} {oc20 kV20 dc20 pm20 cd20 ct20 : Value} {f21 : Addr} {od21 an21 : Option Addr} {sl21 : Array (Option Value)} {oc21 kV21 dc21 pm21 cd21 ct21 : Value} {f22 : Addr} {od22 an22 : Option Addr} {sl22 : Array (Option Value)} {oc22 kV22 dc22 pm22 cd22 ct22 : Value}
    (a1 : PySem.W.nsIn K mainGlobals "patterns_within" = some (some (.ref f1))) (l1 : K.lookup f1 = some ⟨oc1, od1, .func (PySem.W.fnOf "patterns_within" "patterns_within" (defArgs s_patterns_within) (defBody s_patterns_within) (defScope s_patterns_within) .none kV1 dc1 pm1 an1 cd1 ct1), sl1⟩) (c1 : PySem.W.codeIn K cd1 "patterns_within" = true) (k1 : PySem.W.keepIn K (.ref f1) = true)
    (a2 : PySem.W.nsIn K mainGlobals "signs" = some (some (.ref f2))) (l2 : K.lookup f2 = some ⟨oc2, od2, .func (PySem.W.fnOf "signs" "signs" (defArgs s_signs) (defBody s_signs) (defScope s_signs) .none kV2 dc2 pm2 an2 cd2 ct2), sl2⟩) (c2 : PySem.W.codeIn K cd2 "signs" = true) (k2 : PySem.W.keepIn K (.ref f2) = true)
    (a3 : PySem.W.nsIn K mainGlobals "bare" = some (some (.ref f3))) (l3 : K.lookup f3 = some ⟨oc3, od3, .func (PySem.W.fnOf "bare" "bare" (defArgs s_bare) (defBody s_bare) (defScope s_bare) .none kV3 dc3 pm3 an3 cd3 ct3), sl3⟩) (c3 : PySem.W.codeIn K cd3 "bare" = true) (k3 : PySem.W.keepIn K (.ref f3) = true)
    (a4 : PySem.W.nsIn K mainGlobals "firsts" = some (some (.ref f4))) (l4 : K.lookup f4 = some ⟨oc4, od4, .func (PySem.W.fnOf "firsts" "firsts" (defArgs s_firsts) (defBody s_firsts) (defScope s_firsts) .none kV4 dc4 pm4 an4 cd4 ct4), sl4⟩) (c4 : PySem.W.codeIn K cd4 "firsts" = true) (k4 : PySem.W.keepIn K (.ref f4) = true)
    (a5 : PySem.W.nsIn K mainGlobals "lasts" = some (some (.ref f5))) (l5 : K.lookup f5 = some ⟨oc5, od5, .func (PySem.W.fnOf "lasts" "lasts" (defArgs s_lasts) (defBody s_lasts) (defScope s_lasts) .none kV5 dc5 pm5 an5 cd5 ct5), sl5⟩) (c5 : PySem.W.codeIn K cd5 "lasts" = true) (k5 : PySem.W.keepIn K (.ref f5) = true)
    (a6 : PySem.W.nsIn K mainGlobals "link" = some (some (.ref f6))) (l6 : K.lookup f6 = some ⟨oc6, od6, .func (PySem.W.fnOf "link" "link" (defArgs s_link) (defBody s_link) (defScope s_link) .none kV6 dc6 pm6 an6 cd6 ct6), sl6⟩) (c6 : PySem.W.codeIn K cd6 "link" = true) (k6 : PySem.W.keepIn K (.ref f6) = true)
    (a7 : PySem.W.nsIn K mainGlobals "link_row" = some (some (.ref f7))) (l7 : K.lookup f7 = some ⟨oc7, od7, .func (PySem.W.fnOf "link_row" "link_row" (defArgs s_link_row) (defBody s_link_row) (defScope s_link_row) .none kV7 dc7 pm7 an7 cd7 ct7), sl7⟩) (c7 : PySem.W.codeIn K cd7 "link_row" = true) (k7 : PySem.W.keepIn K (.ref f7) = true)
    (a8 : PySem.W.nsIn K mainGlobals "link_all" = some (some (.ref f8))) (l8 : K.lookup f8 = some ⟨oc8, od8, .func (PySem.W.fnOf "link_all" "link_all" (defArgs s_link_all) (defBody s_link_all) (defScope s_link_all) .none kV8 dc8 pm8 an8 cd8 ct8), sl8⟩) (c8 : PySem.W.codeIn K cd8 "link_all" = true) (k8 : PySem.W.keepIn K (.ref f8) = true)
    (a9 : PySem.W.nsIn K mainGlobals "nexts" = some (some (.ref f9))) (l9 : K.lookup f9 = some ⟨oc9, od9, .func (PySem.W.fnOf "nexts" "nexts" (defArgs s_nexts) (defBody s_nexts) (defScope s_nexts) .none kV9 dc9 pm9 an9 cd9 ct9), sl9⟩) (c9 : PySem.W.codeIn K cd9 "nexts" = true) (k9 : PySem.W.keepIn K (.ref f9) = true)
    (a10 : PySem.W.nsIn K mainGlobals "_law_cell_at" = some (some (.ref f10))) (l10 : K.lookup f10 = some ⟨oc10, od10, .func (PySem.W.fnOf "_law_cell_at" "_law_cell_at" (defArgs s__law_cell_at) (defBody s__law_cell_at) (defScope s__law_cell_at) .none kV10 dc10 pm10 an10 cd10 ct10), sl10⟩) (c10 : PySem.W.codeIn K cd10 "_law_cell_at" = true) (k10 : PySem.W.keepIn K (.ref f10) = true)
    (a11 : PySem.W.nsIn K mainGlobals "_law_mix" = some (some (.ref f11))) (l11 : K.lookup f11 = some ⟨oc11, od11, .func (PySem.W.fnOf "_law_mix" "_law_mix" (defArgs s__law_mix) (defBody s__law_mix) (defScope s__law_mix) .none kV11 dc11 pm11 an11 cd11 ct11), sl11⟩) (c11 : PySem.W.codeIn K cd11 "_law_mix" = true) (k11 : PySem.W.keepIn K (.ref f11) = true)
    (a12 : PySem.W.nsIn K mainGlobals "_law_texts" = some (some (.ref f12))) (l12 : K.lookup f12 = some ⟨oc12, od12, .func (PySem.W.fnOf "_law_texts" "_law_texts" (defArgs s__law_texts) (defBody s__law_texts) (defScope s__law_texts) .none kV12 dc12 pm12 an12 cd12 ct12), sl12⟩) (c12 : PySem.W.codeIn K cd12 "_law_texts" = true) (k12 : PySem.W.keepIn K (.ref f12) = true)
    (a13 : PySem.W.nsIn K mainGlobals "_law_joined" = some (some (.ref f13))) (l13 : K.lookup f13 = some ⟨oc13, od13, .func (PySem.W.fnOf "_law_joined" "_law_joined" (defArgs s__law_joined) (defBody s__law_joined) (defScope s__law_joined) .none kV13 dc13 pm13 an13 cd13 ct13), sl13⟩) (c13 : PySem.W.codeIn K cd13 "_law_joined" = true) (k13 : PySem.W.keepIn K (.ref f13) = true)
    (a14 : PySem.W.nsIn K mainGlobals "_law_twice" = some (some (.ref f14))) (l14 : K.lookup f14 = some ⟨oc14, od14, .func (PySem.W.fnOf "_law_twice" "_law_twice" (defArgs s__law_twice) (defBody s__law_twice) (defScope s__law_twice) .none kV14 dc14 pm14 an14 cd14 ct14), sl14⟩) (c14 : PySem.W.codeIn K cd14 "_law_twice" = true) (k14 : PySem.W.keepIn K (.ref f14) = true)
    (a15 : PySem.W.nsIn K mainGlobals "_law_pattern" = some (some (.ref f15))) (l15 : K.lookup f15 = some ⟨oc15, od15, .func (PySem.W.fnOf "_law_pattern" "_law_pattern" (defArgs s__law_pattern) (defBody s__law_pattern) (defScope s__law_pattern) .none kV15 dc15 pm15 an15 cd15 ct15), sl15⟩) (c15 : PySem.W.codeIn K cd15 "_law_pattern" = true) (k15 : PySem.W.keepIn K (.ref f15) = true)
    (a16 : PySem.W.nsIn K mainGlobals "_law_drawn_signs" = some (some (.ref f16))) (l16 : K.lookup f16 = some ⟨oc16, od16, .func (PySem.W.fnOf "_law_drawn_signs" "_law_drawn_signs" (defArgs s__law_drawn_signs) (defBody s__law_drawn_signs) (defScope s__law_drawn_signs) .none kV16 dc16 pm16 an16 cd16 ct16), sl16⟩) (c16 : PySem.W.codeIn K cd16 "_law_drawn_signs" = true) (k16 : PySem.W.keepIn K (.ref f16) = true)
    (a17 : PySem.W.nsIn K mainGlobals "_law_lay" = some (some (.ref f17))) (l17 : K.lookup f17 = some ⟨oc17, od17, .func (PySem.W.fnOf "_law_lay" "_law_lay" (defArgs s__law_lay) (defBody s__law_lay) (defScope s__law_lay) .none kV17 dc17 pm17 an17 cd17 ct17), sl17⟩) (c17 : PySem.W.codeIn K cd17 "_law_lay" = true) (k17 : PySem.W.keepIn K (.ref f17) = true)
    (a18 : PySem.W.nsIn K mainGlobals "_law_model" = some (some (.ref f18))) (l18 : K.lookup f18 = some ⟨oc18, od18, .func (PySem.W.fnOf "_law_model" "_law_model" (defArgs s__law_model) (defBody s__law_model) (defScope s__law_model) .none kV18 dc18 pm18 an18 cd18 ct18), sl18⟩) (c18 : PySem.W.codeIn K cd18 "_law_model" = true) (k18 : PySem.W.keepIn K (.ref f18) = true)
    (a19 : PySem.W.nsIn K mainGlobals "_law_signs" = some (some (.ref f19))) (l19 : K.lookup f19 = some ⟨oc19, od19, .func (PySem.W.fnOf "_law_signs" "_law_signs" (defArgs s__law_signs) (defBody s__law_signs) (defScope s__law_signs) .none kV19 dc19 pm19 an19 cd19 ct19), sl19⟩) (c19 : PySem.W.codeIn K cd19 "_law_signs" = true) (k19 : PySem.W.keepIn K (.ref f19) = true)
    (a20 : PySem.W.nsIn K mainGlobals "_law_table" = some (some (.ref f20))) (l20 : K.lookup f20 = some ⟨oc20, od20, .func (PySem.W.fnOf "_law_table" "_law_table" (defArgs s__law_table) (defBody s__law_table) (defScope s__law_table) .none kV20 dc20 pm20 an20 cd20 ct20), sl20⟩) (c20 : PySem.W.codeIn K cd20 "_law_table" = true) (k20 : PySem.W.keepIn K (.ref f20) = true)
    (a21 : PySem.W.nsIn K mainGlobals "_law_draws" = some (some (.ref f21))) (l21 : K.lookup f21 = some ⟨oc21, od21, .func (PySem.W.fnOf "_law_draws" "_law_draws" (defArgs s__law_draws) (defBody s__law_draws) (defScope s__law_draws) .none kV21 dc21 pm21 an21 cd21 ct21), sl21⟩) (c21 : PySem.W.codeIn K cd21 "_law_draws" = true) (k21 : PySem.W.keepIn K (.ref f21) = true)
    (a22 : PySem.W.nsIn K mainGlobals "law" = some (some (.ref f22))) (l22 : K.lookup f22 = some ⟨oc22, od22, .func (PySem.W.fnOf "law" "law" (defArgs s_law) (defBody s_law) (defScope s_law) .none kV22 dc22 pm22 an22 cd22 ct22), sl22⟩) (c22 : PySem.W.codeIn K cd22 "law" = true) (k22 : PySem.W.keepIn K (.ref f22) = true)
    (z_list : PySem.W.nsIn K mainGlobals "list" = some none)
    (z_reversed : PySem.W.nsIn K mainGlobals "reversed" = some none)
    (z_isinstance : PySem.W.nsIn K mainGlobals "isinstance" = some none)
    (z_len : PySem.W.nsIn K mainGlobals "len" = some none)
    (z_bool : PySem.W.nsIn K mainGlobals "bool" = some none)
    (z_range : PySem.W.nsIn K mainGlobals "range" = some none)
    (z_all : PySem.W.nsIn K mainGlobals "all" = some none)
    (z_any : PySem.W.nsIn K mainGlobals "any" = some none)
    (z_sum : PySem.W.nsIn K mainGlobals "sum" = some none)
    (z_zip : PySem.W.nsIn K mainGlobals "zip" = some none)
    (z_int : PySem.W.nsIn K mainGlobals "int" = some none)
    (z_str : PySem.W.nsIn K mainGlobals "str" = some none)
    (z_dict : PySem.W.nsIn K mainGlobals "dict" = some none)
    (kit : KitOk K) (kts : PySem.W.kitOne K (.type "dict") (.type "dict") = some true) :
    AllE K mg ∧ ∃ f fd, Ent K mg "law" s_law ["_law_script"] f fd := by
  have T : Zs K mg := ⟨PySem.W.mg_none_of X G z_list, PySem.W.mg_none_of X G z_reversed, PySem.W.mg_none_of X G z_isinstance, PySem.W.mg_none_of X G z_len, PySem.W.mg_none_of X G z_bool, PySem.W.mg_none_of X G z_range, PySem.W.mg_none_of X G z_all, PySem.W.mg_none_of X G z_any, PySem.W.mg_none_of X G z_sum, PySem.W.mg_none_of X G z_zip, PySem.W.mg_none_of X G z_int, PySem.W.mg_none_of X G z_str, PySem.W.mg_none_of X G z_dict, kit⟩
  exact ⟨⟨T, kts, ent_mk (st := s_patterns_within) (ps := ["pattern"]) X G (fun _ _ _ _ _ _ us hl => ln1 us hl fun _ => rfl) a1 l1 c1 k1, ent_mk (st := s_signs) (ps := ["pattern"]) X G (fun _ _ _ _ _ _ us hl => ln1 us hl fun _ => rfl) a2 l2 c2 k2, ent_mk (st := s_bare) (ps := ["pattern"]) X G (fun _ _ _ _ _ _ us hl => ln1 us hl fun _ => rfl) a3 l3 c3 k3, ent_mk (st := s_firsts) (ps := ["pattern"]) X G (fun _ _ _ _ _ _ us hl => ln1 us hl fun _ => rfl) a4 l4 c4 k4, ent_mk (st := s_lasts) (ps := ["pattern"]) X G (fun _ _ _ _ _ _ us hl => ln1 us hl fun _ => rfl) a5 l5 c5 k5, ent_mk (st := s_link) (ps := ["ends", "begins", "followers"]) X G (fun _ _ _ _ _ _ us hl => ln3 us hl fun _ _ _ => rfl) a6 l6 c6 k6, ent_mk (st := s_link_row) (ps := ["patterns", "followers"]) X G (fun _ _ _ _ _ _ us hl => ln2 us hl fun _ _ => rfl) a7 l7 c7 k7, ent_mk (st := s_link_all) (ps := ["pattern", "followers"]) X G (fun _ _ _ _ _ _ us hl => ln2 us hl fun _ _ => rfl) a8 l8 c8 k8, ent_mk (st := s_nexts) (ps := ["pattern"]) X G (fun _ _ _ _ _ _ us hl => ln1 us hl fun _ => rfl) a9 l9 c9 k9, ent_mk (st := s__law_cell_at) (ps := ["_law_script", "_law_k"]) X G (fun _ _ _ _ _ _ us hl => ln2 us hl fun _ _ => rfl) a10 l10 c10 k10, ent_mk (st := s__law_mix) (ps := ["_law_cell", "_law_turn"]) X G (fun _ _ _ _ _ _ us hl => ln2 us hl fun _ _ => rfl) a11 l11 c11 k11, ent_mk (st := s__law_texts) (ps := ["_law_found", "_law_due"]) X G (fun _ _ _ _ _ _ us hl => ln2 us hl fun _ _ => rfl) a12 l12 c12 k12, ent_mk (st := s__law_joined) (ps := ["_law_kind", "_law_parts"]) X G (fun _ _ _ _ _ _ us hl => ln2 us hl fun _ _ => rfl) a13 l13 c13 k13, ent_mk (st := s__law_twice) (ps := ["_law_pattern_here"]) X G (fun _ _ _ _ _ _ us hl => ln1 us hl fun _ => rfl) a14 l14 c14 k14, ent_mk (st := s__law_pattern) (ps := ["_law_numbers", "_law_pool"]) X G (fun _ _ _ _ _ _ us hl => ln2 us hl fun _ _ => rfl) a15 l15 c15 k15, ent_mk (st := s__law_drawn_signs) (ps := ["_law_number"]) X G (fun _ _ _ _ _ _ us hl => ln1 us hl fun _ => rfl) a16 l16 c16 k16, ent_mk (st := s__law_lay) (ps := ["_law_table_here", "_law_heads", "_law_tails"]) X G (fun _ _ _ _ _ _ us hl => ln3 us hl fun _ _ _ => rfl) a17 l17 c17 k17, ent_mk (st := s__law_model) (ps := ["_law_pattern_here", "_law_table_here"]) X G (fun _ _ _ _ _ _ us hl => ln2 us hl fun _ _ => rfl) a18 l18 c18 k18, ent_mk (st := s__law_signs) (ps := ["_law_pattern_here"]) X G (fun _ _ _ _ _ _ us hl => ln1 us hl fun _ => rfl) a19 l19 c19 k19, ent_mk (st := s__law_table) (ps := ["_law_found", "_law_due"]) X G (fun _ _ _ _ _ _ us hl => ln2 us hl fun _ _ => rfl) a20 l20 c20 k20, ent_mk (st := s__law_draws) (ps := ["_law_script", "_law_turn", "_law_many"]) X G (fun _ _ _ _ _ _ us hl => ln3 us hl fun _ _ _ => rfl) a21 l21 c21 k21⟩, ent_mk (st := s_law) (ps := ["_law_script"]) X G (fun _ _ _ _ _ _ us hl => ln1 us hl fun _ => rfl) a22 l22 c22 k22⟩
theorem law_fn {l : PySem.W.OpenLaw} {w : World} {K : PySem.W.Frag} {mg : Str → Option Value} {fa : Addr} (Z : AllE K mg ∧ ∃ f fd, Ent K mg "law" s_law ["_law_script"] f fd) (hmg : mg "law" = some (.ref fa)) :
    ∃ fd : FuncData, (∀ (s : Shared) (u : Value), BindsTo s fd ⟨[u], []⟩ [("_law_script", u)]) ∧ ∀ base : Heap, K.In base → base.Ns mainGlobals mg → FnOk l.prog w K mg base CX0 60 fa fd ["_law_script"] (spD (R_law K)) := by
  obtain ⟨L, f, fd, E⟩ := Z
  have e := hmg.symm.trans E.g
  cases e
  obtain ⟨oc, od, kV, doc, pm, an, cdv, ct, osl, rfl, lk, hcd⟩ := E.F.ex
  exact ⟨_, fun s u => .of_eq rfl, fun base _ _ => ok_law E L⟩
theorem law_sp {K : PySem.W.Frag} {H : Hp} {a : Addr} {ns : List Int} {E : XK} (hS : SqL K H a (ns.map V.int)) : spD (R_law K) [.ref a] H (fun v _ => v = .bl true) E := by
  refine ⟨none, [none], H, [.sc K ns], fun b d _ => d = .bl true, fun p a e => by cases p <;> simp at e, (argsEI (ds := []) (vs := []) (Same.refl _) rfl).push (s := .sc K ns) (v := .ref a) ⟨a, rfl, hS⟩ (fun b c a e => by cases e), ⟨ns, rfl, rfl⟩, fun b d v δ' F' H' I q => ?_⟩
  obtain ⟨F2, s, I2, rv⟩ := I.fr
  cases q
  exact rv
end K04
open PySem PySem.W PyProof.Rows
set_option maxRecDepth 100000 in
set_option maxHeartbeats 0 in
theorem PySem.Challenge.cw_formferry_k03_steps_of_patterns_holds : PySem.Challenge.rw_formferry_k03_steps_of_patterns.Holds := by
  w_on; o_law; k_head; (case hw => w_witness2)
  k_fill
  refine L2.walk_ofK (l := PySem.Challenge.rw_formferry_k03_steps_of_patterns) (n := 63) (k := 60) (x := "_law_script") (CX := L2.CX0) (sp := fun K => VL.spD (K04.R_law K)) rfl (by decide) rfl ⟨rfl, by decide, by decide⟩ (fun w h Y => PySem.W.kIn_of Y) ?F (fun K H a ns hl hO hS => K04.law_sp hS) (fun _ _ _ _ z => z)
  case F =>
    intro w mg fa h KX G hmg
    have Z := by
      refine' K04.all_mk KX G ?a1 ?l1 ?c1 ?k1 ?a2 ?l2 ?c2 ?k2 ?a3 ?l3 ?c3 ?k3 ?a4 ?l4 ?c4 ?k4 ?a5 ?l5 ?c5 ?k5 ?a6 ?l6 ?c6 ?k6 ?a7 ?l7 ?c7 ?k7 ?a8 ?l8 ?c8 ?k8 ?a9 ?l9 ?c9 ?k9 ?a10 ?l10 ?c10 ?k10 ?a11 ?l11 ?c11 ?k11 ?a12 ?l12 ?c12 ?k12 ?a13 ?l13 ?c13 ?k13 ?a14 ?l14 ?c14 ?k14 ?a15 ?l15 ?c15 ?k15 ?a16 ?l16 ?c16 ?k16 ?a17 ?l17 ?c17 ?k17 ?a18 ?l18 ?c18 ?k18 ?a19 ?l19 ?c19 ?k19 ?a20 ?l20 ?c20 ?k20 ?a21 ?l21 ?c21 ?k21 ?a22 ?l22 ?c22 ?k22 ?z_list ?z_reversed ?z_isinstance ?z_len ?z_bool ?z_range ?z_all ?z_any ?z_sum ?z_zip ?z_int ?z_str ?z_dict ?kit ?kts
      (case a1 => k_is)
      (case l1 => k_is)
      (case c1 => k_is)
      (case k1 => k_is)
      (case a2 => k_is)
      (case l2 => k_is)
      (case c2 => k_is)
      (case k2 => k_is)
      (case a3 => k_is)
      (case l3 => k_is)
      (case c3 => k_is)
      (case k3 => k_is)
      (case a4 => k_is)
      (case l4 => k_is)
      (case c4 => k_is)
      (case k4 => k_is)
      (case a5 => k_is)
      (case l5 => k_is)
      (case c5 => k_is)
      (case k5 => k_is)
      (case a6 => k_is)
      (case l6 => k_is)
      (case c6 => k_is)
      (case k6 => k_is)
      (case a7 => k_is)
      (case l7 => k_is)
      (case c7 => k_is)
      (case k7 => k_is)
      (case a8 => k_is)
      (case l8 => k_is)
      (case c8 => k_is)
      (case k8 => k_is)
      (case a9 => k_is)
      (case l9 => k_is)
      (case c9 => k_is)
      (case k9 => k_is)
      (case a10 => k_is)
      (case l10 => k_is)
      (case c10 => k_is)
      (case k10 => k_is)
      (case a11 => k_is)
      (case l11 => k_is)
      (case c11 => k_is)
      (case k11 => k_is)
      (case a12 => k_is)
      (case l12 => k_is)
      (case c12 => k_is)
      (case k12 => k_is)
      (case a13 => k_is)
      (case l13 => k_is)
      (case c13 => k_is)
      (case k13 => k_is)
      (case a14 => k_is)
      (case l14 => k_is)
      (case c14 => k_is)
      (case k14 => k_is)
      (case a15 => k_is)
      (case l15 => k_is)
      (case c15 => k_is)
      (case k15 => k_is)
      (case a16 => k_is)
      (case l16 => k_is)
      (case c16 => k_is)
      (case k16 => k_is)
      (case a17 => k_is)
      (case l17 => k_is)
      (case c17 => k_is)
      (case k17 => k_is)
      (case a18 => k_is)
      (case l18 => k_is)
      (case c18 => k_is)
      (case k18 => k_is)
      (case a19 => k_is)
      (case l19 => k_is)
      (case c19 => k_is)
      (case k19 => k_is)
      (case a20 => k_is)
      (case l20 => k_is)
      (case c20 => k_is)
      (case k20 => k_is)
      (case a21 => k_is)
      (case l21 => k_is)
      (case c21 => k_is)
      (case k21 => k_is)
      (case a22 => k_is)
      (case l22 => k_is)
      (case c22 => k_is)
      (case k22 => k_is)
      (case z_list => k_is)
      (case z_reversed => k_is)
      (case z_isinstance => k_is)
      (case z_len => k_is)
      (case z_bool => k_is)
      (case z_range => k_is)
      (case z_all => k_is)
      (case z_any => k_is)
      (case z_sum => k_is)
      (case z_zip => k_is)
      (case z_int => k_is)
      (case z_str => k_is)
      (case z_dict => k_is)
      (case kit =>
        intro t ht T hT
        simp only [List.mem_cons, List.not_mem_nil, or_false] at ht hT
        rcases ht with rfl | rfl | rfl | rfl | rfl | rfl | rfl <;> rcases hT with rfl | rfl | rfl | rfl | rfl | rfl <;> rfl)
      (case kts => rfl)
    exact K04.law_fn Z hmg
#print axioms PySem.Challenge.cw_formferry_k03_steps_of_patterns_holds

