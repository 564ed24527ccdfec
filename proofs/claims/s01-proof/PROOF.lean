import PyProof.Rows.All
import Wide.All
import OpenK.AllK
import Wide.FinOn
import PyProof.EqAt
import PyProof.EqKinds
import PyProof.TupleCall
import KE.BitLaws
import Open.SpecLaws
import KE.OsHead
import KE.OsGo
import KE.KDictSum
import PySem.Challenge.RW_fundsjoined_s01_answers
section
set_option Elab.async false
set_option linter.all false
set_option maxRecDepth 100000
namespace L2
open PySem PySem.Spec PyProof.Rows
abbrev Key := Sum Int Str
def keyIs : Key → Value → Bool
  | .inl k, v => Value.isInt k v
  | .inr x, v => Value.isStrOf x v
def keyH (w : World) : Key → Int
  | .inl k => hashInt k
  | .inr x => hashStr w x
theorem keyIs_shape : ∀ {k : Key} {v : Value}, keyIs k v = true → (∃ i t, k = Sum.inl i ∧ v = Value.int i t) ∨ (∃ x t, k = Sum.inr x ∧ v = Value.str x t)
  | .inl i, v, h => by
    obtain ⟨t, e⟩ := Value.isInt_shape (k := i) (v := v) h
    exact .inl ⟨i, t, rfl, e⟩
  | .inr x, v, h => by
    obtain ⟨t, e⟩ := Value.isStrOf_shape (x := x) (v := v) h
    exact .inr ⟨x, t, rfl, e⟩
theorem keyIs_int (i : Int) (t : Tok) : keyIs (.inl i) (.int i t) = true := by simp [keyIs, Value.isInt]
theorem keyIs_str (x : Str) (t : Tok) : keyIs (.inr x) (.str x t) = true := by simp [keyIs, Value.isStrOf]
theorem key_ll (a b : Int) : decide ((Sum.inl a : Key) = Sum.inl b) = (a == b) := by
  by_cases e : a = b
  · subst e; simp
  · have h : ¬ (Sum.inl a : Key) = Sum.inl b := fun q => e (Sum.inl.inj q)
    rw [decide_eq_false h]
    exact (beq_eq_false_iff_ne.mpr e).symm
theorem key_rr (a b : Str) : decide ((Sum.inr a : Key) = Sum.inr b) = decide (a = b) := by
  by_cases e : a = b
  · subst e; simp
  · have h : ¬ (Sum.inr a : Key) = Sum.inr b := fun q => e (Sum.inr.inj q)
    rw [decide_eq_false h, decide_eq_false e]
theorem key_lr (a : Int) (b : Str) : decide ((Sum.inl a : Key) = Sum.inr b) = false := decide_eq_false (fun q => nomatch q)
theorem key_rl (a : Str) (b : Int) : decide ((Sum.inr a : Key) = Sum.inl b) = false := decide_eq_false (fun q => nomatch q)
def mixKind (prog : Program) (w : World) : PySem.KeyKind prog w Key where
  is := keyIs
  hash := keyH w
  inj := fun v a b ha hb => by
    rcases keyIs_shape ha with ⟨i, t, rfl, rfl⟩ | ⟨x, t, rfl, rfl⟩
    · rcases keyIs_shape hb with ⟨j, u, rfl, e⟩ | ⟨y, u, rfl, e⟩
      · injection e with e1 _; rw [e1]
      · exact nomatch e
    · rcases keyIs_shape hb with ⟨j, u, rfl, e⟩ | ⟨y, u, rfl, e⟩
      · exact nomatch e
      · injection e with e1 _; rw [e1]
  byValue := fun k v h => by
    rcases keyIs_shape h with ⟨i, t, rfl, rfl⟩ | ⟨x, t, rfl, rfl⟩ <;> rfl
  pyHash := fun hv h => by
    rcases keyIs_shape hv with ⟨i, t, rfl, rfl⟩ | ⟨x, t, rfl, rfl⟩
    · exact wpAny_pyHash_int h
    · exact wpAny_pyHash_str h
  eqBool := fun hu hv h => by
    rcases keyIs_shape hu with ⟨i, t, rfl, rfl⟩ | ⟨x, t, rfl, rfl⟩
    · rcases keyIs_shape hv with ⟨j, u, rfl, rfl⟩ | ⟨y, u, rfl, rfl⟩
      · rw [key_ll] at h; exact wpAny_eqBool_int h
      · rw [key_lr] at h; exact SeqAt.EqAt.int_str i t y u _ _ _ _ h
    · rcases keyIs_shape hv with ⟨j, u, rfl, rfl⟩ | ⟨y, u, rfl, rfl⟩
      · rw [key_rl] at h; exact SeqAt.EqAt.str_int x t j u _ _ _ _ h
      · rw [key_rr] at h; exact wpAny_eqBool_str h
  «strs» := fun k x t v h => by
    rcases keyIs_shape h with ⟨i, u, rfl, e⟩ | ⟨y, u, rfl, e⟩
    · exact nomatch e
    · injection e with e1 _
      subst e1
      cases v <;> rfl
theorem mixKind_int (prog : Program) (w : World) (i : Int) (t : Tok) : (mixKind prog w).is (.inl i) (.int i t) = true := keyIs_int i t
theorem mixKind_str (prog : Program) (w : World) (x : Str) (t : Tok) : (mixKind prog w).is (.inr x) (.str x t) = true := keyIs_str x t
end L2
namespace L2
open PySem PySem.Spec PyProof.Rows
inductive V where
  | non | bl (b : Bool) | int (i : Int) | str (x : Str) | byt (b : Array UInt8) | flt (b : UInt64) | ref (a : Addr) | ty (n : String)
  deriving DecidableEq
def RelV : V → Value → Prop
  | .non, u => u = Value.none
  | .bl b, u => u = Value.bool b
  | .int i, u => ∃ t, u = Value.int i t
  | .str x, u => ∃ t, u = Value.str x t
  | .byt b, u => ∃ t, u = Value.bytes b t
  | .flt b, u => ∃ t, u = Value.float b t
  | .ref a, u => u = Value.ref a
  | .ty n, u => u = Value.type n
abbrev Vals : List V → List Value → Prop := Paired RelV
theorem Vals.length {xs : List V} {us : List Value} (r : Vals xs us) : xs.length = us.length := Paired.length r
theorem Vals.get : ∀ {xs : List V} {us : List Value} {i : Nat} {x : V}, Vals xs us → xs[i]? = some x → ∃ u, us[i]? = some u ∧ RelV x u
  | _, _, _, _, .nil, e => by simp at e
  | _, _, 0, _, .cons r _, e => by simp at e; subst e; exact ⟨_, rfl, r⟩
  | _, _, i + 1, x, .cons _ t, e => by
    obtain ⟨u, h1, h2⟩ := Vals.get (i := i) (x := x) t (by simpa using e)
    exact ⟨u, by simpa using h1, h2⟩
theorem Vals.set {x : V} {u : Value} (r : RelV x u) : ∀ {xs : List V} {us : List Value} (i : Nat), Vals xs us → Vals (xs.set i x) (us.set i u)
  | _, _, _, .nil => .nil
  | _, _, 0, .cons _ t => .cons r t
  | _, _, i + 1, .cons q t => .cons q (Vals.set r i t)
theorem Vals.append : ∀ {xs ys : List V} {us ws : List Value}, Vals xs us → Vals ys ws → Vals (xs ++ ys) (us ++ ws)
  | _, _, _, _, .nil, s => s
  | _, _, _, _, .cons r t, s => .cons r (Vals.append t s)
theorem Vals.take : ∀ {xs : List V} {us : List Value} (n : Nat), Vals xs us → Vals (xs.take n) (us.take n)
  | _, _, 0, _ => .nil
  | _, _, _ + 1, .nil => .nil
  | _, _, n + 1, .cons r t => .cons r (Vals.take n t)
theorem Vals.drop : ∀ {xs : List V} {us : List Value} (n : Nat), Vals xs us → Vals (xs.drop n) (us.drop n)
  | _, _, 0, r => r
  | _, _, _ + 1, .nil => .nil
  | _, _, n + 1, .cons _ t => Vals.drop n t
def RelO : Option V → Option Value → Prop
  | some v, some u => RelV v u
  | none, none => True
  | _, _ => False
def KV {κ : Type} : List (κ × V) → List (κ × Value) → Prop := Paired fun (p : κ × V) (q : κ × Value) => p.1 = q.1 ∧ RelV p.2 q.2
def kV : Key → V
  | .inl i => .int i
  | .inr x => .str x
inductive HO where
  | lst (xs : List V)
  | tup (xs : List V)
  | dK (kvs : List (Key × V)) | dT (kvs : List (List Key × V))
  | set (S : Int → Bool) (n : Nat)
  | ins (C dx : Addr) (fs : List (Str × V))
  | own (x : Addr)
  | xd (fs : List (Str × V))
  | met (f x : Addr)
  | rng (lo hi : Int)
  | frz (o : Obj) (u : HO)
  | tbl (ps : Array Value)
  | ext (φ : Heap → Prop)
abbrev Hp := Addr → Option HO
def upd (H : Hp) (a : Addr) (o : HO) : Hp := fun b => if b = a then some o else H b
theorem upd_same {H : Hp} {a : Addr} {o : HO} : upd H a o a = some o := by unfold upd; rw [if_pos rfl]
theorem upd_ne {H : Hp} {a b : Addr} {o : HO} (h : b ≠ a) : upd H a o b = H b := by unfold upd; rw [if_neg h]
theorem upd_upd {H : Hp} {a : Addr} {o u : HO} : upd (upd H a o) a u = upd H a u := by
  funext b; unfold upd; split <;> rfl
theorem ne_of {H : Hp} {a b : Addr} {o u : HO} (h : H a = some o) (h' : H b = some u) (d : o ≠ u) : a ≠ b := by
  intro e; subst e; rw [h] at h'; exact d (Option.some.inj h')
theorem ne_of_none {H : Hp} {a b : Addr} {o : HO} (h : H a = some o) (h' : H b = none) : a ≠ b := by
  intro e; subst e; rw [h] at h'; cases h'
section
variable (P : Program) (w : World)
def ObjOk (H : Hp) (h : Heap) (a : Addr) : HO → Prop
  | .lst xs => xs.length ≤ sizeLine ∧ ∃ (its : List Value) (n : Nat), Vals xs its ∧ h.get? a = some { cls := .type "list", data := .seq its.toArray n }
  | .tup xs => xs.length ≤ sizeLine ∧ ∃ its : List Value, Vals xs its ∧ IsTup h a its.toArray
  | .dK kvs => kvs.length ≤ sizeLine ∧ (a == sysModules) = false ∧ ∃ vs, KV kvs vs ∧ h.DictOf (mixKind P w) a vs
  | .dT kvs => kvs.length ≤ sizeLine ∧ (a == sysModules) = false ∧ ∃ xs : List (List Key × Addr × Value),
      Paired (fun (p : List Key × V) (q : List Key × Addr × Value) => p.1 = q.1 ∧ H q.2.1 = some (.tup (p.1.map kV)) ∧ RelV p.2 q.2.2) kvs xs ∧
      ∃ o es ep, h.get? a = some o ∧ o.ExactDict ∧ o.data = .dict es ep ∧ es.toList = xs.map (entryOfKey (tupleKind (mixKind P w))) ∧ (xs.map (·.1)).Nodup
  | .set S n => h.SetOf (intKind P w) a S n
  | .ins C dx fs => H dx = some (.own a) ∧ fs.length ≤ 1000 ∧ dx ≠ a ∧ h.get? a = some (PySem.W.instObj C dx) ∧
      ∃ mA, h.Ns1 dx mA ∧ (∀ f, RelO (fs.lookup f) (mA f)) ∧ PySem.Within mA (fs.map (·.1))
  | .own _ => ∃ o, h.get? a = some o
  | .xd fs => ∃ mA, h.Ns1 a mA ∧ ∀ f, RelO (fs.lookup f) (mA f)
  | .rng lo hi => ∃ t u v, h.get? a = some { cls := .type "range", data := .fields #[.int lo t, .int hi u, .int 1 v] }
  | .frz o u => h.get? a = some o ∧ ObjOk H h a u
  | .tbl ps => h.get? a = some { cls := .none, data := .fields ps }
  | .met f x => h.get? a = some (PySem.W.methodObj (.ref f) (.ref x))
  | .ext φ => φ h ∧ (∃ o, h.get? a = some o) ∧ ∀ h1 h2 : Heap, φ h1 → (∀ o, h1.get? a = some o → h2.get? a = some o) → φ h2
def HOk (H : Hp) (h : Heap) : Prop := ∀ a o, H a = some o → ObjOk P w H h a o
end
section
variable {P : Program} {w : World} {H H' : Hp} {h h' : Heap} {a : Addr} {o : HO}
theorem ObjOk.lt (x : ObjOk P w H h a o) : a < h.objs.size := by
  cases o with
  | lst xs => obtain ⟨_, _, _, _, e⟩ := x; exact Heap.lt_size e
  | tup xs => obtain ⟨_, _, _, p⟩ := x; exact p.lt
  | dK kvs => obtain ⟨_, _, _, _, o, _, _, e, _⟩ := x; exact Heap.lt_size e
  | dT kvs => obtain ⟨_, _, _, _, o, _, _, e, _⟩ := x; exact Heap.lt_size e
  | set S n => obtain ⟨o, _, _, _, e, _⟩ := x; exact Heap.lt_size e
  | ins C dx fs => obtain ⟨_, _, _, e, _⟩ := x; exact Heap.lt_size e
  | own y => obtain ⟨_, e⟩ := x; exact Heap.lt_size e
  | xd fs => obtain ⟨_, ⟨_, _, _, e, _⟩, _⟩ := x; exact Heap.lt_size e
  | rng lo hi => obtain ⟨_, _, _, e⟩ := x; exact Heap.lt_size e
  | frz ob u => obtain ⟨e, _⟩ := x; exact Heap.lt_size e
  | tbl ps => exact Heap.lt_size (show h.get? a = some _ from x)
  | met f y => exact Heap.lt_size (show h.get? a = some _ from x)
  | ext φ => obtain ⟨_, ⟨_, e⟩, _⟩ := x; exact Heap.lt_size e
theorem Paired.mapP {α β : Type} {F G : α → β → Prop} : ∀ {l₁ : List α} {l₂ : List β}, Paired F l₁ l₂ → (∀ a b, F a b → G a b) → Paired G l₁ l₂
  | _, _, .nil, _ => .nil
  | _, _, .cons r t, f => .cons (f _ _ r) (Paired.mapP t f)
theorem ObjOk.stay (x : ObjOk P w H h a o) (k : ∀ b u, (b = a ∨ H b = some (.own a)) → h.get? b = some u → h'.get? b = some u)
    (ho : ∀ b, H b = some (.own a) → H' b = some (.own a)) (ht : ∀ b xs, H b = some (.tup xs) → H' b = some (.tup xs)) : ObjOk P w H' h' a o := by
  induction o with
  | lst xs => obtain ⟨z, its, n, r, e⟩ := x; exact ⟨z, its, n, r, k _ _ (.inl rfl) e⟩
  | tup xs => obtain ⟨z, its, r, ob, e, c⟩ := x; exact ⟨z, its, r, ob, k _ _ (.inl rfl) e, c⟩
  | dK kvs => obtain ⟨z, y, vs, r, ob, es, ep, e, c⟩ := x; exact ⟨z, y, vs, r, ob, es, ep, k _ _ (.inl rfl) e, c⟩
  | dT kvs =>
    obtain ⟨z, y, xs, r, ob, es, ep, e, c⟩ := x
    exact ⟨z, y, xs, Paired.mapP r fun p q z => ⟨z.1, ht _ _ z.2.1, z.2.2⟩, ob, es, ep, k _ _ (.inl rfl) e, c⟩
  | set S n => obtain ⟨ob, es, ep, t, e, c⟩ := x; exact ⟨ob, es, ep, t, k _ _ (.inl rfl) e, c⟩
  | ins C dx fs =>
    obtain ⟨d, z, ne, e, mA, ⟨od, es, ep, e2, c⟩, r⟩ := x
    exact ⟨ho _ d, z, ne, k _ _ (.inl rfl) e, mA, ⟨od, es, ep, k _ _ (.inr d) e2, c⟩, r⟩
  | own y => obtain ⟨ob, e⟩ := x; exact ⟨ob, k _ _ (.inl rfl) e⟩
  | xd fs => obtain ⟨mA, ⟨od, es, ep, e, c⟩, r⟩ := x; exact ⟨mA, ⟨od, es, ep, k _ _ (.inl rfl) e, c⟩, r⟩
  | rng lo hi => obtain ⟨t, u, v, e⟩ := x; exact ⟨t, u, v, k _ _ (.inl rfl) e⟩
  | frz ob u ih => obtain ⟨e, q⟩ := x; exact ⟨k _ _ (.inl rfl) e, ih q⟩
  | tbl ps =>
    have e : h.get? a = some { cls := .none, data := .fields ps } := x
    show h'.get? a = some { cls := .none, data := .fields ps }
    exact k a _ (.inl rfl) e
  | met f y =>
    have e : h.get? a = some (PySem.W.methodObj (.ref f) (.ref y)) := x
    show h'.get? a = some (PySem.W.methodObj (.ref f) (.ref y))
    exact k a _ (.inl rfl) e
  | ext φ => obtain ⟨p, ⟨o, e⟩, st⟩ := x; exact ⟨st _ _ p fun o q => k _ _ (.inl rfl) q, ⟨o, k _ _ (.inl rfl) e⟩, st⟩
theorem HOk.lt (x : HOk P w H h) (e : H a = some o) : a < h.objs.size := (x a o e).lt
theorem HOk.fresh (x : HOk P w H h) (e : h.objs.size ≤ a) : H a = none := by
  cases q : H a with
  | none => rfl
  | some u => exact absurd (Nat.lt_of_lt_of_le (x.lt q) e) (Nat.lt_irrefl _)
theorem HOk.kept (x : HOk P w H h) (k : ∀ b u, h.get? b = some u → h'.get? b = some u) : HOk P w H h' := fun a o e =>
  (x a o e).stay (fun b u _ q => k b u q) (fun _ q => q) fun _ _ q => q
theorem HOk.laid (x : HOk P w H h) (k : ∀ b u, h.get? b = some u → h'.get? b = some u) (hp : h.objs.size ≤ a) (new : ObjOk P w (upd H a o) h' a o) : HOk P w (upd H a o) h' := fun b u e => by
  have hn := x.fresh hp
  by_cases hb : b = a
  · subst hb; rw [upd_same] at e; cases e; exact new
  · rw [upd_ne hb] at e
    exact (x b u e).stay (fun c v _ q => k c v q) (fun c q => by rw [upd_ne (ne_of_none q hn)]; exact q) fun c xs q => by rw [upd_ne (ne_of_none q hn)]; exact q
end
def Rd (H : Hp) (a : Addr) (u : HO) : Prop := H a = some u ∨ ∃ o, H a = some (.frz o u)
theorem Rd.of {H : Hp} {a : Addr} {u : HO} (h : H a = some u) : Rd H a u := .inl h
theorem Rd.ok {P : Program} {w : World} {H : Hp} {h : Heap} {a : Addr} {u : HO} (r : Rd H a u) (x : HOk P w H h) : ObjOk P w H h a u := by
  rcases r with r | ⟨o, r⟩
  · exact x a u r
  · obtain ⟨_, q⟩ := x a _ r
    exact q
def Mut : Option HO → Prop
  | some (.lst _) => True
  | some (.dK _) => True
  | some (.dT _) => True
  | some (.set _ _) => True
  | some (.ins _ _ _) => True
  | some (.ext _) => True
  | _ => False
section
variable {P : Program} {w : World} {H : Hp} {h h' : Heap} {x e : Addr} {o' : HO}
theorem HOk.write (ok : HOk P w H h) (mu : Mut (H x)) (he : e = x ∨ H e = some (.own x)) (k : ∀ b u, b ≠ e → h.get? b = some u → h'.get? b = some u) (heo : ∃ u, h'.get? e = some u)
    (new : ObjOk P w (upd H x o') h' x o') : HOk P w (upd H x o') h' := fun b u q => by
  have nown : ∀ c y, H c = some (.own y) → c ≠ x := fun c y r z => by subst z; rw [r] at mu; exact mu
  have ntup : ∀ c xs, H c = some (.tup xs) → c ≠ x := fun c xs r z => by subst z; rw [r] at mu; exact mu
  by_cases hb : b = x
  · subst hb; rw [upd_same] at q; cases q; exact new
  · rw [upd_ne hb] at q
    by_cases hbe : b = e
    · have q' : H b = some (.own x) := by
        rcases he with z | z
        · exact absurd (hbe.trans z) hb
        · rw [hbe]; exact z
      rw [q] at q'; cases q'
      obtain ⟨v, hv⟩ := heo
      exact ⟨v, by rw [hbe]; exact hv⟩
    · refine (ok b u q).stay (fun c v hc r => k c v ?_ r) (fun c r => by rw [upd_ne (nown c b r)]; exact r) fun c xs r => by rw [upd_ne (ntup c xs r)]; exact r
      rcases hc with rfl | hc
      · exact hbe
      · rintro rfl
        rcases he with z | z
        · exact nown c b hc z
        · rw [hc] at z; cases z; exact hb rfl
end
structure Un (fs ex : List Addr) (H H' : Hp) (h h' : Heap) : Prop where
  keep : ∀ b o, h.get? b = some o → H b = none → b ∉ fs → b ∉ ex → h'.get? b = some o
  slot : ∀ b o, h.get? b = some o → H b = none → b ∈ fs → b ∉ ex → ∃ sl, h'.get? b = some { o with slots := sl }
  free : ∀ b o, h.get? b = some o → H b = none → b ∉ ex → H' b = none
  there : ∀ b o, h.get? b = some o → b ∉ ex → ∃ o', h'.get? b = some o'
  tups : ∀ b xs, H b = some (.tup xs) → H' b = some (.tup xs)
  frzs : ∀ b o u, H b = some (.frz o u) → H' b = some (.frz o u)
  tbls : ∀ b ps, H b = some (.tbl ps) → ∃ more, H' b = some (.tbl (ps ++ more))
section
variable {fs fs' ex ex' : List Addr} {H H1 H2 : Hp} {h h1 h2 h' : Heap} {a x e : Addr} {o : HO}
theorem Un.any (u : Un fs ex H H1 h h1) {b : Addr} {ob : Obj} (q : h.get? b = some ob) (n : H b = none) (hx : b ∉ ex) : ∃ sl, h1.get? b = some { ob with slots := sl } := by
  by_cases hb : b ∈ fs
  · exact u.slot b ob q n hb hx
  · exact ⟨ob.slots, u.keep b ob q n hb hx⟩
theorem Un.trans (a : Un fs ex H H1 h h1) (b : Un fs ex H1 H2 h1 h2) : Un fs ex H H2 h h2 where
  keep := fun c ob q n hc hx => b.keep c ob (a.keep c ob q n hc hx) (a.free c ob q n hx) hc hx
  slot := fun c ob q n hc hx => by
    obtain ⟨sl, e1⟩ := a.slot c ob q n hc hx
    obtain ⟨sl', e2⟩ := b.slot c _ e1 (a.free c ob q n hx) hc hx
    exact ⟨sl', e2⟩
  free := fun c ob q n hx => by
    obtain ⟨o', e1⟩ := a.there c ob q hx
    exact b.free c o' e1 (a.free c ob q n hx) hx
  there := fun c ob q hx => by
    obtain ⟨o', e1⟩ := a.there c ob q hx
    exact b.there c o' e1 hx
  tups := fun c xs q => b.tups c xs (a.tups c xs q)
  frzs := fun c ob xs q => b.frzs c ob xs (a.frzs c ob xs q)
  tbls := fun c ps q => by
    obtain ⟨m1, e1⟩ := a.tbls c ps q
    obtain ⟨m2, e2⟩ := b.tbls c _ e1
    exact ⟨m1 ++ m2, by rw [e2, Array.append_assoc]⟩
theorem Un.kept (k : ∀ b u, h.get? b = some u → h'.get? b = some u) : Un fs ex H H h h' :=
  ⟨fun b ob q _ _ _ => k b ob q, fun b ob q _ _ _ => ⟨ob.slots, k b ob q⟩, fun _ _ _ n _ => n, fun b ob q _ => ⟨ob, k b ob q⟩, fun _ _ q => q, fun _ _ _ q => q, fun _ ps q => ⟨#[], by rw [q]; simp⟩⟩
theorem Un.refl : Un fs ex H H h h := Un.kept fun _ _ q => q
theorem Un.laid (k : ∀ b u, h.get? b = some u → h'.get? b = some u) (hp : h.objs.size ≤ a) (hn : H a = none) : Un fs ex H (upd H a o) h h' where
  keep := fun b u q _ _ _ => k b u q
  slot := fun b u q _ _ _ => ⟨u.slots, k b u q⟩
  free := fun b u q n _ => by rw [upd_ne (Nat.ne_of_lt (Nat.lt_of_lt_of_le (Heap.lt_size q) hp))]; exact n
  there := fun b u q _ => ⟨u, k b u q⟩
  tups := fun b xs q => by rw [upd_ne (ne_of_none q hn)]; exact q
  frzs := fun b u xs q => by rw [upd_ne (ne_of_none q hn)]; exact q
  tbls := fun b ps q => ⟨#[], by rw [upd_ne (ne_of_none q hn), q]; simp⟩
theorem Un.write (mu : Mut (H x)) (he : e = x ∨ H e = some (.own x)) (k : ∀ b u, b ≠ e → h.get? b = some u → h'.get? b = some u) (heo : ∃ u, h'.get? e = some u) : Un fs ex H (upd H x o) h h' := by
  have hx : ∀ b, H b = none → b ≠ x := fun b n z => by subst z; rw [n] at mu; exact mu
  have hb : ∀ b, H b = none → b ≠ e := fun b n z => by
    subst z
    rcases he with r | r
    · exact hx b n r
    · rw [n] at r; cases r
  have hm : ∀ b u, H b = some u → ¬ Mut (some u) → b ≠ x := fun b u q nm z => by subst z; rw [q] at mu; exact nm mu
  refine ⟨fun b u q n _ _ => k b u (hb b n) q, fun b u q n _ _ => ⟨u.slots, k b u (hb b n) q⟩, fun b u q n _ => by rw [upd_ne (hx b n)]; exact n, fun b u q _ => ?_,
    fun b xs q => by rw [upd_ne (hm b _ q fun z => z)]; exact q, fun b u xs q => by rw [upd_ne (hm b _ q fun z => z)]; exact q, fun b ps q => ⟨#[], by rw [upd_ne (hm b _ q fun z => z), q]; simp⟩⟩
  by_cases hbe : b = e
  · subst hbe; exact heo
  · exact ⟨u, k b u hbe q⟩
theorem Un.mono (u : Un fs ex H H1 h h1) (hs : ∀ b ∈ fs, b ∈ fs') (hx : ∀ b ∈ ex, b ∈ ex') : Un fs' ex' H H1 h h1 :=
  ⟨fun b ob q n hb he => u.keep b ob q n (fun z => hb (hs b z)) fun z => he (hx b z), fun _ _ q n _ he => u.any q n fun z => he (hx _ z), fun b ob q n he => u.free b ob q n fun z => he (hx b z), fun b ob q he => u.there b ob q fun z => he (hx b z), u.tups, u.frzs, u.tbls⟩
end
def trk (h : Heap) (H : Hp) : List Addr := (List.range h.objs.size).filter fun a => (H a).isSome
def hidT (h : Heap) (H : Hp) : Heap := PySem.W.hideAll h (trk h H)
theorem hidT_size (h : Heap) (H : Hp) : (hidT h H).objs.size = h.objs.size := PySem.W.hideAll_size _ _
theorem hidT_get {h : Heap} {H : Hp} {b : Addr} {o : Obj} (e : h.get? b = some o) (n : H b = none) : (hidT h H).get? b = some o :=
  PySem.W.hideAll_get _ e fun hm => by
    have q : (H b).isSome = true := (List.mem_filter.mp hm).2
    rw [n] at q; simp at q
theorem of_hidT {h : Heap} {H : Hp} {b : Addr} {o : Obj} (e : (hidT h H).get? b = some o) : h.get? b = some o ∧ H b = none := by
  have e' : h.get? b = some o := PySem.W.of_hideAll (trk h H) e
  refine ⟨e', ?_⟩
  cases q : H b with
  | none => rfl
  | some x =>
    have hm : b ∈ trk h H := List.mem_filter.mpr ⟨List.mem_range.mpr (Heap.lt_size e'), by simp [q]⟩
    have z : (hidT h H).get? b = none := PySem.W.hideAll_none (trk h H) hm
    rw [z] at e; cases e
def allNews (g h : Heap) (L : Addr) : List (Addr × Obj) := (List.range h.objs.size).filterMap fun a => if a = L ∨ (g.get? a).isSome = true then none else (h.get? a).map fun o => (a, o)
def rest (g h : Heap) (L d : Addr) : List (Addr × Obj) := (allNews g h L).filter fun p => decide (p.1 ≠ d)
end L2
namespace L2
open PySem PySem.Spec PyProof.Rows
structure Mod (K : PySem.W.Frag) (mg : Str → Option Value) (base : Heap) : Prop where
  kin : K.In base
  glob : base.Ns mainGlobals mg
  blt : ∃ mb, base.Ns builtinsNs mb ∧ ∀ x : Str, x ≠ "__name__" → mb x = bootBuiltins x
  nolimit : base.NoLimit
structure Cx where
  prog : Program
  w : World
  K : PySem.W.Frag
  mg : Str → Option Value
  base : Heap
  A : Around
  N : List Str
  s_0 : Shared
  H_0 : Hp
  env : Env
  outer : List Env
  stack : List Env
  ex : List Addr
  fn : Str → Bool
  calm : Bool
  pn : List (Addr × Obj)
  xe : Value → Shared → Prop
def frs (l : List Env) : List Addr := l.filterMap (·.frame)
abbrev Cx.fs (X : Cx) : List Addr := frs X.outer
def Vis (sc : Scope) (x : Str) : Prop := sc.names.lookup x = some .local ∨ sc.names.lookup x = some .cell ∨ sc.names.lookup x = some .free
def Loc (sc : Scope) (x : Str) : Prop := sc.names.lookup x = some .local ∨ sc.names.lookup x = some .cell
def Look (env : Env) (h : Heap) (m : Str → Option Value) (x : Str) (u : Value) : Prop :=
  (env.kindOf x = some .local ∧ m x = some u) ∨ ((env.kindOf x = some .cell ∨ env.kindOf x = some .free) ∧ ∃ c, env.cells.lookup x = some c ∧ h.IsCell c (some u))
structure Cx.Ok (X : Cx) : Prop where
  mod : Mod X.K X.mg X.base
  kind : X.env.scope.kind = .function
  glob : X.env.globals = mainGlobals
  blt : X.env.builtins = builtinsNs
  above : X.s_0.heap.objs.size ≤ X.env.locals
  inj : ∀ x y c, X.env.cells.lookup x = some c → X.env.cells.lookup y = some c → x = y
  has : ∀ x, (X.env.kindOf x = some .cell ∨ X.env.kindOf x = some .free) → ∃ c, X.env.cells.lookup x = some c
  cab : ∀ x c, X.fn x = true → X.env.cells.lookup x = some c → X.s_0.heap.objs.size ≤ c
  hd : X.calm = true → X.A.handled = none
  frames : X.A.frames = some X.stack
  stk : X.stack = X.outer ∨ (X.stack = X.env :: X.outer ∧ X.env.frame = some X.env.locals)
  exf : ∀ b ∈ X.ex, b ≠ X.env.locals ∧ ∀ x c, X.env.cells.lookup x = some c → c ≠ b
  bs : ∀ b o, X.base.get? b = some o → X.s_0.heap.get? b = some o ∧ X.H_0 b = none
  bsz : X.base.objs.size ≤ X.s_0.heap.objs.size
  noex : ∀ b o, X.base.get? b = some o → b ∉ X.ex
  exfs : ∀ b ∈ X.ex, b ∉ X.fs
  funs : X.s_0.heap.FunFrames X.base X.outer
  frf : ∀ b ∈ X.fs, X.H_0 b = none
structure Inv (X : Cx) (pins : List (Addr × Obj)) (σ : List (Option V)) (H : Hp) (s : Shared) : Prop where
  ok : X.Ok
  os : s.os = X.s_0.os
  bare : AllBare s.gens
  base : Un X.fs X.ex X.H_0 H X.s_0.heap s.heap
  loc : ∃ m, s.heap.Ns X.env.locals m ∧ ∀ (i : Nat) (x : Str) (v : V), X.N[i]? = some x → σ[i]? = some (some v) → Vis X.env.scope x → ∃ u, RelV v u ∧ Look X.env s.heap m x u
  cell : ∀ x c, X.env.cells.lookup x = some c → ∃ v, s.heap.IsCell c v
  free : H X.env.locals = none
  freeC : ∀ x c, X.env.cells.lookup x = some c → H c = none
  pin : ∀ p ∈ X.pn ++ pins, s.heap.get? p.1 = some p.2 ∧ H p.1 = none ∧ p.1 ≠ X.env.locals ∧ p.1 ∉ X.fs ∧ ∀ v, p.2.data ≠ .cell v
  hok : HOk X.prog X.w H s.heap
  len : σ.length = X.N.length
section
variable {X : Cx} {pins : List (Addr × Obj)} {σ : List (Option V)} {H H' : Hp} {s : Shared} {h' : Heap}
theorem Cx.Ok.nofr (ok : X.Ok) {b : Addr} {o : Obj} (e : X.base.get? b = some o) : b ∉ X.fs := fun hb => by
  have := (ok.funs.mem hb).1
  rw [e] at this; cases this
theorem Inv.bs (I : Inv X pins σ H s) : ∀ b o, X.base.get? b = some o → s.heap.get? b = some o ∧ H b = none := fun b o e =>
  ⟨I.base.keep b o (I.ok.bs b o e).1 (I.ok.bs b o e).2 (I.ok.nofr e) (I.ok.noex b o e), I.base.free b o (I.ok.bs b o e).1 (I.ok.bs b o e).2 (I.ok.noex b o e)⟩
theorem Inv.bk (I : Inv X pins σ H s) : ∀ b o, X.base.get? b = some o → s.heap.get? b = some o := fun b o e => (I.bs b o e).1
theorem Inv.mod (I : Inv X pins σ H s) : Mod X.K X.mg X.base := I.ok.mod
theorem Inv.kIn (I : Inv X pins σ H s) : X.K.In s.heap := I.ok.mod.kin.keeps I.bk
theorem Inv.nolimit (I : Inv X pins σ H s) : s.heap.NoLimit := I.ok.mod.nolimit.keeps I.bk
theorem Inv.fr (I : Inv X pins σ H s) : ∃ m, Fr X.base X.env.locals s.heap m :=
  let ⟨m, hn, _⟩ := I.loc
  ⟨m, hn, I.bk, Nat.le_trans I.ok.bsz I.ok.above⟩
theorem Inv.lt (I : Inv X pins σ H s) : X.env.locals < s.heap.objs.size := let ⟨_, hn, _⟩ := I.loc; hn.lt
theorem Inv.sz (I : Inv X pins σ H s) : X.s_0.heap.objs.size ≤ s.heap.objs.size := Nat.le_trans I.ok.above (Nat.le_of_lt I.lt)
theorem Inv.nofs (I : Inv X pins σ H s) {a : Addr} (h : s.heap.objs.size ≤ a) : a ∉ X.fs := fun hb => by
  obtain ⟨_, o, ho, _⟩ := I.ok.funs.mem hb
  exact absurd (Nat.lt_of_lt_of_le (Heap.lt_size ho) (Nat.le_trans I.sz h)) (Nat.lt_irrefl _)
theorem Inv.cne (I : Inv X pins σ H s) : ∀ x c, X.env.cells.lookup x = some c → c ≠ X.env.locals := fun x c e z => by
  obtain ⟨v, o, ho, hd⟩ := I.cell x c e
  obtain ⟨m, ⟨o', es, ep, ho', hd', _⟩, _⟩ := I.loc
  rw [z, ho'] at ho; cases ho; rw [hd'] at hd; cases hd
theorem Inv.funs (I : Inv X pins σ H s) : s.heap.FunFrames X.base X.outer := by
  have all : ∀ (l : List Env), (∀ b ∈ frs l, b ∈ X.fs) → X.s_0.heap.FunFrames X.base l → s.heap.FunFrames X.base l := by
    intro l
    induction l with
    | nil => intro _ _; trivial
    | cons env r ih =>
      intro hs hl
      obtain ⟨hk, ⟨L, o, hf, hn, ho, hd⟩, hr⟩ := hl
      have hL : L ∈ X.fs := hs L (by unfold frs; rw [List.filterMap_cons, hf]; exact List.mem_cons_self)
      obtain ⟨sl, e⟩ := I.base.slot L o ho (I.ok.frf L hL) hL fun z => I.ok.exfs L z hL
      exact ⟨hk, ⟨L, _, hf, hn, e, hd⟩, ih (fun b hb => hs b (by unfold frs; rw [List.filterMap_cons, hf]; exact List.mem_cons_of_mem _ hb)) hr⟩
  exact all X.outer (fun _ hb => hb) I.ok.funs
theorem Inv.stack (I : Inv X pins σ H s) : s.heap.FunFrames X.base X.stack := by
  rcases I.ok.stk with e | ⟨e, hf⟩
  · rw [e]; exact I.funs
  · rw [e]
    obtain ⟨m, hn, _⟩ := I.loc
    refine .cons (by rw [I.ok.kind]; decide) hf hn ?_ I.funs
    exact Heap.get?_none_of_le (Nat.le_trans I.ok.bsz I.ok.above)
theorem Inv.stkSub (I : Inv X pins σ H s) : ∀ b ∈ frs X.stack, b ∈ X.env.locals :: X.fs := fun b hb => by
  rcases I.ok.stk with e | ⟨e, hf⟩
  · rw [e] at hb; exact List.mem_cons_of_mem _ hb
  · rw [e] at hb
    unfold frs at hb
    rw [List.filterMap_cons, hf] at hb
    exact hb
theorem Inv.stkFree (I : Inv X pins σ H s) : ∀ b ∈ frs X.stack, H b = none := fun b hb => by
  rcases List.mem_cons.mp (I.stkSub b hb) with e | hb
  · rw [e]; exact I.free
  · obtain ⟨_, o, ho, _⟩ := I.ok.funs.mem hb
    exact I.base.free b o ho (I.ok.frf b hb) fun z => I.ok.exfs b z hb
theorem Inv.step {g' : Array GenState} {t' : Nat} {d' : Drawn} {ch : List Addr} (I : Inv X pins σ H s)
    (hch : ∀ b ∈ ch, (b ∈ X.ex ∨ X.s_0.heap.objs.size ≤ b) ∧ b ≠ X.env.locals ∧ (∀ x c, X.env.cells.lookup x = some c → c ≠ b) ∧ ∀ p ∈ X.pn ++ pins, p.1 ≠ b)
    (keep : ∀ b o, b ≠ X.env.locals → b ∉ X.fs → b ∉ ch → s.heap.get? b = some o → H b = none → h'.get? b = some o)
    (slot : ∀ b o, b ≠ X.env.locals → b ∈ X.fs → b ∉ ch → s.heap.get? b = some o → H b = none → ∃ sl, h'.get? b = some { o with slots := sl }) (free : ∀ b o, b ∉ ch → s.heap.get? b = some o → H b = none → H' b = none)
    (there : ∀ b o, b ∉ ch → s.heap.get? b = some o → ∃ o', h'.get? b = some o')
    (tups : ∀ b xs, H b = some (.tup xs) → H' b = some (.tup xs)) (frzs : ∀ b o u, H b = some (.frz o u) → H' b = some (.frz o u)) (tbls : ∀ b ps, H b = some (.tbl ps) → ∃ more, H' b = some (.tbl (ps ++ more)))
    (ns : ∀ m, s.heap.Ns X.env.locals m → h'.Ns X.env.locals m) (hok : HOk X.prog X.w H' h') (hg : AllBare g') :
    Inv X pins σ H' { s with heap := h', gens := g', drawn := d', toks := t' } := by
  have neL : ∀ b o, X.s_0.heap.get? b = some o → b ≠ X.env.locals := fun b o e => Nat.ne_of_lt (Nat.lt_of_lt_of_le (Heap.lt_size e) I.ok.above)
  have neC : ∀ b o, X.s_0.heap.get? b = some o → b ∉ X.ex → b ∉ ch := fun b o e hx hb => by
    rcases (hch b hb).1 with z | z
    · exact hx z
    · exact absurd (Nat.lt_of_lt_of_le (Heap.lt_size e) z) (Nat.lt_irrefl _)
  have cellK : ∀ x c, X.env.cells.lookup x = some c → ∀ v, s.heap.IsCell c v → h'.IsCell c v := fun x c e v ⟨o, ho, hd⟩ => by
    have nch : c ∉ ch := fun z => (hch c z).2.2.1 x c e rfl
    by_cases hc : c ∈ X.fs
    · obtain ⟨sl, q⟩ := slot c o (I.cne x c e) hc nch ho (I.freeC x c e)
      exact ⟨_, q, hd⟩
    · exact ⟨o, keep c o (I.cne x c e) hc nch ho (I.freeC x c e), hd⟩
  refine ⟨I.ok, I.os, hg, ⟨fun b o e n hb hx => ?_, fun b o e n hb hx => ?_, fun b o e n hx => ?_, fun b o e hx => ?_, fun b xs e => tups b xs (I.base.tups b xs e), fun b o xs e => frzs b o xs (I.base.frzs b o xs e), fun b ps e => ?_⟩, ?_, fun x c e => ?_, ?_, fun x c e => ?_, fun p hp => ?_, hok, I.len⟩
  · exact keep b o (neL b o e) hb (neC b o e hx) (I.base.keep b o e n hb hx) (I.base.free b o e n hx)
  · obtain ⟨sl, e1⟩ := I.base.slot b o e n hb hx
    obtain ⟨sl', e2⟩ := slot b _ (neL b o e) hb (neC b o e hx) e1 (I.base.free b o e n hx)
    exact ⟨sl', e2⟩
  · obtain ⟨o', e1⟩ := I.base.there b o e hx
    exact free b o' (neC b o e hx) e1 (I.base.free b o e n hx)
  · obtain ⟨o', e1⟩ := I.base.there b o e hx
    exact there b o' (neC b o e hx) e1
  · obtain ⟨m1, e1⟩ := I.base.tbls b ps e
    obtain ⟨m2, e2⟩ := tbls b _ e1
    exact ⟨m1 ++ m2, by rw [e2, Array.append_assoc]⟩
  · obtain ⟨m, hn, hl⟩ := I.loc
    refine ⟨m, ns m hn, fun i x v e1 e2 e3 => ?_⟩
    obtain ⟨u, r, l⟩ := hl i x v e1 e2 e3
    refine ⟨u, r, ?_⟩
    rcases l with l | ⟨k, c, e, z⟩
    · exact .inl l
    · exact .inr ⟨k, c, e, cellK x c e _ z⟩
  · obtain ⟨v, z⟩ := I.cell x c e
    exact ⟨v, cellK x c e v z⟩
  · obtain ⟨m, ⟨o, _, _, ho, _⟩, _⟩ := I.loc
    exact free _ o (fun z => (hch _ z).2.1 rfl) ho I.free
  · obtain ⟨v, o, ho, hd⟩ := I.cell x c e
    exact free c o (fun z => (hch c z).2.2.1 x c e rfl) ho (I.freeC x c e)
  · obtain ⟨e, n, ne, nf, d⟩ := I.pin p hp
    have nch : p.1 ∉ ch := fun z => (hch p.1 z).2.2.2 p hp rfl
    exact ⟨keep p.1 p.2 ne nf nch e n, free p.1 p.2 nch e n, ne, nf, d⟩
theorem Inv.un {t' : Nat} (I : Inv X pins σ H s) (u : Un X.fs [] H H' s.heap h') (hok : HOk X.prog X.w H' h') : Inv X pins σ H' { s with heap := h', toks := t' } := by
  obtain ⟨m, ⟨o, es, ep, ho, r⟩, _⟩ := id I.loc
  obtain ⟨sl, hL⟩ := u.any ho I.free (by simp)
  exact I.step (g' := s.gens) (d' := s.drawn) (ch := []) (fun _ z => nomatch z) (fun b o _ hb _ e n => u.keep b o e n hb (by simp)) (fun b o _ hb _ e n => u.slot b o e n hb (by simp)) (fun b o _ e n => u.free b o e n (by simp)) (fun b o _ e => u.there b o e (by simp)) u.tups u.frzs u.tbls (fun m' hm => by
    obtain ⟨o', es', ep', ho', r'⟩ := hm
    rw [ho] at ho'; cases ho'
    exact ⟨_, es', ep', hL, r'⟩) hok I.bare
theorem Inv.call {g' : Array GenState} {t' : Nat} {d' : Drawn} {ch : List Addr} (I : Inv X pins σ H s) (u : Un (frs X.stack) ch H H' s.heap h') (hok : HOk X.prog X.w H' h') (hg : AllBare g')
    (hch : ∀ b ∈ ch, (b ∈ X.ex ∨ X.s_0.heap.objs.size ≤ b) ∧ b ≠ X.env.locals ∧ (∀ x c, X.env.cells.lookup x = some c → c ≠ b) ∧ ∀ p ∈ X.pn ++ pins, p.1 ≠ b) :
    Inv X pins σ H' { s with heap := h', gens := g', drawn := d', toks := t' } := by
  obtain ⟨m, ⟨o, es, ep, ho, r⟩, _⟩ := id I.loc
  obtain ⟨sl, hL⟩ := u.any ho I.free fun z => (hch _ z).2.1 rfl
  exact I.step (ch := ch) hch (fun b o hL hb hc e n => u.keep b o e n (fun z => (List.mem_cons.mp (I.stkSub b z)).elim hL hb) hc) (fun b o _ _ hc e n => u.any e n hc) (fun b o hc e n => u.free b o e n hc) (fun b o hc e => u.there b o e hc) u.tups u.frzs u.tbls (fun m' hm => by
    obtain ⟨o', es', ep', ho', r'⟩ := hm
    rw [ho] at ho'; cases ho'
    exact ⟨_, es', ep', hL, r'⟩) hok hg
theorem Inv.turned {t' : Nat} {it : Addr} (I : Inv X pins σ H s) (k : ∀ b o, b ≠ it → s.heap.get? b = some o → h'.get? b = some o) (hn : H it = none) (hL : it ≠ X.env.locals)
    (h1 : it ∈ X.ex ∨ X.s_0.heap.objs.size ≤ it) (h2 : ∀ x c, X.env.cells.lookup x = some c → c ≠ it) (h3 : ∀ p ∈ X.pn ++ pins, p.1 ≠ it) : Inv X pins σ H { s with heap := h', toks := t' } := by
  have nit : ∀ b u, H b = some u → b ≠ it := fun b u e z => by rw [z, hn] at e; cases e
  refine I.step (g' := s.gens) (d' := s.drawn) (ch := [it]) (fun b hb => ?_) (fun b o _ _ hc e _ => k b o (fun z => hc (by simp [z])) e) (fun b o _ _ hc e _ => ⟨o.slots, k b o (fun z => hc (by simp [z])) e⟩) (fun _ _ _ _ n => n)
    (fun b o hc e => ⟨o, k b o (fun z => hc (by simp [z])) e⟩) (fun _ _ e => e) (fun _ _ _ e => e) (fun b ps e => ⟨#[], by rw [e]; simp⟩) (fun m hm => ?_) (fun b u e => ?_) I.bare
  · have e : b = it := by simpa using hb
    subst e
    exact ⟨h1, hL, h2, h3⟩
  · obtain ⟨o, es, ep, ho, r⟩ := hm
    exact ⟨o, es, ep, k _ o (Ne.symm hL) ho, r⟩
  · refine (I.hok b u e).stay (fun c v hc q => k c v ?_ q) (fun _ q => q) fun _ _ q => q
    rcases hc with z | z
    · rw [z]; exact nit b u e
    · exact nit c _ z
theorem Inv.tok (I : Inv X pins σ H s) (t : Nat) : Inv X pins σ H { s with toks := t } := I.un (h' := s.heap) (t' := t) Un.refl I.hok
theorem Inv.kept {t' : Nat} (I : Inv X pins σ H s) (k : ∀ b u, s.heap.get? b = some u → h'.get? b = some u) : Inv X pins σ H { s with heap := h', toks := t' } := I.un (Un.kept k) (I.hok.kept k)
theorem Inv.laid {a : Addr} {o : HO} {t' : Nat} (I : Inv X pins σ H s) (k : ∀ b u, s.heap.get? b = some u → h'.get? b = some u) (hp : s.heap.objs.size ≤ a) (new : ObjOk X.prog X.w (upd H a o) h' a o) :
    Inv X pins σ (upd H a o) { s with heap := h', toks := t' } := I.un (Un.laid k hp (I.hok.fresh hp)) (I.hok.laid k hp new)
theorem Inv.write {x e : Addr} {o : HO} {t' : Nat} (I : Inv X pins σ H s) (mu : Mut (H x)) (he : e = x ∨ H e = some (.own x)) (k : ∀ b u, b ≠ e → s.heap.get? b = some u → h'.get? b = some u) (heo : ∃ u, h'.get? e = some u)
    (new : ObjOk X.prog X.w (upd H x o) h' x o) : Inv X pins σ (upd H x o) { s with heap := h', toks := t' } := I.un (Un.write mu he k heo) (I.hok.write mu he k heo new)
theorem Inv.weak {σ' : List (Option V)} (I : Inv X pins σ H s) (hl : σ'.length = σ.length) (w : ∀ (i : Nat) v, σ'[i]? = some (some v) → σ[i]? = some (some v)) : Inv X pins σ' H s :=
  ⟨I.ok, I.os, I.bare, I.base, let ⟨m, hn, hl'⟩ := I.loc; ⟨m, hn, fun i x v e1 e2 e3 => hl' i x v e1 (w i v e2) e3⟩, I.cell, I.free, I.freeC, I.pin, I.hok, hl.trans I.len⟩
theorem Inv.pins_of {pins' : List (Addr × Obj)} (I : Inv X pins σ H s) (h : ∀ p ∈ pins', s.heap.get? p.1 = some p.2 ∧ H p.1 = none ∧ p.1 ≠ X.env.locals ∧ p.1 ∉ X.fs ∧ ∀ v, p.2.data ≠ .cell v) : Inv X pins' σ H s :=
  ⟨I.ok, I.os, I.bare, I.base, I.loc, I.cell, I.free, I.freeC, fun p hp => (List.mem_append.mp hp).elim (fun z => I.pin p (List.mem_append_left _ z)) (h p), I.hok, I.len⟩
theorem nodup_ix {N : List Str} (hN : N.Nodup) {i j : Nat} {x : Str} (a : N[i]? = some x) (b : N[j]? = some x) : i = j := by
  obtain ⟨h1, e1⟩ := List.getElem?_eq_some_iff.mp a
  obtain ⟨h2, e2⟩ := List.getElem?_eq_some_iff.mp b
  exact (List.getElem_inj hN).mp (e1.trans e2.symm)
theorem store_ok2 {M : Model} {A : Around} {E : Value → Shared → Prop} {i : Nat} {x : Str} {v : V} {u : Value} {Q : Unit → Shared → Prop} (I : Inv X pins σ H s) (hN : X.N.Nodup) (hi : X.N[i]? = some x) (hx : Loc X.env.scope x) (r : RelV v u)
    (h : ∀ s', Inv X pins (σ.set i (some v)) H s' → (∃ a, Heap.SameBut a s.heap s'.heap ∧ (a = X.env.locals ∨ X.env.cells.lookup x = some a)) → Q () s') (hf : X.fn x = true ∨ X.env.scope.names.lookup x = some .local := by first | exact .inl rfl | exact .inr rfl | assumption) : wpAny M A (storeName X.env x u) Q E s := by
  obtain ⟨m, hn, hl⟩ := id I.loc
  have hcls : (X.env.scope.kind == .class || (X.env.scope.kind == .module && X.env.locals != X.env.globals)) = false := by rw [I.ok.kind]; rfl
  have hiσ : i < σ.length := by rw [I.len]; exact (List.getElem?_eq_some_iff.mp hi).1
  have cne := I.cne
  have tracked : ∀ {a : Addr} {h' : Heap}, (∃ o, s.heap.get? a = some o ∧ H a = none) → Heap.SameBut a s.heap h' → HOk X.prog X.w H h' := fun {a h'} ha hs b ob e => by
    obtain ⟨_, _, hfree⟩ := ha
    refine (I.hok b ob e).stay (fun c w' hc q => (hs.2 c ?_).trans q) (fun _ q => q) fun _ _ q => q
    rintro rfl
    rcases hc with rfl | hc
    · rw [hfree] at e; cases e
    · rw [hfree] at hc; cases hc
  rcases hx with hk | hk
  · refine wpAny_storeName_local hk hn (fun h' hn' hs => ?_) hcls
    obtain ⟨oL, _, _, hoL, _⟩ := id hn
    refine h _ ⟨I.ok, I.os, I.bare, ⟨fun b o e n hb hx => ?_, fun b o e n hb hx => ?_, I.base.free, fun b o e hx => ?_, I.base.tups, I.base.frzs, I.base.tbls⟩, ⟨_, hn', fun j y v' e1 e2 e3 => ?_⟩, fun y c e => ?_, I.free, I.freeC, fun p hp => ?_, tracked ⟨oL, hoL, I.free⟩ hs, by simpa using I.len⟩ ⟨_, hs, .inl rfl⟩
    · exact (hs.2 b (Nat.ne_of_lt (Nat.lt_of_lt_of_le (Heap.lt_size e) I.ok.above))).trans (I.base.keep b o e n hb hx)
    · obtain ⟨sl, e1⟩ := I.base.slot b o e n hb hx
      exact ⟨sl, (hs.2 b (Nat.ne_of_lt (Nat.lt_of_lt_of_le (Heap.lt_size e) I.ok.above))).trans e1⟩
    · obtain ⟨o', e1⟩ := I.base.there b o e hx
      exact ⟨o', (hs.2 b (Nat.ne_of_lt (Nat.lt_of_lt_of_le (Heap.lt_size e) I.ok.above))).trans e1⟩
    · by_cases hj : j = i
      · subst hj
        rw [hi] at e1; cases e1
        rw [List.getElem?_set_self hiσ] at e2
        cases e2
        exact ⟨u, r, .inl ⟨hk, by simp⟩⟩
      · rw [List.getElem?_set_ne (Ne.symm hj)] at e2
        obtain ⟨u', r', q⟩ := hl j y v' e1 e2 e3
        refine ⟨u', r', ?_⟩
        rcases q with ⟨k, e⟩ | ⟨k, c, e, z⟩
        · refine .inl ⟨k, ?_⟩
          have : y ≠ x := fun e => hj (nodup_ix hN e1 (e ▸ hi))
          simp [this, e]
        · exact .inr ⟨k, c, e, z.sameBut hs (cne y c e)⟩
    · obtain ⟨w', z⟩ := I.cell y c e
      exact ⟨w', z.sameBut hs (cne y c e)⟩
    · obtain ⟨e, n, ne, nf, d⟩ := I.pin p hp
      exact ⟨(hs.2 p.1 ne).trans e, n, ne, nf, d⟩
  · have hfn : X.fn x = true := by
      rcases hf with z | z
      · exact z
      · rw [z] at hk; cases hk
    obtain ⟨c, hc⟩ := I.ok.has x (.inl hk)
    obtain ⟨w', z⟩ := I.cell x c hc
    refine wpAny_storeName_cell I.ok.kind hk hc z (fun h' hc' hs => ?_)
    obtain ⟨oc, hoc, hocd⟩ := id z
    refine h { s with heap := h' } ⟨I.ok, I.os, I.bare, ⟨fun b o e n hb hx => ?_, fun b o e n hb hx => ?_, I.base.free, fun b o e hx => ?_, I.base.tups, I.base.frzs, I.base.tbls⟩, ⟨m, hn.sameBut hs (Ne.symm (cne x c hc)), fun j y v' e1 e2 e3 => ?_⟩, fun y c' e => ?_, I.free, I.freeC, fun p hp => ?_, tracked ⟨oc, hoc, I.freeC x c hc⟩ hs, by simpa using I.len⟩ ⟨c, hs, .inr hc⟩
    · exact (hs.2 b (Nat.ne_of_lt (Nat.lt_of_lt_of_le (Heap.lt_size e) (I.ok.cab x c hfn hc)))).trans (I.base.keep b o e n hb hx)
    · obtain ⟨sl, e1⟩ := I.base.slot b o e n hb hx
      exact ⟨sl, (hs.2 b (Nat.ne_of_lt (Nat.lt_of_lt_of_le (Heap.lt_size e) (I.ok.cab x c hfn hc)))).trans e1⟩
    · obtain ⟨o', e1⟩ := I.base.there b o e hx
      exact ⟨o', (hs.2 b (Nat.ne_of_lt (Nat.lt_of_lt_of_le (Heap.lt_size e) (I.ok.cab x c hfn hc)))).trans e1⟩
    · by_cases hj : j = i
      · subst hj
        rw [hi] at e1; cases e1
        rw [List.getElem?_set_self hiσ] at e2
        cases e2
        exact ⟨u, r, .inr ⟨.inl hk, c, hc, hc'⟩⟩
      · rw [List.getElem?_set_ne (Ne.symm hj)] at e2
        obtain ⟨u', r', q⟩ := hl j y v' e1 e2 e3
        refine ⟨u', r', ?_⟩
        rcases q with q | ⟨k, c', e, z'⟩
        · exact .inl q
        · refine .inr ⟨k, c', e, z'.sameBut hs ?_⟩
          rintro rfl
          exact hj (nodup_ix hN e1 (I.ok.inj _ _ _ e hc ▸ hi))
    · by_cases hcc : c' = c
      · subst hcc; exact ⟨_, hc'⟩
      · obtain ⟨w2, z2⟩ := I.cell y c' e
        exact ⟨w2, z2.sameBut hs hcc⟩
    · obtain ⟨e, n, ne, nf, d⟩ := I.pin p hp
      refine ⟨(hs.2 p.1 ?_).trans e, n, ne, nf, d⟩
      intro q
      rw [q, hoc] at e
      have q' : oc = p.2 := Option.some.inj e
      exact d w' (by rw [← q']; exact hocd)
theorem store_ok {M : Model} {A : Around} {E : Value → Shared → Prop} {i : Nat} {x : Str} {v : V} {u : Value} {Q : Unit → Shared → Prop} (I : Inv X pins σ H s) (hN : X.N.Nodup) (hi : X.N[i]? = some x) (hx : Loc X.env.scope x) (r : RelV v u)
    (h : ∀ s', Inv X pins (σ.set i (some v)) H s' → Q () s') (hf : X.fn x = true ∨ X.env.scope.names.lookup x = some .local := by first | exact .inl rfl | exact .inr rfl | assumption) : wpAny M A (storeName X.env x u) Q E s :=
  store_ok2 I hN hi hx r (fun s' I' _ => h s' I') hf
theorem Inv.call' {s' : Shared} {ch : List Addr} (I : Inv X pins σ H s) (ho : s'.os = s.os) (u : Un (frs X.stack) ch H H' s.heap s'.heap) (hok : HOk X.prog X.w H' s'.heap) (hg : AllBare s'.gens)
    (hch : ∀ b ∈ ch, (b ∈ X.ex ∨ X.s_0.heap.objs.size ≤ b) ∧ b ≠ X.env.locals ∧ (∀ x c, X.env.cells.lookup x = some c → c ≠ b) ∧ ∀ p ∈ X.pn ++ pins, p.1 ≠ b) : Inv X pins σ H' s' := by
  obtain ⟨h', g', d', t', o'⟩ := s'
  have e : o' = s.os := ho
  subst e
  exact I.call (g' := g') (t' := t') (d' := d') u hok hg hch
end
abbrev XK := Value → Option Addr → Hp → Prop
abbrev St := List (Option V)
abbrev VK := V → Hp → Prop
abbrev TE := St → Hp → VK → Prop
abbrev TT := St → Hp → (Bool → Hp → Prop) → Prop
abbrev TA := St → Hp → (List V → Hp → Prop) → Prop
structure Ends where
  nx : St → Hp → Prop
  rt : VK
  bk : St → Hp → Prop := fun _ _ => False
  ct : St → Hp → Prop := fun _ _ => False
abbrev TS := Ends → St → Hp → Prop
def EP (X : Cx) (pins : List (Addr × Obj)) (σ : St) (Q : VK) (u : Value) (s' : Shared) : Prop := ∃ v H', Inv X pins σ H' s' ∧ RelV v u ∧ Q v H'
def TP (X : Cx) (pins : List (Addr × Obj)) (σ : St) (Q : Bool → Hp → Prop) (b : Bool) (s' : Shared) : Prop := ∃ H', Inv X pins σ H' s' ∧ Q b H'
def AP (X : Cx) (pins : List (Addr × Obj)) (σ : St) (Q : List V → Hp → Prop) (us : List Value) (s' : Shared) : Prop := ∃ vs H', Inv X pins σ H' s' ∧ Vals vs us ∧ Q vs H'
def SP (X : Cx) (pins : List (Addr × Obj)) (D : Ends) (f : Flow) (s' : Shared) : Prop :=
  match f with
  | .next => ∃ σ' H', Inv X pins σ' H' s' ∧ D.nx σ' H'
  | .brk => ∃ σ' H', Inv X pins σ' H' s' ∧ D.bk σ' H'
  | .cont => ∃ σ' H', Inv X pins σ' H' s' ∧ D.ct σ' H'
  | .ret u => ∃ v σ' H', Inv X pins σ' H' s' ∧ RelV v u ∧ D.rt v H'
def PE (X : Cx) (e : Expr) (t : TE) : Prop :=
  ∀ (pins : List (Addr × Obj)) (s : Shared) (σ : St) (H : Hp) (Q : VK), Inv X pins σ H s → t σ H Q → wpAny (model X.prog X.w) X.A (eval e X.env) (EP X pins σ Q) X.xe s
def PT (X : Cx) (e : Expr) (t : TT) : Prop :=
  ∀ (pins : List (Addr × Obj)) (s : Shared) (σ : St) (H : Hp) (Q : Bool → Hp → Prop), Inv X pins σ H s → t σ H Q → wpAny (model X.prog X.w) X.A (isTrue e X.env (eval e X.env)) (TP X pins σ Q) X.xe s
def PW (X : Cx) (e : Expr) (t : TT) : Prop :=
  ∀ (whole : Sem Value) (pins : List (Addr × Obj)) (s : Shared) (σ : St) (H : Hp) (Q : Bool → Hp → Prop), Inv X pins σ H s → t σ H Q → wpAny (model X.prog X.w) X.A (isTrue e X.env whole) (TP X pins σ Q) X.xe s
theorem PW.pt {X : Cx} {e : Expr} {t : TT} (h : PW X e t) : PT X e t := h _
def PA (X : Cx) (es : List Expr) (t : TA) : Prop :=
  ∀ (pos : Pos) (pins : List (Addr × Obj)) (s : Shared) (σ : St) (H : Hp) (Q : List V → Hp → Prop), Inv X pins σ H s → t σ H Q → wpAny (model X.prog X.w) X.A (spliced (backTo pos (starEach es X.env))) (AP X pins σ Q) X.xe s
def PS (X : Cx) (st : Stmt) (t : TS) : Prop :=
  ∀ (pins : List (Addr × Obj)) (s : Shared) (σ : St) (H : Hp) (D : Ends), Inv X pins σ H s → t D σ H → wpAny (model X.prog X.w) X.A (exec st X.env) (SP X pins D) X.xe s
def PSs (X : Cx) (st : List Stmt) (t : TS) : Prop :=
  ∀ (pins : List (Addr × Obj)) (s : Shared) (σ : St) (H : Hp) (D : Ends), Inv X pins σ H s → t D σ H → wpAny (model X.prog X.w) X.A (execs st X.env) (SP X pins D) X.xe s
theorem thn {α : Type} {t : Sem α} {Q Q' : α → Shared → Prop} {M : Model} {A : Around} {E : Value → Shared → Prop} {s : Shared} (h : wpAny M A t Q E s) (hQ : ∀ a s, Q a s → Q' a s) : wpAny M A t Q' E s := wpAny_mono h hQ fun _ _ x => x
end L2
namespace L2
open PySem PySem.Spec PyProof.Rows
section
variable {X : Cx}
theorem bin {a b : Expr} {ta tb : TE} (ha : PE X a ta) (hb : PE X b tb) {pins : List (Addr × Obj)} {s : Shared} {σ : St} {H : Hp} {R : V → V → Hp → Prop} (I : Inv X pins σ H s) (h : ta σ H fun x H1 => tb σ H1 fun y H2 => R x y H2)
    {α : Type} {Q : α → Shared → Prop} {f : Value → Value → Sem α}
    (hf : ∀ v u s2 x y H2, Inv X pins σ H2 s2 → RelV x v → RelV y u → R x y H2 → wpAny (model X.prog X.w) X.A (f v u) Q X.xe s2) :
    wpAny (model X.prog X.w) X.A (eval a X.env) (fun v s₁ => wpAny (model X.prog X.w) X.A (eval b X.env) (fun u s₂ => wpAny (model X.prog X.w) X.A (f v u) Q X.xe s₂) X.xe s₁) X.xe s := by
  refine thn (ha pins s σ H _ I h) fun v s1 ⟨x, H1, I1, r1, q1⟩ => ?_
  refine thn (hb pins s1 σ H1 _ I1 q1) fun u s2 ⟨y, H2, I2, r2, q2⟩ => ?_
  exact hf v u s2 x y H2 I2 r1 r2 q2
def tVar (i : Nat) : TE := fun σ H Q => ∃ v, σ[i]? = some (some v) ∧ Q v H
def tC (v : V) : TE := fun _ H Q => Q v H
theorem pe_var {i : Nat} {x : Str} {pos : Pos} (hN : X.N[i]? = some x) (hv : Vis X.env.scope x) (hd : (x == ("__debug__" : Str)) = false := by decide) (hcd : (x == ("__classdict__" : Str)) = false := by decide) : PE X (.Name x pos) (tVar i) := by
  intro pins s σ H Q I h
  obtain ⟨v, e, h⟩ := h
  obtain ⟨m, hn, hl⟩ := I.loc
  obtain ⟨u, r, l⟩ := hl i x v hN e hv
  have fin : EP X pins σ Q u s := ⟨v, H, I, r, h⟩
  rcases l with ⟨hk, hm⟩ | ⟨hk, c, hc, hcell⟩
  · exact wpAny_Name (wpAny_loadName_local I.ok.kind hk hn hm fin) hd
  · rcases hk with hk | hk
    · exact wpAny_Name (wpAny_loadName_cell I.ok.kind hk hc hcell fin) hd
    · exact wpAny_Name (wpAny_loadName_free I.ok.kind hk hc hcell fin hcd) hd
theorem pe_int {i j pos} : PE X (.Constant (.int i) j pos) (tC (.int i)) := fun _ _ _ H _ I h => wpAny_Constant_int ⟨.int i, H, I.tok _, ⟨_, rfl⟩, h⟩
theorem pe_bl {b j pos} : PE X (.Constant (.bool b) j pos) (tC (.bl b)) := fun _ _ _ H _ I h => Constant_bool ⟨.bl b, H, I, rfl, h⟩
def Gl (X : Cx) (x : Str) : Prop := X.env.kindOf x = some .globalImplicit
theorem ld_glob {E : Value → Shared → Prop} {pins : List (Addr × Obj)} {s : Shared} {σ : St} {H : Hp} {x : Str} {u : Value} {pos : Pos} {Q : Value → Shared → Prop} (I : Inv X pins σ H s) (hg : Gl X x) (hm : X.mg x = some u) (h : Q u s)
    (hd : (x == ("__debug__" : Str)) = false := by decide) : wpAny (model X.prog X.w) X.A (eval (.Name x pos) X.env) Q E s :=
  Calls.Name_function_global I.ok.kind hg (Calls.loadGlobal_global (by rw [I.ok.glob]; exact I.mod.glob.keeps I.bk) hm h) hd
theorem ld_blt {E : Value → Shared → Prop} {pins : List (Addr × Obj)} {s : Shared} {σ : St} {H : Hp} {x : Str} {u : Value} {pos : Pos} {Q : Value → Shared → Prop} (I : Inv X pins σ H s) (hg : Gl X x) (hm : X.mg x = none) (hv : bootBuiltins x = some u) (h : Q u s)
    (hn : x ≠ "__name__" := by decide) (hd : (x == ("__debug__" : Str)) = false := by decide) : wpAny (model X.prog X.w) X.A (eval (.Name x pos) X.env) Q E s := by
  obtain ⟨mb, h1, h2⟩ := I.mod.blt
  exact Calls.Name_function_global I.ok.kind hg (Calls.loadGlobal_builtin (by rw [I.ok.glob]; exact I.mod.glob.keeps I.bk) hm (by rw [I.ok.blt]; exact h1.keeps I.bk) ((h2 x hn).trans hv) h) hd
theorem pe_glob {x : Str} {v : V} {u : Value} {pos : Pos} (hg : Gl X x) (hm : X.mg x = some u) (r : RelV v u) (hd : (x == ("__debug__" : Str)) = false := by decide) : PE X (.Name x pos) (tC v) :=
  fun _ _ _ H _ I h => ld_glob I hg hm ⟨v, H, I, r, h⟩ hd
def t2I (ta tb : TE) (k : Int → Int → Hp → Prop) : St → Hp → Prop := fun σ H => ta σ H fun x H1 => tb σ H1 fun y H2 => ∃ i j, x = .int i ∧ y = .int j ∧ k i j H2
variable {a b : Expr} {ta tb : TE} {pos : Pos}
def PC (X : Cx) (op : CmpOp) (a b : Expr) (t : TE) : Prop :=
  ∀ (pins : List (Addr × Obj)) (s : Shared) (σ : St) (H : Hp) (Q : VK), Inv X pins σ H s → t σ H Q →
    wpAny (model X.prog X.w) X.A (eval a X.env) (fun v s₁ => wpAny (model X.prog X.w) X.A (eval b X.env) (fun u s₂ => wpAny (model X.prog X.w) X.A (compareOp op v u) (EP X pins σ Q) X.xe s₂) X.xe s₁) X.xe s
theorem nobehind (b : Expr) {op : CmpOp} (h : op ≠ .In) (h2 : op ≠ .NotIn) : behindInMarks op b = false := by
  have e1 : (op == CmpOp.In) = false := by cases op <;> first | rfl | exact absurd rfl h
  have e2 : (op == CmpOp.NotIn) = false := by cases op <;> first | rfl | exact absurd rfl h2
  cases b <;> simp [behindInMarks, e1, e2]
def tCmp (p : Int → Int → Bool) (ta tb : TE) : TE := fun σ H Q => t2I ta tb (fun i j H2 => Q (.bl (p i j)) H2) σ H
abbrev tLt : TE → TE → TE := tCmp fun i j => decide (i < j)
abbrev tLe : TE → TE → TE := tCmp fun i j => decide (i ≤ j)
abbrev tGt : TE → TE → TE := tCmp fun i j => decide (j < i)
abbrev tGe : TE → TE → TE := tCmp fun i j => decide (j ≤ i)
abbrev tEqI : TE → TE → TE := tCmp fun i j => decide (i = j)
abbrev tNeI : TE → TE → TE := tCmp fun i j => !decide (i = j)
theorem pc_int {op : CmpOp} {p : Int → Int → Bool} (ha : PE X a ta) (hb : PE X b tb)
    (rule : ∀ (i j : Int) (t u : Tok) (Q : Value → Shared → Prop) (s : Shared), Q (.bool (p i j)) s → wpAny (model X.prog X.w) X.A (compareOp op (.int i t) (.int j u)) Q X.xe s) : PC X op a b (tCmp p ta tb) := by
  intro pins s σ H Q I h
  refine bin ha hb I h fun v u s2 x y H2 I2 rx ry q => ?_
  obtain ⟨i, j, rfl, rfl, q⟩ := q
  obtain ⟨t, rfl⟩ := rx
  obtain ⟨t', rfl⟩ := ry
  exact rule i j t t' _ s2 ⟨.bl _, H2, I2, rfl, q⟩
theorem pc_lt (ha : PE X a ta) (hb : PE X b tb) : PC X .Lt a b (tLt ta tb) := pc_int ha hb fun _ _ _ _ _ _ h => lt_int h
theorem pc_le (ha : PE X a ta) (hb : PE X b tb) : PC X .LtE a b (tLe ta tb) := pc_int ha hb fun _ _ _ _ _ _ h => le_int h
theorem pc_gt (ha : PE X a ta) (hb : PE X b tb) : PC X .Gt a b (tGt ta tb) := pc_int ha hb fun _ _ _ _ _ _ h => gt_int h
theorem pc_ge (ha : PE X a ta) (hb : PE X b tb) : PC X .GtE a b (tGe ta tb) := pc_int ha hb fun _ _ _ _ _ _ h => ge_int h
theorem pc_eqI (ha : PE X a ta) (hb : PE X b tb) : PC X .Eq a b (tEqI ta tb) := pc_int ha hb fun _ _ _ _ _ _ h => eq_int (by rw [Bool.beq_eq_decide_eq]; exact h)
theorem pc_neI (ha : PE X a ta) (hb : PE X b tb) : PC X .NotEq a b (tNeI ta tb) := pc_int ha hb fun _ _ _ _ _ _ h => ne_int (by rw [bne, Bool.beq_eq_decide_eq]; exact h)
def tB (t : TE) : TT := fun σ H Q => t σ H fun x H1 => ∃ c, x = .bl c ∧ Q c H1
theorem pe_cmp {op : CmpOp} {t : TE} (h : PC X op a b t) (h1 : behindInMarks op b = false := by first | exact nobehind _ (by decide) (by decide) | rfl) : PE X (.Compare a [op] [b] pos) t := fun pins s σ H Q I hw => wpAny_Compare1 (h pins s σ H Q I hw) h1
theorem pt_cmp {op : CmpOp} {t : TE} (h : PC X op a b t) (h1 : behindInMarks op b = false := by first | exact nobehind _ (by decide) (by decide) | rfl) : PT X (.Compare a [op] [b] pos) (tB t) := by
  intro pins s σ H Q I hw
  refine wpAny_isTrue_Compare1 (thn (h pins s σ H _ I hw) fun v s1 h1 => thn h1 fun u s2 h2 => thn h2 fun c s3 ⟨x, H1, I1, r1, q1⟩ => ?_) h1
  obtain ⟨d, rfl, q⟩ := q1
  cases r1
  exact wpAny_truthy_bool ⟨H1, I1, q⟩
theorem pt_val {e : Expr} {t : TE} (h : PE X e t) (he : ∀ whole, isTrue e X.env whole = (do let v ← whole; standAt e.pos; holding [v] (truthy v)) := by intro _; rfl) : PT X e (tB t) := by
  intro pins s σ H Q I hw
  refine isTrue_plain (thn (h pins s σ H _ I hw) fun v s1 ⟨x, H1, I1, r1, q1⟩ => ?_) (he _)
  obtain ⟨d, rfl, q⟩ := q1
  cases r1
  exact wpAny_truthy_bool ⟨H1, I1, q⟩
variable {tA tB' : TT} {rest : List Expr}
def tAnd (t u : TT) : TT := fun σ H Q => t σ H fun c H1 => if c = true then u σ H1 Q else Q false H1
def tOr (t u : TT) : TT := fun σ H Q => t σ H fun c H1 => if c = true then Q true H1 else u σ H1 Q
def tNot (t : TT) : TT := fun σ H Q => t σ H fun c H1 => Q (!c) H1
theorem pw_and1 (ha : PT X a tA) : PW X (.BoolOp .And [a] pos) tA := by
  intro wh pins s σ H Q I h
  refine isTrue_and (thn (ha pins s σ H Q I h) fun c s1 e => ?_)
  cases c with
  | true => exact isTrue_and_nil e
  | false => exact e
theorem pw_or1 (ha : PT X a tA) : PW X (.BoolOp .Or [a] pos) tA := by
  intro wh pins s σ H Q I h
  refine isTrue_or (thn (ha pins s σ H Q I h) fun c s1 e => ?_)
  cases c with
  | false => exact isTrue_or_nil e
  | true => exact e
theorem pw_and (ha : PT X a tA) (hb : PW X (.BoolOp .And (b :: rest) pos) tB') : PW X (.BoolOp .And (a :: b :: rest) pos) (tAnd tA tB') := by
  intro wh pins s σ H Q I h
  refine isTrue_and (thn (ha pins s σ H _ I h) fun c s1 ⟨H1, I1, q1⟩ => ?_)
  cases c with
  | true => exact hb wh pins s1 σ H1 Q I1 q1
  | false => exact ⟨H1, I1, q1⟩
theorem pw_or (ha : PT X a tA) (hb : PW X (.BoolOp .Or (b :: rest) pos) tB') : PW X (.BoolOp .Or (a :: b :: rest) pos) (tOr tA tB') := by
  intro wh pins s σ H Q I h
  refine isTrue_or (thn (ha pins s σ H _ I h) fun c s1 ⟨H1, I1, q1⟩ => ?_)
  cases c with
  | true => exact ⟨H1, I1, q1⟩
  | false => exact hb wh pins s1 σ H1 Q I1 q1
theorem pt_not (ha : PT X a tA) : PT X (.UnaryOp .Not a pos) (tNot tA) := by
  intro pins s σ H Q I h
  exact isTrue_not (ha pins s σ H (fun c H1 => Q (!c) H1) I h)
def tAndV (ta tb : TE) : TE := fun σ H Q => ta σ H fun x H1 => ∃ c, x = .bl c ∧ if c = true then tb σ H1 Q else Q (.bl false) H1
def tOrV (ta tb : TE) : TE := fun σ H Q => ta σ H fun x H1 => ∃ c, x = .bl c ∧ if c = true then Q (.bl true) H1 else tb σ H1 Q
def tNotV (ta : TE) : TE := fun σ H Q => ta σ H fun x H1 => ∃ c, x = .bl c ∧ Q (.bl (!c)) H1
theorem pe_one {op} {t : TE} (h : PE X a t) : PE X (.BoolOp op [a] pos) t := fun pins s σ H Q I hw => BoolOp_one (h pins s σ H Q I hw)
theorem pe_and (ha : PE X a ta) (hb : PE X (.BoolOp .And (b :: rest) pos) tb) : PE X (.BoolOp .And (a :: b :: rest) pos) (tAndV ta tb) := by
  intro pins s σ H Q I h
  refine BoolOp_and (thn (ha pins s σ H _ I h) fun v s1 ⟨x, H1, I1, r1, q1⟩ => ?_)
  obtain ⟨c, rfl, q1⟩ := q1
  cases r1
  refine wpAny_truthy_bool ?_
  cases c with
  | true => exact hb pins s1 σ H1 Q I1 q1
  | false => exact ⟨.bl false, H1, I1, rfl, q1⟩
def tIf (t : TT) (ta tb : TE) : TE := fun σ H Q => t σ H fun c H1 => if c = true then ta σ H1 Q else tb σ H1 Q
theorem pe_ifExp {c : Expr} (hc : PT X c tA) (ha : PE X a ta) (hb : PE X b tb) : PE X (.IfExp c a b pos) (tIf tA ta tb) := by
  intro pins s σ H Q I h
  refine wpAny_IfExp (thn (hc pins s σ H _ I h) fun d s1 ⟨H1, I1, q1⟩ => ?_)
  cases d with
  | true => exact ha pins s1 σ H1 Q I1 q1
  | false => exact hb pins s1 σ H1 Q I1 q1
end
end L2
namespace L2
open PySem PySem.Spec PyProof.Rows
def SqL (K : PySem.W.Frag) (H : Hp) (a : Addr) (xs : List V) : Prop :=
  Rd H a (.lst xs) ∨
    ∃ (o : Obj) (its : Array Value) (n : Nat), K.lookup a = some o ∧ o.cls = .type "list" ∧ o.dict = none ∧ o.data = .seq its n ∧ its.size ≤ sizeLine ∧ Vals xs its.toList
def SqT (K : PySem.W.Frag) (H : Hp) (a : Addr) (xs : List V) : Prop :=
  Rd H a (.tup xs) ∨
    ∃ (o : Obj) (its : Array Value) (n : Nat), K.lookup a = some o ∧ o.cls = .type "tuple" ∧ o.data = .seq its n ∧ its.size ≤ sizeLine ∧ Vals xs its.toList
def absV : Value → Option V
  | .none => some .non
  | .bool b => some (.bl b)
  | .int i _ => some (.int i)
  | .str x _ => some (.str x)
  | .bytes b _ => some (.byt b)
  | .float b _ => some (.flt b)
  | .ref a => some (.ref a)
  | .type n => some (.ty n)
  | _ => none
theorem RelV.abs {x : V} {u : Value} (r : RelV x u) : absV u = some x := by
  cases x with
  | non => cases r; rfl
  | bl _ => cases r; rfl
  | int _ => obtain ⟨t, rfl⟩ := r; rfl
  | str _ => obtain ⟨t, rfl⟩ := r; rfl
  | byt _ => obtain ⟨t, rfl⟩ := r; rfl
  | flt _ => obtain ⟨t, rfl⟩ := r; rfl
  | ref _ => cases r; rfl
  | ty _ => cases r; rfl
theorem RelV.inj {x y : V} {u : Value} (r : RelV x u) (q : RelV y u) : x = y := Option.some.inj (r.abs.symm.trans q.abs)
theorem Vals.inj : ∀ {xs ys : List V} {us : List Value}, Vals xs us → Vals ys us → xs = ys
  | _, _, _, .nil, .nil => rfl
  | _, _, _, .cons r t, .cons r' t' => by rw [r.inj r', Vals.inj t t']
section
variable {X : Cx} {pins : List (Addr × Obj)} {σ : St} {H : Hp} {s : Shared} {a : Addr} {xs ys : List V}
theorem SqL.of {K : PySem.W.Frag} (h : H a = some (.lst xs)) : SqL K H a xs := .inl (.inl h)
theorem SqT.of {K : PySem.W.Frag} (h : H a = some (.tup xs)) : SqT K H a xs := .inl (.inl h)
theorem Inv.list (I : Inv X pins σ H s) (h : SqL X.K H a xs) : ∃ its : List Value, Vals xs its ∧ PlainL s.heap a its.toArray ∧ xs.length ≤ sizeLine := by
  rcases h with h | ⟨o, its, n, hk, hc, hd, hs, hz, r⟩
  · obtain ⟨z, its, n, r, e⟩ := h.ok I.hok
    exact ⟨its, r, ⟨_, n, e, rfl, rfl, rfl⟩, z⟩
  · refine ⟨its.toList, r, ⟨o, n, I.kIn a o hk, hc, hd, by simpa using hs⟩, ?_⟩
    have e := r.length
    simp only [Array.length_toList] at e
    omega
theorem Inv.tuple (I : Inv X pins σ H s) (h : SqT X.K H a xs) : ∃ its : List Value, Vals xs its ∧ IsTup s.heap a its.toArray ∧ xs.length ≤ sizeLine := by
  rcases h with h | ⟨o, its, n, hk, hc, hs, hz, r⟩
  · obtain ⟨z, its, r, p⟩ := h.ok I.hok
    exact ⟨its, r, p, z⟩
  · refine ⟨its.toList, r, ⟨o, I.kIn a o hk, hc, n, by simpa using hs⟩, ?_⟩
    have e := r.length
    simp only [Array.length_toList] at e
    omega
theorem Inv.list_inj (I : Inv X pins σ H s) (h : SqL X.K H a xs) (h' : SqL X.K H a ys) : xs = ys := by
  obtain ⟨its, r, ⟨o, n, e, _, _, d⟩, _⟩ := I.list h
  obtain ⟨its', r', ⟨o', n', e', _, _, d'⟩, _⟩ := I.list h'
  rw [e] at e'; cases e'
  rw [d] at d'
  injection d' with d1 _
  have : its = its' := by simpa using congrArg Array.toList d1
  subst this
  exact r.inj r'
end
abbrev Cx.wish (X : Cx) (E : Value → Shared → Prop) : Cx := { X with xe := E }
abbrev Cx.nox (X : Cx) : Cx := X.wish fun _ _ => False
theorem Cx.Ok.wish {X : Cx} (ok : X.Ok) (E : Value → Shared → Prop) : (X.wish E).Ok :=
  ⟨ok.mod, ok.kind, ok.glob, ok.blt, ok.above, ok.inj, ok.has, ok.cab, ok.hd, ok.frames, ok.stk, ok.exf, ok.bs, ok.bsz, ok.noex, ok.exfs, ok.funs, ok.frf⟩
theorem Cx.Ok.unwish {X : Cx} {E : Value → Shared → Prop} (ok : (X.wish E).Ok) : X.Ok :=
  ⟨ok.mod, ok.kind, ok.glob, ok.blt, ok.above, ok.inj, ok.has, ok.cab, ok.hd, ok.frames, ok.stk, ok.exf, ok.bs, ok.bsz, ok.noex, ok.exfs, ok.funs, ok.frf⟩
section
variable {X : Cx} {pins : List (Addr × Obj)} {σ : St} {H : Hp} {s : Shared} {E : Value → Shared → Prop}
theorem Inv.wish (I : Inv X pins σ H s) (E : Value → Shared → Prop) : Inv (X.wish E) pins σ H s := ⟨I.ok.wish E, I.os, I.bare, I.base, I.loc, I.cell, I.free, I.freeC, I.pin, I.hok, I.len⟩
theorem Inv.unwish (I : Inv (X.wish E) pins σ H s) : Inv X pins σ H s := ⟨I.ok.unwish, I.os, I.bare, I.base, I.loc, I.cell, I.free, I.freeC, I.pin, I.hok, I.len⟩
theorem SP.unwish {D : Ends} {f : Flow} {s' : Shared} (h : SP (X.wish E) pins D f s') : SP X pins D f s' := by
  cases f with
  | next => obtain ⟨σ', H', I, q⟩ := h; exact ⟨σ', H', I.unwish, q⟩
  | brk => obtain ⟨σ', H', I, q⟩ := h; exact ⟨σ', H', I.unwish, q⟩
  | cont => obtain ⟨σ', H', I, q⟩ := h; exact ⟨σ', H', I.unwish, q⟩
  | ret u => obtain ⟨v, σ', H', I, r, q⟩ := h; exact ⟨v, σ', H', I.unwish, r, q⟩
theorem PE.nox {e : Expr} {t : TE} (h : PE X.nox e t) : PE X e t := fun pins s σ H Q I hw =>
  wpAny_mono (h pins s σ H Q (I.wish _) hw) (fun _ _ ⟨v, H', I', r, q⟩ => ⟨v, H', I'.unwish, r, q⟩) fun _ _ z => False.elim z
theorem PT.nox {e : Expr} {t : TT} (h : PT X.nox e t) : PT X e t := fun pins s σ H Q I hw =>
  wpAny_mono (h pins s σ H Q (I.wish _) hw) (fun _ _ ⟨H', I', q⟩ => ⟨H', I'.unwish, q⟩) fun _ _ z => False.elim z
theorem PSs.nox {st : List Stmt} {t : TS} (h : PSs X.nox st t) : PSs X st t := fun pins s σ H D I hw =>
  wpAny_mono (h pins s σ H D (I.wish _) hw) (fun _ _ q => q.unwish) fun _ _ z => False.elim z
end
section
variable {X : Cx} {st : Stmt} {rest : List Stmt} {t u : TS} {e : Expr} {te : TE} {pos : Pos}
def tNext : TS := fun D σ H => D.nx σ H
def tSeq (t u : TS) : TS := fun D σ H => t { D with nx := u D } σ H
theorem pss_nil : PSs X [] tNext := fun _ _ σ H _ I h => wpAny_execs_nil ⟨σ, H, I, h⟩
theorem pss_cons (h1 : PS X st t) (h2 : PSs X rest u) : PSs X (st :: rest) (tSeq t u) := by
  intro pins s σ H D I h
  refine wpAny_execs_cons (thn (h1 pins s σ H { D with nx := u D } I h) fun f s1 q => ?_)
  cases f with
  | next =>
    obtain ⟨σ', H', I', q⟩ := q
    exact h2 pins s1 σ' H' D I' q
  | ret v => exact q
  | brk => exact q
  | cont => exact q
theorem pss_one (h1 : PS X st t) : PSs X [st] t := by
  intro pins s σ H D I h
  refine wpAny_execs_cons (thn (h1 pins s σ H D I h) fun f s1 q => ?_)
  cases f with
  | next => exact wpAny_execs_nil q
  | ret v => exact q
  | brk => exact q
  | cont => exact q
theorem Inv.quiet {pins : List (Addr × Obj)} {σ : St} {H : Hp} {s : Shared} (I : Inv X pins σ H s) : interactive X.env = false := by simp [interactive, I.ok.kind]
def tDrop (te : TE) : TS := fun D σ H => te σ H fun _ H1 => D.nx σ H1
theorem ps_expr (he : PE X e te) (hs : swapsWith e none pos.line X.env = pure false := by rfl) : PS X (.Expr e pos) (tDrop te) := by
  intro pins s σ H D I h
  exact wpAny_Expr_any (thn (he pins s σ H _ I h) fun v s1 ⟨x, H1, I1, r1, q1⟩ => ⟨σ, H1, I1, q1⟩) I.quiet hs
def tRet (te : TE) : TS := fun D σ H => te σ H D.rt
theorem ps_ret (he : PE X e te) : PS X (.Return (some e) pos) (tRet te) := by
  intro pins s σ H D I h
  exact wpAny_Return_some (thn (he pins s σ H _ I h) fun v s1 ⟨x, H1, I1, r1, q1⟩ => ⟨x, σ, H1, I1, r1, q1⟩)
def tRetN : TS := fun D _ H => D.rt .non H
theorem ps_retN : PS X (.Return none pos) tRetN := fun _ _ σ H _ I h => wpAny_Return_none ⟨.non, σ, H, I, rfl, h⟩
def tIfS (c : TT) (t u : TS) : TS := fun D σ H => c σ H fun b H1 => if b = true then t D σ H1 else u D σ H1
theorem ps_if {c : Expr} {a b : List Stmt} {tc : TT} (hc : PT X c tc) (ha : PSs X a t) (hb : PSs X b u) : PS X (.If c a b pos) (tIfS tc t u) := by
  intro pins s σ H D I h
  refine wpAny_If (thn (hc pins s σ H _ I h) fun d s1 ⟨H1, I1, q1⟩ => ?_)
  cases d with
  | true => exact ha pins s1 σ H1 D I1 q1
  | false => exact hb pins s1 σ H1 D I1 q1
end
abbrev TG := V → St → Hp → (St → Hp → Prop) → Prop
def PG (X : Cx) (target : Expr) (t : TG) : Prop :=
  ∀ (pins : List (Addr × Obj)) (s : Shared) (σ : St) (H : Hp) (v : V) (u : Value) (Q : St → Hp → Prop), Inv X pins σ H s → RelV v u → t v σ H Q →
    wpAny (model X.prog X.w) X.A (assign target X.env u) (fun _ s' => ∃ σ' H', Inv X pins σ' H' s' ∧ Q σ' H') X.xe s
abbrev TIp := V → V → Hp → VK → Prop
def PIp (X : Cx) (op : Operator) (t : TIp) : Prop :=
  ∀ (pins : List (Addr × Obj)) (s : Shared) (σ : St) (H : Hp) (x y : V) (v u : Value) (Q : VK), Inv X pins σ H s → RelV x v → RelV y u → t x y H Q →
    wpAny (model X.prog X.w) X.A (inplaceOp op v u) (EP X pins σ Q) X.xe s
section
variable {X : Cx} {pos : Pos}
def gName (i : Nat) : TG := fun v σ H Q => Q (σ.set i (some v)) H
theorem pg_name {i : Nat} {x : Str} (hN : X.N.Nodup) (hi : X.N[i]? = some x) (hx : Loc X.env.scope x) (hf : X.fn x = true ∨ X.env.scope.names.lookup x = some .local := by first | exact .inl rfl | exact .inr rfl | assumption) : PG X (.Name x pos) (gName i) := by
  intro pins s σ H v u Q I r h
  exact wpAny_assign_Name (store_ok I hN hi hx r (fun s' I' => ⟨_, H, I', h⟩) hf)
def tAsg (te : TE) (g : TG) : TS := fun D σ H => te σ H fun x H1 => g x σ H1 D.nx
theorem ps_set {i : Nat} {x : Str} {e : Expr} {te : TE} {pos' : Pos} (hN : X.N.Nodup) (hi : X.N[i]? = some x) (hx : Loc X.env.scope x) (he : PE X e te) (hs : swapsWith e (some (.Name x pos')) pos.line X.env = pure false := by rfl) (hf : X.fn x = true ∨ X.env.scope.names.lookup x = some .local := by first | exact .inl rfl | exact .inr rfl | assumption) :
    PS X (.Assign [.Name x pos'] e pos) (tAsg te (gName i)) := by
  intro pins s σ H D I h
  refine wpAny_Assign_Name (thn (he pins s σ H _ I h) fun v s1 ⟨y, H1, I1, r1, q1⟩ => ?_) hs
  exact store_ok I1 hN hi hx r1 (fun s2 I2 => ⟨_, H1, I2, q1⟩) hf
def tAug (i : Nat) (te : TE) (ti : TIp) : TS := fun D σ H => ∃ x, σ[i]? = some (some x) ∧ te σ H fun y H1 => ti x y H1 fun z H2 => D.nx (σ.set i (some z)) H2
theorem ps_aug {i : Nat} {x : Str} {e : Expr} {te : TE} {op : Operator} {ti : TIp} {pos' : Pos} (hN : X.N.Nodup) (hi : X.N[i]? = some x) (hx : Loc X.env.scope x) (he : PE X e te) (ho : PIp X op ti) (hf : X.fn x = true ∨ X.env.scope.names.lookup x = some .local := by first | exact .inl rfl | exact .inr rfl | assumption) :
    PS X (.AugAssign (.Name x pos') op e pos) (tAug i te ti) := by
  intro pins s σ H D I h
  obtain ⟨v, e1, h⟩ := h
  obtain ⟨m, hn, hl⟩ := I.loc
  have vis : Vis X.env.scope x := by rcases hx with k | k; exact .inl k; exact .inr (.inl k)
  obtain ⟨u, r, l⟩ := hl i x v hi e1 vis
  refine wpAny_AugAssign_Name ?_
  have go : wpAny (model X.prog X.w) X.A (eval e X.env) (fun w s₂ => wpAny (model X.prog X.w) X.A (inplaceOp op u w) (fun r s₃ => wpAny (model X.prog X.w) X.A (storeName X.env x r) (fun _ => SP X pins D .next) X.xe s₃) X.xe s₂) X.xe s := by
    refine thn (he pins s σ H _ I h) fun w s1 ⟨y, H1, I1, r1, q1⟩ => ?_
    refine thn (ho pins s1 σ H1 v y u w _ I1 r r1 q1) fun z s2 ⟨zv, H2, I2, r2, q2⟩ => ?_
    exact store_ok I2 hN hi hx r2 (fun s3 I3 => ⟨_, H2, I3, q2⟩) hf
  rcases l with ⟨hk, hm⟩ | ⟨hk, c, hc, hcell⟩
  · exact wpAny_loadName_local I.ok.kind hk hn hm go
  · rcases hk with hk | hk
    · exact wpAny_loadName_cell I.ok.kind hk hc hcell go
    · rcases hx with k | k
      · have : X.env.scope.names.lookup x = some .free := hk
        rw [k] at this; cases this
      · have : X.env.scope.names.lookup x = some .free := hk
        rw [k] at this; cases this
def ipI (f : Int → Int → Int) : TIp := fun x y H Q => ∃ i j, x = .int i ∧ y = .int j ∧ Q (.int (f i j)) H
theorem ip_add : PIp X .Add (ipI fun i j => i + j) := by
  intro pins s σ H x y v u Q I r1 r2 h
  obtain ⟨i, j, e1, e2, q⟩ := h
  subst e1; subst e2
  obtain ⟨t, rfl⟩ := r1
  obtain ⟨t', rfl⟩ := r2
  exact iadd_int ⟨.int _, H, I.tok _, ⟨_, rfl⟩, q⟩
end
section
variable {X : Cx} {pos : Pos}
def tWhile (c : TT) (tb : TS) : TS := fun D σ H => ∃ W : Nat → St → Hp → Prop, (∃ m, W m σ H) ∧ ∀ m σ H, W m σ H →
  c σ H fun b H1 => if b = true then ∃ N : St → Hp → Prop, (∀ σ' H', N σ' H' → ∃ m', m' < m ∧ W m' σ' H') ∧ tb { D with nx := N, ct := N, bk := D.nx } σ H1 else D.nx σ H1
theorem ps_while {c : Expr} {body : List Stmt} {tc : TT} {tb : TS} (hp : PassesOwn (model X.prog X.w) X.A X.env X.xe) (hc : PT X c tc) (hb : PSs X body tb) : PS X (.While c body [] pos) (tWhile tc tb) := by
  intro pins s σ H D I h
  obtain ⟨W, ⟨m0, w0⟩, turn⟩ := h
  refine wpAny_While (codeAny_whileLoop (fun n s' => ∃ σ' H', Inv X pins σ' H' s' ∧ W n σ' H') ?_ m0 ⟨σ, H, I, w0⟩)
  rintro n s1 ⟨σ1, H1, I1, w1⟩
  refine wpAny_passesOwn hp (thn (hc pins s1 σ1 H1 _ I1 (turn n σ1 H1 w1)) fun b s2 ⟨H2, I2, q2⟩ => ?_)
  cases b with
  | true =>
    obtain ⟨N, hN, q2⟩ := q2
    rw [if_pos rfl]
    refine wpAny_passesOwn hp (thn (hb pins s2 σ1 H2 _ I2 q2) fun f s3 q3 => ?_)
    cases f with
    | next =>
      obtain ⟨σ3, H3, I3, n3⟩ := q3
      obtain ⟨m', hm, w3⟩ := hN σ3 H3 n3
      exact ⟨m', hm, σ3, H3, I3, w3⟩
    | cont =>
      obtain ⟨σ3, H3, I3, n3⟩ := q3
      obtain ⟨m', hm, w3⟩ := hN σ3 H3 n3
      exact ⟨m', hm, σ3, H3, I3, w3⟩
    | brk => exact q3
    | ret v => exact q3
  | false =>
    rw [if_neg Bool.false_ne_true]
    exact wpAny_execs_nil ⟨σ1, H2, I2, q2⟩
end
structure It where
  go : Nat → Hp → Prop
  yld : Nat → Hp → V → Hp → Prop
  stop : Nat → Hp → Prop
def FpOk (X : Cx) (pins : List (Addr × Obj)) (H : Hp) (b : Addr) : Prop :=
  H b = none ∧ b ≠ X.env.locals ∧ b ∉ X.fs ∧ (b ∈ X.ex ∨ X.s_0.heap.objs.size ≤ b) ∧ (∀ x c, X.env.cells.lookup x = some c → c ≠ b) ∧ ∀ p ∈ X.pn ++ pins, p.1 ≠ b
theorem Inv.fpOk {X : Cx} {pins : List (Addr × Obj)} {σ : St} {H H' : Hp} {s : Shared} {b : Addr} (I : Inv X pins σ H s) (hb : s.heap.objs.size ≤ b) (hn : H' b = none) : FpOk X pins H' b := by
  refine ⟨hn, Nat.ne_of_gt (Nat.lt_of_lt_of_le I.lt hb), I.nofs hb, .inr (Nat.le_trans I.sz hb), fun x c e z => ?_, fun p hp z => ?_⟩
  · obtain ⟨v, q⟩ := I.cell x c e
    exact absurd (Nat.lt_of_lt_of_le q.lt (by rw [z]; exact hb)) (Nat.lt_irrefl _)
  · exact absurd (Nat.lt_of_lt_of_le (Heap.lt_size (I.pin p hp).1) (by rw [z]; exact hb)) (Nat.lt_irrefl _)
structure Turn (P : Program) (w : World) (K : PySem.W.Frag) (tg : Expr) (J : It) (fp : List Addr) (it : Addr) (tn : Nat → Heap → Prop) : Prop where
  mem : it ∈ fp
  obj : ∀ i h, tn i h → ∀ b ∈ fp, ∃ o, h.get? b = some o ∧ ∀ v, o.data ≠ .cell v
  keep : ∀ i h h', tn i h → (∀ b ∈ fp, ∀ o, h.get? b = some o → h'.get? b = some o) → tn i h'
  item : ∀ (X : Cx), X.prog = P → X.w = w → X.K = K → X.calm = true → ∀ (i : Nat) (pins : List (Addr × Obj)) (s : Shared) (σ : St) (H : Hp) (E : Value → Shared → Prop), Inv X pins σ H s → (∀ b ∈ fp, FpOk X pins H b) → tn i s.heap → J.go i H →
    wpAny (model P w) X.A (pyNext (.ref it)) (fun r s1 => ∃ u, r = some u ∧
      wpAny (model P w) X.A (letOwnedTupleGo tg (.ref it) u) (fun _ s2 => ∃ x H', Inv X pins σ H' s2 ∧ RelV x u ∧ J.yld i H x H' ∧ tn (i + 1) s2.heap ∧ ∀ b ∈ fp, H' b = none) E s1) E s
  done : ∀ (X : Cx), X.prog = P → X.w = w → X.K = K → X.calm = true → ∀ (i : Nat) (pins : List (Addr × Obj)) (s : Shared) (σ : St) (H : Hp) (E : Value → Shared → Prop), Inv X pins σ H s → (∀ b ∈ fp, FpOk X pins H b) → tn i s.heap → J.stop i H →
    wpAny (model P w) X.A (pyNext (.ref it)) (fun r s1 => r = none ∧ Inv X pins σ H s1) E s
  self : ∀ (A : Around) (i : Nat) (s : Shared) (Q : Value → Shared → Prop) (E : Value → Shared → Prop), tn i s.heap → Q (.ref it) s → wpAny (model P w) A (pyIter (.ref it)) Q E s
abbrev TI := St → Hp → (It → Hp → Prop) → Prop
def PIE (X : Cx) (pins : List (Addr × Obj)) (σ : St) (tg : Expr) (R : It → Hp → Prop) (itv : Value) (s2 : Shared) : Prop :=
  ∃ (it : Addr) (fp : List Addr) (tn : Nat → Heap → Prop) (J : It) (H' : Hp), itv = .ref it ∧ Inv X pins σ H' s2 ∧ Turn X.prog X.w X.K tg J fp it tn ∧ tn 0 s2.heap ∧ (∀ b ∈ fp, FpOk X pins H' b) ∧ R J H'
def PI (X : Cx) (tg iter : Expr) (wi : TI) : Prop :=
  ∀ (pins : List (Addr × Obj)) (s : Shared) (σ : St) (H : Hp) (R : It → Hp → Prop), Inv X pins σ H s → wi σ H R →
    wpAny (model X.prog X.w) X.A (eval iter X.env) (fun v s1 => wpAny (model X.prog X.w) X.A (pyIter v) (PIE X pins σ tg R) X.xe s1) X.xe s
theorem go_of {M : Model} {A : Around} {E : Value → Shared → Prop} {s : Shared} {tg : Expr} {it : Addr} {u : Value} {o : Obj} {n : String} {vs : Array Value} {Q : Unit → Shared → Prop} (ho : s.heap.get? it = some o) (hc : o.cls = .type n) (hd : o.data = .fields vs)
    (hn : ["enumerate", "zip", "dict_itemiterator", "dict_reverseitemiterator", "odict_iterator", "itertools.zip_longest", "itertools.pairwise"].contains n = false) (hQ : Q () s) : wpAny M A (letOwnedTupleGo tg (.ref it) u) Q E s := by
  unfold letOwnedTupleGo
  cases tg <;> first
    | exact wpAny_pure hQ
    | (cases u <;> first
        | exact wpAny_pure hQ
        | (refine wpAny_bind (wpAny_load ho ?_)
           rw [hc, hd]
           show wpAny M A (if (["enumerate", "zip", "dict_itemiterator", "dict_reverseitemiterator", "odict_iterator", "itertools.zip_longest", "itertools.pairwise"].contains n && vs[0]? == some (rawInt _)) = true then _ else _) Q E s
           rw [if_neg (by intro h; rw [hn, Bool.false_and] at h; cases h)]
           exact wpAny_pure hQ))
def Itl (K : PySem.W.Frag) (a : Addr) : It :=
  ⟨fun i H => ∃ xs x, SqL K H a xs ∧ xs[i]? = some x, fun i H x H' => H' = H ∧ ∀ xs, SqL K H a xs → xs[i]? = some x, fun i H => ∃ xs, SqL K H a xs ∧ xs.length ≤ i⟩
def Itr (lo : Int) (n : Nat) : It := ⟨fun i _ => i < n, fun i H x H' => H' = H ∧ x = .int (lo + i), fun i _ => n ≤ i⟩
theorem turn_list {P : Program} {w : World} {K : PySem.W.Frag} {tg : Expr} (a it : Addr) : Turn P w K tg (Itl K a) [it] it (fun i h => h.IsListIter it a i) where
  mem := by simp
  obj := fun i h st b hb => by
    have e : b = it := by simpa using hb
    subst e
    obtain ⟨o, e, c, d⟩ := st
    exact ⟨o, e, fun v z => by rw [d] at z; cases z⟩
  keep := fun i h h' st k => st.at fun o e => k it (by simp) o e
  item := by
    intro X hP hw hK hc i pins s σ H E I hf st hg
    subst hP hw hK
    obtain ⟨xs, x, hq, hx⟩ := hg
    obtain ⟨its, rv, p, hz⟩ := I.list hq
    obtain ⟨u, hu, ru⟩ := rv.get hx
    obtain ⟨f0, f1, f2, f3, f4, f5⟩ := hf it (by simp)
    refine wpAny_pyNext_list_item st p.isList (x := u) (by simpa using hu) fun h' st' sb => ?_
    have I1 : Inv X pins σ H { s with heap := h' } := I.turned (t' := s.toks) (fun b o hb e => (sb.2 b hb).trans e) f0 f1 f3 f4 f5
    obtain ⟨o, e, c, d⟩ := id st'
    exact ⟨u, rfl, go_of (s := { s with heap := h' }) e c d (by decide) ⟨x, H, I1, ru, ⟨rfl, fun ys hy => by rw [I.list_inj hy hq]; exact hx⟩, st', fun b hb => (hf b hb).1⟩⟩
  done := by
    intro X hP hw hK hc i pins s σ H E I hf st hg
    subst hP hw hK
    obtain ⟨xs, hq, hx⟩ := hg
    obtain ⟨its, rv, p, hz⟩ := I.list hq
    obtain ⟨f0, f1, f2, f3, f4, f5⟩ := hf it (by simp)
    have hl := rv.length
    exact wpAny_pyNext_list_end (I.ok.hd hc) st p.isList (by simp; omega) fun h' eb => ⟨rfl, I.turned (t' := s.toks) (fun b o hb e => eb b o hb e) f0 f1 f3 f4 f5⟩
  self := fun _ _ _ _ _ st h => wpAny_pyIter_listiter st h
theorem turn_range {P : Program} {w : World} {K : PySem.W.Frag} {tg : Expr} (it : Addr) (lo : Int) (n : Nat) : Turn P w K tg (Itr lo n) [it] it (fun i h => IsRangeIter h it (lo + (i : Nat) * 1) ((n : Int) - (i : Nat)) 1) where
  mem := by simp
  obj := fun i h st b hb => by
    have e : b = it := by simpa using hb
    subst e
    exact ⟨_, st, fun v z => by
      have z' : Data.fields _ = Data.cell v := z
      cases z'⟩
  keep := fun i h h' st k => k it (by simp) _ st
  item := by
    intro X hP hw hK hc i pins s σ H E I hf st hg
    subst hP hw hK
    obtain ⟨f0, f1, f2, f3, f4, f5⟩ := hf it (by simp)
    have W := Walks.range (prog := X.prog) (w := X.w) (I.ok.hd hc) it lo 1 n
    refine W.item i s _ _ hg st fun v h' tk hv st' kk => ?_
    obtain ⟨t, rfl⟩ := hv
    have I1 : Inv X pins σ H { s with heap := h', toks := tk } := I.turned (fun b o hb e => kk b o (by simpa using hb) e) f0 f1 f3 f4 f5
    refine ⟨_, rfl, go_of (s := { s with heap := h', toks := tk }) (n := "range_iterator") st' rfl rfl (by decide) ⟨.int (lo + i), H, I1, ⟨t, ?_⟩, ⟨rfl, rfl⟩, st', fun b hb => (hf b hb).1⟩⟩
    rw [Int.mul_one]
  done := by
    intro X hP hw hK hc i pins s σ H E I hf st hg
    subst hP hw hK
    obtain ⟨f0, f1, f2, f3, f4, f5⟩ := hf it (by simp)
    exact wpAny_pyNext_range_end (I.ok.hd hc) st (by have : n ≤ i := hg; omega) fun h' eb => ⟨rfl, I.turned (t' := s.toks) (fun b o hb e => eb b o hb e) f0 f1 f3 f4 f5⟩
  self := fun _ _ _ _ _ st h => wpAny_pyIter_rangeiter st h
end L2
namespace L2
open PySem PySem.Spec PyProof.Rows
section
variable {X : Cx} {tg : Expr}
def iList (K : PySem.W.Frag) (tl : TE) : TI := fun σ H R => tl σ H fun x H1 => ∃ a, x = .ref a ∧ (∃ xs, SqL K H1 a xs) ∧ R (Itl K a) H1
theorem pi_list {l : Expr} {tl : TE} (hl : PE X l tl) : PI X tg l (iList X.K tl) := by
  intro pins s σ H R I h
  refine thn (hl pins s σ H _ I h) fun v s1 ⟨x, H1, I1, r1, q1⟩ => ?_
  obtain ⟨a, e, ⟨xs, hq⟩, q⟩ := q1
  subst e
  cases r1
  obtain ⟨its, rv, p, hz⟩ := I1.list hq
  refine wpAny_pyIter_list p.isList ?_
  refine ⟨s1.heap.objs.size, [s1.heap.objs.size], _, _, H1, rfl, I1.kept (t' := s1.toks) fun b o e => Heap.get?_push_of_some _ e, turn_list a _, ⟨_, Heap.get?_push_size _ rfl, rfl, rfl⟩, fun b hb => ?_, q⟩
  have e : b = s1.heap.objs.size := by simpa using hb
  subst e
  exact I1.fpOk (Nat.le_refl _) (I1.hok.fresh (Nat.le_refl _))
theorem range_it {pins : List (Addr × Obj)} {σ : St} {H : Hp} {s : Shared} {R : It → Hp → Prop} {E : Value → Shared → Prop} {lo hi : Int} {t u v : Tok} {tk : Nat} (I : Inv X pins σ H s) (h1 : -(2 ^ 62) ≤ lo) (h2 : lo < 2 ^ 62) (h3 : -(2 ^ 62) ≤ hi) (h4 : hi < 2 ^ 62)
    (q : R (Itr lo (hi - lo).toNat) H) : wpAny (model X.prog X.w) X.A (pyIter (.ref s.heap.objs.size)) (PIE X pins σ tg R) E { s with heap := s.heap.push { cls := .type "range", data := .fields #[.int lo t, .int hi u, .int 1 v] }, toks := tk } := by
  refine wpAny_pyIter_range (IsRange.new ..) (small_one h1 h2 h3 h4) ?_
  have I1 : Inv X pins σ H { s with heap := s.heap.push { cls := .type "range", data := .fields #[.int lo t, .int hi u, .int 1 v] }, toks := tk } := I.kept fun b o e => Heap.get?_push_of_some _ e
  refine ⟨(s.heap.push { cls := .type "range", data := .fields #[.int lo t, .int hi u, .int 1 v] }).objs.size, [(s.heap.push { cls := .type "range", data := .fields #[.int lo t, .int hi u, .int 1 v] }).objs.size], _, _, H, rfl,
    I1.kept (t' := tk) fun b o e => Heap.get?_push_of_some _ e, turn_range _ lo (hi - lo).toNat, ?_, fun b hb => ?_, q⟩
  · have e1 : lo + ((0 : Nat) : Int) * 1 = lo := by simp
    have e2 : (((hi - lo).toNat : Nat) : Int) - ((0 : Nat) : Int) = Builtin.Range.rangeSize lo hi 1 := by rw [rangeSize_one]; split <;> omega
    show IsRangeIter _ _ (lo + ((0 : Nat) : Int) * 1) ((((hi - lo).toNat : Nat) : Int) - ((0 : Nat) : Int)) 1
    rw [e1, e2]
    exact Heap.get?_push_size _ rfl
  · have e : b = (s.heap.push { cls := .type "range", data := .fields #[.int lo t, .int hi u, .int 1 v] }).objs.size := by simpa using hb
    subst e
    exact I1.fpOk (Nat.le_refl _) (I1.hok.fresh (Nat.le_refl _))
def iRng1 (ta : TA) : TI := fun σ H R => ta σ H fun vs H1 => ∃ j : Int, vs = [.int j] ∧ -(2 ^ 62) ≤ j ∧ j < 2 ^ 62 ∧ R (Itr 0 j.toNat) H1
def iRng2 (ta : TA) : TI := fun σ H R => ta σ H fun vs H1 => ∃ i j : Int, vs = [.int i, .int j] ∧ (-(2 ^ 62) ≤ i ∧ i < 2 ^ 62 ∧ -(2 ^ 62) ≤ j ∧ j < 2 ^ 62) ∧ R (Itr i (j - i).toNat) H1
theorem pi_range1 {a : Expr} {ta : TA} {p pos : Pos} (hg : Gl X "range") (hm : X.mg "range" = none) (ha : PA X [a] ta) (hs : starEach [a] X.env = [(false, eval a X.env)] := by rfl) : PI X tg (.Call (.Name "range" p) [a] [] pos) (iRng1 ta) := by
  intro pins s σ H R I h
  refine Call_ (ld_blt I hg hm boot_range (PyProof.Rows.callWith_type1 (thn (ha pos pins s σ H _ I h) fun us s1 ⟨vs, H1, I1, r1, q1⟩ => ?_) hs rfl))
  obtain ⟨j, e, q1, q2, q⟩ := q1
  subst e
  cases r1 with
  | cons r rr =>
    cases rr
    obtain ⟨t, rfl⟩ := r
    exact call_range_1 (range_it I1 (by omega) (by omega) q1 q2 (by simpa using q))
theorem pi_range2 {a b : Expr} {ta : TA} {p pos : Pos} (hg : Gl X "range") (hm : X.mg "range" = none) (ha : PA X [a, b] ta) (hs : starEach [a, b] X.env = [(false, eval a X.env), (false, eval b X.env)] := by rfl) (hs2 : starEach [b] X.env = [(false, eval b X.env)] := by rfl) :
    PI X tg (.Call (.Name "range" p) [a, b] [] pos) (iRng2 ta) := by
  intro pins s σ H R I h
  refine Call_ (ld_blt I hg hm boot_range (PyProof.Rows.callWith_type1 (thn (ha pos pins s σ H _ I h) fun us s1 ⟨vs, H1, I1, r1, q1⟩ => ?_) (by rw [hs, hs2]) (by rw [hs2]; rfl)))
  obtain ⟨i, j, e, ⟨q1, q2, q3, q4⟩, q⟩ := q1
  subst e
  cases r1 with
  | cons r rr =>
    cases rr with
    | cons r' rr =>
      cases rr
      obtain ⟨t, rfl⟩ := r
      obtain ⟨t', rfl⟩ := r'
      exact call_range_2 (range_it I1 q1 q2 q3 q4 q)
def tFor (wi : TI) (g : TG) (tb : TS) : TS := fun D σ H => wi σ H fun J H1 => ∃ W : Nat → Nat → St → Hp → Prop, (∃ m, W 0 m σ H1) ∧ ∀ i m σ H, W i m σ H →
  (J.stop i H ∧ D.nx σ H) ∨ (J.go i H ∧ ∃ N : St → Hp → Prop, (∀ σ' H', N σ' H' → ∃ m', m' < m ∧ W (i + 1) m' σ' H') ∧ ∀ x H', J.yld i H x H' → g x σ H' fun σ2 H2 => tb { D with nx := N, ct := N, bk := D.nx } σ2 H2)
def pinsAt (fp : List Addr) (h : Heap) : List (Addr × Obj) := fp.filterMap fun b => (h.get? b).map fun o => (b, o)
theorem mem_pinsAt {fp : List Addr} {h : Heap} {b : Addr} {o : Obj} (hb : b ∈ fp) (e : h.get? b = some o) : (b, o) ∈ pinsAt fp h := List.mem_filterMap.mpr ⟨b, hb, by rw [e]; rfl⟩
theorem of_pinsAt {fp : List Addr} {h : Heap} {p : Addr × Obj} (hp : p ∈ pinsAt fp h) : p.1 ∈ fp ∧ h.get? p.1 = some p.2 := by
  obtain ⟨b, hb, e⟩ := List.mem_filterMap.mp hp
  cases q : h.get? b with
  | none => rw [q] at e; cases e
  | some o =>
    rw [q] at e
    have e' : (b, o) = p := Option.some.inj e
    subst e'
    exact ⟨hb, q⟩
theorem Inv.pinned {pins : List (Addr × Obj)} {σ : St} {H : Hp} {s : Shared} {fp : List Addr} (I : Inv X pins σ H s) (hf : ∀ b ∈ fp, FpOk X pins H b) (ho : ∀ b ∈ fp, ∃ o, s.heap.get? b = some o ∧ ∀ v, o.data ≠ .cell v) : Inv X (pins ++ pinsAt fp s.heap) σ H s :=
  I.pins_of fun p hp => (List.mem_append.mp hp).elim (fun z => I.pin p (List.mem_append_right _ z)) fun z => by
    obtain ⟨hb, e⟩ := of_pinsAt z
    obtain ⟨f0, f1, f2, _⟩ := hf p.1 hb
    obtain ⟨o, e', d⟩ := ho p.1 hb
    rw [e] at e'; cases e'
    exact ⟨e, f0, f1, f2, d⟩
theorem Inv.unpinned {pins pl : List (Addr × Obj)} {σ : St} {H : Hp} {s : Shared} (I : Inv X (pins ++ pl) σ H s) : Inv X pins σ H s := I.pins_of fun p hp => I.pin p (List.mem_append_right _ (List.mem_append_left _ hp))
theorem ps_for {iter : Expr} {body : List Stmt} {wi : TI} {g : TG} {tb : TS} {pos : Pos} (hp : PassesOwn (model X.prog X.w) X.A X.env X.xe) (hc : X.calm = true) (hi : PI X tg iter wi) (hg : PG X tg g) (hb : PSs X body tb)
    (hs : ∀ x, foldedSetIterable iter X.env x = pure x := by intro _; rfl) : PS X (.For tg iter body [] pos) (tFor wi g tb) := by
  intro pins s σ H D I h
  refine wpAny_For (thn (hi pins s σ H _ I h) fun v s1 h1 => thn h1 fun itv s2 h2 => ?_) hs
  obtain ⟨it, fp, tn, J, H2, e, I2, T, st2, f2, W, ⟨m0, w0⟩, turn⟩ := h2
  subst e
  have stat : ∀ {H' : Hp}, (∀ b ∈ fp, H' b = none) → ∀ b ∈ fp, FpOk X pins H' b := fun hn b hb => ⟨hn b hb, (f2 b hb).2⟩
  refine codeAny_forLoop_any (fun n s' => ∃ i σ' H', Inv X pins σ' H' s' ∧ tn i s'.heap ∧ (∀ b ∈ fp, H' b = none) ∧ W i n σ' H') ?_ m0 ⟨0, σ, H2, I2, st2, fun b hb => (f2 b hb).1, w0⟩
  rintro n s3 ⟨i, σ3, H3, I3, st3, fr3, w3⟩
  rcases turn i n σ3 H3 w3 with ⟨stop, qn⟩ | ⟨go, N, hN, step⟩
  · refine wpAny_passesOwn hp (thn (T.done X rfl rfl rfl hc i pins s3 σ3 H3 X.xe I3 (stat fr3) st3 stop) fun r s4 ⟨hr, I4⟩ => ?_)
    subst hr
    exact wpAny_execs_nil ⟨σ3, H3, I4, qn⟩
  · refine wpAny_passesOwn hp (thn (T.item X rfl rfl rfl hc i pins s3 σ3 H3 X.xe I3 (stat fr3) st3 go) fun r s4 ⟨u, hr, h4⟩ => ?_)
    subst hr
    refine wpAny_passesOwn hp (thn h4 fun _ s5 ⟨x, H5, I5, r5, y5, st5, fr5⟩ => ?_)
    have I5' := I5.pinned (stat fr5) (T.obj _ _ st5)
    refine wpAny_passesOwn hp (thn (hg _ s5 σ3 H5 x u _ I5' r5 (step x H5 y5)) fun _ s6 ⟨σ6, H6, I6, q6⟩ => ?_)
    refine wpAny_passesOwn hp (thn (hb _ s6 σ6 H6 _ I6 q6) fun f s7 q7 => ?_)
    have again : ∀ {σ7 : St} {H7 : Hp}, Inv X (pins ++ pinsAt fp s5.heap) σ7 H7 s7 → N σ7 H7 → ∃ m, m < n ∧ ∃ i σ' H', Inv X pins σ' H' s7 ∧ tn i s7.heap ∧ (∀ b ∈ fp, H' b = none) ∧ W i m σ' H' := fun {σ7 H7} I7 n7 => by
      obtain ⟨m', hm, w7⟩ := hN σ7 H7 n7
      refine ⟨m', hm, i + 1, σ7, H7, I7.unpinned, T.keep _ _ _ st5 fun b hb o e => (I7.pin (b, o) (List.mem_append_right _ (List.mem_append_right _ (mem_pinsAt hb e)))).1, fun b hb => ?_, w7⟩
      obtain ⟨o, e, d⟩ := T.obj _ _ st5 b hb
      exact (I7.pin (b, o) (List.mem_append_right _ (List.mem_append_right _ (mem_pinsAt hb e)))).2.1
    cases f with
    | next => obtain ⟨σ7, H7, I7, n7⟩ := q7; exact again I7 n7
    | cont => obtain ⟨σ7, H7, I7, n7⟩ := q7; exact again I7 n7
    | brk => obtain ⟨σ7, H7, I7, q7⟩ := q7; exact ⟨σ7, H7, I7.unpinned, q7⟩
    | ret v => obtain ⟨x7, σ7, H7, I7, r7, q7⟩ := q7; exact ⟨x7, σ7, H7, I7.unpinned, r7, q7⟩
end
theorem for_list {K : PySem.W.Frag} {a : Addr} {xs : List V} {g : TG} {tb : TS} {D : Ends} {σ : St} {H : Hp} (Pv : Nat → St → Hp → Prop) (h0 : Pv 0 σ H) (hl : ∀ i σ H, i ≤ xs.length → Pv i σ H → SqL K H a xs)
    (hs : ∀ i x σ H, xs[i]? = some x → Pv i σ H → g x σ H fun σ2 H2 => tb { D with nx := Pv (i + 1), ct := Pv (i + 1), bk := D.nx } σ2 H2) (hd : ∀ σ H, Pv xs.length σ H → D.nx σ H) :
    ∃ W : Nat → Nat → St → Hp → Prop, (∃ m, W 0 m σ H) ∧ ∀ i m σ H, W i m σ H →
      ((Itl K a).stop i H ∧ D.nx σ H) ∨ ((Itl K a).go i H ∧ ∃ N : St → Hp → Prop, (∀ σ' H', N σ' H' → ∃ m', m' < m ∧ W (i + 1) m' σ' H') ∧ ∀ x H', (Itl K a).yld i H x H' → g x σ H' fun σ2 H2 => tb { D with nx := N, ct := N, bk := D.nx } σ2 H2) := by
  refine ⟨fun i m σ H => m = xs.length - i ∧ i ≤ xs.length ∧ Pv i σ H, ⟨xs.length, by simp, Nat.zero_le _, h0⟩, ?_⟩
  rintro i m σ H ⟨rfl, hi, p⟩
  have q := hl i σ H hi p
  by_cases hlt : i < xs.length
  · refine .inr ⟨⟨xs, xs[i], q, by simp [hlt]⟩, Pv (i + 1), fun σ' H' p' => ⟨xs.length - (i + 1), by omega, rfl, hlt, p'⟩, fun x H' y => ?_⟩
    obtain ⟨e, y⟩ := y
    subst e
    exact hs i x σ _ (y xs q) p
  · have e : i = xs.length := by omega
    subst e
    exact .inl ⟨⟨xs, q, Nat.le_refl _⟩, hd σ H p⟩
theorem for_range {lo : Int} {n : Nat} {g : TG} {tb : TS} {D : Ends} {σ : St} {H : Hp} (Pv : Nat → St → Hp → Prop) (h0 : Pv 0 σ H)
    (hs : ∀ i σ H, i < n → Pv i σ H → g (.int (lo + i)) σ H fun σ2 H2 => tb { D with nx := Pv (i + 1), ct := Pv (i + 1), bk := D.nx } σ2 H2) (hd : ∀ σ H, Pv n σ H → D.nx σ H) :
    ∃ W : Nat → Nat → St → Hp → Prop, (∃ m, W 0 m σ H) ∧ ∀ i m σ H, W i m σ H →
      ((Itr lo n).stop i H ∧ D.nx σ H) ∨ ((Itr lo n).go i H ∧ ∃ N : St → Hp → Prop, (∀ σ' H', N σ' H' → ∃ m', m' < m ∧ W (i + 1) m' σ' H') ∧ ∀ x H', (Itr lo n).yld i H x H' → g x σ H' fun σ2 H2 => tb { D with nx := N, ct := N, bk := D.nx } σ2 H2) := by
  refine ⟨fun i m σ H => m = n - i ∧ i ≤ n ∧ Pv i σ H, ⟨n, by simp, Nat.zero_le _, h0⟩, ?_⟩
  rintro i m σ H ⟨rfl, hi, p⟩
  by_cases hlt : i < n
  · refine .inr ⟨hlt, Pv (i + 1), fun σ' H' p' => ⟨n - (i + 1), by omega, rfl, hlt, p'⟩, fun x H' y => ?_⟩
    obtain ⟨e, y⟩ := y
    subst e y
    exact hs i σ _ hlt p
  · have e : i = n := by omega
    subst e
    exact .inl ⟨Nat.le_refl _, hd σ H p⟩
end L2
namespace L2
open PySem PySem.Spec PyProof.Rows
abbrev R2 := V → V → Hp → VK → Prop
def OpR (X : Cx) (f : Value → Value → Sem Value) (r : R2) : Prop :=
  ∀ (pins : List (Addr × Obj)) (s : Shared) (σ : St) (H : Hp) (x y : V) (v u : Value) (Q : VK), Inv X pins σ H s → RelV x v → RelV y u → r x y H Q →
    wpAny (model X.prog X.w) X.A (f v u) (EP X pins σ Q) X.xe s
def UnR (X : Cx) (f : Value → Sem Value) (r : V → Hp → VK → Prop) : Prop :=
  ∀ (pins : List (Addr × Obj)) (s : Shared) (σ : St) (H : Hp) (x : V) (v : Value) (Q : VK), Inv X pins σ H s → RelV x v → r x H Q →
    wpAny (model X.prog X.w) X.A (f v) (EP X pins σ Q) X.xe s
def CallR (X : Cx) (f : Value) (r : List V → Hp → VK → Prop) : Prop :=
  ∀ (pins : List (Addr × Obj)) (s : Shared) (σ : St) (H : Hp) (xs : List V) (us : List Value) (Q : VK), Inv X pins σ H s → Vals xs us → r xs H Q →
    wpAny (model X.prog X.w) X.A (call f us) (EP X pins σ Q) X.xe s
def tOp (r : R2) (ta tb : TE) : TE := fun σ H Q => ta σ H fun x H1 => tb σ H1 fun y H2 => r x y H2 Q
def tUn (r : V → Hp → VK → Prop) (ta : TE) : TE := fun σ H Q => ta σ H fun x H1 => r x H1 Q
def rI (C : Int → Int → Prop) (g : Int → Int → V) : R2 := fun x y H Q => ∃ i j, x = .int i ∧ y = .int j ∧ C i j ∧ Q (g i j) H
def rI0 (g : Int → Int → V) : R2 := fun x y H Q => ∃ i j, x = .int i ∧ y = .int j ∧ Q (g i j) H
def rU (g : Int → V) : V → Hp → VK → Prop := fun x H Q => ∃ i, x = .int i ∧ Q (g i) H
section
variable {X : Cx} {a b c : Expr} {ta tb tc : TE} {pos : Pos}
theorem binT (ha : PE X a ta) (hb : PE X b tb) {pins : List (Addr × Obj)} {s : Shared} {σ : St} {H : Hp} {R : V → V → Hp → Prop} (I : Inv X pins σ H s)
    (h : ta σ H fun x H1 => tb σ H1 fun y H2 => R x y H2) {Q : Value → Shared → Prop} {f : Value → Value → Sem Value}
    (hf : ∀ v u s2 x y H2, Inv X pins σ H2 s2 → RelV x v → RelV y u → R x y H2 → wpAny (model X.prog X.w) X.A (f v u) Q X.xe s2) :
    wpAny (model X.prog X.w) X.A (eval a X.env) (fun v s₁ => wpAny (model X.prog X.w) X.A (eval b X.env) (fun u s₂ => wpAny (model X.prog X.w) X.A (f v u) Q X.xe s₂) X.xe s₁) X.xe s := by
  refine thn (ha pins s σ H _ I h) fun v s1 ⟨x, H1, I1, r1, q1⟩ => ?_
  refine thn (hb pins s1 σ H1 _ I1 q1) fun u s2 ⟨y, H2, I2, r2, q2⟩ => ?_
  exact hf v u s2 x y H2 I2 r1 r2 q2
theorem pe_op {op : Operator} {r : R2} (ho : OpR X (binaryOp op) r) (ha : PE X a ta) (hb : PE X b tb) : PE X (.BinOp a op b pos) (tOp r ta tb) := by
  intro pins s σ H Q I h
  exact wpAny_BinOp (binT ha hb I h fun v u s2 x y H2 I2 rx ry q => ho pins s2 σ H2 x y v u Q I2 rx ry q)
theorem pe_un {op : UnaryOp} {r : V → Hp → VK → Prop} (ho : UnR X (unaryOp op) r) (ha : PE X a ta) : PE X (.UnaryOp op a pos) (tUn r ta) := by
  intro pins s σ H Q I h
  exact UnaryOp_ (thn (ha pins s σ H _ I h) fun v s1 ⟨x, H1, I1, r1, q1⟩ => ho pins s1 σ H1 x v Q I1 r1 q1)
theorem opI {f : Value → Value → Sem Value} {C : Int → Int → Prop} {g : Int → Int → Int}
    (rule : ∀ (i j : Int) (t u : Tok) (s : Shared) (Q : Value → Shared → Prop) (E : Value → Shared → Prop), C i j → Q (.int (g i j) s.toks) { s with toks := s.toks + 1 } → wpAny (model X.prog X.w) X.A (f (.int i t) (.int j u)) Q E s) :
    OpR X f (rI C fun i j => .int (g i j)) := by
  intro pins s σ H x y v u Q I rx ry h
  obtain ⟨i, j, rfl, rfl, hc, q⟩ := h
  obtain ⟨t, rfl⟩ := rx
  obtain ⟨t', rfl⟩ := ry
  exact rule i j t t' s _ _ hc ⟨.int (g i j), H, I.tok _, ⟨_, rfl⟩, q⟩
theorem opI0 {f : Value → Value → Sem Value} {g : Int → Int → Int}
    (rule : ∀ (i j : Int) (t u : Tok) (s : Shared) (Q : Value → Shared → Prop) (E : Value → Shared → Prop), Q (.int (g i j) s.toks) { s with toks := s.toks + 1 } → wpAny (model X.prog X.w) X.A (f (.int i t) (.int j u)) Q E s) :
    OpR X f (rI0 fun i j => .int (g i j)) := by
  intro pins s σ H x y v u Q I rx ry h
  obtain ⟨i, j, rfl, rfl, q⟩ := h
  obtain ⟨t, rfl⟩ := rx
  obtain ⟨t', rfl⟩ := ry
  exact rule i j t t' s _ _ ⟨.int (g i j), H, I.tok _, ⟨_, rfl⟩, q⟩
def CMul (i j : Int) : Prop := (-(2 ^ 64) < i ∧ i < 2 ^ 64) ∨ (-(2 ^ 64) < j ∧ j < 2 ^ 64)
theorem CMul.ok {i j : Int} (h : CMul i j) : IntMulOk i j := by
  rcases h with ⟨h1, h2⟩ | ⟨h1, h2⟩
  · exact .of_left (intBits_le_64 h1 h2)
  · exact .of_right (intBits_le_64 h1 h2)
theorem op_add : OpR X (binaryOp .Add) (rI0 fun i j => .int (i + j)) := opI0 fun _ _ _ _ _ _ _ q => add_int q
theorem op_sub : OpR X (binaryOp .Sub) (rI0 fun i j => .int (i - j)) := opI0 fun _ _ _ _ _ _ _ q => sub_int q
theorem op_mul : OpR X (binaryOp .Mult) (rI CMul fun i j => .int (i * j)) := opI fun _ _ _ _ _ _ _ hc q => mul_int q hc.ok
theorem op_mod : OpR X (binaryOp .Mod) (rI (fun _ j => 0 < j) fun i j => .int (i % j)) := opI fun i j _ _ _ _ _ hc q => by
  have h1 : (0 : Int) < j := hc
  exact mod_int' (by omega) (by rw [Int.fmod_eq_emod_of_nonneg i (by omega)]; exact q)
theorem unI {f : Value → Sem Value} {g : Int → Int}
    (rule : ∀ (i : Int) (t : Tok) (s : Shared) (Q : Value → Shared → Prop) (E : Value → Shared → Prop), Q (.int (g i) s.toks) { s with toks := s.toks + 1 } → wpAny (model X.prog X.w) X.A (f (.int i t)) Q E s) :
    UnR X f (rU fun i => .int (g i)) := by
  intro pins s σ H x v Q I rx h
  obtain ⟨i, rfl, q⟩ := h
  obtain ⟨t, rfl⟩ := rx
  exact rule i t s _ _ ⟨.int (g i), H, I.tok _, ⟨_, rfl⟩, q⟩
theorem un_neg : UnR X (unaryOp .USub) (rU fun i => .int (-i)) := unI fun _ _ _ _ _ q => neg_int q
end
section
variable {X : Cx} {a b c : Expr} {ta tb tc : TE} {pos : Pos}
theorem OpR.or {f : Value → Value → Sem Value} {r r' : R2} (h : OpR X f r) (h' : OpR X f r') : OpR X f (fun x y H Q => r x y H Q ∨ r' x y H Q) := by
  intro pins s σ H x y v u Q I rx ry q
  rcases q with q | q
  · exact h pins s σ H x y v u Q I rx ry q
  · exact h' pins s σ H x y v u Q I rx ry q
def tTest (t : TE) : TT := fun σ H Q => t σ H fun x H' => ∃ k, x = .bl k ∧ Q k H'
theorem line63 : (sizeLine : Nat) < 2 ^ 63 := by rw [sizeLine_eq]; decide
theorem vals1 {x : V} {us : List Value} (r : Vals [x] us) : ∃ u, us = [u] ∧ RelV x u := by
  cases r with
  | cons r1 r2 => cases r2; exact ⟨_, rfl, r1⟩
theorem vals2 {x y : V} {us : List Value} (r : Vals [x, y] us) : ∃ u w', us = [u, w'] ∧ RelV x u ∧ RelV y w' := by
  cases r with
  | cons r1 r2 =>
    cases r2 with
    | cons r3 r4 => cases r4; exact ⟨_, _, rfl, r1, r3⟩
theorem call_max2 (hc : X.calm = true) : CallR X (.builtin "max") (fun xs H Q => ∃ i j, xs = [.int i, .int j] ∧ Q (.int (if j > i then j else i)) H) := by
  intro pins s σ H xs us Q I r h
  obtain ⟨i, j, rfl, q⟩ := h
  obtain ⟨u, w', rfl, ⟨t, rfl⟩, ⟨t', rfl⟩⟩ := vals2 r
  refine max_two_ints (I.ok.hd hc) fun h' tk k => ⟨_, H, I.kept k, ?_, q⟩
  by_cases hj : j > i
  · rw [if_pos hj, if_pos hj]; exact ⟨_, rfl⟩
  · rw [if_neg hj, if_neg hj]; exact ⟨_, rfl⟩
end
end L2
namespace L2
open PySem PySem.Spec PyProof.Rows
structure ObjM (h : Heap) (x dx C : Addr) (mA : Str → Option Value) : Prop where
  obj : h.get? x = some (PySem.W.instObj C dx)
  ns : h.Ns1 dx mA
  ne : dx ≠ x
theorem lookIn_ns {h : Heap} {dx : Addr} {mA : Str → Option Value} (n : h.Ns1 dx mA) : ∃ od, h.get? dx = some od ∧ ∀ name, PySem.W.lookIn name od = some (mA name) := by
  obtain ⟨o, es, ep, ho, hd, hk, _, hm⟩ := n
  refine ⟨o, ho, fun name => ?_⟩
  have e := hm name
  unfold nsFind findBy at e
  rw [← Array.find?_toList] at e
  unfold PySem.W.lookIn
  rw [hd]
  dsimp only
  split
  · rename_i y q
    rw [q] at e
    exact congrArg some e
  · rename_i q
    rw [q] at e
    have a : es.toList.any (·.refKey) = false := by
      rw [List.any_eq_false]
      intro y hy
      obtain ⟨z, t, hkey⟩ := hk y (Array.mem_toList_iff.mp hy)
      simp [DictEntry.refKey, hkey]
    have a' : ¬ es.toList.any (·.refKey) = true := by rw [a]; exact Bool.false_ne_true
    rw [if_neg a']
    exact congrArg some e
theorem ObjM.look {h : Heap} {x dx C : Addr} {mA : Str → Option Value} (I : ObjM h x dx C mA) : ∃ od, PySem.W.InstAt h x (PySem.W.instObj C dx) C (some od) ∧ ∀ name, PySem.W.lookIn name od = some (mA name) :=
  let ⟨od, ho, hl⟩ := lookIn_ns I.ns
  ⟨od, ⟨I.obj, rfl, rfl, ho⟩, hl⟩
section
variable {prog : Program} {w : World} {A : Around} {E : Value → Shared → Prop} {s : Shared} {K : PySem.W.Frag} {x dx C f : Addr} {mA : Str → Option Value} {name : Str} {v : Value}
theorem get_map {expr : Bool} {Q : Value → Shared → Prop} (X : K.In s.heap) (I : ObjM s.heap x dx C mA) (hg : PySem.W.plainGet K C name = true) (hh : PySem.W.hasDictIn K C = true)
    (ha : PySem.W.findIn K (.ref C) name = some none) (hv : mA name = some v) (hv' : PySem.W.handedIn v = true) (h : Q v { s with toks := s.toks + 1 }) :
    wpAny (model prog w) A (getAttr (.ref x) name expr) Q E s := by
  obtain ⟨od, J, hl⟩ := I.look
  exact PySem.W.get_value X J (PySem.W.plainGet_of hg).1 (PySem.W.findObj_own hh ha rfl (by rw [hl, hv])) hv' h
theorem set_map {ns : List Str} {Q : Unit → Shared → Prop} (X : K.In s.heap) (I : ObjM s.heap x dx C mA)
    (hs : PySem.W.findIn K (.ref C) "__setattr__" = some (some (.builtin "object.__setattr__"))) (hp : PySem.W.plainOver K C = true) (ht : PySem.W.takerIn K C name = some none) (hh : PySem.W.hasDictIn K C = true)
    (hw : PySem.Within mA ns) (hsz : ns.length ≤ sizeLine)
    (h : ∀ h', ObjM h' x dx C (fun y => if y = name then some v else mA y) → Heap.SameBut dx s.heap h' → Q () { s with heap := h', toks := s.toks + 2 }) :
    wpAny (model prog w) A (setAttr (.ref x) name v) Q E s := by
  obtain ⟨od, J, hl⟩ := I.look
  refine PySem.W.set_plain X J hs (PySem.W.osa_open (s := { s with toks := s.toks + 1 }) (r := none) X J hp ht fun b => ?_)
  obtain ⟨cd, hc, hd'⟩ := PySem.W.any_some hh
  have hx : s.heap.get? x = some ⟨.ref C, some dx, .plain, #[]⟩ := I.obj
  refine wpAny_bind (wpAny_pure (wpAny_bind (wpAny_bind (wpAny_loadPart hx (wpAny_bind (PySem.W.Looks.here (s := { s with toks := s.toks + 1 }) (PySem.W.looks_clsIn X hc) ?_))))))
  rw [hd']
  refine wpAny_pure (a := some dx) (wpAny_bind (wpAny_pure (wpAny_bind ?_)))
  refine wpAny_nsSet1 (s := { s with toks := s.toks + 1 }) I.ns fun h' hn2 hs2 => ?_
  obtain ⟨oD, esD, epD, hoD, hdD, hcD⟩ := hn2.count (PySem.Within.cons name v hw)
  refine wpAny_bind (wpAny_lookBehind hoD (by rw [hdD]; exact pastItsLine_dict (Nat.le_trans hcD (by rw [List.length_cons]; omega))) ?_)
  exact wpAny_pure (h _ ⟨(hs2.2 _ (Ne.symm I.ne)).trans I.obj, hn2, I.ne⟩ hs2)
theorem make_map {R : Result → Shared → Prop} {vs : List Value} {kw : List (Str × Value)} (X : K.In s.heap) (hm : PySem.W.makesIn K C = true)
    (hi : PySem.W.findIn K (.ref C) "__init__" = some (some (.ref f))) (hf : PySem.W.typeIn K (.ref f) = some (.type "function"))
    (h : codeAny (model prog w) (A.under (.builtin "type.__call__" ⟨.ref C :: vs, kw⟩)) (.call (.ref f) ⟨.ref (s.heap.objs.size + 1) :: vs, kw⟩) (PySem.W.InitBack (s.heap.objs.size + 1) R)
      { s with heap := (s.heap.push PySem.W.emptyDict).push (PySem.W.instObj C s.heap.objs.size) }) :
    codeAny (model prog w) A (.call (.ref C) ⟨vs, kw⟩) R s := by
  obtain ⟨hh, g, d, t, os⟩ := s
  exact PySem.W.make_core (PySem.W.makes_of X hm) (PySem.W.looks_findIn X hi) (fun self => PySem.W.bind_fn X self hf) (.inl rfl) h
end
def putF (f : Str) (v : V) : List (Str × V) → List (Str × V)
  | [] => [(f, v)]
  | (g, x) :: r => if g = f then (g, v) :: r else (g, x) :: putF f v r
theorem lookup_putF (f g : Str) (v : V) : ∀ fs : List (Str × V), (putF f v fs).lookup g = if g = f then some v else fs.lookup g
  | [] => by
    show List.lookup g [(f, v)] = _
    by_cases h : g = f
    · have hb : (g == f) = true := beq_iff_eq.mpr h
      simp only [List.lookup, hb, if_pos h]
    · have hb : (g == f) = false := beq_eq_false_iff_ne.mpr h
      simp only [List.lookup, hb, if_neg h]
  | (k, x) :: r => by
    have ih := lookup_putF f g v r
    rw [show putF f v ((k, x) :: r) = (if k = f then (k, v) :: r else (k, x) :: putF f v r) from rfl]
    by_cases hk : k = f
    · rw [if_pos hk]
      by_cases h : g = k
      · have hb : (g == k) = true := beq_iff_eq.mpr h
        simp only [List.lookup, hb, if_pos (h.trans hk)]
      · have hb : (g == k) = false := beq_eq_false_iff_ne.mpr h
        simp only [List.lookup, hb, if_neg (fun e : g = f => h (e.trans hk.symm))]
    · rw [if_neg hk]
      by_cases h : g = k
      · have hb : (g == k) = true := beq_iff_eq.mpr h
        simp only [List.lookup, hb, if_neg (fun e : g = f => hk (h.symm.trans e))]
      · have hb : (g == k) = false := beq_eq_false_iff_ne.mpr h
        simp only [List.lookup, hb]
        exact ih
theorem keys_putF (f : Str) (v : V) : ∀ fs : List (Str × V), f ∈ (putF f v fs).map (·.1) ∧ ∀ g, g ∈ fs.map (·.1) → g ∈ (putF f v fs).map (·.1)
  | [] => ⟨by simp [putF], fun g h => by simp at h⟩
  | (k, x) :: r => by
    obtain ⟨i1, i2⟩ := keys_putF f v r
    rw [show putF f v ((k, x) :: r) = (if k = f then (k, v) :: r else (k, x) :: putF f v r) from rfl]
    by_cases hk : k = f
    · rw [if_pos hk]
      subst hk
      exact ⟨by simp, fun g h => by simpa using h⟩
    · rw [if_neg hk]
      refine ⟨?_, fun g h => ?_⟩
      · rw [List.map_cons]
        exact List.mem_cons_of_mem _ i1
      · rw [List.map_cons] at h ⊢
        rcases List.mem_cons.mp h with e | e
        · exact List.mem_cons.mpr (.inl e)
        · exact List.mem_cons_of_mem _ (i2 g e)
theorem length_putF (f : Str) (v : V) : ∀ fs : List (Str × V), (putF f v fs).length ≤ fs.length + 1
  | [] => by simp [putF]
  | (k, x) :: r => by
    have ih := length_putF f v r
    rw [show putF f v ((k, x) :: r) = (if k = f then (k, v) :: r else (k, x) :: putF f v r) from rfl]
    by_cases hk : k = f
    · rw [if_pos hk, List.length_cons, List.length_cons]; omega
    · rw [if_neg hk, List.length_cons, List.length_cons]; omega
theorem RelO.some_of {v : V} {o : Option Value} (r : RelO (some v) o) : ∃ u, o = some u ∧ RelV v u := by
  cases o with
  | none => exact (show False from r).elim
  | some u => exact ⟨u, rfl, r⟩
theorem handed_of {v : V} {u : Value} (r : RelV v u) : PySem.W.handedIn u = true := by
  cases v with
  | non => cases (show u = Value.none from r); rfl
  | bl b => cases (show u = Value.bool b from r); rfl
  | int i => obtain ⟨t, e⟩ := (show ∃ t, u = Value.int i t from r); cases e; rfl
  | str x => obtain ⟨t, e⟩ := (show ∃ t, u = Value.str x t from r); cases e; rfl
  | byt b => obtain ⟨t, e⟩ := (show ∃ t, u = Value.bytes b t from r); cases e; rfl
  | flt b => obtain ⟨t, e⟩ := (show ∃ t, u = Value.float b t from r); cases e; rfl
  | ref a => cases (show u = Value.ref a from r); rfl
  | ty n => cases (show u = Value.type n from r); rfl
section
variable {P : Program} {w : World} {H H' : Hp} {h h' : Heap} {a C dx : Addr} {fs fs' : List (Str × V)}
theorem ins_get (hok : HOk P w H h) (e : H a = some (.ins C dx fs)) : ∃ mA, ObjM h a dx C mA ∧ (∀ f, RelO (fs.lookup f) (mA f)) ∧ PySem.Within mA (fs.map (·.1)) ∧ fs.length ≤ 1000 ∧ H dx = some (.own a) := by
  obtain ⟨d, z, ne, ob, mA, n, r, q⟩ := (show ObjOk P w H h a (.ins C dx fs) from hok a _ e)
  exact ⟨mA, ⟨ob, n, ne⟩, r, q, z, d⟩
end
structure Cls (K : PySem.W.Frag) (C : Addr) : Prop where
  pg : PySem.W.plainGet K C Str.empty = true
  hd : PySem.W.hasDictIn K C = true
  po : PySem.W.plainOver K C = true
  sa : PySem.W.findIn K (.ref C) "__setattr__" = some (some (.builtin "object.__setattr__"))
theorem Cls.get {K : PySem.W.Frag} {C : Addr} (c : Cls K C) (f : Str) : PySem.W.plainGet K C f = true := c.pg
def NoAttr (K : PySem.W.Frag) (C : Addr) (f : Str) : Prop := PySem.W.findIn K (.ref C) f = some none
theorem NoAttr.taker {K : PySem.W.Frag} {C : Addr} {f : Str} (n : NoAttr K C f) : PySem.W.takerIn K C f = some none := by
  unfold PySem.W.takerIn
  rw [show PySem.W.findIn K (.ref C) f = some none from n]
  rfl
section
variable {X : Cx} {pins : List (Addr × Obj)} {σ : St} {H : Hp} {s : Shared} {a C dx : Addr} {fs : List (Str × V)} {f : Str} {v : V} {A : Around} {E : Value → Shared → Prop}
theorem getattr_ok {b : Bool} {Q : Value → Shared → Prop} (I : Inv X pins σ H s) (e : H a = some (.ins C dx fs)) (c : Cls X.K C) (n : NoAttr X.K C f) (l : fs.lookup f = some v)
    (h : ∀ u s', Inv X pins σ H s' → RelV v u → Q u s') : wpAny (model X.prog X.w) A (getAttr (.ref a) f b) Q E s := by
  obtain ⟨mA, O, r, _, _, _⟩ := ins_get I.hok e
  obtain ⟨u, hu, ru⟩ := RelO.some_of (v := v) (o := mA f) (by rw [← l]; exact r f)
  exact get_map I.kIn O (c.get f) c.hd n hu (handed_of ru) (h u _ (I.tok _) ru)
theorem setattr_ok {y : V} {u : Value} {Q : Unit → Shared → Prop} (I : Inv X pins σ H s) (e : H a = some (.ins C dx fs)) (c : Cls X.K C) (n : NoAttr X.K C f) (hl : fs.length < 1000) (ry : RelV y u)
    (h : ∀ s', Inv X pins σ (upd H a (.ins C dx (putF f y fs))) s' → Q () s') : wpAny (model X.prog X.w) A (setAttr (.ref a) f u) Q E s := by
  obtain ⟨mA, O, r, wi, _, ho⟩ := ins_get I.hok e
  have hz : (fs.map (·.1)).length ≤ sizeLine := by rw [List.length_map, sizeLine_eq]; omega
  refine set_map I.kIn O c.sa c.po n.taker c.hd wi hz fun h' O' sb => h _ ?_
  have hd : ∃ o, h'.get? dx = some o := let ⟨o, _, _, e', _⟩ := O'.ns; ⟨o, e'⟩
  refine I.write (x := a) (e := dx) (by rw [e]; exact True.intro) (.inr ho) (fun b q hb z => (sb.2 b hb).trans z) hd ?_
  refine ⟨by rw [upd_ne O.ne]; exact ho, ?_, O.ne, O'.obj, _, O'.ns, fun g => ?_, fun g hg => ?_⟩
  · have := length_putF f y fs; omega
  · show RelO ((putF f y fs).lookup g) (if g = f then some u else mA g)
    rw [lookup_putF]
    by_cases q : g = f
    · rw [if_pos q, if_pos q]; exact ry
    · rw [if_neg q, if_neg q]; exact r g
  · by_cases q : g = f
    · rw [q]; exact (keys_putF f y fs).1
    · refine (keys_putF f y fs).2 g (wi g fun z => hg ?_)
      show (if g = f then some u else mA g) = none
      rw [if_neg q]; exact z
theorem Inv.made (I : Inv X pins σ H s) : Inv X pins σ (upd (upd H s.heap.objs.size (.own (s.heap.objs.size + 1))) (s.heap.objs.size + 1) (.ins C s.heap.objs.size []))
    { s with heap := (s.heap.push PySem.W.emptyDict).push (PySem.W.instObj C s.heap.objs.size) } := by
  have e1 : (s.heap.push PySem.W.emptyDict).get? s.heap.objs.size = some PySem.W.emptyDict := Heap.get?_push_size s.heap rfl
  have e2 : ((s.heap.push PySem.W.emptyDict).push (PySem.W.instObj C s.heap.objs.size)).get? (s.heap.objs.size + 1) = some (PySem.W.instObj C s.heap.objs.size) := by
    have := Heap.get?_push_size (s.heap.push PySem.W.emptyDict) (o := PySem.W.instObj C s.heap.objs.size) rfl
    rwa [Heap.size_push] at this
  have e3 : (s.heap.push PySem.W.emptyDict).Ns s.heap.objs.size (fun _ => none) := ⟨PySem.W.emptyDict, #[], _, e1, rfl, (fun e he => absurd he (by simp)), fun _ => rfl⟩
  have I1 := I.laid (a := s.heap.objs.size) (o := .own (s.heap.objs.size + 1)) (h' := s.heap.push PySem.W.emptyDict) (t' := s.toks) (fun b u q => Heap.get?_push_of_some _ q) (Nat.le_refl _) ⟨_, e1⟩
  refine I1.laid (a := s.heap.objs.size + 1) (o := .ins C s.heap.objs.size []) (t' := s.toks) (fun b u q => Heap.get?_push_of_some _ q) (Nat.le_of_eq (Heap.size_push _ _)) ?_
  have ne : s.heap.objs.size ≠ s.heap.objs.size + 1 := Nat.ne_of_lt (Nat.lt_succ_self _)
  refine ⟨by rw [upd_ne ne, upd_same], Nat.zero_le _, ne, e2, fun _ => none, (Heap.Ns1.of_empty e3).at fun o q => Heap.get?_push_of_some _ q, fun _ => True.intro, fun y hy => absurd rfl hy⟩
theorem attr_of {prog : Program} {w : World} {env : Env} {e : Expr} {f : Str} {pos : Pos} {s : Shared} {Q : Value → Shared → Prop} (hb : attributeBase e f env (eval e env) = eval e env)
    (h : wpAny (model prog w) A (eval e env) (fun o s₁ => wpAny (model prog w) A (getAttr o f true) Q E s₁) E s) : wpAny (model prog w) A (eval (.Attribute e f pos) env) Q E s :=
  Attribute_any_ h (by rw [arm_eval_Attribute, hb])
end
def tFld (K : PySem.W.Frag) (ta : TE) (f : Str) : TE := fun σ H Q => ta σ H fun x H1 => ∃ a C dx fs v, x = .ref a ∧ H1 a = some (.ins C dx fs) ∧ Cls K C ∧ NoAttr K C f ∧ fs.lookup f = some v ∧ Q v H1
def sFld (K : PySem.W.Frag) (ta tv : TE) (f : Str) : TS := fun D σ H => tv σ H fun y H1 => ta σ H1 fun x H2 => ∃ a C dx fs, x = .ref a ∧ H2 a = some (.ins C dx fs) ∧ Cls K C ∧ NoAttr K C f ∧ fs.length < 1000 ∧
  D.nx σ (upd H2 a (.ins C dx (putF f y fs)))
def InOp (X : Cx) (op : Operator) (rd : V → V → Hp → VK → Prop) : Prop :=
  ∀ (pins : List (Addr × Obj)) (s : Shared) (σ : St) (H : Hp) (x y : V) (u v : Value) (Q : VK), Inv X pins σ H s → RelV x u → RelV y v → rd x y H Q → wpAny (model X.prog X.w) X.A (inplaceOp op u v) (EP X pins σ Q) X.xe s
def sFldAug (K : PySem.W.Frag) (ta tv : TE) (rd : V → V → Hp → VK → Prop) (f : Str) : TS := fun D σ H => ta σ H fun x H1 => ∃ a C dx fs v, x = .ref a ∧ H1 a = some (.ins C dx fs) ∧ Cls K C ∧ NoAttr K C f ∧ fs.lookup f = some v ∧
  tv σ H1 fun y H2 => rd v y H2 fun z H3 => ∃ dx' fs', H3 a = some (.ins C dx' fs') ∧ fs'.length < 1000 ∧ D.nx σ (upd H3 a (.ins C dx' (putF f z fs')))
section
variable {X : Cx} {o e value : Expr} {f : Str} {pos pos' tpos : Pos} {ta tv : TE}
theorem pe_fld (he : PE X e ta) (hb : attributeBase e f X.env (eval e X.env) = eval e X.env) : PE X (.Attribute e f pos) (tFld X.K ta f) := by
  intro pins s σ H Q I h
  refine attr_of hb (thn (he pins s σ H _ I h) fun u s1 ⟨x, H1, I1, rx, a, C, dx, fs, v, ex, ea, c, n, l, q⟩ => ?_)
  subst ex
  obtain rfl : u = Value.ref a := rx
  exact getattr_ok I1 ea c n l fun u' s2 I2 ru => ⟨v, H1, I2, ru, q⟩
theorem ps_fld (ha : PE X o ta) (hv : PE X value tv) (hs : swapsWith value (some (.Attribute o f pos')) pos.line X.env = pure false) : PS X (.Assign [.Attribute o f pos'] value pos) (sFld X.K ta tv f) := by
  intro pins s σ H D I h
  refine plainObj_wpAny_Assign_Attribute (thn (hv pins s σ H _ I h) fun u s1 ⟨y, H1, I1, ry, q⟩ => thn (ha pins s1 σ H1 _ I1 q) fun ov s2 ⟨x, H2, I2, rx, a, C, dx, fs, ex, ea, c, n, l, q2⟩ => ?_) hs
  subst ex
  obtain rfl : ov = Value.ref a := rx
  exact setattr_ok I2 ea c n l ry fun s3 I3 => ⟨σ, _, I3, q2⟩
theorem ps_fldaug {op : Operator} {rd : V → V → Hp → VK → Prop} (ha : PE X o ta) (hv : PE X value tv) (hop : InOp X op rd) : PS X (.AugAssign (.Attribute o f tpos) op value pos) (sFldAug X.K ta tv rd f) := by
  intro pins s σ H D I h
  refine wpAny_AugAssign_AttributeAny (thn (ha pins s σ H _ I h) fun ov s1 ⟨x, H1, I1, rx, a, C, dx, fs, v, ex, ea, c, n, l, q⟩ => ?_)
  subst ex
  obtain rfl : ov = Value.ref a := rx
  refine getattr_ok I1 ea c n l fun u s2 I2 ru => thn (hv pins s2 σ H1 _ I2 q) fun w3 s3 ⟨y, H2, I3, ry, q3⟩ => thn (hop pins s3 σ H2 v y u w3 _ I3 ru ry q3) fun w4 s4 ⟨z, H3, I4, rz, dx', fs', ea', l', q4⟩ => ?_
  exact setattr_ok I4 ea' c n l' rz fun s5 I5 => ⟨σ, _, I5, q4⟩
def rAdd : V → V → Hp → VK → Prop := fun x y H Q => ∃ i j, x = .int i ∧ y = .int j ∧ Q (.int (i + j)) H
def rSub : V → V → Hp → VK → Prop := fun x y H Q => ∃ i j, x = .int i ∧ y = .int j ∧ Q (.int (i - j)) H
theorem in_add : InOp X .Add rAdd := by
  rintro pins s σ H x y u v Q I rx ry ⟨i, j, rfl, rfl, q⟩
  obtain ⟨t, rfl⟩ := (show ∃ t, u = Value.int i t from rx)
  obtain ⟨t', rfl⟩ := (show ∃ t', v = Value.int j t' from ry)
  exact PyProof.Rows.iadd_int ⟨.int (i + j), H, I.tok _, ⟨_, rfl⟩, q⟩
theorem in_sub : InOp X .Sub rSub := by
  rintro pins s σ H x y u v Q I rx ry ⟨i, j, rfl, rfl, q⟩
  obtain ⟨t, rfl⟩ := (show ∃ t, u = Value.int i t from rx)
  obtain ⟨t', rfl⟩ := (show ∃ t', v = Value.int j t' from ry)
  exact PyProof.Rows.isub_int ⟨.int (i - j), H, I.tok _, ⟨_, rfl⟩, q⟩
end
section
variable {X : Cx} {pins : List (Addr × Obj)} {σ : St} {H : Hp} {s : Shared} {A : Around} {E : Value → Shared → Prop} {Q : Value → Shared → Prop} {c : Value} {b : Bool}
end
end L2
namespace L2
open PySem PySem.Spec PyProof.Rows
structure Room (k : Nat) (A : Around) : Prop where
  hd : A.handled = none
  dp : A.depth + 3 * k + 5 < recursionLimit
  un : A.units + 16 * k + 200 < cLine
theorem Room.mono {j k : Nat} {A : Around} (r : Room k A) (h : j ≤ k) : Room j A := ⟨r.hd, by have := r.dp; omega, by have := r.un; omega⟩
theorem Room.deeper {k : Nat} {A : Around} (r : Room (k + 1) A) (env : Env) : Room k (A.deeper env) :=
  ⟨r.hd, by have := r.dp; show A.depth + 1 + 3 * k + 5 < _; omega, by have := r.un; show A.units + 3 + 16 * k + 200 < _; omega⟩
theorem Room.in1 {k : Nat} {A : Around} (r : Room (k + 1) A) : Room k A.in1 :=
  ⟨r.hd, by have := r.dp; show A.depth + 3 * k + 5 < _; omega, by have := r.un; show A.units + 1 + 16 * k + 200 < _; omega⟩
theorem make_depth {A : Around} {C : Addr} {us : List Value} {kw : List (Str × Value)} : (A.under (.builtin "type.__call__" ⟨.ref C :: us, kw⟩)).depth = A.depth + 1 := by
  first | rfl | simp [Around.under, Code.weight, Code.isCreation, Code.isGuard, Code.isCaller, Code.frames, Code.isFrame, guardIds]
theorem make_units {A : Around} {C : Addr} {us : List Value} {kw : List (Str × Value)} : (A.under (.builtin "type.__call__" ⟨.ref C :: us, kw⟩)).units = A.units + 1 := by
  first | rfl | simp [Around.under, Code.cUnits, Code.frames, Code.isFrame]
theorem Room.make {k : Nat} {A : Around} (r : Room (k + 1) A) (C : Addr) (us : List Value) (kw : List (Str × Value)) : Room k (A.under (.builtin "type.__call__" ⟨.ref C :: us, kw⟩)) :=
  ⟨r.hd, by have := r.dp; rw [make_depth]; omega, by have := r.un; rw [make_units]; omega⟩
theorem Room.depth {k : Nat} {A : Around} (r : Room k A) : A.depth < recursionLimit := by have := r.dp; omega
theorem Room.units {k : Nat} {A : Around} (r : Room k A) : A.units + 64 < cLine := by have := r.un; omega
def tNil : TA := fun _ H Q => Q [] H
def tCons (ta : TE) (tr : TA) : TA := fun σ H Q => ta σ H fun x H1 => tr σ H1 fun xs H2 => Q (x :: xs) H2
section
variable {X : Cx} {e : Expr} {es : List Expr} {te : TE} {t : TA} {pos : Pos}
theorem pa_nil : PA X [] tNil := fun _ _ _ _ H Q I h => Calls.spliced_nil ⟨[], H, I, .nil, h⟩
theorem pa_cons (ha : PE X e te) (hr : PA X es t) (hs : starEach (e :: es) X.env = (false, eval e X.env) :: starEach es X.env := by rfl) : PA X (e :: es) (tCons te t) := by
  intro pos pins s σ H Q I h
  rw [hs]
  show wpAny _ _ (spliced ((false, eval e X.env) :: backTo pos (starEach es X.env))) _ _ s
  refine Calls.spliced_cons (thn (ha pins s σ H _ I h) fun u s1 ⟨x, H1, I1, r1, q1⟩ => ?_)
  exact thn (hr pos pins s1 σ H1 _ I1 q1) fun us s2 ⟨xs, H2, I2, r2, q2⟩ => ⟨x :: xs, H2, I2, .cons r1 r2, q2⟩
def tTup (t : TA) : TE := fun σ H Q => t σ H fun xs H1 => xs.length ≤ sizeLine ∧ ∀ p, H1 p = none → Q (.ref p) (upd H1 p (.tup xs))
def tLst (t : TA) : TE := fun σ H Q => t σ H fun xs H1 => xs.length ≤ sizeLine ∧ ∀ p, H1 p = none → Q (.ref p) (upd H1 p (.lst xs))
theorem pe_tup {x1} (h : PA X es t) : PE X (.Tuple es x1 pos) (tTup t) := by
  intro pins s σ H Q I hq
  refine wpAny_Tuple_spliced (thn (h pos pins s σ H _ I hq) fun us s1 ⟨xs, H1, I1, r, z, q⟩ => ⟨by rw [← r.length]; exact z, ?_⟩)
  have hf : H1 s1.heap.objs.size = none := I1.hok.fresh (Nat.le_refl _)
  refine ⟨.ref s1.heap.objs.size, upd H1 s1.heap.objs.size (.tup xs), I1.laid (t' := s1.toks) (fun b u e => Heap.get?_push_of_some _ e) (Nat.le_refl _) ?_, rfl, q _ hf⟩
  exact ⟨z, us, r, ⟨_, Heap.get?_push_size _ rfl, rfl, _, rfl⟩⟩
theorem pe_lst (h : PA X es t) : PE X (.List es pos) (tLst t) := by
  intro pins s σ H Q I hq
  refine wpAny_List_spliced (thn (h pos pins s σ H _ I hq) fun us s1 ⟨xs, H1, I1, r, z, q⟩ => ⟨by rw [← r.length]; exact z, ?_⟩)
  have hf : H1 s1.heap.objs.size = none := I1.hok.fresh (Nat.le_refl _)
  refine ⟨.ref s1.heap.objs.size, upd H1 s1.heap.objs.size (.lst xs), I1.laid (t' := s1.toks) (fun b u e => Heap.get?_push_of_some _ e) (Nat.le_refl _) ?_, rfl, q _ hf⟩
  exact ⟨z, us, 0, r, Heap.get?_push_size _ rfl⟩
end
abbrev Sp := List V → Hp → VK → XK → Prop
abbrev CXT := List Env → Hp → Shared → XK → Value → Shared → Prop
structure Env0 (P : Program) (w : World) (K : PySem.W.Frag) (mg : Str → Option Value) (base : Heap) (A : Around) (outer : List Env) (s : Shared) (H : Hp) : Prop where
  frames : A.frames = some outer
  mod : Mod K mg base
  bs : ∀ b o, base.get? b = some o → s.heap.get? b = some o ∧ H b = none
  bsz : base.objs.size ≤ s.heap.objs.size
  funs : s.heap.FunFrames base outer
  frf : ∀ b ∈ frs outer, H b = none
  hok : HOk P w H s.heap
  bare : AllBare s.gens
def CE (outer : List Env) (P : Program) (w : World) (H : Hp) (s : Shared) (Q : VK) (u : Value) (s' : Shared) : Prop :=
  ∃ v H', s'.os = s.os ∧ AllBare s'.gens ∧ Un (frs outer) [] H H' s.heap s'.heap ∧ HOk P w H' s'.heap ∧ RelV v u ∧ Q v H'
def CR (CX : CXT) (outer : List Env) (P : Program) (w : World) (H : Hp) (s : Shared) (Q : VK) (E : XK) (r : Result) (s' : Shared) : Prop :=
  match r with
  | .ok (.ret u) => CE outer P w H s Q u s'
  | .ok _ => False
  | .error e => CX outer H s E e s'
structure FnOk (P : Program) (w : World) (K : PySem.W.Frag) (mg : Str → Option Value) (base : Heap) (CX : CXT) (k : Nat) (f : Addr) (fd : FuncData) (ps : List Str) (sp : Sp) : Prop where
  len : ∀ vs H Q E, sp vs H Q E → vs.length = ps.length
  run : ∀ (A : Around) (outer : List Env) (s : Shared) (H : Hp) (args : Args) (us : List Value) (vs : List V) (Q : VK) (E : XK), Room k A → Env0 P w K mg base A outer s H → BindsTo s fd args (ps.zip us) → Vals vs us → sp vs H Q E →
    codeAny (model P w) A (.call (.ref f) args) (CR CX outer P w H s Q E) s
theorem FnOk.mono {P : Program} {w : World} {K : PySem.W.Frag} {mg : Str → Option Value} {base : Heap} {CX : CXT} {j k : Nat} {f : Addr} {fd : FuncData} {ps : List Str} {sp : Sp} (F : FnOk P w K mg base CX j f fd ps sp) (h : j ≤ k) :
    FnOk P w K mg base CX k f fd ps sp := ⟨F.len, fun A outer s H args us vs Q E hr => F.run A outer s H args us vs Q E (hr.mono h)⟩
theorem FnOk.imp {P : Program} {w : World} {K : PySem.W.Frag} {mg : Str → Option Value} {base : Heap} {CX : CXT} {k : Nat} {f : Addr} {fd : FuncData} {ps : List Str} {sp sp' : Sp} (F : FnOk P w K mg base CX k f fd ps sp)
    (h : ∀ vs H Q E, sp' vs H Q E → sp vs H Q E) : FnOk P w K mg base CX k f fd ps sp' :=
  ⟨fun vs H Q E q => F.len vs H Q E (h _ _ _ _ q), fun A outer s H args us vs Q E hr he hb hv hs => F.run A outer s H args us vs Q E hr he hb hv (h _ _ _ _ hs)⟩
theorem Env0.make {P : Program} {w : World} {K : PySem.W.Frag} {mg : Str → Option Value} {base : Heap} {A : Around} {outer : List Env} {s : Shared} {H : Hp} (e : Env0 P w K mg base A outer s H) (C : Addr) (us : List Value) (kw : List (Str × Value)) :
    Env0 P w K mg base (A.under (.builtin "type.__call__" ⟨.ref C :: us, kw⟩)) outer s H := ⟨by first | exact e.frames | (simpa [Around.under, Code.envs, Code.isFrame, pushEnvs] using e.frames), e.mod, e.bs, e.bsz, e.funs, e.frf, e.hok, e.bare⟩
theorem Env0.in1 {P : Program} {w : World} {K : PySem.W.Frag} {mg : Str → Option Value} {base : Heap} {A : Around} {outer : List Env} {s : Shared} {H : Hp} (e : Env0 P w K mg base A outer s H) :
    Env0 P w K mg base A.in1 outer s H := ⟨e.frames, e.mod, e.bs, e.bsz, e.funs, e.frf, e.hok, e.bare⟩
section
variable {X : Cx} {pins : List (Addr × Obj)} {σ : St} {H : Hp} {s s' : Shared}
theorem Inv.env0 (I : Inv X pins σ H s) : Env0 X.prog X.w X.K X.mg X.base X.A X.stack s H :=
  ⟨I.ok.frames, I.ok.mod, I.bs, Nat.le_trans I.ok.bsz I.sz, I.stack, I.stkFree, I.hok, I.bare⟩
theorem Inv.after {Q : VK} {u : Value} (I : Inv X pins σ H s) (h : CE X.stack X.prog X.w H s Q u s') : EP X pins σ Q u s' := by
  obtain ⟨v, H', os, bare, un, hok, r, q⟩ := h
  obtain ⟨hh, g, d, t, os'⟩ := s'
  obtain rfl : os' = s.os := os
  exact ⟨v, H', I.call (h' := hh) (g' := g) (d' := d) (t' := t) (ch := []) un hok bare (fun b z => absurd z (by simp)), r, q⟩
end
def tCall (sp : Sp) (dvs : List V) (E : XK) (t : TA) : TE := fun σ H Q => t σ H fun vs H1 => sp (vs ++ dvs) H1 Q E
def tMake (C : Addr) (sp : Sp) (dvs : List V) (E : XK) (t : TA) : TE := fun σ H Q => t σ H fun vs H1 => ∀ x dx, H1 x = none → H1 dx = none → dx ≠ x →
  sp (.ref x :: (vs ++ dvs)) (upd (upd H1 dx (.own x)) x (.ins C dx [])) (fun v H2 => v = .non ∧ Q (.ref x) H2) E
def Binds (K : PySem.W.Frag) (fd : FuncData) (ps : List Str) (ds : List Value) : Prop :=
  ∀ (s : Shared) (us : List Value), K.In s.heap → (us ++ ds).length = ps.length → BindsTo s fd ⟨us, []⟩ (ps.zip (us ++ ds))
theorem Binds.all {K : PySem.W.Frag} {fd : FuncData} {ps : List Str} (h : ∀ us : List Value, us.length = ps.length → bindArgs fd ⟨us, []⟩ = pure (ps.zip us)) : Binds K fd ps [] := fun s us _ hl => by
  rw [List.append_nil] at hl ⊢
  exact .of_eq (h us hl)
def Passes (CX : CXT) (X : Cx) (E : XK) : Prop := ∀ (pins : List (Addr × Obj)) (σ : St) (H : Hp) (s : Shared) (e : Value) (s' : Shared), Inv X pins σ H s → CX X.stack H s E e s' → X.xe e s'
section
variable {X : Cx} {CX : CXT} {k : Nat} {f C : Addr} {fd : FuncData} {ps : List Str} {sp : Sp} {dvs : List V} {ds : List Value} {E : XK} {x m : Str} {p pos apos : Pos} {e o : Expr} {es : List Expr} {ta : TE} {t : TA}
theorem run_fn {pins : List (Addr × Obj)} {σ : St} {H : Hp} {s : Shared} {Q : VK} {us : List Value} {vs : List V} (F : FnOk X.prog X.w X.K X.mg X.base CX k f fd ps sp) (hr : Room k X.A) (hb : Binds X.K fd ps ds) (hd : Vals dvs ds) (hx : Passes CX X E)
    (I : Inv X pins σ H s) (r : Vals vs us) (h : sp (vs ++ dvs) H Q E) : wpAny (model X.prog X.w) X.A (call (.ref f) us) (EP X pins σ Q) X.xe s := by
  have r2 : Vals (vs ++ dvs) (us ++ ds) := r.append hd
  have hl : (us ++ ds).length = ps.length := by rw [← r2.length]; exact F.len _ _ _ _ h
  refine wpAny_call (codeAny_mono (F.run X.A X.stack s H ⟨us, []⟩ (us ++ ds) (vs ++ dvs) Q E hr I.env0 (hb s us I.kIn hl) r2 h) fun r s' hq => ?_)
  cases r with
  | error e => exact hx pins σ H s e s' I hq
  | ok fl =>
    cases fl with
    | ret u => exact I.after hq
    | next => exact False.elim hq
    | brk => exact False.elim hq
    | cont => exact False.elim hq
theorem pe_call (F : FnOk X.prog X.w X.K X.mg X.base CX k f fd ps sp) (hr : Room k X.A) (hg : Gl X x) (hm : X.mg x = some (.ref f)) (hk : PySem.W.keepIn X.K (.ref f) = true) (hb : Binds X.K fd ps ds) (hd : Vals dvs ds) (hx : Passes CX X E)
    (ha : PA X (e :: es) t) (hdb : (x == ("__debug__" : Str)) = false := by decide) (he : starEach (e :: es) X.env = (false, eval e X.env) :: starEach es X.env := by rfl) (hpl : (backTo pos (starEach es X.env)).any (·.1) = false := by rfl) :
    PE X (.Call (.Name x p) (e :: es) [] pos) (tCall sp dvs E t) := by
  intro pins s σ H Q I h
  refine wpAny_Call_Name_kw (ld_glob I hg hm ?_ hdb)
  refine PySem.W.callWith_K (h₀ := X.base) I.ok.mod.kin hk (thn (ha pos pins s σ H _ I h) fun us s1 ⟨vs, H1, I1, r, q⟩ => ⟨I1.kIn, ?_⟩) he hpl
  exact run_fn F hr hb hd hx I1 r q
structure Mk (K : PySem.W.Frag) (C f : Addr) : Prop where
  makes : PySem.W.makesIn K C = true
  init : PySem.W.findIn K (.ref C) "__init__" = some (some (.ref f))
  fn : PySem.W.isFn K (.ref f) = true
  kp : PySem.W.keepIn K (.ref C) = true
theorem run_make {pins : List (Addr × Obj)} {σ : St} {H : Hp} {s : Shared} {Q : VK} {us : List Value} {vs : List V} (M : Mk X.K C f) (F : FnOk X.prog X.w X.K X.mg X.base CX k f fd ps sp) (hr : Room (k + 1) X.A) (hb : Binds X.K fd ps ds) (hd : Vals dvs ds)
    (hx : Passes CX X E) (I : Inv X pins σ H s) (r : Vals vs us)
    (h : ∀ x dx, H x = none → H dx = none → dx ≠ x → sp (.ref x :: (vs ++ dvs)) (upd (upd H dx (.own x)) x (.ins C dx [])) (fun v H2 => v = .non ∧ Q (.ref x) H2) E) :
    wpAny (model X.prog X.w) X.A (call (.ref C) us) (EP X pins σ Q) X.xe s := by
  have hq := h (s.heap.objs.size + 1) s.heap.objs.size (I.hok.fresh (Nat.le_succ _)) (I.hok.fresh (Nat.le_refl _)) (Nat.ne_of_lt (Nat.lt_succ_self _))
  have I2 := Inv.made (C := C) I
  have r2 : Vals (V.ref (s.heap.objs.size + 1) :: (vs ++ dvs)) (Value.ref (s.heap.objs.size + 1) :: (us ++ ds)) := .cons rfl (r.append hd)
  have hl : (Value.ref (s.heap.objs.size + 1) :: us ++ ds).length = ps.length := by
    have e := r2.length
    rw [F.len _ _ _ _ hq] at e
    exact e.symm
  refine wpAny_call (make_map (f := f) I.kIn M.makes M.init (beq_iff_eq.mp M.fn) (codeAny_mono (F.run _ X.stack _ _ ⟨Value.ref (s.heap.objs.size + 1) :: us, []⟩ (Value.ref (s.heap.objs.size + 1) :: (us ++ ds)) _ _ E (hr.make C us [])
    (I2.env0.make C us []) (hb _ (Value.ref (s.heap.objs.size + 1) :: us) I2.kIn hl) r2 hq) fun r s' hq' => ?_))
  cases r with
  | error e => exact hx pins σ _ _ e s' I2 hq'
  | ok fl =>
    cases fl with
    | ret u =>
      obtain ⟨v, H', I3, rv, ev, q3⟩ := I2.after hq'
      subst ev
      exact ⟨rv, ⟨V.ref (s.heap.objs.size + 1), H', I3, rfl, q3⟩⟩
    | next => exact False.elim hq'
    | brk => exact False.elim hq'
    | cont => exact False.elim hq'
theorem pe_make (M : Mk X.K C f) (F : FnOk X.prog X.w X.K X.mg X.base CX k f fd ps sp) (hr : Room (k + 1) X.A) (hg : Gl X x) (hm : X.mg x = some (.ref C)) (hb : Binds X.K fd ps ds) (hd : Vals dvs ds) (hx : Passes CX X E)
    (ha : PA X (e :: es) t) (hdb : (x == ("__debug__" : Str)) = false := by decide) (he : starEach (e :: es) X.env = (false, eval e X.env) :: starEach es X.env := by rfl) (hpl : (backTo pos (starEach es X.env)).any (·.1) = false := by rfl) :
    PE X (.Call (.Name x p) (e :: es) [] pos) (tMake C sp dvs E t) := by
  intro pins s σ H Q I h
  refine wpAny_Call_Name_kw (ld_glob I hg hm ?_ hdb)
  refine PySem.W.callWith_K (h₀ := X.base) I.ok.mod.kin M.kp (thn (ha pos pins s σ H _ I h) fun us s1 ⟨vs, H1, I1, r, q⟩ => ⟨I1.kIn, ?_⟩) he hpl
  exact run_make M F hr hb hd hx I1 r q
theorem pe_make0 (M : Mk X.K C f) (F : FnOk X.prog X.w X.K X.mg X.base CX k f fd ps sp) (hr : Room (k + 1) X.A) (hg : Gl X x) (hm : X.mg x = some (.ref C)) (hb : Binds X.K fd ps ds) (hd : Vals dvs ds) (hx : Passes CX X E)
    (hdb : (x == ("__debug__" : Str)) = false := by decide) : PE X (.Call (.Name x p) [] [] pos) (tMake C sp dvs E tNil) := by
  intro pins s σ H Q I h
  refine wpAny_Call_Name_kw (ld_glob I hg hm ?_ hdb)
  exact PySem.W.callWith_K0 I.kIn M.kp (run_make (us := []) M F hr hb hd hx I .nil h)
end
section
variable {X : Cx} {CX : CXT} {k : Nat} {f C : Addr} {fd : FuncData} {ps ks : List Str} {sp : Sp} {E : XK} {x m : Str} {p pos apos kpos : Pos} {e o : Expr} {es : List Expr} {kws : List Keyword} {te ta : TE} {t tk : TA} {nm : Option Str}
variable {g : List Value → List Value → List Value} {gV : List V → List V → List V}
end
structure FnScope (N P : List Str) (sc : Scope) : Prop where
  kind : sc.kind = .function
  co : sc.isCoroutine = false
  gen : sc.isGenerator = false
  nd : N.Nodup
  pre : N.take P.length = P
  par : ∀ x ∈ P, sc.names.lookup x = some .local ∨ sc.names.lookup x = some .cell
  nofree : ∀ y ∈ sc.names, y.2 ≠ .free
theorem bindL_out {kindOf : Str → Option NameKind} {x : Str} : ∀ {binds : List (Str × Value)} {m : Str → Option Value}, (∀ v, (x, v) ∉ binds) → bindL kindOf binds m x = m x
  | [], _, _ => rfl
  | (n, v) :: r, m, h => by
    unfold bindL
    rw [bindL_out fun w hw => h w (List.mem_cons_of_mem _ hw)]
    split
    · have : x ≠ n := by rintro rfl; exact h v List.mem_cons_self
      simp [this]
    · rfl
theorem bindC_out {kindOf : Str → Option NameKind} {x : Str} : ∀ {binds : List (Str × Value)} {m : Str → Option Value}, (∀ v, (x, v) ∉ binds) → bindC kindOf binds m x = m x
  | [], _, _ => rfl
  | (n, v) :: r, m, h => by
    unfold bindC
    rw [bindC_out fun w hw => h w (List.mem_cons_of_mem _ hw)]
    split
    · rfl
    · have : x ≠ n := by rintro rfl; exact h v List.mem_cons_self
      simp [this]
theorem bindL_get {kindOf : Str → Option NameKind} {x : Str} {v : Value} : ∀ {P : List Str} {vs : List Value} {i : Nat} {m : Str → Option Value}, P.Nodup → P[i]? = some x → vs[i]? = some v → kindOf x = some .local →
    bindL kindOf (P.zip vs) m x = some v
  | [], _, _, _, _, h, _, _ => by simp at h
  | _ :: _, [], _, _, _, _, h, _ => by simp at h
  | p :: P, w :: vs, 0, m, nd, h1, h2, hk => by
    simp at h1 h2; subst h1; subst h2
    show bindL kindOf ((p, w) :: P.zip vs) m p = _
    unfold bindL
    rw [bindL_out fun v hv => (List.nodup_cons.mp nd).1 (List.of_mem_zip hv).1, if_pos hk]
    simp
  | p :: P, w :: vs, i + 1, m, nd, h1, h2, hk => by
    show bindL kindOf ((p, w) :: P.zip vs) m x = _
    unfold bindL
    exact bindL_get (i := i) (List.nodup_cons.mp nd).2 (by simpa using h1) (by simpa using h2) hk
theorem bindC_get {kindOf : Str → Option NameKind} {x : Str} {v : Value} : ∀ {P : List Str} {vs : List Value} {i : Nat} {m : Str → Option Value}, P.Nodup → P[i]? = some x → vs[i]? = some v → kindOf x ≠ some .local →
    bindC kindOf (P.zip vs) m x = some v
  | [], _, _, _, _, h, _, _ => by simp at h
  | _ :: _, [], _, _, _, _, h, _ => by simp at h
  | p :: P, w :: vs, 0, m, nd, h1, h2, hk => by
    simp at h1 h2; subst h1; subst h2
    show bindC kindOf ((p, w) :: P.zip vs) m p = _
    unfold bindC
    rw [bindC_out fun v hv => (List.nodup_cons.mp nd).1 (List.of_mem_zip hv).1, if_neg hk]
    simp
  | p :: P, w :: vs, i + 1, m, nd, h1, h2, hk => by
    show bindC kindOf ((p, w) :: P.zip vs) m x = _
    unfold bindC
    exact bindC_get (i := i) (List.nodup_cons.mp nd).2 (by simpa using h1) (by simpa using h2) hk
def start (N : List Str) (vs : List V) : St := vs.map some ++ List.replicate (N.length - vs.length) none
def cxOf (CX : CXT) (P : Program) (w : World) (K : PySem.W.Frag) (mg : Str → Option Value) (base : Heap) (N : List Str) (qual : Str) (scope : Scope) (f : Addr) (cd : Value) (A : Around) (outer : List Env) (s : Shared) (H : Hp) (E : XK) : Cx where
  prog := P
  w := w
  K := K
  mg := mg
  base := base
  A := A.deeper (envOfC qual scope s.heap.objs.size f cd)
  N := N
  s_0 := s
  H_0 := H
  env := envOfC qual scope s.heap.objs.size f cd
  outer := outer
  stack := envOfC qual scope s.heap.objs.size f cd :: outer
  ex := []
  calm := true
  fn := fun _ => true
  pn := []
  xe := fun e s' => wpAny (model P w) (A.deeper (envOfC qual scope s.heap.objs.size f cd)) (leaving (envOfC qual scope s.heap.objs.size f cd) e) (fun _ s'' => CX outer H s E e s'') (fun e' s'' => CX outer H s E e' s'') s'
theorem cell_has {sc : Scope} {n : Nat} {x : Str} (h : sc.names.lookup x = some .cell) : ∃ c, (cellsFrom n sc.names []).lookup x = some c := by
  have q := PySem.W.cellsFrom_some sc.names n [] (.inl h)
  exact Option.isSome_iff_exists.mp q
theorem inv_start {CX : CXT} {P : Program} {w : World} {K : PySem.W.Frag} {mg : Str → Option Value} {base : Heap} {N ps : List Str} {qual : Str} {scope : Scope} {f : Addr} {cd : Value} {A : Around} {outer : List Env} {s s1 : Shared} {H : Hp} {E : XK} {us : List Value} {vs : List V}
    (S : FnScope N ps scope) (hd : A.handled = none) (e0 : Env0 P w K mg base A outer s H) (hl : vs.length = ps.length) (r : Vals vs us)
    (x : InCallC s s.heap.objs.size (bindL (envOfC qual scope s.heap.objs.size f cd).kindOf (ps.zip us) fun _ => none) (cellsFrom (s.heap.objs.size + 1) scope.names []) (bindC (envOfC qual scope s.heap.objs.size f cd).kindOf (ps.zip us) fun _ => none) s1) :
    Inv (cxOf CX P w K mg base N qual scope f cd A outer s H E) [] (start N vs) H s1 := by
  have hpl : ps.length ≤ N.length := by have := congrArg List.length S.pre; rw [List.length_take] at this; omega
  obtain ⟨h1, tk, rfl, hk⟩ := x.done
  have noA : ∀ b : Addr, b ∉ (cxOf CX P w K mg base N qual scope f cd A outer s H E).ex := fun b z => absurd (show b ∈ ([] : List Addr) from z) (by simp)
  refine ⟨⟨e0.mod, S.kind, rfl, rfl, Nat.le_refl _, fun y z c h1 h2 => ?_, fun y hy => ?_, fun y c _ h => ?_, fun _ => hd, Around.frames_deeper e0.frames, .inr ⟨rfl, rfl⟩, fun b z => absurd z (noA b), e0.bs, e0.bsz, fun b _ _ => noA b, fun b z => absurd z (noA b), e0.funs, e0.frf⟩,
    rfl, e0.bare, Un.kept hk, ⟨_, x.toInCall.ns, fun i y v h1 h2 h3 => ?_⟩, fun y c h => ⟨_, x.cell y c h⟩, e0.hok.fresh (Nat.le_refl _), fun y c h => ?_, fun p hp => absurd (show p ∈ ([] : List (Addr × Obj)) from hp) (by simp), e0.hok.kept hk, ?_⟩
  · exact name_of_addr x.apart (PySem.mem_of_lookup h1) (PySem.mem_of_lookup h2)
  · have hy : scope.names.lookup y = some .cell ∨ scope.names.lookup y = some .free := hy
    rcases hy with hy | hy
    · exact cell_has hy
    · exact absurd rfl (S.nofree _ (PySem.mem_of_lookup hy))
  · exact Nat.le_of_lt (x.above y c (PySem.mem_of_lookup h))
  · have hi : i < vs.length := by
      unfold start at h2
      by_cases hi : i < vs.length
      · exact hi
      · rw [List.getElem?_append_right (by simpa using hi)] at h2
        rw [List.getElem?_replicate] at h2
        split at h2 <;> cases h2
    have ha : vs[i]? = some v := by
      unfold start at h2
      rw [List.getElem?_append_left (by simpa using hi), List.getElem?_map] at h2
      cases e : vs[i]? with
      | none => rw [e] at h2; cases h2
      | some a => rw [e] at h2; cases h2; rfl
    obtain ⟨u, hu, rv⟩ := r.get ha
    have hp : ps[i]? = some y := by
      rw [← S.pre, List.getElem?_take_of_lt (by omega)]; exact h1
    have ndP : ps.Nodup := by rw [← S.pre]; exact S.nd.sublist (List.take_sublist _ _)
    refine ⟨u, rv, ?_⟩
    rcases S.par y (List.mem_of_getElem? hp) with k | k
    · exact .inl ⟨k, bindL_get ndP hp hu k⟩
    · obtain ⟨c, e⟩ := cell_has (n := s.heap.objs.size + 1) k
      refine .inr ⟨.inl k, c, e, ?_⟩
      have q := x.cell y c e
      rw [bindC_get ndP hp hu (by show scope.names.lookup y ≠ _; rw [k]; decide)] at q
      exact q
  · exact e0.hok.fresh (Nat.le_of_lt (x.above y c (PySem.mem_of_lookup h)))
  · unfold start
    show _ = N.length
    rw [List.length_append, List.length_map, List.length_replicate]
    omega
theorem fn_of {CX : CXT} {P : Program} {w : World} {K : PySem.W.Frag} {mg : Str → Option Value} {base : Heap} {k : Nat} {f : Addr} {name qual : Str} {params : Arguments} {body : List Stmt} {scope : Scope} {dV kV doc pm cdv ct oc : Value} {an od : Option Addr}
    {osl : Array (Option Value)} {N ps : List Str} {sp : Sp} (lk : K.lookup f = some ⟨oc, od, .func (PySem.W.fnOf name qual params body scope dV kV doc pm an cdv ct), osl⟩) (hcd : PySem.W.codeIn K cdv qual = true) (S : FnScope N ps scope)
    (len : ∀ vs H Q E, sp vs H Q E → vs.length = ps.length)
    (hbody : ∀ (A : Around) (outer : List Env) (s : Shared) (H : Hp) (vs : List V) (Q : VK) (E : XK), Room k (A.deeper (envOfC qual scope s.heap.objs.size f cdv)) → sp vs H Q E →
      ∃ t, PSs (cxOf CX P w K mg base N qual scope f cdv A outer s H E) body t ∧ t { nx := fun _ H' => Q .non H', rt := Q } (start N vs) H) :
    FnOk P w K mg base CX (k + 1) f (PySem.W.fnOf name qual params body scope dV kV doc pm an cdv ct) ps sp := by
  refine ⟨len, fun A outer s H args us vs Q E hr e0 hb r hsp => ?_⟩
  have hl := len _ _ _ _ hsp
  have KX : K.In s.heap := e0.mod.kin.keeps fun b o e => (e0.bs b o e).1
  have lim : s.heap.NoLimit := e0.mod.nolimit.keeps fun b o e => (e0.bs b o e).1
  have hkind : ∀ y ∈ ps.zip us, scope.names.lookup y.1 = some .local ∨ (scope.names.lookup y.1 = some .cell ∧ ((cellsFrom (s.heap.objs.size + 1) scope.names []).lookup y.1).isSome = true) := fun ⟨n, v⟩ hy => by
    rcases S.par n (List.of_mem_zip hy).1 with q | q
    · exact .inl q
    · exact .inr ⟨q, PySem.W.cellsFrom_some _ _ _ (.inl q)⟩
  refine codeAny_call_function hr.depth (KX _ _ lk) rfl S.co S.gen rfl (PySem.W.codeRec_of KX hcd) (hb _ _ _ _ ?_)
  refine wpAny_newFunctionEnv_cells S.kind hkind fun env he s1 x => ?_
  subst he
  refine ⟨lim.keeps x.toInCall.keep, codeAny_func ?_⟩
  obtain ⟨t, ht, hq⟩ := hbody A outer s H vs Q E (hr.deeper _) hsp
  have I : Inv (cxOf CX P w K mg base N qual scope f cdv A outer s H E) [] (start N vs) H s1 := inv_start S hr.hd e0 hl r x
  refine wpAny_mono (ht [] s1 (start N vs) H _ I hq) (fun fl s' hs => ?_) fun e s' hs => hs
  have fin : ∀ {σ' : St} {H' : Hp} {v : V} {u : Value}, Inv (cxOf CX P w K mg base N qual scope f cdv A outer s H E) [] σ' H' s' → RelV v u → Q v H' → CE outer P w H s Q u s' :=
    fun {σ' H' v u} J rv q => ⟨v, H', J.os, J.bare, J.base, J.hok, rv, q⟩
  cases fl with
  | ret u =>
    obtain ⟨v, σ', H', J, rv, q⟩ := hs
    exact fin J rv q
  | next =>
    obtain ⟨σ', H', J, q⟩ := hs
    exact fin (v := V.non) (u := Value.none) J rfl q
  | brk =>
    obtain ⟨_, _, _, q⟩ := hs
    exact False.elim q
  | cont =>
    obtain ⟨_, _, _, q⟩ := hs
    exact False.elim q
end L2
namespace L2
open PySem PySem.Spec PyProof.Rows
section
variable {X : Cx} {x : Str} {p pos : Pos} {e : Expr} {es : List Expr} {t : TA} {id T : String} {r : List V → Hp → VK → Prop}
def tCB (r : List V → Hp → VK → Prop) (t : TA) : TE := fun σ H Q => t σ H fun vs H1 => r vs H1 Q
theorem pe_callB (hc : CallR X (.builtin id) r) (hg : Gl X x) (hm : X.mg x = none) (hv : bootBuiltins x = some (.builtin id)) (ha : PA X (e :: es) t) (hn : x ≠ "__name__" := by decide) (hdb : (x == ("__debug__" : Str)) = false := by decide)
    (he : starEach (e :: es) X.env = (false, eval e X.env) :: starEach es X.env := by rfl) (hpl : (backTo pos (starEach es X.env)).any (·.1) = false := by rfl) : PE X (.Call (.Name x p) (e :: es) [] pos) (tCB r t) := by
  intro pins s σ H Q I h
  refine wpAny_Call_Name_kw (ld_blt I hg hm hv ?_ hn hdb)
  exact PyProof.Rows.callWith_builtin1 (thn (ha pos pins s σ H _ I h) fun us s1 ⟨vs, H1, I1, r1, q1⟩ => hc pins s1 σ H1 vs us Q I1 r1 q1) he hpl
theorem pe_callTy (hc : CallR X (.type T) r) (hg : Gl X x) (hm : X.mg x = none) (hv : bootBuiltins x = some (.type T)) (ha : PA X (e :: es) t) (hn : x ≠ "__name__" := by decide) (hdb : (x == ("__debug__" : Str)) = false := by decide)
    (he : starEach (e :: es) X.env = (false, eval e X.env) :: starEach es X.env := by rfl) (hpl : (backTo pos (starEach es X.env)).any (·.1) = false := by rfl) : PE X (.Call (.Name x p) (e :: es) [] pos) (tCB r t) := by
  intro pins s σ H Q I h
  refine wpAny_Call_Name_kw (ld_blt I hg hm hv ?_ hn hdb)
  exact PyProof.Rows.callWith_type1 (thn (ha pos pins s σ H _ I h) fun us s1 ⟨vs, H1, I1, r1, q1⟩ => hc pins s1 σ H1 vs us Q I1 r1 q1) he hpl
end
end L2
namespace HT
open PySem PyProof.Rows
def lexLt : List Int → List Int → Bool
  | [], [] => false
  | [], _ :: _ => true
  | _ :: _, [] => false
  | x :: xs, y :: ys => if x = y then lexLt xs ys else decide (x < y)
theorem lexLt_cons (x y : Int) (xs ys : List Int) : lexLt (x :: xs) (y :: ys) = if x = y then lexLt xs ys else decide (x < y) := rfl
theorem lexLt_nil_nil : lexLt [] [] = false := rfl
section
open PySem.SeqAt
open PySem.AutoSeq1 (wpAny_loadPart')
open PySem.MeetsSeq PySem.MeetsSeq2 PySem.MeetsSeq3
end
section
variable {prog : Program} {w : World} {A : Around} {E : Value → Shared → Prop} {s : Shared}
def sIx (n d : Nat) : Option Int → Nat
  | none => d
  | some v => if v < 0 then (v + (n : Int)).toNat else min v.toNat n
theorem sIx_nat (n d k : Nat) : sIx n d (some (k : Int)) = min k n := by
  show (if (k : Int) < 0 then ((k : Int) + (n : Int)).toNat else min (k : Int).toNat n) = min k n
  rw [if_neg (by omega), Int.toNat_natCast]
end
end HT
namespace L2
open PySem PySem.Spec PyProof.Rows
abbrev TO := St → Hp → (Option Int → Hp → Prop) → Prop
def PO (X : Cx) (e : Option Expr) (t : TO) : Prop :=
  ∀ (pins : List (Addr × Obj)) (s : Shared) (σ : St) (H : Hp) (Q : Option Int → Hp → Prop), Inv X pins σ H s → t σ H Q →
    wpAny (model X.prog X.w) X.A (evalPart e X.env) (fun u s' => ∃ o H', Inv X pins σ H' s' ∧ IsPart u o ∧ Q o H') X.xe s
def tNoPart : TO := fun _ H Q => Q none H
def tPart (t : TE) : TO := fun σ H Q => t σ H fun x H1 => ∃ i, x = .int i ∧ Q (some i) H1
theorem intsAre_of {ns : List Int} : ∀ {us : List Value}, Vals (ns.map V.int) us → IntsAre us ns := by
  induction ns with
  | nil => intro us r; rw [List.map_nil] at r; cases r; exact .nil
  | cons n ns ih =>
    intro us r
    rw [List.map_cons] at r
    cases r with
    | cons r1 r2 =>
      obtain ⟨t, e⟩ := r1
      subst e
      exact .cons n t (ih r2)
section
variable {X : Cx} {e : Expr} {te : TE} {lo hi : Option Expr} {tl th : TO} {pos p2 : Pos}
theorem po_none : PO X none tNoPart := by
  intro pins s σ H Q I h
  rw [evalPart_none]
  exact wpAny_pure ⟨none, H, I, .none, h⟩
theorem po_some (h : PE X e te) : PO X (some e) (tPart te) := by
  intro pins s σ H Q I hw
  rw [evalPart_some]
  refine thn (h pins s σ H _ I hw) fun u s1 ⟨x, H1, I1, r1, q1⟩ => ?_
  obtain ⟨i, rfl, q⟩ := q1
  obtain ⟨t, rfl⟩ := r1
  exact ⟨some i, H1, I1, .int i t, q⟩
def SlR (X : Cx) (r : V → Option Int → Option Int → Hp → VK → Prop) : Prop :=
  ∀ (pins : List (Addr × Obj)) (s : Shared) (σ : St) (H : Hp) (x : V) (v vl vu : Value) (lo hi : Option Int) (sl : Addr) (Q : VK), Inv X pins σ H s → RelV x v → s.heap.IsSliceOf sl vl vu .none → IsPart vl lo → IsPart vu hi → r x lo hi H Q →
    ∃ T id, typeLookup (.type T) "__getitem__" = pure (some (.builtin id)) ∧ s.TypeIs v T ∧ wpAny (model X.prog X.w) X.A (getItem v (.ref sl)) (EP X pins σ Q) X.xe s
theorem SlR.or {r r' : V → Option Int → Option Int → Hp → VK → Prop} (h : SlR X r) (h' : SlR X r') : SlR X (fun x lo hi H Q => r x lo hi H Q ∨ r' x lo hi H Q) := by
  intro pins s σ H x v vl vu lo hi sl Q I rx hs pl pu q
  rcases q with q | q
  · exact h pins s σ H x v vl vu lo hi sl Q I rx hs pl pu q
  · exact h' pins s σ H x v vl vu lo hi sl Q I rx hs pl pu q
def tSl (r : V → Option Int → Option Int → Hp → VK → Prop) (te : TE) (tl th : TO) : TE := fun σ H Q => te σ H fun x H1 => tl σ H1 fun l H2 => th σ H2 fun u H3 => r x l u H3 Q
theorem pe_slice {r : V → Option Int → Option Int → Hp → VK → Prop} (hr : SlR X r) (he : PE X e te) (hl : PO X lo tl) (hu : PO X hi th) : PE X (.Subscript e (.Slice lo hi none p2) pos) (tSl r te tl th) := by
  intro pins s σ H Q I h
  refine Subscript_ (thn (he pins s σ H _ I h) fun v s1 ⟨x, H1, I1, r1, q1⟩ => ?_)
  refine wpAny_Slice (thn (hl pins s1 σ H1 _ I1 q1) fun vl s2 ⟨l, H2, I2, pl, q2⟩ => thn (hu pins s2 σ H2 _ I2 q2) fun vu s3 ⟨u, H3, I3, pu, q3⟩ => ?_)
  rw [evalPart_none]
  refine wpAny_pure ?_
  have I4 : Inv X pins σ H3 { s3 with heap := s3.heap.push { cls := .type "slice", data := .fields #[vl, vu, .none] } } := I3.kept (t' := s3.toks) fun b ob q => Heap.get?_push_of_some _ q
  obtain ⟨T, id, hT, ht, hg⟩ := hr pins { s3 with heap := s3.heap.push { cls := .type "slice", data := .fields #[vl, vu, .none] } } σ H3 x v vl vu l u s3.heap.objs.size Q I4 r1 (Heap.IsSliceOf.new ..) pl pu q3
  show wpAny (model X.prog X.w) X.A (subscriptTail e (.Slice lo hi none p2) v (.ref s3.heap.objs.size)) (EP X pins σ Q) X.xe { s3 with heap := s3.heap.push { cls := .type "slice", data := .fields #[vl, vu, .none] } }
  exact tail_any (ops := [.ref s3.heap.objs.size, v]) ht hT hg (by with_unfolding_all rfl)
def cutV (xs : List V) (lo hi : Option Int) : List V := (xs.drop (HT.sIx xs.length 0 lo)).take (HT.sIx xs.length xs.length hi - HT.sIx xs.length 0 lo)
theorem cutV_length (xs : List V) (lo hi : Option Int) : (cutV xs lo hi).length ≤ xs.length := by
  unfold cutV
  rw [List.length_take, List.length_drop]
  omega
end
end L2
namespace L2
open PySem PySem.Spec PyProof.Rows
def ixN (n : Nat) (i : Int) : Option Nat := if 0 ≤ i then (if i < n then some i.toNat else none) else if -(n : Int) ≤ i then some (i + n).toNat else none
def atI {α : Type} (xs : List α) (i : Int) : Option α := (ixN xs.length i).bind fun j => xs[j]?
theorem ixN_seq {n : Nat} {i : Int} {j : Nat} (h : ixN n i = some j) : seqIndex? i n = some j ∧ j < n ∧ -(n : Int) ≤ i ∧ i < n := by
  unfold ixN at h
  by_cases h0 : 0 ≤ i
  · rw [if_pos h0] at h
    by_cases h1 : i < n
    · rw [if_pos h1] at h
      have e : i.toNat = j := Option.some.inj h
      exact ⟨by rw [seqIndex_of h0 h1, e], by omega, by omega, h1⟩
    · rw [if_neg h1] at h; cases h
  · rw [if_neg h0] at h
    by_cases h1 : -(n : Int) ≤ i
    · rw [if_pos h1] at h
      have e : (i + n).toNat = j := Option.some.inj h
      exact ⟨by rw [seqIndex_neg (by omega) h1, e], by omega, h1, by omega⟩
    · rw [if_neg h1] at h; cases h
theorem atI_get {α : Type} {xs : List α} {i : Int} {v : α} (h : atI xs i = some v) : ∃ j, seqIndex? i xs.length = some j ∧ xs[j]? = some v ∧ j < xs.length ∧ -(xs.length : Int) ≤ i ∧ i < xs.length := by
  unfold atI at h
  cases e : ixN xs.length i with
  | none => rw [e] at h; cases h
  | some j =>
    rw [e] at h
    obtain ⟨h1, h2, h3, h4⟩ := ixN_seq e
    exact ⟨j, h1, h, h2, h3, h4⟩
theorem atI_nat {α : Type} {xs : List α} {j : Nat} {v : α} (h : xs[j]? = some v) : atI xs (j : Int) = some v := by
  have hj : j < xs.length := (List.getElem?_eq_some_iff.mp h).1
  have e : ixN xs.length (j : Int) = some j := by
    unfold ixN
    rw [if_pos (by omega), if_pos (by omega)]; simp
  unfold atI; rw [e]; exact h
def PlainIx (b : Expr) : Prop := ∀ o i, subscripted b false o i = operate [o, i] (getItem o i)
def IxR (X : Cx) (r : R2) : Prop :=
  ∀ (value slice : Expr) (pins : List (Addr × Obj)) (s : Shared) (σ : St) (H : Hp) (x y : V) (v u : Value) (Q : VK), Inv X pins σ H s → RelV x v → RelV y u → r x y H Q →
    subscripted slice false v u = operate [v, u] (getItem v u) → wpAny (model X.prog X.w) X.A (subscriptTail value slice v u) (EP X pins σ Q) X.xe s
def MtR (X : Cx) (id : String) (r : V → List V → Hp → VK → Prop) : Prop :=
  ∀ (pins : List (Addr × Obj)) (s : Shared) (σ : St) (H : Hp) (x : V) (xs : List V) (v : Value) (us : List Value) (Q : VK), Inv X pins σ H s → RelV x v → Vals xs us → r x xs H Q →
    wpAny (model X.prog X.w) X.A (call (.builtin id) (v :: us)) (EP X pins σ Q) X.xe s
section
variable {X : Cx} {a b : Expr} {ta tb : TE} {pos : Pos}
theorem IxR.or {r r' : R2} (h : IxR X r) (h' : IxR X r') : IxR X (fun x y H Q => r x y H Q ∨ r' x y H Q) := by
  intro value slice pins s σ H x y v u Q I rx ry q hs
  rcases q with q | q
  · exact h value slice pins s σ H x y v u Q I rx ry q hs
  · exact h' value slice pins s σ H x y v u Q I rx ry q hs
theorem MtR.or {id : String} {r r' : V → List V → Hp → VK → Prop} (h : MtR X id r) (h' : MtR X id r') : MtR X id (fun x xs H Q => r x xs H Q ∨ r' x xs H Q) := by
  intro pins s σ H x xs v us Q I rx rs q
  rcases q with q | q
  · exact h pins s σ H x xs v us Q I rx rs q
  · exact h' pins s σ H x xs v us Q I rx rs q
theorem pe_ix {r : R2} (hr : IxR X r) (ha : PE X a ta) (hb : PE X b tb) (hs : PlainIx b) : PE X (.Subscript a b pos) (tOp r ta tb) := by
  intro pins s σ H Q I h
  exact Subscript_ (binT ha hb I h fun v u s2 x y H2 I2 rx ry q => hr a b pins s2 σ H2 x y v u Q I2 rx ry q (hs _ _))
def rIxL (K : PySem.W.Frag) : R2 := fun x y H Q => ∃ p xs i v, x = .ref p ∧ y = .int i ∧ SqL K H p xs ∧ atI xs i = some v ∧ Q v H
def rIxT (K : PySem.W.Frag) : R2 := fun x y H Q => ∃ p xs i v, x = .ref p ∧ y = .int i ∧ SqT K H p xs ∧ atI xs i = some v ∧ Q v H
theorem ix_list : IxR X (rIxL X.K) := by
  intro value slice pins s σ H x y v u Q I rx ry h hs
  obtain ⟨p, xs, i, z, rfl, rfl, hq, he, q⟩ := h
  cases rx
  obtain ⟨t, rfl⟩ := ry
  obtain ⟨its, r, pl, hz⟩ := I.list hq
  obtain ⟨j, h1, h2, h3, h4, h5⟩ := atI_get he
  obtain ⟨w, ew, rw'⟩ := r.get h2
  have hl := r.length
  have hn := line63
  have fin : EP X pins σ Q w s := ⟨z, H, I, rw', q⟩
  by_cases h0 : 0 ≤ i
  · have hj : i.toNat = j := by
      rw [seqIndex_of h0 h5] at h1
      exact Option.some.inj h1
    exact item_listR pl.isList h0 (by omega) (by rw [hj]; simpa using ew) fin hs
  · have hj : (i + (its.toArray.size : Int)).toNat = j := by
      rw [seqIndex_neg (by omega) h4] at h1
      rw [List.size_toArray, ← hl]
      exact Option.some.inj h1
    exact subscriptTail_builtinR (x := w) pl.isList.typeIs slot_list_getitem.lookup
      (wpAny_getItem_list_neg (Q := fun r s' => r = w ∧ EP X pins σ Q r s') pl.isList (by omega) (by rw [List.size_toArray] <;> omega) (by omega) (by rw [hj]; simpa using ew) ⟨rfl, fin⟩) hs
theorem ix_tup : IxR X (rIxT X.K) := by
  intro value slice pins s σ H x y v u Q I rx ry h hs
  obtain ⟨p, xs, i, z, rfl, rfl, hq, he, q⟩ := h
  cases rx
  obtain ⟨t, rfl⟩ := ry
  obtain ⟨its, r, pl, hz⟩ := I.tuple hq
  obtain ⟨j, h1, h2, h3, h4, h5⟩ := atI_get he
  obtain ⟨w, ew, rw'⟩ := r.get h2
  have hl := r.length
  have hn := line63
  have fin : EP X pins σ Q w s := ⟨z, H, I, rw', q⟩
  exact subscriptTail_builtinR (x := w) pl.typeIs slot_tuple_getitem.lookup
    (getItem_tuple (j := j) (Q := fun r s' => r = w ∧ EP X pins σ Q r s') pl (by omega) (by omega) (by rw [List.size_toArray, ← hl]; exact h1) (by simpa using ew) ⟨rfl, fin⟩) hs
theorem Inv.lst {pins : List (Addr × Obj)} {σ : St} {H : Hp} {s : Shared} {p : Addr} {xs : List V} (I : Inv X pins σ H s) (h : H p = some (.lst xs)) :
    ∃ (its : List Value) (n : Nat), Vals xs its ∧ s.heap.get? p = some { cls := .type "list", data := .seq its.toArray n } ∧ xs.length ≤ sizeLine := by
  obtain ⟨z, its, n, r, e⟩ := I.hok p _ h
  exact ⟨its, n, r, e, z⟩
theorem slice_bounds (lo hi : Option Int) (n : Nat) : (sliceBounds lo hi none n).1 = ((HT.sIx n 0 lo : Nat) : Int) ∧ (sliceBounds lo hi none n).2.1 = ((HT.sIx n n hi : Nat) : Int) ∧ (sliceBounds lo hi none n).2.2 = 1 := by
  refine ⟨?_, ?_, rfl⟩
  · cases lo with
    | none => simp [sliceBounds, HT.sIx]
    | some i =>
      simp only [sliceBounds, HT.sIx, Option.getD_none, show (1 : Int) > 0 by decide, if_true]
      by_cases h : i < 0
      · simp only [h, if_true] <;> omega
      · simp only [h, if_false] <;> omega
  · cases hi with
    | none => simp [sliceBounds, HT.sIx]
    | some i =>
      simp only [sliceBounds, HT.sIx, Option.getD_none, show (1 : Int) > 0 by decide, if_true]
      by_cases h : i < 0
      · simp only [h, if_true] <;> omega
      · simp only [h, if_false] <;> omega
theorem slicePick_cut (its : List Value) (lo hi : Option Int) : slicePick its.toArray lo hi none = ((its.drop (HT.sIx its.length 0 lo)).take (HT.sIx its.length its.length hi - HT.sIx its.length 0 lo)).toArray := by
  obtain ⟨h1, h2, h3⟩ := slice_bounds lo hi its.toArray.size
  unfold slicePick
  rw [h1, h2, h3]
  simp only [sliceRange_one, pick_run, List.size_toArray] <;> rfl
def rSlL (K : PySem.W.Frag) : V → Option Int → Option Int → Hp → VK → Prop := fun x lo hi H Q => ∃ a xs, x = .ref a ∧ SqL K H a xs ∧ ∀ p, H p = none → Q (.ref p) (upd H p (.lst (cutV xs lo hi)))
theorem sl_list : SlR X (rSlL X.K) := by
  intro pins s σ H x v vl vu lo hi sl Q I rx hs pl pu h
  obtain ⟨a, xs, rfl, hx, q⟩ := h
  cases rx
  obtain ⟨its, r, ht, hz⟩ := I.list hx
  have hlen := r.length
  refine ⟨"list", _, slot_list_getitem.lookup, ht.isList.typeIs, ?_⟩
  refine wpAny_getItem_list_slice ht.isList hs pl pu .none (by simp) ?_ (by rw [List.size_toArray] <;> omega)
  rw [slicePick_cut, ← hlen]
  refine ⟨.ref s.heap.objs.size, _, I.laid (t' := s.toks) (o := .lst (cutV xs lo hi)) (fun b ob q => Heap.get?_push_of_some _ q) (Nat.le_refl _) ?_, rfl, q _ (I.hok.fresh (Nat.le_refl _))⟩
  exact ⟨Nat.le_trans (cutV_length xs lo hi) hz, _, 0, (r.drop (HT.sIx xs.length 0 lo)).take (HT.sIx xs.length xs.length hi - HT.sIx xs.length 0 lo), Heap.get?_push_size _ rfl⟩
theorem call_len_seq : CallR X (.builtin "len") (fun xs H Q => ∃ p ys, xs = [.ref p] ∧ (SqL X.K H p ys ∨ SqT X.K H p ys) ∧ Q (.int ys.length) H) := by
  intro pins s σ H xs us Q I r h
  obtain ⟨p, ys, rfl, hq, q⟩ := h
  obtain ⟨u, rfl, rx⟩ := vals1 r
  cases rx
  have hn := line63
  rcases hq with hq | hq
  · obtain ⟨its, r', pl, hz⟩ := I.list hq
    have hlen := r'.length
    exact Calls.call_len_list pl.isList (by simp only [List.size_toArray] <;> omega) ⟨.int ys.length, H, I.tok _, ⟨s.toks + 1, by rw [List.size_toArray, hlen]⟩, q⟩
  · obtain ⟨its, r', pl, hz⟩ := I.tuple hq
    have hlen := r'.length
    exact len_tuple pl (by simp only [List.size_toArray] <;> omega) ⟨.int ys.length, H, I.tok _, ⟨s.toks + 1, by rw [List.size_toArray, hlen]⟩, q⟩
theorem CallR.or {f : Value} {r r' : List V → Hp → VK → Prop} (h : CallR X f r) (h' : CallR X f r') : CallR X f (fun xs H Q => r xs H Q ∨ r' xs H Q) := by
  intro pins s σ H xs us Q I rs q
  rcases q with q | q
  · exact h pins s σ H xs us Q I rs q
  · exact h' pins s σ H xs us Q I rs q
theorem call_list_of : CallR X (.type "list") (fun xs H Q => ∃ p ys, xs = [.ref p] ∧ (SqL X.K H p ys ∨ SqT X.K H p ys) ∧ ∀ l, H l = none → Q (.ref l) (upd H l (.lst ys))) := by
  intro pins s σ H xs us Q I r h
  obtain ⟨p, ys, rfl, hq, q⟩ := h
  obtain ⟨u, rfl, rx⟩ := vals1 r
  cases rx
  have fin : ∀ (its : List Value), Vals ys its → ys.length ≤ sizeLine → ∀ (h' : Heap) (c' : Nat), (∀ b o', s.heap.get? b = some o' → h'.get? b = some o') →
      h'.get? s.heap.objs.size = some { cls := .type "list", dict := none, data := .seq its.toArray c', slots := #[] } → EP X pins σ Q (.ref s.heap.objs.size) { s with heap := h' } := fun its r' hz h' c' kp e =>
    ⟨.ref s.heap.objs.size, _, I.laid (t' := s.toks) kp (Nat.le_refl _) (show ObjOk X.prog X.w _ h' _ (.lst ys) from ⟨hz, its, c', r', e⟩), rfl, q _ (I.hok.fresh (Nat.le_refl _))⟩
  rcases hq with hq | hq
  · obtain ⟨its, r', pl, hz⟩ := I.list hq
    have hlen := r'.length
    obtain ⟨o, ho, hc, n, hd⟩ := pl.isList
    exact call_list_seq p (.inl rfl) ho hc hd (fun h' c' kp e => fin its r' hz h' c' kp e) (by simp only [List.size_toArray] <;> omega)
  · obtain ⟨its, r', pl, hz⟩ := I.tuple hq
    have hlen := r'.length
    obtain ⟨o, ho, hc, n, hd⟩ := pl
    exact call_list_seq p (.inr rfl) ho hc hd (fun h' c' kp e => fin its r' hz h' c' kp e) (by simp only [List.size_toArray] <;> omega)
def tyV (K : PySem.W.Frag) (T : String) (x : V) (H : Hp) : Prop := match x with
  | .str _ => T = "str"
  | .int _ => T = "int"
  | .ref p => (T = "list" ∧ ∃ xs, SqL K H p xs) ∨ (T = "tuple" ∧ ∃ o, K.lookup p = some o ∧ o.cls = .type "tuple" ∧ o.dict = none) ∨
      (T = "dict" ∧ ((∃ kvs, H p = some (.dK kvs)) ∨ ∃ kvs, H p = some (.dT kvs))) ∨ (T = "set" ∧ ∃ S n, H p = some (.set S n))
  | _ => False
theorem tyV_is {pins : List (Addr × Obj)} {σ : St} {H : Hp} {s : Shared} {T : String} {x : V} {v : Value} (I : Inv X pins σ H s) (r : RelV x v) (ty : tyV X.K T x H) :
    s.TypeIs v T ∧ ∀ a, v = .ref a → ∃ ob, s.heap.get? a = some ob ∧ ob.dict = none := by
  cases x with
  | str z =>
    obtain ⟨t, rfl⟩ := r
    cases (show T = "str" from ty)
    exact ⟨typeIs_str s z t, fun _ e => nomatch e⟩
  | int i =>
    obtain ⟨t, rfl⟩ := r
    cases (show T = "int" from ty)
    exact ⟨typeIs_int s i t, fun _ e => nomatch e⟩
  | ref p =>
    cases r
    rcases ty with ⟨rfl, xs, hq⟩ | ⟨rfl, o, hk, hc, hd⟩ | ⟨rfl, hk⟩ | ⟨rfl, S, n, hk⟩
    · obtain ⟨its, _, pl, _⟩ := I.list hq
      refine ⟨pl.isList.typeIs, fun a e => ?_⟩
      cases e
      obtain ⟨o, n, e, c, hd, _⟩ := pl
      exact ⟨o, e, hd⟩
    · refine ⟨⟨o, I.kIn p o hk, hc⟩, fun a e => ?_⟩
      cases e
      exact ⟨o, I.kIn _ o hk, hd⟩
    · have z : ∃ o, s.heap.get? p = some o ∧ o.ExactDict := by
        rcases hk with ⟨kvs, hk⟩ | ⟨kvs, hk⟩
        · obtain ⟨_, _, _, _, o, _, _, e, ex, _⟩ := I.hok p _ hk
          exact ⟨o, e, ex⟩
        · obtain ⟨_, _, _, _, o, _, _, e, ex, _⟩ := I.hok p _ hk
          exact ⟨o, e, ex⟩
      obtain ⟨o, e, ex⟩ := z
      refine ⟨⟨o, e, ex.1⟩, fun a e2 => ?_⟩
      cases e2
      exact ⟨o, e, ex.2.1⟩
    · obtain ⟨o, _, _, _, e, ex, _⟩ := I.hok p _ hk
      refine ⟨⟨o, e, ex.1⟩, fun a e2 => ?_⟩
      cases e2
      exact ⟨o, e, ex.2.1⟩
  | _ => exact False.elim ty
def tBM (K : PySem.W.Frag) (T : String) (r : V → List V → Hp → VK → Prop) (to : TE) (t : TA) : TE := fun σ H Q => to σ H fun x H1 => tyV K T x H1 ∧ t σ H1 fun xs H2 => r x xs H2 Q
variable {o e : Expr} {es : List Expr} {to : TE} {t : TA} {name : Str} {apos cpos : Pos} {T id : String} {r : V → List V → Hp → VK → Prop}
theorem pe_bm (pa : PlainAttrs T) (slot : Slot T name id) (hty : typeOf (.builtin id) = pure (.type "method_descriptor")) (hm : MtR X id r) (ho : PE X o to) (ha : PA X (e :: es) t)
    (hbase : attributeBase o name X.env (eval o X.env) = eval o X.env := by rfl)
    (hfew : ((backTo cpos (starEach (e :: es) X.env)).all (fun x => !x.1) && (backToKw cpos (keywordEach [] X.env)).all (fun x => x.1.isSome)
      && decide ((e :: es).length + ([] : List Keyword).length + (if ([] : List Keyword).isEmpty then 0 else 1) < 30)) = true := by rfl)
    (hline : (apos.endLine == cpos.line) = true := by rfl) (hs : starEach (e :: es) X.env = (false, eval e X.env) :: starEach es X.env := by rfl) (hplain : (backTo cpos (starEach es X.env)).any (·.1) = false := by rfl) :
    PE X (.Call (.Attribute o name apos) (e :: es) [] cpos) (tBM X.K T r to t) := by
  intro pins s σ H Q I h
  refine wpAny_Call_method_late hbase hfew hline rfl (thn (ho pins s σ H _ I h) fun v s1 ⟨x, H1, I1, r1, ty, q1⟩ => ?_)
  obtain ⟨h1, h2⟩ := tyV_is I1 r1 ty
  refine ⟨T, id, pa, slot, hty, h1, h2, ?_⟩
  have hA := ha cpos pins s1 σ H1 _ I1 q1
  rw [hs] at hA ⊢
  refine Calls.callWith_builtin (by show (false || (backTo cpos (starEach es X.env)).any (·.1)) = false; rw [hplain] <;> rfl) (Calls.evalArgs_plain ?_)
  exact thn hA fun us s2 ⟨vs, H2, I2, r2, q2⟩ => hm pins s2 σ H2 x vs v us Q I2 r1 r2 q2
end
end L2
namespace L2
open PySem PySem.Spec PyProof.Rows
def MtM (X : Cx) (id : String) (r : V → List V → Hp → VK → Prop) : Prop :=
  ∀ (pins : List (Addr × Obj)) (s : Shared) (σ : St) (H : Hp) (x : V) (xs : List V) (v : Value) (us : List Value) (Q : VK), Inv X pins σ H s → RelV x v → Vals xs us → r x xs H Q →
    wpAny (model X.prog X.w) X.A (call (.builtin id) (v :: us)) (EP X pins σ Q) X.xe s
theorem Vals.one : ∀ {x : V} {us : List Value}, Vals [x] us → ∃ u, us = [u] ∧ RelV x u
  | _, _, .cons r .nil => ⟨_, rfl, r⟩
theorem Vals.zero : ∀ {us : List Value}, Vals [] us → us = []
  | _, .nil => rfl
section
variable {X : Cx} {pins : List (Addr × Obj)} {σ : St} {H : Hp} {s : Shared} {l b : Addr} {xs ys zs : List V}
theorem Inv.lset {its its' : List Value} {n : Nat} {f : Array Value → Array Value} {t' : Nat} (I : Inv X pins σ H s) (hH : H l = some (.lst xs))
    (e : s.heap.get? l = some { cls := .type "list", data := .seq its.toArray n }) (hf : f its.toArray = its'.toArray) (hv : Vals ys its') (hz : ys.length ≤ sizeLine) :
    Inv X pins σ (upd H l (.lst ys)) { s with heap := s.heap.update l (Obj.mapSeq f), toks := t' } := by
  have q := PySem.IsL.update e f
  rw [hf] at q
  refine I.write (x := l) (e := l) (by rw [hH]; exact trivial) (.inl rfl) (fun b' u hb hu => (Heap.get?_update_other s.heap (Obj.mapSeq f) (Ne.symm hb)).trans hu) ⟨_, q⟩ ?_
  exact ⟨hz, its', _, hv, q⟩
theorem Inv.lnew {its : List Value} {t' : Nat} (I : Inv X pins σ H s) (hv : Vals ys its) (hz : ys.length ≤ sizeLine) :
    Inv X pins σ (upd H s.heap.objs.size (.lst ys)) { s with heap := s.heap.push { cls := .type "list", data := .seq its.toArray }, toks := t' } :=
  I.laid (fun _ _ q => Heap.get?_push_of_some _ q) (Nat.le_refl _) ⟨hz, its, 0, hv, Heap.get?_push_size _ rfl⟩
theorem Inv.fresh (I : Inv X pins σ H s) : H s.heap.objs.size = none := I.hok.fresh (Nat.le_refl _)
theorem Inv.lstM (I : Inv X pins σ H s) (hH : H l = some (.lst xs)) : xs.length ≤ sizeLine ∧ ∃ (its : List Value) (n : Nat), Vals xs its ∧ xs.length = its.length ∧ s.heap.get? l = some { cls := .type "list", data := .seq its.toArray n } := by
  obtain ⟨z, its, n, r, e⟩ := I.hok l _ hH
  exact ⟨z, its, n, r, r.length, e⟩
theorem notLongL {n : Nat} (h : n ≤ sizeLine) : Builtin.List.listTooLong n = false := by
  unfold Builtin.List.listTooLong
  exact decide_eq_false (by omega)
end
section
variable {X : Cx}
def rAppend : V → List V → Hp → VK → Prop := fun x vs H Q => ∃ l xs y, x = .ref l ∧ vs = [y] ∧ H l = some (.lst xs) ∧ xs.length < sizeLine ∧ Q .non (upd H l (.lst (xs ++ [y])))
theorem mt_append : MtM X "list.append" rAppend := by
  intro pins s σ H x vs v us Q I rx rv h
  obtain ⟨l, xs, y, rfl, rfl, hH, hz, q⟩ := h
  cases rx
  obtain ⟨u, rfl, ru⟩ := rv.one
  obtain ⟨z, its, n, r, hl, e⟩ := I.lstM hH
  refine call_meets F.slot_list_append ⟨_, e, rfl⟩ F.entry_list_append (F.args_list_append_2 _ _) (PySem.list_append l its.toArray n u (by rw [List.size_toArray]; omega)) ⟨e, ?_⟩
  refine ⟨.non, _, I.lset (its' := its ++ [u]) hH e (by simp) (r.append (.cons ru .nil)) ?_, rfl, q⟩
  rw [List.length_append, List.length_singleton]
  omega
def rExtend : V → List V → Hp → VK → Prop := fun x vs H Q => ∃ l b xs zs, x = .ref l ∧ vs = [.ref b] ∧ H l = some (.lst xs) ∧ H b = some (.lst zs) ∧ xs.length + zs.length ≤ sizeLine ∧ Q .non (upd H l (.lst (xs ++ zs)))
theorem mt_extend : MtM X "list.extend" rExtend := by
  intro pins s σ H x vs v us Q I rx rv h
  obtain ⟨l, b, xs, zs, rfl, rfl, hH, hB, hz, q⟩ := h
  cases rx
  obtain ⟨u, rfl, ru⟩ := rv.one
  cases ru
  obtain ⟨z, its, n, r, hl, e⟩ := I.lstM hH
  obtain ⟨z2, its2, n2, r2, hl2, e2⟩ := I.lstM hB
  have hsz : its.toArray.size + its2.toArray.size ≤ sizeLine := by rw [List.size_toArray, List.size_toArray]; omega
  have hlong : ¬ (!its.toArray.isEmpty && Builtin.List.listTooLong (its.toArray.size + its2.toArray.size)) = true := by
    rw [notLongL hsz, Bool.and_false]
    exact Bool.false_ne_true
  refine call_meets F.slot_list_extend ⟨_, e, rfl⟩ F.entry_list_extend (F.args_list_extend_2 _ _)
    (AutoSeq1.list_extend_list_list_0 l its.toArray n b its2.toArray n2 hlong (by rw [List.size_toArray]; omega) (by omega)) ⟨e, e2, ?_⟩
  refine ⟨.non, _, I.lset (its' := its ++ its2) hH e (by simp) (r.append r2) ?_, rfl, q⟩
  rw [List.length_append]
  omega
def rCat : R2 := fun x y H Q => ∃ l b xs zs, x = .ref l ∧ y = .ref b ∧ H l = some (.lst xs) ∧ H b = some (.lst zs) ∧ xs.length + zs.length ≤ sizeLine ∧ ∀ p, H p = none → Q (.ref p) (upd H p (.lst (xs ++ zs)))
theorem op_cat : OpR X (binaryOp .Add) rCat := by
  intro pins s σ H x y v u Q I rx ry h
  obtain ⟨l, b, xs, zs, rfl, rfl, hH, hB, hz, q⟩ := h
  cases rx
  cases ry
  obtain ⟨z, its, n, r, hl, e⟩ := I.lstM hH
  obtain ⟨z2, its2, n2, r2, hl2, e2⟩ := I.lstM hB
  refine PySem.P.add_list e e2 ?_ (by rw [List.size_toArray, List.size_toArray]; omega)
  have ea : its.toArray ++ its2.toArray = (its ++ its2).toArray := by simp
  rw [ea]
  exact ⟨.ref _, _, I.lnew (t' := s.toks) (r.append r2) (by rw [List.length_append]; omega), rfl, q _ I.fresh⟩
end
section
variable {prog : Program} {w : World} {A : Around} {E : Value → Shared → Prop} {s : Shared}
set_option maxRecDepth 100000 in
end
section
variable {X : Cx}
end
end L2
namespace L2
open PySem PySem.Spec PyProof.Rows
theorem Vals.ints : ∀ {ns : List Int} {us : List Value}, Vals (ns.map V.int) us → IntsAre us ns
  | [], us, h => by
    rw [List.map_nil] at h
    cases h
    exact IntsAre.nil
  | n :: ns, us, h => by
    rw [List.map_cons] at h
    cases h with
    | cons r t =>
      obtain ⟨k, rfl⟩ := r
      exact IntsAre.cons n k (Vals.ints t)
theorem vals_of_ints : ∀ {us : List Value} {ns : List Int}, IntsAre us ns → Vals (ns.map V.int) us
  | _, _, .nil => by rw [List.map_nil]; exact Paired.nil
  | _, _, .cons n t h => by rw [List.map_cons]; exact Paired.cons (show RelV (V.int n) (Value.int n t) from ⟨t, rfl⟩) (vals_of_ints h)
theorem Vals.strs : ∀ {xs : List Str} {us : List Value}, Vals (xs.map V.str) us → StrsAre us xs
  | [], us, h => by
    rw [List.map_nil] at h
    cases h
    exact StrsAre.nil
  | x :: xs, us, h => by
    rw [List.map_cons] at h
    cases h with
    | cons r t =>
      obtain ⟨k, rfl⟩ := r
      exact StrsAre.cons x k (Vals.strs t)
theorem Vals.ref1 {a : Addr} {us : List Value} (r : Vals [V.ref a] us) : us = [Value.ref a] := by
  cases r with
  | cons r t =>
    cases t
    cases r
    rfl
section
variable {prog : Program} {w : World} {A : Around} {E : Value → Shared → Prop} {s : Shared} {l : Addr} {its : List Value} {ns : List Int} {Q : Value → Shared → Prop}
theorem sum_raw (hh : A.handled = none) (hl : s.heap.IsList l its.toArray) (hi : IntsAre its ns)
    (h : ∀ h' tk t', (∀ b o, s.heap.get? b = some o → h'.get? b = some o) → Q (.int ns.sum t') { s with heap := h', toks := tk }) : wpAny (model prog w) A (call (.builtin "sum") [.ref l]) Q E s := by
  obtain ⟨xs, e⟩ := hi.allInts.items
  have hn : numsOf (intItems xs).toList = ns := by rw [← e]; exact hi.numsOf
  rw [nums_intItems] at hn
  rw [e] at hl
  refine PySem.sum_intListG hh hl fun h' tk t' hk => ?_
  have := h h' tk t' hk
  rw [preSum_eq, List.take_of_length_le (by simp), hn]; exact this
end
section
variable {X : Cx}
def rSum (K : PySem.W.Frag) : List V → Hp → VK → Prop := fun vs H Q => ∃ (a : Addr) (ns : List Int), vs = [V.ref a] ∧ SqL K H a (ns.map V.int) ∧ Q (.int ns.sum) H
theorem cr_sum (hc : X.calm = true) : CallR X (.builtin "sum") (rSum X.K) := by
  intro pins s σ H vs us Q I r h
  obtain ⟨a, ns, rfl, hs, q⟩ := h
  obtain ⟨its, rv, hl, _⟩ := I.list hs
  rw [Vals.ref1 r]
  exact sum_raw (I.ok.hd hc) hl.isList rv.ints fun h' tk t' hk => ⟨.int _, H, I.kept hk, ⟨_, rfl⟩, q⟩
theorem small64 {n : Nat} (h : n < 64) : n ≤ sizeLine := by rw [sizeLine_eq]; omega
end
section
variable {X : Cx}
end
section
variable {X : Cx}
end
section
variable {X : Cx}
end
mutual
inductive Dp (K : PySem.W.Frag) (H : Hp) : V → PyData → Prop
  | non : Dp K H .non .none
  | bl (b : Bool) : Dp K H (.bl b) (.bool b)
  | int (i : Int) : Dp K H (.int i) (.int i)
  | str (x : Str) : Dp K H (.str x) (.str x)
  | lst {a : Addr} {xs : List V} {ds : List PyData} : SqL K H a xs → DpAll K H xs ds → Dp K H (.ref a) (.list ds)
  | tup {a : Addr} {xs : List V} {ds : List PyData} : SqT K H a xs → DpAll K H xs ds → Dp K H (.ref a) (.tuple ds)
inductive DpAll (K : PySem.W.Frag) (H : Hp) : List V → List PyData → Prop
  | nil : DpAll K H [] []
  | cons {v : V} {vs : List V} {d : PyData} {ds : List PyData} : Dp K H v d → DpAll K H vs ds → DpAll K H (v :: vs) (d :: ds)
end
section
variable {X : Cx} {pins : List (Addr × Obj)} {σ : St} {H : Hp} {s : Shared}
mutual
theorem Dp.reads (I : Inv X pins σ H s) : ∀ (d : PyData) (v : V) (u : Value), Dp X.K H v d → RelV v u → ∃ as, Reads s.heap u d as
  | .none, _, _, h, r => by
    cases h
    cases r
    exact ⟨_, Reads.none⟩
  | .bool b, _, _, h, r => by
    cases h
    cases r
    exact ⟨_, Reads.bool b⟩
  | .int i, _, _, h, r => by
    cases h
    obtain ⟨t, rfl⟩ := r
    exact ⟨_, Reads.int i t⟩
  | .str x, _, _, h, r => by
    cases h
    obtain ⟨t, rfl⟩ := r
    exact ⟨_, Reads.str x t⟩
  | .list ds, _, _, h, r => by
    cases h with
    | lst hs ha =>
      cases r
      obtain ⟨its, rv, ⟨o, n, ho, hc, _, hd⟩, _⟩ := I.list hs
      obtain ⟨as, hr⟩ := Dp.readsAll I ds _ its ha rv
      exact ⟨_, Reads.list ho hc hd hr⟩
  | .tuple ds, _, _, h, r => by
    cases h with
    | tup hs ha =>
      cases r
      obtain ⟨its, rv, ⟨o, ho, hc, n, hd⟩, _⟩ := I.tuple hs
      obtain ⟨as, hr⟩ := Dp.readsAll I ds _ its ha rv
      exact ⟨_, Reads.tuple ho hc hd hr⟩
  | .dict _, _, _, h, _ => by cases h
theorem Dp.readsAll (I : Inv X pins σ H s) : ∀ (ds : List PyData) (vs : List V) (us : List Value), DpAll X.K H vs ds → Vals vs us → ∃ as, ReadsAll s.heap us ds as
  | [], _, _, h, r => by
    cases h
    cases r
    exact ⟨_, ReadsAll.nil⟩
  | d :: ds, _, _, h, r => by
    cases h with
    | cons h1 h2 =>
      cases r with
      | cons r1 r2 =>
        obtain ⟨as, q1⟩ := Dp.reads I d _ _ h1 r1
        obtain ⟨bs, q2⟩ := Dp.readsAll I ds _ _ h2 r2
        exact ⟨_, ReadsAll.cons q1 q2⟩
end
end
section
variable {X : Cx}
end
end L2
namespace L2
open PySem PySem.Spec PyProof.Rows
abbrev CellAt (h : Heap) (c : Addr) (v : Option Value) : Prop := h.IsCell c v
def relS (scope sc : Scope) : Scope :=
  { scope with names := scope.names.map fun (n, k) => if (k == .free && sc.kind == .function && sc.names.lookup n == some .cell) then (n, .cell) else (n, k) }
def cloFrom (cells : List (Str × Addr)) : List (Str × NameKind) → List (Str × Addr) → List (Str × Addr)
  | [], acc => acc
  | (n, k) :: r, acc => if k == .free then cloFrom cells r ((n, (cells.lookup n).getD 0) :: acc) else cloFrom cells r acc
theorem closure_loop (env : Env) (f : Str × NameKind → List (Str × Addr) → Sem (ForInStep (List (Str × Addr))))
    (hf : ∀ n k c, f (n, k) c = if k == .free then (do let a ← cellOf env n; pure (.yield ((n, a) :: c))) else pure (.yield c)) :
    ∀ (names : List (Str × NameKind)) (acc : List (Str × Addr)), (∀ y ∈ names, y.2 = .free → ∃ c, env.cells.lookup y.1 = some c) → forIn names acc f = pure (cloFrom env.cells names acc)
  | [], acc, _ => by rw [List.forIn_nil]; rfl
  | (n, k) :: r, acc, h => by
    rw [List.forIn_cons, hf]
    have ih := fun acc => closure_loop env f hf r acc fun y hy => h y (List.mem_cons_of_mem _ hy)
    unfold cloFrom
    by_cases hk : (k == NameKind.free) = true
    · rw [if_pos hk, if_pos hk]
      obtain ⟨c, hc⟩ := h (n, k) List.mem_cons_self (by simpa using hk)
      have e : cellOf env n = pure c := by unfold cellOf; rw [hc]
      rw [e]
      have e2 : (env.cells.lookup n).getD 0 = c := by rw [hc]; rfl
      rw [e2]
      exact ih _
    · rw [if_neg hk, if_neg hk]
      exact ih _
theorem closure_ok {scope : Scope} {env : Env} (h : ∀ y ∈ scope.names, y.2 = .free → ∃ c, env.cells.lookup y.1 = some c) : closureFor scope env = pure (cloFrom env.cells scope.names []) := by
  simp only [closureFor]
  rw [closure_loop env _ (fun n k c => rfl) scope.names [] h]
  rfl
theorem mem_lookup {α : Type} : ∀ {l : List (Str × α)} {n : Str} {c : α}, (n, c) ∈ l → ∃ c', l.lookup n = some c'
  | (k, v) :: r, n, c, h => by
    rw [List.lookup_cons]
    cases hb : n == k with
    | true => exact ⟨_, rfl⟩
    | false =>
      rcases List.mem_cons.mp h with e | h
      · cases e; simp at hb
      · exact mem_lookup h
theorem cloFrom_mem {cells : List (Str × Addr)} : ∀ {names : List (Str × NameKind)} {acc : List (Str × Addr)} {n : Str} {c : Addr}, (n, c) ∈ cloFrom cells names acc → (n, c) ∈ acc ∨ ((n, .free) ∈ names ∧ c = (cells.lookup n).getD 0)
  | [], _, _, _, h => .inl h
  | (m, k) :: r, acc, n, c, h => by
    unfold cloFrom at h
    split at h
    · rename_i hk
      have hk : k = .free := by simpa using hk
      rcases cloFrom_mem h with h | ⟨h1, h2⟩
      · rcases List.mem_cons.mp h with e | h
        · cases e; exact .inr ⟨hk ▸ List.mem_cons_self, rfl⟩
        · exact .inl h
      · exact .inr ⟨List.mem_cons_of_mem _ h1, h2⟩
    · rcases cloFrom_mem h with h | ⟨h1, h2⟩
      · exact .inl h
      · exact .inr ⟨List.mem_cons_of_mem _ h1, h2⟩
theorem cloFrom_acc {cells : List (Str × Addr)} : ∀ {names : List (Str × NameKind)} {acc : List (Str × Addr)} {p : Str × Addr}, p ∈ acc → p ∈ cloFrom cells names acc
  | [], _, _, h => h
  | (m, k) :: r, acc, p, h => by
    unfold cloFrom
    split
    · exact cloFrom_acc (List.mem_cons_of_mem _ h)
    · exact cloFrom_acc h
theorem cloFrom_has {cells : List (Str × Addr)} : ∀ {names : List (Str × NameKind)} {acc : List (Str × Addr)} {n : Str}, (n, .free) ∈ names → (n, (cells.lookup n).getD 0) ∈ cloFrom cells names acc
  | (m, k) :: r, acc, n, h => by
    unfold cloFrom
    rcases List.mem_cons.mp h with e | h
    · cases e
      exact cloFrom_acc List.mem_cons_self
    · split
      · exact cloFrom_has h
      · exact cloFrom_has h
theorem cells_mem : ∀ {names : List (Str × NameKind)} {h : Heap} {acc : List (Str × Addr)} {x : Str} {c : Addr}, (x, c) ∈ cellsFrom h.objs.size names acc →
    (x, c) ∈ acc ∨ ((x, .cell) ∈ names ∧ h.objs.size ≤ c ∧ CellAt (pushCells h names) c none)
  | [], _, _, _, _, h => .inl h
  | (n, k) :: r, h, acc, x, c, hm => by
    unfold cellsFrom at hm
    unfold pushCells
    split at hm
    · rename_i hk
      rw [if_pos hk]
      have hk : k = .cell := by simpa using hk
      rw [← Heap.size_push h { cls := .type "cell", data := .cell none }] at hm
      rcases cells_mem hm with hm | ⟨h1, h2, h3⟩
      · rcases List.mem_cons.mp hm with e | hm
        · cases e
          exact .inr ⟨hk ▸ List.mem_cons_self, Nat.le_refl _, _, pushCells_keeps r _ _ _ (Heap.get?_push_size _ rfl), rfl⟩
        · exact .inl hm
      · rw [Heap.size_push] at h2
        exact .inr ⟨List.mem_cons_of_mem _ h1, Nat.le_of_succ_le h2, h3⟩
    · rename_i hk
      rw [if_neg hk]
      rcases cells_mem hm with hm | ⟨h1, h2, h3⟩
      · exact .inl hm
      · exact .inr ⟨List.mem_cons_of_mem _ h1, h2, h3⟩
theorem cells_acc : ∀ {names : List (Str × NameKind)} {n : Nat} {acc : List (Str × Addr)} {p : Str × Addr}, p ∈ acc → p ∈ cellsFrom n names acc
  | [], _, _, _, h => h
  | (m, k) :: r, n, acc, p, h => by
    unfold cellsFrom
    split
    · exact cells_acc (List.mem_cons_of_mem _ h)
    · exact cells_acc h
theorem cells_has : ∀ {names : List (Str × NameKind)} {n : Nat} {acc : List (Str × Addr)} {x : Str}, (x, .cell) ∈ names → ∃ c, (x, c) ∈ cellsFrom n names acc
  | (m, k) :: r, n, acc, x, h => by
    unfold cellsFrom
    rcases List.mem_cons.mp h with e | h
    · cases e
      exact ⟨n, cells_acc List.mem_cons_self⟩
    · split
      · exact cells_has h
      · exact cells_has h
theorem cells_inj : ∀ {names : List (Str × NameKind)} {h : Heap} {acc : List (Str × Addr)} {x y : Str} {c : Addr}, (∀ p ∈ acc, p.2 < h.objs.size) → (∀ x y c, (x, c) ∈ acc → (y, c) ∈ acc → x = y) →
    (x, c) ∈ cellsFrom h.objs.size names acc → (y, c) ∈ cellsFrom h.objs.size names acc → x = y
  | [], _, _, _, _, _, _, hi, h1, h2 => hi _ _ _ h1 h2
  | (n, k) :: r, h, acc, x, y, c, hl, hi, h1, h2 => by
    unfold cellsFrom at h1 h2
    split at h1
    · rename_i hk
      rw [if_pos hk] at h2
      rw [← Heap.size_push h { cls := .type "cell", data := .cell none }] at h1 h2
      refine cells_inj (h := h.push _) (fun p hp => ?_) (fun x y c a b => ?_) h1 h2
      · rw [Heap.size_push]
        rcases List.mem_cons.mp hp with rfl | hp
        · exact Nat.lt_succ_self _
        · exact Nat.lt_succ_of_lt (hl p hp)
      · rcases List.mem_cons.mp a with e | a <;> rcases List.mem_cons.mp b with e' | b
        · cases e; cases e'; rfl
        · cases e; exact absurd (hl _ b) (Nat.lt_irrefl _)
        · cases e'; exact absurd (hl _ a) (Nat.lt_irrefl _)
        · exact hi _ _ _ a b
    · rename_i hk
      rw [if_neg hk] at h2
      exact cells_inj hl hi h1 h2
theorem newEnv_comp {M : Model} {A : Around} {E : Value → Shared → Prop} {s : Shared} {scope : Scope} {globals : Addr} {closure : List (Str × Addr)} {qual : Str} {func : Option Addr} {code : Value} {around : Env} {builtins : Addr} {Q : Env → Shared → Prop}
    (h : Q (newEnv scope s.heap.objs.size globals (cellsFrom (s.heap.objs.size + 1) scope.names closure) qual func code (some around) builtins)
      { s with heap := pushCells (s.heap.push { cls := .type "dict", data := .dict #[] }) scope.names }) :
    wpAny M A (newFunctionEnv scope globals closure [] qual func code (some around) builtins) Q E s := by
  simp only [newFunctionEnv, Option.isSome_some, if_true]
  refine wpAny_bind (wpAny_alloc ?_)
  refine wpAny_bind (wpAny_layCells _ (fun n k c => rfl) scope.names closure _ _ ?_)
  rw [show ({ s with heap := s.heap.push { cls := .type "dict", data := .dict #[] } } : Shared).heap.objs.size = s.heap.objs.size + 1 from Heap.size_push ..]
  rw [List.forIn_nil]
  exact wpAny_bind (wpAny_pure (wpAny_pure h))
theorem lookup_relS {sc : Scope} : ∀ {names : List (Str × NameKind)} {x : Str} {k : NameKind},
    (names.map fun (n, k) => if (k == NameKind.free && sc.kind == .function && sc.names.lookup n == some .cell) then (n, NameKind.cell) else (n, k)).lookup x = some k →
    ∃ k', names.lookup x = some k' ∧ (k = k' ∨ (k' = .free ∧ k = .cell))
  | [], _, _, h => by simp at h
  | (n, k₀) :: r, x, k, h => by
    have ih := @lookup_relS sc r x k
    have h' : List.lookup x ((if (k₀ == NameKind.free && sc.kind == .function && sc.names.lookup n == some .cell) = true then (n, NameKind.cell) else (n, k₀)) :: (r.map _)) = some k := h
    cases hx : x == n with
    | true =>
      simp only [List.lookup_cons, hx]
      by_cases hc : (k₀ == NameKind.free && sc.kind == .function && sc.names.lookup n == some .cell) = true
      · rw [if_pos hc] at h'
        simp only [List.lookup_cons, hx] at h'
        cases h'
        simp only [Bool.and_eq_true, beq_iff_eq] at hc
        exact ⟨k₀, rfl, .inr ⟨hc.1.1, rfl⟩⟩
      · rw [if_neg hc] at h'
        simp only [List.lookup_cons, hx] at h'
        cases h'
        exact ⟨_, rfl, .inl rfl⟩
    | false =>
      simp only [List.lookup_cons, hx]
      by_cases hc : (k₀ == NameKind.free && sc.kind == .function && sc.names.lookup n == some .cell) = true
      · rw [if_pos hc] at h'
        simp only [List.lookup_cons, hx] at h'
        exact ih h'
      · rw [if_neg hc] at h'
        simp only [List.lookup_cons, hx] at h'
        exact ih h'
structure BlkOk (N : List Str) (sc scope : Scope) (own : List (Str × Nat)) : Prop where
  kind : scope.kind = .function
  uniq : ∀ y ∈ scope.names, scope.names.lookup y.1 = some y.2
  ix : ∀ p ∈ own, N[p.2]? = some p.1
  free : ∀ y ∈ scope.names, y.2 = .free → sc.names.lookup y.1 = some .cell ∨ sc.names.lookup y.1 = some .free
  own : ∀ y ∈ scope.names, y.2 = .local ∨ y.2 = .cell → y.1 ∈ own.map (·.1) ∨ y.1 ∉ N
def wipe (σ : St) : List Nat → St
  | [] => σ
  | v :: vs => (wipe σ vs).set v none
theorem wipe_length (σ : St) : ∀ vs : List Nat, (wipe σ vs).length = σ.length
  | [] => rfl
  | v :: vs => by unfold wipe; rw [List.length_set, wipe_length σ vs]
theorem wipe_some {σ : St} {i : Nat} {x : V} : ∀ {vs : List Nat}, (wipe σ vs)[i]? = some (some x) → σ[i]? = some (some x) ∧ i ∉ vs
  | [], h => ⟨h, by simp⟩
  | v :: vs, h => by
    unfold wipe at h
    by_cases hi : v = i
    · subst hi
      by_cases hv : v < (wipe σ vs).length
      · rw [List.getElem?_set_self hv] at h; cases h
      · rw [List.getElem?_eq_none (by simpa using hv)] at h; cases h
    · rw [List.getElem?_set_ne hi] at h
      obtain ⟨h1, h2⟩ := wipe_some h
      exact ⟨h1, by simp only [List.mem_cons, not_or]; exact ⟨fun e => hi e.symm, h2⟩⟩
abbrev Cx.blk (X : Cx) (s : Shared) (H : Hp) (scope : Scope) (cenv : Env) (fp : List Addr) : Cx := { X with s_0 := s, H_0 := H, env := cenv, outer := X.stack, ex := fp, fn := fun x => scope.names.lookup x == some .cell, pn := [], xe := fun _ _ => False }
section
variable {X : Cx} {pins : List (Addr × Obj)} {σ : St} {H : Hp} {s : Shared}
theorem block_start {scope : Scope} {own : List (Str × Nat)} {fp : List Addr} (I : Inv X pins σ H s) (ok : BlkOk X.N X.env.scope scope own) (hN : X.N.Nodup) (hfp : ∀ b ∈ fp, FpOk X pins H b ∧ b < s.heap.objs.size) :
    Inv (X.blk s H scope (compEnvC scope (cellsFrom (s.heap.objs.size + 1) scope.names (cloFrom X.env.cells scope.names [])) s.heap.objs.size X.env) fp) [] (wipe σ (own.map (·.2))) H { s with heap := pushCells (s.heap.push { cls := .type "dict", data := .dict #[] }) scope.names } := by
  have hfree : ∀ y ∈ scope.names, y.2 = .free → ∃ c, X.env.cells.lookup y.1 = some c := fun y hy e => by
    rcases ok.free y hy e with k | k
    · exact I.ok.has _ (.inl k)
    · exact I.ok.has _ (.inr k)
  generalize hcenv : compEnvC scope (cellsFrom (s.heap.objs.size + 1) scope.names (cloFrom X.env.cells scope.names [])) s.heap.objs.size X.env = cenv
  have kp : ∀ b o, s.heap.get? b = some o → (pushCells (s.heap.push { cls := .type "dict", data := .dict #[] }) scope.names).get? b = some o := fun b o e => pushCells_keeps _ _ _ _ (Heap.get?_push_of_some _ e)
  have hL : cenv.locals = s.heap.objs.size := by rw [← hcenv]; rfl
  have hcl : cenv.cells = cellsFrom (s.heap.objs.size + 1) scope.names (cloFrom X.env.cells scope.names []) := by rw [← hcenv]; rfl
  have hsc : cenv.scope = relS scope X.env.scope := by rw [← hcenv]; rfl
  rw [← Heap.size_push s.heap { cls := .type "dict", data := .dict #[] }] at hcl
  have cm : ∀ {y c}, (y, c) ∈ cloFrom X.env.cells scope.names [] → X.env.cells.lookup y = some c ∧ c < s.heap.objs.size := fun {y c} hm => by
    rcases cloFrom_mem hm with hm | ⟨h1, rfl⟩
    · cases hm
    · obtain ⟨c, hc⟩ := hfree _ h1 rfl
      rw [hc]
      obtain ⟨w, z⟩ := I.cell _ _ hc
      exact ⟨rfl, z.lt⟩
  have mem : ∀ {y c}, cenv.cells.lookup y = some c → (X.env.cells.lookup y = some c ∧ c < s.heap.objs.size) ∨ (s.heap.objs.size + 1 ≤ c ∧ CellAt (pushCells (s.heap.push { cls := .type "dict", data := .dict #[] }) scope.names) c none) := fun {y c} e => by
    rw [hcl] at e
    rcases cells_mem (PySem.mem_of_lookup e) with hm | ⟨_, h2, h3⟩
    · exact .inl (cm hm)
    · rw [Heap.size_push] at h2; exact .inr ⟨h2, h3⟩
  have look : ∀ {y}, scope.names.lookup y = some .free → ∃ c, cenv.cells.lookup y = some c ∧ X.env.cells.lookup y = some c := fun {y} hl => by
    have hy : (y, NameKind.free) ∈ scope.names := PySem.mem_of_lookup hl
    obtain ⟨c', e'⟩ := mem_lookup (cells_acc (names := scope.names) (n := (s.heap.push { cls := .type "dict", data := .dict #[] }).objs.size) (cloFrom_has (cells := X.env.cells) (acc := []) hy))
    rw [← hcl] at e'
    refine ⟨c', e', ?_⟩
    rw [hcl] at e'
    rcases cells_mem (PySem.mem_of_lookup e') with hm | ⟨h1, _, _⟩
    · exact (cm hm).1
    · have := ok.uniq _ h1
      rw [hl] at this; cases this
  have okB : (X.blk s H scope cenv fp).Ok := by
    refine ⟨I.ok.mod, by show cenv.scope.kind = _; rw [hsc]; exact ok.kind, by show cenv.globals = _; rw [← hcenv]; exact I.ok.glob, by show cenv.builtins = _; rw [← hcenv]; exact I.ok.blt, by show s.heap.objs.size ≤ cenv.locals; rw [hL]; exact Nat.le_refl _,
      fun y z c e1 e2 => ?_, fun y hy => ?_, fun y c z e => ?_, I.ok.hd, I.ok.frames, .inl rfl, fun b hb => ⟨?_, fun y c e z => ?_⟩, I.bs, Nat.le_trans I.ok.bsz I.sz, fun b o e hb => ?_, fun b hb z => ?_, I.stack, I.stkFree⟩
    · have e1 : cenv.cells.lookup y = some c := e1
      have e2 : cenv.cells.lookup z = some c := e2
      rw [hcl] at e1 e2
      refine cells_inj (fun p hp => ?_) (fun y z c a b => I.ok.inj y z c (cm a).1 (cm b).1) (PySem.mem_of_lookup e1) (PySem.mem_of_lookup e2)
      rw [Heap.size_push]
      exact Nat.lt_succ_of_lt (cm (y := p.1) (c := p.2) hp).2
    · show ∃ c, cenv.cells.lookup y = some c
      have key : ∀ k, cenv.kindOf y = some k → (k = .cell ∨ k = .free) → ∃ c, cenv.cells.lookup y = some c := fun k hk hk' => by
        unfold Env.kindOf at hk
        rw [hsc] at hk
        obtain ⟨k', e, r⟩ := lookup_relS hk
        have : k' = .cell ∨ k' = .free := by
          rcases r with rfl | ⟨rfl, _⟩
          · exact hk'
          · exact .inr rfl
        rcases this with rfl | rfl
        · obtain ⟨c, hm⟩ := cells_has (n := (s.heap.push { cls := .type "dict", data := .dict #[] }).objs.size) (acc := cloFrom X.env.cells scope.names []) (PySem.mem_of_lookup e)
          obtain ⟨c', e'⟩ := mem_lookup hm
          exact ⟨c', by rw [hcl]; exact e'⟩
        · obtain ⟨c, h1, _⟩ := look e
          exact ⟨c, h1⟩
      rcases hy with hy | hy
      · exact key _ hy (.inl rfl)
      · exact key _ hy (.inr rfl)
    · have z : (scope.names.lookup y == some NameKind.cell) = true := z
      have z : scope.names.lookup y = some .cell := by simpa using z
      have e : cenv.cells.lookup y = some c := e
      rw [hcl] at e
      rcases cells_mem (PySem.mem_of_lookup e) with hm | ⟨_, h2, _⟩
      · rcases cloFrom_mem hm with hm | ⟨h1, _⟩
        · cases hm
        · have q := ok.uniq _ h1
          rw [z] at q; cases q
      · rw [Heap.size_push] at h2
        exact Nat.le_of_succ_le h2
    · show b ≠ cenv.locals
      rw [hL]; exact Nat.ne_of_lt (hfp b hb).2
    · have e : cenv.cells.lookup y = some c := e
      rcases mem e with ⟨h1, _⟩ | ⟨h1, _⟩
      · exact (hfp b hb).1.2.2.2.2.1 y c h1 z
      · have h2 : s.heap.objs.size + 1 ≤ b := by rw [← z]; exact h1
        exact absurd (Nat.lt_of_lt_of_le (hfp b hb).2 (Nat.le_of_succ_le h2)) (Nat.lt_irrefl _)
    · rcases (hfp b hb).1.2.2.2.1 with z | z
      · exact I.ok.noex b o e z
      · exact absurd (Nat.lt_of_lt_of_le (Heap.lt_size e) (Nat.le_trans I.ok.bsz z)) (Nat.lt_irrefl _)
    · rcases List.mem_cons.mp (I.stkSub b z) with z | z
      · exact (hfp b hb).1.2.1 z
      · exact (hfp b hb).1.2.2.1 z
  refine ⟨okB, rfl, I.bare, Un.kept kp, ⟨fun _ => none, ?_, fun i y av e1 e2 e3 => ?_⟩, fun y c e => ?_, ?_, fun y c e => ?_, fun p hp => ?_, I.hok.kept kp, by rw [wipe_length]; exact I.len⟩
  · show Heap.Ns _ cenv.locals _
    rw [hL]
    exact Heap.Ns.keeps (Heap.Ns.new ..) fun b o e => pushCells_keeps _ _ _ _ e
  · obtain ⟨e2, hne⟩ := wipe_some e2
    have hfr : scope.names.lookup y = some .free ∧ (cenv.kindOf y = some .cell ∨ cenv.kindOf y = some .free) := by
      have key : ∀ k, cenv.scope.names.lookup y = some k → k = .local ∨ k = .cell ∨ k = .free → scope.names.lookup y = some .free ∧ (cenv.kindOf y = some .cell ∨ cenv.kindOf y = some .free) := fun k hk hk' => by
        have hk0 := hk
        rw [hsc] at hk
        obtain ⟨k', e, r⟩ := lookup_relS hk
        have no : ¬ (k' = .local ∨ k' = .cell) := fun hh => by
          rcases ok.own _ (PySem.mem_of_lookup e) hh with e' | e'
          · obtain ⟨p, hp, hpy⟩ := List.mem_map.mp e'
            have e3 := ok.ix p hp
            have : p.1 = y := hpy
            rw [this] at e3
            exact hne (List.mem_map.mpr ⟨p, hp, nodup_ix hN e3 e1⟩)
          · exact e' (List.mem_of_getElem? e1)
        rcases r with rfl | ⟨rfl, rfl⟩
        · rcases hk' with rfl | rfl | rfl
          · exact absurd (.inl rfl) no
          · exact absurd (.inr rfl) no
          · exact ⟨e, .inr hk0⟩
        · exact ⟨e, .inl hk0⟩
      have e3 : Vis cenv.scope y := e3
      rcases e3 with e3 | e3 | e3
      · exact key _ e3 (.inl rfl)
      · exact key _ e3 (.inr (.inl rfl))
      · exact key _ e3 (.inr (.inr rfl))
    obtain ⟨m, hn, hl⟩ := I.loc
    have hvis : Vis X.env.scope y := (ok.free _ (PySem.mem_of_lookup hfr.1) rfl).elim (fun k => .inr (.inl k)) (fun k => .inr (.inr k))
    obtain ⟨w, r, q⟩ := hl i y av e1 e2 hvis
    refine ⟨w, r, .inr ⟨hfr.2, ?_⟩⟩
    obtain ⟨c, h1, h2⟩ := look hfr.1
    rcases q with ⟨k, _⟩ | ⟨_, c', e', z⟩
    · have k : X.env.scope.names.lookup y = some .local := k
      rcases ok.free _ (PySem.mem_of_lookup hfr.1) rfl with k' | k' <;> rw [show X.env.scope.names.lookup y = _ from k'] at k <;> cases k
    · rw [h2] at e'; cases e'
      exact ⟨c, h1, z.keeps kp⟩
  · have e : cenv.cells.lookup y = some c := e
    rcases mem e with ⟨h1, _⟩ | ⟨_, z⟩
    · obtain ⟨w, z⟩ := I.cell y c h1
      exact ⟨w, z.keeps kp⟩
    · exact ⟨_, z⟩
  · show H cenv.locals = none
    rw [hL]; exact I.hok.fresh (Nat.le_refl _)
  · have e : cenv.cells.lookup y = some c := e
    rcases mem e with ⟨h1, _⟩ | ⟨h1, _⟩
    · exact I.freeC y c h1
    · exact I.hok.fresh (Nat.le_of_succ_le h1)
  · exact absurd (show p ∈ ([] : List (Addr × Obj)) ++ [] from hp) (by simp)
theorem app_ok {E : Value → Shared → Prop} {D : Addr} {xs : List V} {y : V} {v : Value} {Q : Value → Shared → Prop} (I : Inv X pins σ H s) (hD : H D = some (.lst xs)) (hz : xs.length < sizeLine) (r : RelV y v)
    (h : ∀ s', Inv X pins σ (upd H D (.lst (xs ++ [y]))) s' → Q .none s') : wpAny (model X.prog X.w) X.A (call (.builtin "list.append") [.ref D, v]) Q E s := by
  obtain ⟨hz', its, n, ri, e⟩ := I.hok D _ hD
  have hl := ri.length
  refine append_at (hsz := by rw [List.size_toArray]; omega) e fun h' sb ho' => ?_
  refine h { s with heap := h' } (I.write (t' := s.toks) (by rw [hD]; trivial) (.inl rfl) (fun b u hb q => (sb.2 b hb).trans q) ⟨_, ho'⟩ ⟨by rw [List.length_append]; exact hz, its ++ [v], n + 1, ri.append (.cons r .nil), ?_⟩)
  rw [ho']
  simp
def PTs (X : Cx) (ifs : List Expr) (t : TT) : Prop :=
  ∀ (pins : List (Addr × Obj)) (s : Shared) (σ : St) (H : Hp) (Q : Bool → Hp → Prop), Inv X pins σ H s → t σ H Q →
    wpAny (model X.prog X.w) X.A (forIn ifs true fun c r => if r = true then do let ok ← isTrue c X.env (eval c X.env); pure (ForInStep.yield ok) else pure (ForInStep.yield r)) (TP X pins σ Q) X.xe s
def tYes : TT := fun _ H Q => Q true H
theorem pts_nil : PTs X [] tYes := fun _ _ _ H _ I h => wpAny_tests_nil ⟨H, I, h⟩
end
theorem thnF {α : Type} {t : Sem α} {Q Q' : α → Shared → Prop} {M : Model} {A : Around} {E : Value → Shared → Prop} {s : Shared} (h : wpAny M A t Q (fun _ _ => False) s) (hQ : ∀ a s, Q a s → Q' a s) : wpAny M A t Q' E s := wpAny_mono h hQ fun _ _ z => False.elim z
theorem compLoop_any {prog : Program} {w : World} {A : Around} {R : Result → Shared → Prop} {s : Shared} {elt target iter : Expr} {ifs : List Expr} {scope : Scope} {pos : Pos} {it acc : Value} {env : Env} (I : Nat → Shared → Prop)
    (turn : ∀ n s, I n s → wpAny (model prog w) A (pyNext it) (fun r s₁ => match r with
      | none => R (.ok .next) s₁
      | some v => wpAny (model prog w) A (letOwnedTupleGo target it v) (fun _ s₁' => wpAny (model prog w) A (assign target env v) (fun _ s₂ =>
          wpAny (model prog w) A (forIn ifs true fun c r => if r = true then do let ok ← isTrue c env (eval c env); pure (ForInStep.yield ok) else pure (ForInStep.yield r)) (fun ok s₃ =>
            if ok = true then wpAny (model prog w) A (eval elt env) (fun x s₄ =>
              wpAny (model prog w) A (call (.builtin "list.append") [acc, x]) (fun _ s₅ => ∃ m, m < n ∧ I m s₅) (notedBy (model prog w) A env fun e s' => R (.error e) s') s₄) (notedBy (model prog w) A env fun e s' => R (.error e) s') s₃
            else ∃ m, m < n ∧ I m s₃) (notedBy (model prog w) A env fun e s' => R (.error e) s') s₂) (notedBy (model prog w) A env fun e s' => R (.error e) s') s₁') (notedBy (model prog w) A env fun e s' => R (.error e) s') s₁) (notedBy (model prog w) A env fun e s' => R (.error e) s') s)
    (n : Nat) (h : I n s) :
    codeAny (model prog w) A (.compLoop (.ListComp elt [⟨target, iter, ifs, 0⟩] scope pos) 0 it acc env) R s := by
  refine codeAny_loop rfl I (fun n s hI => ?_) n h
  show wpAny _ A ((compTurn (.ListComp elt [⟨target, iter, ifs, 0⟩] scope pos) 0 it acc env).onRaise (fun x => do noteFrame x env; theTreesLotGoes x)) _ _ s
  refine wpAny_noted ?_
  rw [compTurn_list]
  refine wpAny_bind (wpAny_standAt (wpAny_bind (wpAny_mono (turn n s hI) (fun r s₁ h₁ => ?_) fun _ _ h' => h')))
  cases r with
  | none => exact wpAny_pure h₁
  | some v =>
    refine wpAny_bind (wpAny_mono h₁ (fun _ s₁' h₁' => ?_) fun _ _ h' => h')
    refine wpAny_bind (wpAny_mono h₁' (fun _ s₂ h₂ => wpAny_bind (wpAny_mono h₂ (fun ok s₃ h₃ => ?_) fun _ _ h' => h')) fun _ _ h' => h')
    cases ok with
    | false => exact wpAny_pure ⟨rfl, h₃⟩
    | true =>
      exact wpAny_bind (wpAny_bind (wpAny_mono h₃ (fun x s₄ h₄ => wpAny_bind (wpAny_mono h₄ (fun _ s₅ h₅ => wpAny_pure (wpAny_pure ⟨rfl, h₅⟩)) fun _ _ h' => h')) fun _ _ h' => h'))
section
variable {X : Cx}
def tLc (wi : TI) (g : TG) (tt : TT) (te : TE) (vs : List Nat) : TE := fun σ H Q => wi σ H fun J H1 => ∀ D, H1 D = none → ∃ W : Nat → Nat → Hp → Prop, (∃ m, W 0 m (upd H1 D (.lst []))) ∧ ∀ i m H, W i m H →
  (J.stop i H ∧ Q (.ref D) H) ∨ (J.go i H ∧ ∃ Nx : Hp → Prop, (∀ H', Nx H' → ∃ m', m' < m ∧ W (i + 1) m' H') ∧ ∀ x H', J.yld i H x H' → g x (wipe σ vs) H' fun σ2 H2 => wipe σ2 vs = wipe σ vs ∧ tt σ2 H2 fun b H3 =>
    if b = true then te σ2 H3 fun y H4 => ∃ acc, H4 D = some (.lst acc) ∧ acc.length < sizeLine ∧ Nx (upd H4 D (.lst (acc ++ [y]))) else Nx H3)
theorem lc_core {pins : List (Addr × Obj)} {s : Shared} {σ : St} {H : Hp} {Q : VK} {elt tg iter : Expr} {ifs : List Expr} {scope : Scope} {own : List (Str × Nat)} {pos pos' : Pos} {wi : TI} {g : TG} {tt : TT} {te : TE} {use : Option (Value → Sem Unit)} {Qf : Value → Shared → Prop}
    (hc : X.calm = true) (hN : X.N.Nodup) (I : Inv X pins σ H s) (hi : PI X tg iter wi) (ok : BlkOk X.N X.env.scope scope own)
    (hg : ∀ (s : Shared) (H : Hp) (C : Addr) (cl : List (Str × Addr)) (fp : List Addr), PG (X.blk s H scope (compEnvC scope cl C X.env) fp) tg g) (ht : ∀ (s : Shared) (H : Hp) (C : Addr) (cl : List (Str × Addr)) (fp : List Addr), PTs (X.blk s H scope (compEnvC scope cl C X.env) fp) ifs tt)
    (he : ∀ (s : Shared) (H : Hp) (C : Addr) (cl : List (Str × Addr)) (fp : List Addr), PE (X.blk s H scope (compEnvC scope cl C X.env) fp) elt te) (hs : ∀ x, foldedSetIterable iter X.env x = pure x)
    (h : tLc wi g tt te (own.map (·.2)) σ H Q)
    (hRR : ∀ D C s' m H', Inv X pins σ H' s' → Q (.ref D) H' → s'.heap.Ns C m → FpOk X pins H' C → compPost (model X.prog X.w) X.A X.xe use Qf (.ref D) C (.ok .next) s') :
    wpAny (model X.prog X.w) X.A (comprehension (.ListComp elt [⟨tg, iter, ifs, 0⟩] scope pos) scope X.env pos' (newList []) false (eval iter X.env) use) Qf X.xe s := by
  have hfree : ∀ y ∈ scope.names, y.2 = .free → ∃ c, X.env.cells.lookup y.1 = some c := fun y hy e => by
    rcases ok.free y hy e with k | k
    · exact I.ok.has _ (.inl k)
    · exact I.ok.has _ (.inr k)
  refine wpAny_comprehension_free (use := use) rfl hs (closure_ok hfree) ok.kind (fun y hy e => by rw [ok.uniq y hy, e])
    (thn (hi pins s σ H _ I h) fun xv s1 hx => thn hx fun itv s2 h2 => ?_)
  obtain ⟨it, fp, tn, J, H2, e, I2, T, st2, f2, q⟩ := h2
  subst e
  refine wpAny_newObj_type (newEnv_comp ?_) (by show 0 ≤ sizeLine; decide)
  generalize hD : s2.heap.objs.size = D
  have hDn : H2 D = none := I2.hok.fresh (Nat.le_of_eq hD)
  obtain ⟨W, ⟨m0, w0⟩, turn⟩ := q D hDn
  generalize hs3 : ({ s2 with heap := s2.heap.push { cls := .type "list", data := .seq ([] : List Value).toArray } } : Shared) = s3
  have I3 : Inv X pins σ (upd H2 D (.lst [])) s3 := by
    rw [← hs3]
    refine I2.laid (t' := s2.toks) (fun b o e => Heap.get?_push_of_some _ e) (Nat.le_of_eq hD) ⟨Nat.zero_le _, [], 0, .nil, ?_⟩
    rw [← hD]
    exact Heap.get?_push_size _ rfl
  have h3 : s3.heap = s2.heap.push { cls := .type "list", data := .seq ([] : List Value).toArray } := by rw [← hs3]
  have sz : ∀ b ∈ fp, b < s2.heap.objs.size := fun b hb => by
    obtain ⟨o, e, _⟩ := T.obj _ _ st2 b hb
    exact Heap.lt_size e
  have f3 : ∀ b ∈ fp, FpOk X pins (upd H2 D (.lst [])) b ∧ b < s3.heap.objs.size := fun b hb => by
    have hlt := sz b hb
    refine ⟨⟨?_, (f2 b hb).2⟩, by rw [h3, Heap.size_push]; exact Nat.lt_succ_of_lt hlt⟩
    rw [upd_ne (by rw [← hD]; exact Nat.ne_of_lt hlt)]
    exact (f2 b hb).1
  have st3 : tn 0 s3.heap := T.keep _ _ _ st2 fun b _ o e => by rw [h3]; exact Heap.get?_push_of_some _ e
  have I4 := block_start I3 ok hN f3
  have pg := hg s3 (upd H2 D (.lst [])) s3.heap.objs.size (cellsFrom (s3.heap.objs.size + 1) scope.names (cloFrom X.env.cells scope.names [])) fp
  have pt := ht s3 (upd H2 D (.lst [])) s3.heap.objs.size (cellsFrom (s3.heap.objs.size + 1) scope.names (cloFrom X.env.cells scope.names [])) fp
  have pe := he s3 (upd H2 D (.lst [])) s3.heap.objs.size (cellsFrom (s3.heap.objs.size + 1) scope.names (cloFrom X.env.cells scope.names [])) fp
  show codeAny _ _ (.compStart (.ListComp elt [⟨tg, iter, ifs, 0⟩] scope pos) 0 (.ref it) (.ref D) (compEnvC scope (cellsFrom (s3.heap.objs.size + 1) scope.names (cloFrom X.env.cells scope.names [])) s3.heap.objs.size X.env)) (compPost (model X.prog X.w) X.A X.xe use Qf (.ref D) s3.heap.objs.size) { s3 with heap := pushCells (s3.heap.push { cls := .type "dict", data := .dict #[] }) scope.names }
  have nfp : ∀ b ∈ fp, (upd H2 D (.lst [])) b = none := fun b hb => (f3 b hb).1.1
  generalize hce : compEnvC scope (cellsFrom (s3.heap.objs.size + 1) scope.names (cloFrom X.env.cells scope.names [])) s3.heap.objs.size X.env = ce at I4 pg pt pe ⊢
  have cL : ce.locals = s3.heap.objs.size := by subst hce; rfl
  generalize hH3 : upd H2 D (.lst []) = H3 at I3 I4 pg pt pe w0 nfp f3
  generalize hs4 : ({ s3 with heap := pushCells (s3.heap.push { cls := .type "dict", data := .dict #[] }) scope.names } : Shared) = s4 at I4 ⊢
  have st4 : tn 0 s4.heap := T.keep _ _ _ st3 fun b _ o e => by rw [← hs4]; exact pushCells_keeps _ _ _ _ (Heap.get?_push_of_some _ e)
  have stat : ∀ {σ' : St} {H' : Hp} {s' : Shared}, Inv (X.blk s3 H3 scope ce fp) [] σ' H' s' → (∀ b ∈ fp, H' b = none) → ∀ b ∈ fp, FpOk (X.blk s3 H3 scope ce fp) [] H' b := fun {σ' H' s'} I' hn b hb =>
    ⟨hn b hb, (I'.ok.exf b hb).1, I'.ok.exfs b hb, .inl hb, fun x c e => (I'.ok.exf b hb).2 x c e, fun p hp => absurd (show p ∈ ([] : List (Addr × Obj)) ++ [] from hp) (by simp)⟩
  have loop : codeAny (model X.prog X.w) X.A (.compLoop (.ListComp elt [⟨tg, iter, ifs, 0⟩] scope pos) 0 (.ref it) (.ref D) ce) (compPost (model X.prog X.w) X.A X.xe use Qf (.ref D) s3.heap.objs.size) s4 := by
    refine compLoop_any (fun n s' => ∃ i H', Inv (X.blk s3 H3 scope ce fp) [] (wipe σ (own.map (·.2))) H' s' ∧ tn i s'.heap ∧ (∀ b ∈ fp, H' b = none) ∧ W i n H') ?_ m0 ⟨0, H3, I4, st4, nfp, w0⟩
    rintro n s5 ⟨i, H5, I5, st5, n5, w5⟩
    rcases turn i n H5 w5 with ⟨stop, qq⟩ | ⟨go, Nx, hNx, step⟩
    · have td := T.done (X.blk s3 H3 scope ce fp) rfl rfl rfl hc i [] s5 _ H5 (fun _ _ => False) I5 (stat I5 n5) st5 stop
      refine thnF td fun r s6 ⟨hr, I6⟩ => ?_
      subst hr
      have I7 : Inv X pins σ H5 s6 := I3.call' (ch := fp) I6.os I6.base I6.hok I6.bare fun b hb => ⟨(f3 b hb).1.2.2.2.1, (f3 b hb).1.2.1, (f3 b hb).1.2.2.2.2.1, (f3 b hb).1.2.2.2.2.2⟩
      have nC : H5 s3.heap.objs.size = none := by
        have z : H5 ce.locals = none := I6.free
        rw [cL] at z
        exact z
      obtain ⟨m, hn, _⟩ := I6.loc
      have hn : s6.heap.Ns ce.locals m := hn
      rw [cL] at hn
      exact hRR D s3.heap.objs.size s6 m H5 I7 qq hn (I3.fpOk (Nat.le_refl _) nC)
    · have ti := T.item (X.blk s3 H3 scope ce fp) rfl rfl rfl hc i [] s5 _ H5 (fun _ _ => False) I5 (stat I5 n5) st5 go
      refine thnF ti fun r s6 ⟨u, hr, h6⟩ => ?_
      subst hr
      refine thnF h6 fun _ s7 ⟨x, H7, I7, r7, y7, st7, n7⟩ => ?_
      have I7' := I7.pinned (stat I7 n7) (T.obj _ _ st7)
      refine thnF (pg _ s7 _ H7 x u _ I7' r7 (step x H7 y7)) fun _ s8 ⟨σ8, H8, I8, hw8, q8⟩ => ?_
      refine thnF (pt _ s8 σ8 H8 _ I8 q8) fun b s9 ⟨H9, I9, q9⟩ => ?_
      have fin : ∀ {s' : Shared} {H' : Hp}, Inv (X.blk s3 H3 scope ce fp) ([] ++ pinsAt fp s7.heap) σ8 H' s' → Nx H' → ∃ m, m < n ∧ ∃ i H', Inv (X.blk s3 H3 scope ce fp) [] (wipe σ (own.map (·.2))) H' s' ∧ tn i s'.heap ∧ (∀ b ∈ fp, H' b = none) ∧ W i m H' := fun {s' H'} I' nx => by
        obtain ⟨m', hm, w'⟩ := hNx H' nx
        have pin' : ∀ b ∈ fp, ∀ o, s7.heap.get? b = some o → s'.heap.get? b = some o ∧ H' b = none := fun b hb o e =>
          let z := I'.pin (b, o) (List.mem_append_right _ (List.mem_append_right _ (mem_pinsAt hb e)))
          ⟨z.1, z.2.1⟩
        have hl : (wipe σ (own.map (·.2))).length = σ8.length := by rw [← hw8, wipe_length]
        refine ⟨m', hm, i + 1, H', (I'.unpinned (pins := [])).weak hl (fun j v e => ?_), T.keep _ _ _ st7 fun b hb o e => (pin' b hb o e).1, fun b hb => ?_, w'⟩
        · rw [← hw8] at e
          exact (wipe_some e).1
        · obtain ⟨o, e, _⟩ := T.obj _ _ st7 b hb
          exact (pin' b hb o e).2
      cases b with
      | false =>
        simp only [Bool.false_eq_true, if_false] at q9 ⊢
        exact fin I9 q9
      | true =>
        simp only [if_true] at q9 ⊢
        refine thnF (pe _ s9 σ8 H9 _ I9 q9) fun z s10 ⟨yv, H10, I10, r10, acc, hD10, hz10, nx⟩ => ?_
        exact app_ok (X := X.blk s3 H3 scope ce fp) I10 hD10 hz10 r10 fun s11 I11 => fin I11 nx
  exact codeAny_compStart_list loop (T.self X.A 0 _ _ _ st4 loop)
theorem pe_lc {elt tg iter : Expr} {ifs : List Expr} {scope : Scope} {own : List (Str × Nat)} {pos : Pos} {wi : TI} {g : TG} {tt : TT} {te : TE} (hc : X.calm = true) (hN : X.N.Nodup) (hi : PI X tg iter wi) (ok : BlkOk X.N X.env.scope scope own)
    (hg : ∀ (s : Shared) (H : Hp) (C : Addr) (cl : List (Str × Addr)) (fp : List Addr), PG (X.blk s H scope (compEnvC scope cl C X.env) fp) tg g) (ht : ∀ (s : Shared) (H : Hp) (C : Addr) (cl : List (Str × Addr)) (fp : List Addr), PTs (X.blk s H scope (compEnvC scope cl C X.env) fp) ifs tt)
    (he : ∀ (s : Shared) (H : Hp) (C : Addr) (cl : List (Str × Addr)) (fp : List Addr), PE (X.blk s H scope (compEnvC scope cl C X.env) fp) elt te) (hs : ∀ x, foldedSetIterable iter X.env x = pure x := by intro _; rfl) :
    PE X (.ListComp elt [⟨tg, iter, ifs, 0⟩] scope pos) (tLc wi g tt te (own.map (·.2))) := by
  intro pins s σ H Q I h
  rw [eval_ListComp]
  refine lc_core hc hN I hi ok hg ht he hs h fun D C s' m H' I' q hn f => ⟨m, hn, fun h'' sb => ?_⟩
  obtain ⟨f0, f1, f2, f3, f4, f5⟩ := f
  exact ⟨.ref D, H', I'.turned (t' := s'.toks) (fun b o hb e => (sb.2 b hb).trans e) f0 f1 f3 f4 f5, rfl, q⟩
end
theorem lc_list {K : PySem.W.Frag} {a : Addr} {xs : List V} {g : TG} {tt : TT} {te : TE} {vs : List Nat} {σ : St} {H1 : Hp} {D : Addr} {Qd : Hp → Prop} (Pv : Nat → Hp → Prop) (h0 : Pv 0 (upd H1 D (.lst []))) (hl : ∀ i H, i ≤ xs.length → Pv i H → SqL K H a xs)
    (hs : ∀ i x H, xs[i]? = some x → Pv i H → g x (wipe σ vs) H fun σ2 H2 => wipe σ2 vs = wipe σ vs ∧ tt σ2 H2 fun b H3 =>
      if b = true then te σ2 H3 fun y H4 => ∃ acc, H4 D = some (.lst acc) ∧ acc.length < sizeLine ∧ Pv (i + 1) (upd H4 D (.lst (acc ++ [y]))) else Pv (i + 1) H3) (hd : ∀ H, Pv xs.length H → Qd H) :
    ∃ W : Nat → Nat → Hp → Prop, (∃ m, W 0 m (upd H1 D (.lst []))) ∧ ∀ i m H, W i m H →
      ((Itl K a).stop i H ∧ Qd H) ∨ ((Itl K a).go i H ∧ ∃ Nx : Hp → Prop, (∀ H', Nx H' → ∃ m', m' < m ∧ W (i + 1) m' H') ∧ ∀ x H', (Itl K a).yld i H x H' → g x (wipe σ vs) H' fun σ2 H2 => wipe σ2 vs = wipe σ vs ∧ tt σ2 H2 fun b H3 =>
        if b = true then te σ2 H3 fun y H4 => ∃ acc, H4 D = some (.lst acc) ∧ acc.length < sizeLine ∧ Nx (upd H4 D (.lst (acc ++ [y]))) else Nx H3) := by
  refine ⟨fun i m H => m = xs.length - i ∧ i ≤ xs.length ∧ Pv i H, ⟨xs.length, by simp, Nat.zero_le _, h0⟩, ?_⟩
  rintro i m H ⟨rfl, hi, p⟩
  have q := hl i H hi p
  by_cases hlt : i < xs.length
  · refine .inr ⟨⟨xs, xs[i], q, by simp [hlt]⟩, Pv (i + 1), fun H' p' => ⟨xs.length - (i + 1), by omega, rfl, hlt, p'⟩, fun x H' y => ?_⟩
    obtain ⟨e, y⟩ := y
    subst e
    exact hs i x _ (y xs q) p
  · have e : i = xs.length := by omega
    subst e
    exact .inl ⟨⟨xs, q, Nat.le_refl _⟩, hd H p⟩
def blkC (N : List Str) (sc scope : Scope) (own : List (Str × Nat)) : Bool :=
  (match scope.kind with | .function => true | _ => false) && (scope.names.all fun y => decide (scope.names.lookup y.1 = some y.2)) && (own.all fun p => decide (N[p.2]? = some p.1)) &&
    (scope.names.all fun y => match y.2 with
      | .free => (match sc.names.lookup y.1 with | some .cell => true | some .free => true | _ => false)
      | .local => decide (y.1 ∈ own.map (·.1)) || decide (y.1 ∉ N)
      | .cell => decide (y.1 ∈ own.map (·.1)) || decide (y.1 ∉ N)
      | _ => true)
theorem blkOk_by {N : List Str} {sc scope : Scope} {own : List (Str × Nat)} (h : blkC N sc scope own = true) : BlkOk N sc scope own := by
  unfold blkC at h
  simp only [Bool.and_eq_true, List.all_eq_true, decide_eq_true_eq] at h
  obtain ⟨⟨⟨h1, h2⟩, h3⟩, h4⟩ := h
  refine ⟨?_, h2, h3, fun y hy e => ?_, fun y hy e => ?_⟩
  · split at h1
    · assumption
    · cases h1
  · have q := h4 y hy
    simp only [e] at q
    split at q <;> first | exact .inl (by assumption) | exact .inr (by assumption) | cases q
  · have q := h4 y hy
    rcases e with e | e <;> (simp only [e, Bool.or_eq_true, decide_eq_true_eq] at q; exact q)
end L2
namespace L2
open PySem PySem.Spec PyProof.Rows
section
variable {prog : Program} {w : World} {A : Around} {R : Result → Shared → Prop} {s : Shared} {elt t0 i0 t1 i1 : Expr} {ifs0 ifs1 : List Expr} {scope : Scope} {pos : Pos} {it acc : Value} {env : Env}
end
section
variable {X : Cx}
end
end L2
namespace L2
open PySem PySem.Spec PyProof.Rows
section
variable {κ : Type} [DecidableEq κ]
def valV (kvs : List (κ × V)) (k : κ) : Option V := (kvs.find? fun kv => decide (kv.1 = k)).map (·.2)
def putK (kvs : List (κ × V)) (k : κ) (v : V) : List (κ × V) :=
  if (kvs.any fun kv => decide (kv.1 = k)) = true then kvs.map (fun kv => if kv.1 = k then (kv.1, v) else kv) else kvs ++ [(k, v)]
def dropK (kvs : List (κ × V)) (k : κ) : List (κ × V) := kvs.filter fun kv => decide (kv.1 ≠ k)
theorem valV_pos {p : κ × V} {r : List (κ × V)} {k : κ} (e : p.1 = k) : valV (p :: r) k = some p.2 := by simp [valV, List.find?_cons, e]
theorem valV_neg {p : κ × V} {r : List (κ × V)} {k : κ} (e : ¬ p.1 = k) : valV (p :: r) k = valV r k := by simp [valV, List.find?_cons, e]
theorem valV_any (k : κ) : ∀ kvs : List (κ × V), (kvs.any fun kv => decide (kv.1 = k)) = (valV kvs k).isSome
  | [] => rfl
  | p :: r => by
    rw [List.any_cons]
    by_cases e : p.1 = k
    · simp only [valV_pos e, decide_eq_true e, Bool.true_or, Option.isSome_some]
    · rw [valV_neg e, decide_eq_false e, Bool.false_or]; exact valV_any k r
theorem valV_snoc (k j : κ) (y : V) : ∀ kvs : List (κ × V), valV kvs k = none → valV (kvs ++ [(k, y)]) j = if j = k then some y else valV kvs j
  | [], _ => by
    by_cases e : k = j
    · rw [if_pos e.symm]; exact valV_pos (p := (k, y)) e
    · rw [if_neg (fun z => e z.symm)]; exact valV_neg (p := (k, y)) e
  | p :: r, hn => by
    rw [List.cons_append]
    have hk : ¬ p.1 = k := fun z => by rw [valV_pos z] at hn; cases hn
    rw [valV_neg hk] at hn
    have ih := valV_snoc k j y r hn
    by_cases e : p.1 = j
    · rw [valV_pos e, valV_pos e, if_neg (fun z => hk (e.trans z))]
    · rw [valV_neg e, valV_neg e, ih]
theorem length_putK (kvs : List (κ × V)) (k : κ) (v : V) : (putK kvs k v).length ≤ kvs.length + 1 := by
  unfold putK
  split
  · rw [List.length_map]; omega
  · rw [List.length_append, List.length_cons, List.length_nil]; omega
theorem putK_new {kvs : List (κ × V)} {k : κ} (v : V) (h : valV kvs k = none) : putK kvs k v = kvs ++ [(k, v)] := by
  unfold putK
  rw [valV_any, h]
  exact if_neg (by decide)
theorem RelO.isSome_eq {o : Option V} {u : Option Value} (r : RelO o u) : o.isSome = u.isSome := by
  cases o with
  | none => cases u with
    | none => rfl
    | some _ => exact (show False from r).elim
  | some _ => cases u with
    | none => exact (show False from r).elim
    | some _ => rfl
theorem RelO.getD {o : Option V} {u : Option Value} {d : V} {d' : Value} (r : RelO o u) (rd : RelV d d') : RelV (o.getD d) (u.getD d') := by
  cases o with
  | none => cases u with
    | none => exact rd
    | some _ => exact (show False from r).elim
  | some _ => cases u with
    | none => exact (show False from r).elim
    | some _ => exact r
theorem KV.val {kvs : List (κ × V)} {vs : List (κ × Value)} (r : KV kvs vs) (k : κ) : RelO (valV kvs k) (valueAt vs k) := by
  unfold KV at r
  induction r with
  | nil => exact True.intro
  | @cons p q ps qs h t ih =>
    obtain ⟨h1, h2⟩ := h
    by_cases e : p.1 = k
    · have e' : q.1 = k := h1.symm.trans e
      have b : valueAt (q :: qs) k = some q.2 := by simp [valueAt, List.find?_cons, e']
      rw [valV_pos e, b]; exact h2
    · have e' : ¬ q.1 = k := fun z => e (h1.trans z)
      have b : valueAt (q :: qs) k = valueAt qs k := by simp [valueAt, List.find?_cons, e']
      rw [valV_neg e, b]; exact ih
theorem KV.any {kvs : List (κ × V)} {vs : List (κ × Value)} (r : KV kvs vs) (k : κ) : (kvs.any fun kv => decide (kv.1 = k)) = vs.any fun kv => decide (kv.1 = k) := by
  unfold KV at r
  induction r with
  | nil => rfl
  | cons h t ih => rw [List.any_cons, List.any_cons, ih, h.1]
theorem KV.repl {kvs : List (κ × V)} {vs : List (κ × Value)} (r : KV kvs vs) (k : κ) {y : V} {u : Value} (ry : RelV y u) :
    KV (kvs.map fun kv => if kv.1 = k then (kv.1, y) else kv) (vs.map fun kv => if kv.1 = k then (kv.1, u) else kv) := by
  unfold KV at r ⊢
  induction r with
  | nil => exact .nil
  | @cons p q ps qs h t ih =>
    rw [List.map_cons, List.map_cons]
    refine .cons ?_ ih
    obtain ⟨h1, h2⟩ := h
    by_cases e : p.1 = k
    · rw [if_pos e, if_pos (h1.symm.trans e)]; exact ⟨h1, ry⟩
    · rw [if_neg e, if_neg (fun z => e (h1.trans z))]; exact ⟨h1, h2⟩
theorem KV.put {kvs : List (κ × V)} {vs : List (κ × Value)} (r : KV kvs vs) (k : κ) {y : V} {u : Value} (ry : RelV y u) : KV (putK kvs k y) (stored vs k u) := by
  unfold putK stored
  rw [r.any k]
  by_cases e : (vs.any fun kv => decide (kv.1 = k)) = true
  · rw [if_pos e, if_pos e]; exact r.repl k ry
  · rw [if_neg e, if_neg e]; exact Paired.snoc r ⟨rfl, ry⟩
theorem KV.drop {kvs : List (κ × V)} {vs : List (κ × Value)} (r : KV kvs vs) (k : κ) : KV (dropK kvs k) (without vs k) := by
  unfold KV at r ⊢
  unfold dropK without
  induction r with
  | nil => exact .nil
  | @cons p q ps qs h t ih =>
    obtain ⟨h1, h2⟩ := h
    rw [List.filter_cons, List.filter_cons]
    by_cases e : p.1 = k
    · have a : ¬ decide (p.1 ≠ k) = true := by simp [e]
      have b : ¬ decide (q.1 ≠ k) = true := by simp [h1.symm.trans e]
      rw [if_neg a, if_neg b]; exact ih
    · have e' : ¬ q.1 = k := fun z => e (h1.trans z)
      have a : decide (p.1 ≠ k) = true := by simp [e]
      have b : decide (q.1 ≠ k) = true := by simp [e']
      rw [if_pos a, if_pos b]; exact .cons ⟨h1, h2⟩ ih
theorem KV.keys {kvs : List (κ × V)} {vs : List (κ × Value)} (r : KV kvs vs) : kvs.map (·.1) = vs.map (·.1) := by
  unfold KV at r
  induction r with
  | nil => rfl
  | cons h t ih => rw [List.map_cons, List.map_cons, ih, h.1]
theorem KV.length {kvs : List (κ × V)} {vs : List (κ × Value)} (r : KV kvs vs) : kvs.length = vs.length := Paired.length r
theorem dropK_le (kvs : List (κ × V)) (k : κ) : (dropK kvs k).length ≤ kvs.length := List.length_filter_le _ _
end
theorem kV_is {P : Program} {w : World} {k : Key} {u : Value} (r : RelV (kV k) u) : (mixKind P w).is k u = true := by
  cases k with
  | inl i => obtain ⟨t, e⟩ := (show ∃ t, u = Value.int i t from r); subst e; exact mixKind_int P w i t
  | inr x => obtain ⟨t, e⟩ := (show ∃ t, u = Value.str x t from r); subst e; exact mixKind_str P w x t
theorem items_are {P : Program} {w : World} : ∀ {ks : List Key} {us : List Value}, Vals (ks.map kV) us → ItemsAre (mixKind P w) ks us
  | [], _, r => by rw [List.map_nil] at r; cases r; exact .nil
  | k :: ks, _, r => by
    rw [List.map_cons] at r
    cases r with
    | cons h t => exact .cons (kV_is h) (items_are t)
abbrev KT (H : Hp) : List (List Key × V) → List (List Key × Addr × Value) → Prop := Paired fun p q => p.1 = q.1 ∧ H q.2.1 = some (.tup (p.1.map kV)) ∧ RelV p.2 q.2.2
theorem KT.val {H : Hp} {kvs : List (List Key × V)} {xs : List (List Key × Addr × Value)} (r : KT H kvs xs) (k : List Key) : RelO (valV kvs k) ((atKey xs k).map (·.2)) := by
  induction r with
  | nil => exact True.intro
  | @cons p q ps qs h t ih =>
    obtain ⟨h1, _, h2⟩ := h
    by_cases e : p.1 = k
    · have e' : q.1 = k := h1.symm.trans e
      have b : atKey (q :: qs) k = some q.2 := by simp [atKey, List.find?_cons, e']
      rw [valV_pos e, b]; exact h2
    · have e' : ¬ q.1 = k := fun z => e (h1.trans z)
      have b : atKey (q :: qs) k = atKey qs k := by simp [atKey, List.find?_cons, e']
      rw [valV_neg e, b]; exact ih
theorem KT.repl {H : Hp} {kvs : List (List Key × V)} {xs : List (List Key × Addr × Value)} (r : KT H kvs xs) (k : List Key) {y : V} {u : Value} (ry : RelV y u) :
    KT H (kvs.map fun kv => if kv.1 = k then (kv.1, y) else kv) (xs.map (putAt k u)) := by
  induction r with
  | nil => exact .nil
  | @cons p q ps qs h t ih =>
    rw [List.map_cons, List.map_cons]
    refine .cons ?_ ih
    obtain ⟨h1, h2, h3⟩ := h
    unfold putAt
    by_cases e : p.1 = k
    · rw [if_pos e, if_pos (h1.symm.trans e)]; exact ⟨h1, h2, ry⟩
    · rw [if_neg e, if_neg (fun z => e (h1.trans z))]; exact ⟨h1, h2, h3⟩
theorem KT.put {H : Hp} {kvs : List (List Key × V)} {xs : List (List Key × Addr × Value)} (r : KT H kvs xs) (k : List Key) {b : Addr} {y : V} {u : Value} (hb : H b = some (.tup (k.map kV))) (ry : RelV y u) :
    KT H (putK kvs k y) (storedH xs k b u) := by
  have e : (kvs.any fun kv => decide (kv.1 = k)) = (atKey xs k).isSome := by
    rw [valV_any, (r.val k).isSome_eq, Option.isSome_map]
  unfold putK storedH
  rw [e]
  by_cases q : (atKey xs k).isSome = true
  · rw [if_pos q, if_pos q]; exact r.repl k ry
  · rw [if_neg q, if_neg q]; exact Paired.snoc r ⟨rfl, hb, ry⟩
theorem KT.keeps {H H' : Hp} {kvs : List (List Key × V)} {xs : List (List Key × Addr × Value)} (r : KT H kvs xs) (ht : ∀ b ys, H b = some (.tup ys) → H' b = some (.tup ys)) : KT H' kvs xs :=
  Paired.mapP r fun _ _ z => ⟨z.1, ht _ _ z.2.1, z.2.2⟩
section
variable {P : Program} {w : World} {H : Hp} {h : Heap} {a : Addr}
theorem rd_of {u : HO} (ok : HOk P w H h) (e : Rd H a u) : ObjOk P w H h a u := e.ok ok
theorem dk_rd {kvs : List (Key × V)} (ok : HOk P w H h) (e : Rd H a (.dK kvs)) : kvs.length ≤ sizeLine ∧ (a == sysModules) = false ∧ ∃ vs, KV kvs vs ∧ h.DictOf (mixKind P w) a vs :=
  show ObjOk P w H h a (.dK kvs) from rd_of ok e
theorem dk_of {kvs : List (Key × V)} (ok : HOk P w H h) (e : H a = some (.dK kvs)) : kvs.length ≤ sizeLine ∧ (a == sysModules) = false ∧ ∃ vs, KV kvs vs ∧ h.DictOf (mixKind P w) a vs := dk_rd ok (.inl e)
theorem key_of {ks : List Key} (ok : HOk P w H h) (e : H a = some (.tup (ks.map kV))) : (tupleKind (mixKind P w)).is h ks a := by
  obtain ⟨_, its, r, o, h1, h2, n, h3⟩ := (show ObjOk P w H h a (.tup (ks.map kV)) from ok a _ e)
  exact ⟨o, its.toArray, n, h1, h2, h3, by simpa using items_are r⟩
theorem dt_rd {kvs : List (List Key × V)} (ok : HOk P w H h) (e : Rd H a (.dT kvs)) : kvs.length ≤ sizeLine ∧ (a == sysModules) = false ∧
    ∃ xs, KT H kvs xs ∧ h.DictOfH (tupleKind (mixKind P w)) a xs := by
  obtain ⟨z, y, xs, r, o, es, ep, h1, h2, h3, h4, h5⟩ := (show ObjOk P w H h a (.dT kvs) from rd_of ok e)
  refine ⟨z, y, xs, r, o, es, ep, h1, h2, h3, h4, fun x hx => ?_, h5⟩
  have all : ∀ {l : List (List Key × V)} {m : List (List Key × Addr × Value)}, KT H l m → ∀ x ∈ m, (tupleKind (mixKind P w)).is h x.1 x.2.1 := by
    intro l m q
    induction q with
    | nil => intro x hx; exact nomatch hx
    | @cons p q ps qs hq t ih =>
      intro x hx
      rcases List.mem_cons.mp hx with e | hx
      · subst e
        exact key_of ok (by rw [← hq.1]; exact hq.2.1)
      · exact ih x hx
  exact all r x hx
theorem dt_of {kvs : List (List Key × V)} (ok : HOk P w H h) (e : H a = some (.dT kvs)) : kvs.length ≤ sizeLine ∧ (a == sysModules) = false ∧
    ∃ xs, KT H kvs xs ∧ h.DictOfH (tupleKind (mixKind P w)) a xs := dt_rd ok (.inl e)
end
def DGet (H : Hp) (a : Addr) (y : V) (r : Option V) : Prop :=
  (∃ kvs k, Rd H a (.dK kvs) ∧ y = kV k ∧ r = valV kvs k) ∨ ∃ kvs k b, Rd H a (.dT kvs) ∧ y = .ref b ∧ H b = some (.tup (k.map kV)) ∧ r = valV kvs k
def DPut (H : Hp) (a : Addr) (y v : V) (H' : Hp) : Prop :=
  (∃ kvs k, H a = some (.dK kvs) ∧ y = kV k ∧ kvs.length < sizeLine ∧ H' = upd H a (.dK (putK kvs k v))) ∨
  ∃ kvs k b, H a = some (.dT kvs) ∧ y = .ref b ∧ H b = some (.tup (k.map kV)) ∧ kvs.length < sizeLine ∧ H' = upd H a (.dT (putK kvs k v))
theorem DGet.k {H : Hp} {a : Addr} {kvs : List (Key × V)} {k : Key} (e : H a = some (.dK kvs)) : DGet H a (kV k) (valV kvs k) := .inl ⟨kvs, k, .inl e, rfl, rfl⟩
theorem DGet.t {H : Hp} {a b : Addr} {kvs : List (List Key × V)} {k : List Key} (e : H a = some (.dT kvs)) (eb : H b = some (.tup (k.map kV))) : DGet H a (.ref b) (valV kvs k) := .inr ⟨kvs, k, b, .inl e, rfl, eb, rfl⟩
theorem DPut.k {H : Hp} {a : Addr} {kvs : List (Key × V)} {k : Key} {v : V} (e : H a = some (.dK kvs)) (hl : kvs.length < sizeLine) : DPut H a (kV k) v (upd H a (.dK (putK kvs k v))) := .inl ⟨kvs, k, e, rfl, hl, rfl⟩
theorem DPut.t {H : Hp} {a b : Addr} {kvs : List (List Key × V)} {k : List Key} {v : V} (e : H a = some (.dT kvs)) (eb : H b = some (.tup (k.map kV))) (hl : kvs.length < sizeLine) :
    DPut H a (.ref b) v (upd H a (.dT (putK kvs k v))) := .inr ⟨kvs, k, b, e, rfl, eb, hl, rfl⟩
section
variable {X : Cx} {pins : List (Addr × Obj)} {σ : St} {H : Hp} {s : Shared} {a : Addr} {y v : V} {u r : Value} {o : Option V} {A : Around} {E : Value → Shared → Prop}
theorem Inv.big (I : Inv X pins σ H s) : sysModules < s.heap.objs.size := by
  have h : mainGlobals < s.heap.objs.size := (I.mod.glob.keeps I.bk).lt
  exact Nat.lt_trans (by decide) h
theorem d_getItem {Q : Value → Shared → Prop} (hu : A.units + 1 < cLine) (I : Inv X pins σ H s) (g : DGet H a y (some v)) (ry : RelV y u) (h : ∀ w' s', Inv X pins σ H s' → RelV v w' → Q w' s') :
    wpAny (model X.prog X.w) A (getItem (.ref a) u) Q E s := by
  rcases g with ⟨kvs, k, e, ey, l⟩ | ⟨kvs, k, b, e, ey, eb, l⟩
  · subst ey
    obtain ⟨z, hd, vs, rel, dd⟩ := dk_rd I.hok e
    obtain ⟨w', hw, rw'⟩ := RelO.some_of (v := v) (o := valueAt vs k) (by rw [l]; exact rel.val k)
    exact wpAny_getItem_of (kV_is ry) dd.mapOf hw (h w' _ (I.tok _) rw')
  · subst ey
    cases (show u = Value.ref b from ry)
    obtain ⟨z, hd, xs, rel, dd⟩ := dt_rd I.hok e
    obtain ⟨w', hw, rw'⟩ := RelO.some_of (v := v) (o := (atKey xs k).map (·.2)) (by rw [l]; exact rel.val k)
    obtain ⟨p, hp, hp2⟩ := Option.map_eq_some_iff.mp hw
    refine wpAny_getItem_heap (tupleKind_room_in1 hu) (key_of I.hok eb) dd hp ?_
    rw [hp2]
    exact h w' _ (I.tok _) rw'
theorem d_in {Q : Value → Shared → Prop} (hu : A.units + 1 < cLine) (I : Inv X pins σ H s) (g : DGet H a y o) (ry : RelV y u) (h : ∀ s', Inv X pins σ H s' → Q (.bool o.isSome) s') :
    wpAny (model X.prog X.w) A (compareOp .In u (.ref a)) Q E s := by
  rcases g with ⟨kvs, k, e, ey, l⟩ | ⟨kvs, k, b, e, ey, eb, l⟩
  · subst ey
    obtain ⟨z, hd, vs, rel, dd⟩ := dk_rd I.hok e
    refine wpAny_in_of (kV_is ry) hd dd.mapOf ?_
    rw [← (rel.val k).isSome_eq, ← l]
    exact h _ (I.tok _)
  · subst ey
    cases (show u = Value.ref b from ry)
    obtain ⟨z, hd, xs, rel, dd⟩ := dt_rd I.hok e
    refine wpAny_in_heap (tupleKind_room_in1 hu) (key_of I.hok eb) hd dd ?_
    have q := (rel.val k).isSome_eq
    rw [Option.isSome_map] at q
    rw [← q, ← l]
    exact h _ (I.tok _)
theorem d_notIn {Q : Value → Shared → Prop} (hu : A.units + 1 < cLine) (I : Inv X pins σ H s) (g : DGet H a y o) (ry : RelV y u) (h : ∀ s', Inv X pins σ H s' → Q (.bool (!o.isSome)) s') :
    wpAny (model X.prog X.w) A (compareOp .NotIn u (.ref a)) Q E s := by
  rcases g with ⟨kvs, k, e, ey, l⟩ | ⟨kvs, k, b, e, ey, eb, l⟩
  · subst ey
    obtain ⟨z, hd, vs, rel, dd⟩ := dk_rd I.hok e
    refine wpAny_notIn_of (kV_is ry) hd dd.mapOf ?_
    rw [← (rel.val k).isSome_eq, ← l]
    exact h _ (I.tok _)
  · subst ey
    cases (show u = Value.ref b from ry)
    obtain ⟨z, hd, xs, rel, dd⟩ := dt_rd I.hok e
    refine wpAny_notIn_heap (tupleKind_room_in1 hu) (key_of I.hok eb) hd dd ?_
    have q := (rel.val k).isSome_eq
    rw [Option.isSome_map] at q
    rw [← q, ← l]
    exact h _ (I.tok _)
theorem d_write {h' : Heap} {t' : Nat} {ob : HO} (I : Inv X pins σ H s) (mu : Mut (H a)) (hs : Heap.SameBut a s.heap h') (he : ∃ q, h'.get? a = some q) (new : ObjOk X.prog X.w (upd H a ob) h' a ob) :
    Inv X pins σ (upd H a ob) { s with heap := h', toks := t' } :=
  I.write (x := a) (e := a) mu (.inl rfl) (fun b q hb z => (hs.2 b hb).trans z) he new
theorem dk_new {P : Program} {w : World} {H' : Hp} {h' : Heap} {kvs : List (Key × V)} {vs : List (Key × Value)} (z : kvs.length ≤ sizeLine) (hd : (a == sysModules) = false) (rel : KV kvs vs) (dd : h'.DictOf (mixKind P w) a vs) :
    ObjOk P w H' h' a (.dK kvs) := ⟨z, hd, vs, rel, dd⟩
theorem d_setItem {H' : Hp} {Q : Unit → Shared → Prop} (hu : A.units + 1 < cLine) (I : Inv X pins σ H s) (g : DPut H a y v H') (ry : RelV y u) (rv : RelV v r) (h : ∀ s', Inv X pins σ H' s' → Q () s') :
    wpAny (model X.prog X.w) A (setItem (.ref a) u r) Q E s := by
  rcases g with ⟨kvs, k, e, ey, l, eH⟩ | ⟨kvs, k, b, e, ey, eb, l, eH⟩
  · subst ey eH
    obtain ⟨z, hd, vs, rel, dd⟩ := dk_of I.hok e
    have hz : vs.length ≤ sizeLine := by rw [← rel.length]; exact z
    have hl : (putK kvs k v).length ≤ sizeLine := by have := length_putK kvs k v; omega
    refine wpAny_setItem_pairs (hsz := hz) (kV_is ry) dd fun h' dd' hs => h _ ?_
    have he : ∃ q, h'.get? a = some q := let ⟨q, _, _, hq, _⟩ := dd'; ⟨q, hq⟩
    exact d_write I (by rw [e]; exact True.intro) hs he (dk_new hl hd (rel.put k rv) dd')
  · subst ey eH
    cases (show u = Value.ref b from ry)
    obtain ⟨z, hd, xs, rel, dd⟩ := dt_of I.hok e
    have hz : xs.length ≤ sizeLine := by rw [← Paired.length rel]; exact z
    have hl : (putK kvs k v).length ≤ sizeLine := by have := length_putK kvs k v; omega
    refine wpAny_setItem_heap (hsz := hz) (tupleKind_room_in1 hu) (key_of I.hok eb) dd fun h' dd' hs => h _ ?_
    obtain ⟨q, es, ep, hq, h2, h3, h4, _, h5⟩ := dd'
    refine d_write I (by rw [e]; exact True.intro) hs ⟨q, hq⟩ ⟨hl, hd, _, (rel.put k eb rv).keeps fun c ys ec => ?_, q, es, ep, hq, h2, h3, h4, h5⟩
    rw [upd_ne (ne_of ec e (fun z => nomatch z))]
    exact ec
end
section
variable {X : Cx} {pins : List (Addr × Obj)} {σ : St} {H : Hp} {s : Shared} {a : Addr} {kvs : List (Key × V)} {k : Key} {u : Value} {A : Around} {E : Value → Shared → Prop}
theorem d_pop {v : V} {more : List Value} {Q : Value → Shared → Prop} (I : Inv X pins σ H s) (e : H a = some (.dK kvs)) (ry : RelV (kV k) u) (l : valV kvs k = some v) (hm : more = [] ∨ ∃ x, more = [x])
    (h : ∀ w' s', Inv X pins σ (upd H a (.dK (dropK kvs k))) s' → RelV v w' → Q w' s') : wpAny (model X.prog X.w) A (call (.builtin "dict.pop") (.ref a :: u :: more)) Q E s := by
  obtain ⟨z, hd, vs, rel, dd⟩ := dk_of I.hok e
  obtain ⟨w', hw, rw'⟩ := RelO.some_of (v := v) (o := valueAt vs k) (by rw [← l]; exact rel.val k)
  have hp : (keyPart u).isSome = true := by
    cases k with
    | inl i => obtain ⟨t, q⟩ := (show ∃ t, u = Value.int i t from ry); subst q; rfl
    | inr x => obtain ⟨t, q⟩ := (show ∃ t, u = Value.str x t from ry); subst q; rfl
  have ha : argsOk "dict.pop" ⟨.ref a :: u :: more, []⟩ := by
    rcases hm with q | ⟨x, q⟩
    · subst q; exact PySem.F.args_dict_pop_2 _ _
    · subst q; exact PySem.F.args_dict_pop_3 _ _ _
  refine call_meetsIn PySem.F.slot_dict_pop dd.typeIs PySem.F.entry_dict_pop ha (meets_dict_pop_there (mixKind X.prog X.w) a (kV_is ry) more hm hp)
    ⟨vs, w', dd, by rw [← rel.length]; exact z, hw, fun h' dd' hs => h w' _ ?_ rw'⟩
  have he : ∃ q, h'.get? a = some q := let ⟨q, _, _, hq, _⟩ := dd'; ⟨q, hq⟩
  exact d_write I (by rw [e]; exact True.intro) hs he (dk_new (Nat.le_trans (dropK_le kvs k) z) hd (rel.drop k) dd')
theorem d_len {Q : Value → Shared → Prop} (I : Inv X pins σ H s) (e : Rd H a (.dK kvs)) (h : ∀ t s', Inv X pins σ H s' → Q (.int kvs.length t) s') : wpAny (model X.prog X.w) A (call (.builtin "len") [.ref a]) Q E s := by
  obtain ⟨z, hd, vs, rel, dd⟩ := dk_rd I.hok e
  refine call_len_dict hd dd (by rw [← rel.length]; rw [sizeLine_eq] at z; omega) ?_
  rw [← rel.length]
  exact h _ _ (I.tok _)
end
def NoSl (i : Expr) : Prop := ∀ ov iv, subscripted i false ov iv = operate [ov, iv] (getItem ov iv)
theorem subD_of {prog : Program} {w : World} {A : Around} {E : Value → Shared → Prop} {s : Shared} {env : Env} {value slice : Expr} {pos : Pos} {T id : String} {Q : Value → Shared → Prop}
    (hl : typeLookup (.type T) "__getitem__" = pure (some (.builtin id))) (hs : NoSl slice)
    (h : wpAny (model prog w) A (eval value env) (fun o s₁ => wpAny (model prog w) A (eval slice env) (fun i s₂ => s₂.TypeIs o T ∧ wpAny (model prog w) A (getItem o i) Q E s₂) E s₁) E s) :
    wpAny (model prog w) A (eval (.Subscript value slice pos) env) Q E s := by
  refine Subscript_ (wpAny_mono h (fun o s₁ h₁ => wpAny_mono h₁ (fun i s₂ h₂ => ?_) fun _ _ x => x) fun _ _ x => x)
  obtain ⟨hT, h₂⟩ := h₂
  unfold subscriptTail
  refine wpAny_bind ?_
  rw [getitemInPython_of_ne hT.not_modules]
  refine wpAny_bind (wpAny_specialOf hT hl ?_)
  have fin : wpAny (model prog w) A (subscripted slice false o i) (fun r s₃ => wpAny (model prog w) A (letTemporaryGo value o r >>= fun _ => pure r) Q E s₃) E s₂ := by
    rw [hs o i]
    exact wpAny_operating (wpAny_mono h₂ (fun r s₃ h₃ => wpAny_bind (wpAny_letTemporaryGo (wpAny_pure h₃))) fun _ _ x => x)
  first
    | exact wpAny_pure (wpAny_bind fin)
    | exact wpAny_bind (wpAny_pure (wpAny_bind fin))
    | exact wpAny_bind fin
theorem dict_typeIs {X : Cx} {pins : List (Addr × Obj)} {σ : St} {H : Hp} {s : Shared} {a : Addr} {y : V} {o : Option V} (I : Inv X pins σ H s) (g : DGet H a y o) : s.TypeIs (.ref a) "dict" := by
  rcases g with ⟨kvs, k, e, _, _⟩ | ⟨kvs, k, b, e, _, _, _⟩
  · obtain ⟨_, _, vs, _, dd⟩ := dk_rd I.hok e
    exact dd.typeIs
  · obtain ⟨_, _, xs, _, dd⟩ := dt_rd I.hok e
    exact dd.typeIs
def tDGet (td ty : TE) : TE := fun σ H Q => td σ H fun x H1 => ty σ H1 fun y H2 => ∃ a v, x = .ref a ∧ DGet H2 a y (some v) ∧ Q v H2
def tDIn (ty td : TE) : TE := fun σ H Q => ty σ H fun y H1 => td σ H1 fun x H2 => ∃ a o, x = .ref a ∧ DGet H2 a y o ∧ Q (.bl o.isSome) H2
def tDNotIn (ty td : TE) : TE := fun σ H Q => ty σ H fun y H1 => td σ H1 fun x H2 => ∃ a o, x = .ref a ∧ DGet H2 a y o ∧ Q (.bl (!o.isSome)) H2
def sDPut (td ty tv : TE) : TS := fun D σ H => tv σ H fun v H1 => td σ H1 fun x H2 => ty σ H2 fun y H3 => ∃ a H4, x = .ref a ∧ DPut H3 a y v H4 ∧ D.nx σ H4
def sDAug (td ty tv : TE) (rd : V → V → Hp → VK → Prop) : TS := fun D σ H => td σ H fun x H1 => ty σ H1 fun y H2 => ∃ a v, x = .ref a ∧ DGet H2 a y (some v) ∧
  tv σ H2 fun y2 H3 => rd v y2 H3 fun z H4 => ∃ H5, DPut H4 a y z H5 ∧ D.nx σ H5
section
variable {X : Cx} {o i e value : Expr} {pos pos' tpos : Pos} {td ty tv : TE}
theorem pe_dget (hu : X.A.units + 1 < cLine) (ho : PE X o td) (hi : PE X i ty) (hs : NoSl i) : PE X (.Subscript o i pos) (tDGet td ty) := by
  intro pins s σ H Q I h
  refine subD_of PySem.F.slot_dict_getitem.lookup hs (thn (ho pins s σ H _ I h) fun u s1 ⟨x, H1, I1, rx, q1⟩ => thn (hi pins s1 σ H1 _ I1 q1) fun iv s2 ⟨y, H2, I2, ry, a, v, ex, g, q2⟩ => ?_)
  subst ex
  obtain rfl : u = Value.ref a := rx
  exact ⟨dict_typeIs I2 g, d_getItem hu I2 g ry fun w' s3 I3 rw' => ⟨v, H2, I3, rw', q2⟩⟩
theorem pc_din (hu : X.A.units + 1 < cLine) (hi : PE X i ty) (ho : PE X o td) : PC X .In i o (tDIn ty td) := by
  intro pins s σ H Q I h
  refine thn (hi pins s σ H _ I h) fun iv s1 ⟨y, H1, I1, ry, q1⟩ => thn (ho pins s1 σ H1 _ I1 q1) fun u s2 ⟨x, H2, I2, rx, a, ov, ex, g, q2⟩ => ?_
  subst ex
  obtain rfl : u = Value.ref a := rx
  exact d_in hu I2 g ry fun s3 I3 => ⟨.bl ov.isSome, H2, I3, rfl, q2⟩
theorem pc_dnotin (hu : X.A.units + 1 < cLine) (hi : PE X i ty) (ho : PE X o td) : PC X .NotIn i o (tDNotIn ty td) := by
  intro pins s σ H Q I h
  refine thn (hi pins s σ H _ I h) fun iv s1 ⟨y, H1, I1, ry, q1⟩ => thn (ho pins s1 σ H1 _ I1 q1) fun u s2 ⟨x, H2, I2, rx, a, ov, ex, g, q2⟩ => ?_
  subst ex
  obtain rfl : u = Value.ref a := rx
  exact d_notIn hu I2 g ry fun s3 I3 => ⟨.bl (!ov.isSome), H2, I3, rfl, q2⟩
theorem ps_dput (hu : X.A.units + 1 < cLine) (ho : PE X o td) (hi : PE X i ty) (hv : PE X value tv) (hs : swapsWith value (some (.Subscript o i pos')) pos.line X.env = pure false) :
    PS X (.Assign [.Subscript o i pos'] value pos) (sDPut td ty tv) := by
  intro pins s σ H D I h
  refine wpAny_Assign_Subscript (thn (hv pins s σ H _ I h) fun r s1 ⟨v, H1, I1, rv, q1⟩ => thn (ho pins s1 σ H1 _ I1 q1) fun u s2 ⟨x, H2, I2, rx, q2⟩ => thn (hi pins s2 σ H2 _ I2 q2) fun iv s3 ⟨y, H3, I3, ry, a, H4, ex, g, q3⟩ => ?_) hs
  subst ex
  obtain rfl : u = Value.ref a := rx
  exact d_setItem hu I3 g ry rv fun s4 I4 => ⟨σ, H4, I4, q3⟩
theorem ps_daug {op : Operator} {rd : V → V → Hp → VK → Prop} (hu : X.A.units + 1 < cLine) (ho : PE X o td) (hi : PE X i ty) (hv : PE X value tv) (hop : InOp X op rd)
    (ha : ∀ ov iv new, augStore i ov iv new = (do holding [new, ov, iv] (setItem ov iv new); release [new, ov, iv] []; pure .next)) : PS X (.AugAssign (.Subscript o i tpos) op value pos) (sDAug td ty tv rd) := by
  intro pins s σ H D I h
  refine wpAny_AugAssign_SubscriptAny (thn (ho pins s σ H _ I h) fun u s1 ⟨x, H1, I1, rx, q1⟩ => thn (hi pins s1 σ H1 _ I1 q1) fun iv s2 ⟨y, H2, I2, ry, a, v, ex, g, q2⟩ => ?_) ha
  subst ex
  obtain rfl : u = Value.ref a := rx
  refine d_getItem hu I2 g ry fun w' s3 I3 rw' => thn (hv pins s3 σ H2 _ I3 q2) fun w2 s4 ⟨y2, H3, I4, ry2, q3⟩ => thn (hop pins s4 σ H3 v y2 w' w2 _ I4 rw' ry2 q3) fun w3 s5 ⟨z, H4, I5, rz, H5, g5, q4⟩ => ?_
  exact d_setItem hu I5 g5 ry rz fun s6 I6 => ⟨σ, H5, I6, q4⟩
end
theorem dk_empty {P : Program} {w : World} {H : Hp} (h : Heap) (hb : sysModules < h.objs.size) : ObjOk P w H (h.push { cls := .type "dict", data := .dict #[] }) h.objs.size (.dK []) :=
  ⟨Nat.zero_le _, beq_eq_false_iff_ne.mpr (Ne.symm (Nat.ne_of_lt hb)), [], .nil, Heap.DictOf.new h⟩
def tDNewK : TE := fun _ H Q => ∀ p, H p = none → Q (.ref p) (upd H p (.dK []))
section
variable {X : Cx} {pos : Pos}
theorem pe_dnewK : PE X (.Dict [] [] pos) tDNewK := fun pins s σ H Q I h =>
  wpAny_Dict_empty ⟨.ref s.heap.objs.size, _, I.laid (a := s.heap.objs.size) (o := .dK []) (t' := s.toks) (fun _ _ q => Heap.get?_push_of_some _ q) (Nat.le_refl _) (dk_empty s.heap I.big), rfl, h _ (I.hok.fresh (Nat.le_refl _))⟩
end
structure M1 (X : Cx) (o : Expr) (m : Str) (apos : Pos) (e : Expr) (cpos : Pos) : Prop where
  base : attributeBase o m X.env (eval o X.env) = eval o X.env
  few : ((backTo cpos (starEach [e] X.env)).all (fun x => !x.1) && (backToKw cpos (keywordEach [] X.env)).all (fun x => x.1.isSome)
    && decide (([e] : List Expr).length + ([] : List Keyword).length + (if ([] : List Keyword).isEmpty then 0 else 1) < 30)) = true
  line : (apos.endLine == cpos.line) = true
  trees : backTo cpos (starEach [e] X.env) = [(false, eval e X.env)]
def IsD (H : Hp) (a : Addr) : Prop := (∃ kvs, Rd H a (.dK kvs)) ∨ ∃ kvs, Rd H a (.dT kvs)
theorem isD_at {X : Cx} {pins : List (Addr × Obj)} {σ : St} {H : Hp} {s : Shared} {a : Addr} (I : Inv X pins σ H s) (d : IsD H a) :
    s.TypeIs (.ref a) "dict" ∧ (∀ b, Value.ref a = .ref b → ∃ ob, s.heap.get? b = some ob ∧ ob.dict = none) ∧ (a == sysModules) = false := by
  rcases d with ⟨kvs, e⟩ | ⟨kvs, e⟩
  · obtain ⟨_, hd, vs, _, dd⟩ := dk_rd I.hok e
    refine ⟨dd.typeIs, fun b q => ?_, hd⟩
    cases q
    obtain ⟨ob, _, _, h1, h2, _⟩ := dd
    exact ⟨ob, h1, h2.2.1⟩
  · obtain ⟨_, hd, xs, _, dd⟩ := dt_rd I.hok e
    refine ⟨dd.typeIs, fun b q => ?_, hd⟩
    cases q
    obtain ⟨ob, _, _, h1, h2, _⟩ := dd
    exact ⟨ob, h1, h2.2.1⟩
section
variable {X : Cx} {pins : List (Addr × Obj)} {σ : St} {H : Hp} {s : Shared} {a : Addr} {y d : V} {u r : Value} {o : Option V} {A : Around} {E : Value → Shared → Prop}
end
def tDPop1 (td ty : TE) : TE := fun σ H Q => td σ H fun x H1 => ∃ a, x = .ref a ∧ IsD H1 a ∧ ty σ H1 fun y H2 => ∃ kvs k v, H2 a = some (.dK kvs) ∧ y = kV k ∧ valV kvs k = some v ∧ Q v (upd H2 a (.dK (dropK kvs k)))
section
variable {X : Cx} {o e f : Expr} {apos cpos : Pos} {td ty tx : TE}
theorem pe_dpop1 (ho : PE X o td) (he : PE X e ty) (m : M1 X o "pop" apos e cpos) : PE X (.Call (.Attribute o "pop" apos) [e] [] cpos) (tDPop1 td ty) := by
  intro pins s σ H Q I h
  refine wpAny_Call_method m.base m.few m.line PySem.F.plainAttrs_dict PySem.F.slot_dict_pop PySem.F.type_dict_pop (thn (ho pins s σ H _ I h) fun u s1 ⟨x, H1, I1, rx, a, ex, d, q1⟩ => ?_)
  subst ex
  obtain rfl : u = Value.ref a := rx
  obtain ⟨t1, t2, _⟩ := isD_at I1 d
  refine ⟨t1, t2, ?_⟩
  rw [m.trees]
  refine Calls.callWith_builtin rfl (Calls.evalArgs_plain (Calls.spliced_cons (thn (he pins s1 σ H1 _ I1 q1) fun iv s2 ⟨y, H2, I2, ry, kvs, k, v, ea, ey, l, q2⟩ => Calls.spliced_nil ?_)))
  subst ey
  exact d_pop I2 ea ry l (.inl rfl) fun w' s3 I3 rw' => ⟨v, _, I3, rw', q2⟩
end
section
variable {X : Cx} {pins : List (Addr × Obj)} {σ : St} {H : Hp} {s : Shared} {a : Addr} {kvs : List (Key × V)} {A : Around} {E : Value → Shared → Prop}
end
section
variable {X : Cx} {pins : List (Addr × Obj)} {σ : St} {H : Hp} {s : Shared} {a : Addr} {y : V} {u : Value} {A : Around} {E : Value → Shared → Prop}
end
end L2
namespace L2
open PySem PySem.Spec PyProof.Rows
section
variable {prog : Program} {w : World} {A : Around} {E : Value → Shared → Prop}
end
section
variable {X : Cx}
end
end L2
namespace L2
open PySem PySem.Spec PyProof.Rows
section
variable {X : Cx} {pins : List (Addr × Obj)} {σ : St} {H : Hp} {s : Shared} {h' : Heap}
theorem Inv.lock {d : Addr} {u : HO} (I : Inv X pins σ H s) (h : H d = some u) (mu : Mut (some u)) : ∃ od, Inv X pins σ (upd H d (.frz od u)) s := by
  have x := I.hok d u h
  have ex : ∃ od, s.heap.get? d = some od := by
    cases u with
    | lst xs => obtain ⟨_, _, _, _, e⟩ := x; exact ⟨_, e⟩
    | dK kvs => obtain ⟨_, _, _, _, o, _, _, e, _⟩ := x; exact ⟨o, e⟩
    | dT kvs => obtain ⟨_, _, _, _, o, _, _, e, _⟩ := x; exact ⟨o, e⟩
    | set S n => obtain ⟨o, _, _, _, e, _⟩ := x; exact ⟨o, e⟩
    | ins C dx fs => obtain ⟨_, _, _, e, _⟩ := x; exact ⟨_, e⟩
    | ext φ => obtain ⟨_, ⟨_, e⟩, _⟩ := x; exact ⟨_, e⟩
    | _ => exact False.elim mu
  obtain ⟨od, e⟩ := ex
  have new : ObjOk X.prog X.w (upd H d (.frz od u)) s.heap d (.frz od u) := by
    refine ⟨e, x.stay (fun b v _ q => q) (fun b q => ?_) fun b xs q => ?_⟩
    · rw [upd_ne (fun z => by rw [z, h] at q; cases q; exact mu)]; exact q
    · rw [upd_ne (fun z => by rw [z, h] at q; cases q; exact mu)]; exact q
  exact ⟨od, I.write (x := d) (e := d) (t' := s.toks) (h' := s.heap) (by rw [h]; exact mu) (.inl rfl) (fun b v _ q => q) ⟨od, e⟩ new⟩
theorem Inv.nofrz {d : Addr} {u : HO} (I : Inv X pins σ H s) (h : H d = some u) (mu : Mut (some u)) : ∀ o' u', X.H_0 d ≠ some (.frz o' u') := fun o' u' e => by
  have q := I.base.frzs d o' u' e
  rw [h] at q
  cases q
  exact mu
theorem Inv.unlock {d : Addr} {od : Obj} {u : HO} (I : Inv X pins σ H s) (h : H d = some (.frz od u)) (hn : ∀ o' u', X.H_0 d ≠ some (.frz o' u')) : Inv X pins σ (upd H d u) s := by
  have neH : ∀ b o, H b = some o → (∀ o' u', o ≠ .frz o' u') → b ≠ d := fun b o e hne z => by
    rw [z, h] at e
    cases e
    exact hne _ _ rfl
  have neN : ∀ b, H b = none → b ≠ d := fun b e z => by rw [z, h] at e; cases e
  refine ⟨I.ok, I.os, I.bare, ⟨I.base.keep, I.base.slot, fun b o e n hx => ?_, I.base.there, fun b xs e => ?_, fun b o x e => ?_, fun b ps e => ?_⟩, I.loc, I.cell, ?_, fun x c e => ?_, fun p hp => ?_, fun b o e => ?_, I.len⟩
  · rw [upd_ne (neN b (I.base.free b o e n hx))]; exact I.base.free b o e n hx
  · have q := I.base.tups b xs e
    rw [upd_ne (neH b _ q (fun _ _ z => nomatch z))]; exact q
  · have q := I.base.frzs b o x e
    rw [upd_ne (fun z => by rw [z] at e; exact hn _ _ e)]; exact q
  · obtain ⟨m, q⟩ := I.base.tbls b ps e
    exact ⟨m, by rw [upd_ne (neH b _ q (fun _ _ z => nomatch z))]; exact q⟩
  · rw [upd_ne (neN _ I.free)]; exact I.free
  · rw [upd_ne (neN c (I.freeC x c e))]; exact I.freeC x c e
  · obtain ⟨e, n, r⟩ := I.pin p hp
    exact ⟨e, by rw [upd_ne (neN _ n)]; exact n, r⟩
  · by_cases hb : b = d
    · rw [hb, upd_same] at e
      cases e
      rw [hb]
      obtain ⟨_, x⟩ := I.hok d _ h
      exact x.stay (fun c v _ q => q) (fun c q => by rw [upd_ne (neH c _ q (fun _ _ z => nomatch z))]; exact q) fun c xs q => by rw [upd_ne (neH c _ q (fun _ _ z => nomatch z))]; exact q
    · rw [upd_ne hb] at e
      exact (I.hok b o e).stay (fun c v _ q => q) (fun c q => by rw [upd_ne (neH c _ q (fun _ _ z => nomatch z))]; exact q) fun c xs q => by rw [upd_ne (neH c _ q (fun _ _ z => nomatch z))]; exact q
end
def tLock (t : TS) : TS := fun D σ H => ∃ d u, H d = some u ∧ Mut (some u) ∧ ∀ od, t ⟨fun σ' H' => H' d = some (.frz od u) ∧ D.nx σ' (upd H' d u), fun v H' => H' d = some (.frz od u) ∧ D.rt v (upd H' d u), fun σ' H' => H' d = some (.frz od u) ∧ D.bk σ' (upd H' d u), fun σ' H' => H' d = some (.frz od u) ∧ D.ct σ' (upd H' d u)⟩ σ (upd H d (.frz od u))
def tLockE (t : TE) : TE := fun σ H Q => ∃ d u, H d = some u ∧ Mut (some u) ∧ ∀ od, t σ (upd H d (.frz od u)) fun v H' => H' d = some (.frz od u) ∧ Q v (upd H' d u)
section
variable {X : Cx}
theorem ps_lock {st : Stmt} {t : TS} (h : PS X st t) : PS X st (tLock t) := by
  intro pins s σ H D I hw
  obtain ⟨d, u, hd, mu, hw⟩ := hw
  obtain ⟨od, I1⟩ := I.lock hd mu
  refine thn (h pins s σ _ _ I1 (hw od)) fun f s1 q => ?_
  cases f with
  | next => obtain ⟨σ', H', I2, e, q⟩ := q; exact ⟨σ', _, I2.unlock e (I.nofrz hd mu), q⟩
  | brk => obtain ⟨σ', H', I2, e, q⟩ := q; exact ⟨σ', _, I2.unlock e (I.nofrz hd mu), q⟩
  | cont => obtain ⟨σ', H', I2, e, q⟩ := q; exact ⟨σ', _, I2.unlock e (I.nofrz hd mu), q⟩
  | ret v => obtain ⟨x, σ', H', I2, r, e, q⟩ := q; exact ⟨x, σ', _, I2.unlock e (I.nofrz hd mu), r, q⟩
theorem pe_lock {e : Expr} {t : TE} (h : PE X e t) : PE X e (tLockE t) := by
  intro pins s σ H Q I hw
  obtain ⟨d, u, hd, mu, hw⟩ := hw
  obtain ⟨od, I1⟩ := I.lock hd mu
  refine thn (h pins s σ _ _ I1 (hw od)) fun v s1 ⟨x, H1, I2, r, e2, q⟩ => ?_
  exact ⟨x, _, I2.unlock e2 (I.nofrz hd mu), r, q⟩
theorem pi_one {tg : Expr} {pins : List (Addr × Obj)} {σ : St} {H : Hp} {s : Shared} {R : It → Hp → Prop} {J : It} {tn : Nat → Heap → Prop} {tk : Nat} (I : Inv X pins σ H s) (o : Obj)
    (T : Turn X.prog X.w X.K tg J [s.heap.objs.size] s.heap.objs.size tn) (st : tn 0 (s.heap.push o)) (q : R J H) : PIE X pins σ tg R (.ref s.heap.objs.size) { s with heap := s.heap.push o, toks := tk } := by
  refine ⟨s.heap.objs.size, [s.heap.objs.size], tn, J, H, rfl, I.kept fun b ob e => Heap.get?_push_of_some _ e, T, st, fun b hb => ?_, q⟩
  have e : b = s.heap.objs.size := by simpa using hb
  subst e
  exact I.fpOk (Nat.le_refl _) (I.hok.fresh (Nat.le_refl _))
end
section
variable {X : Cx} {tg : Expr}
end
section
variable {X : Cx} {tg : Expr}
end
section
variable {prog : Program} {w : World} {A : Around} {E : Value → Shared → Prop} {s : Shared}
theorem iter_keys {d : Addr} {o : Obj} {es : Array DictEntry} {ep : Nat} {Q : Value → Shared → Prop} (hd : (d == sysModules) = false) (ho : s.heap.get? d = some o) (hc : o.ExactDict) (hdat : o.data = .dict es ep)
    (hQ : Q (.ref s.heap.objs.size) { s with heap := s.heap.push { cls := .type "dict_keyiterator", data := .fields #[.ref d, .int 0 0, .int es.size 0, .int ep 0] } }) :
    wpAny (model prog w) A (pyIter (.ref d)) Q E s := by
  have hT : s.TypeIs (.ref d) "dict" := ⟨o, ho, hc.1⟩
  refine wpAny_pyIter_slot hT F.slot_dict_iter (wpAny_call_entry F.slot_dict_iter hT F.entry_dict_iter ?_ (F.args_dict_iter_1 _))
  unfold Builtin.«dict.__iter__»
  refine wpAny_bind ?_
  unfold Builtin.Dict.dictSlotNone
  refine wpAny_bind (wpAny_notOrdered_dict hT ?_)
  show wpAny _ _ (pure (Value.ref d)) _ _ s
  refine wpAny_pure ?_
  show wpAny _ _ (Builtin.Dict.showsAll d >>= _) _ _ s
  unfold Builtin.Dict.showsAll
  rw [if_neg (by rw [hd]; exact Bool.false_ne_true)]
  refine wpAny_bind (wpAny_pure ?_)
  refine wpAny_bind (wpAny_dictEntries ho hdat ?_)
  refine wpAny_bind (wpAny_dictEpoch ho hdat ?_)
  refine wpAny_bind (wpAny_newObj_type (wpAny_pure ⟨_, rfl, "dict_keyiterator", _, ⟨_, Heap.get?_push_size _ rfl, rfl⟩, F.slot_dict_keyiterator_next.lookup, ?_⟩))
  simpa [rawInt] using hQ
theorem next_key_item {it d : Addr} {i n ep : Nat} {od : Obj} {es : Array DictEntry} {en : DictEntry} {Q : Option Value → Shared → Prop} (hit : s.heap.IsKeyIter it d i n ep) (hod : s.heap.get? d = some od) (hdd : od.data = .dict es ep)
    (hsz : es.size = n) (hx : es[i]? = some en) (hQ : ∀ h', h'.IsKeyIter it d (i + 1) n ep → Heap.SameBut it s.heap h' → Q (some en.key) { s with heap := h' }) : wpAny (model prog w) A (pyNext (.ref it)) Q E s := by
  obtain ⟨o, ho, hc, hd⟩ := id hit
  unfold pyNext
  refine wpAny_bind (wpAny_attempt (wpAny_callSpecial?_slot (name := Str.ofString "__next__") hit.typeIs F.slot_dict_keyiterator_next
    (wpAny_call_entry F.slot_dict_keyiterator_next hit.typeIs F.entry_dict_keyiterator_next ?_ (F.args_dict_keyiterator_next_1 _))))
  refine wpAny_bind (wpAny_pure ?_)
  refine wpAny_bind ?_
  refine wpAny_bind ?_
  first | refine wpAny_bind (wpAny_typeNameOfWhole_keyiter hit.typeIs (wpAny_pure ?_)) | refine wpAny_bind (wpAny_typeNameOf_keyiter hit.typeIs (wpAny_pure ?_))
  refine wpAny_bind (wpAny_fieldsOf ho hd ?_)
  have hown : Builtin.Dict_items.ownsTuple "dict_keyiterator" = false := by decide
  simp only [hown, Bool.false_eq_true, if_false]
  show wpAny _ _ (if (Value.ref d == Value.none) = true then _ else _) _ _ s
  rw [if_neg (show ¬ ((Value.ref d == Value.none) = true) from Bool.false_ne_true)]
  refine wpAny_bind (wpAny_pure ?_)
  refine wpAny_bind (wpAny_dictEntries hod hdd ?_)
  rw [if_neg (by rw [hsz]; simp)]
  refine wpAny_bind (wpAny_pure ?_)
  refine wpAny_bind (wpAny_dictEpoch hod hdd ?_)
  rw [if_neg (by simp)]
  refine wpAny_pure ?_
  obtain ⟨hlt', hen⟩ := Array.getElem?_eq_some_iff.mp hx
  simp only [show ¬ ((i : Int) < 0) from by omega, if_false, Int.toNat_natCast, Array.getElem?_eq_getElem hlt']
  refine wpAny_bind ?_
  first | refine wpAny_bind (wpAny_typeNameOfWhole_keyiter hit.typeIs (wpAny_pure ?_)) | refine wpAny_bind (wpAny_typeNameOf_keyiter hit.typeIs (wpAny_pure ?_))
  refine wpAny_bind (wpAny_isOneOf_keyiter hit.typeIs ?_)
  show wpAny _ _ (setField (.ref it) 1 (rawInt ((i : Int) + 1)) >>= _) _ _ s
  refine wpAny_bind (wpAny_setField ho hd (by simp) ?_)
  have hit' : (s.heap.update it (Obj.mapFields (·.setIfInBounds 1 (rawInt ((i : Int) + 1))))).IsKeyIter it d (i + 1) n ep :=
    ⟨_, Heap.get?_update_self _ ho (Obj.isFreed_of_fields (Obj.data_mapFields hd _)), (Obj.cls_mapFields ..).trans hc, by rw [Obj.data_mapFields hd]; simp [rawInt]⟩
  refine wpAny_bind (wpAny_holding ?_)
  refine wpAny_bind (wpAny_isOneOf_keyiter (s := { s with heap := s.heap.update it (Obj.mapFields (·.setIfInBounds 1 (rawInt ((i : Int) + 1)))) }) hit'.typeIs ?_)
  show wpAny _ _ (pure es[i].key) _ _ _
  rw [hen]
  exact wpAny_pure (wpAny_pure ⟨_, rfl, wpAny_pure (hQ _ hit' (Heap.SameBut.update ..))⟩)
theorem next_key_end {it d : Addr} {i n ep : Nat} {od : Obj} {es : Array DictEntry} {Q : Option Value → Shared → Prop} (hh : A.handled = none) (hit : s.heap.IsKeyIter it d i n ep) (hod : s.heap.get? d = some od) (hdd : od.data = .dict es ep)
    (hsz : es.size = n) (hge : n ≤ i) (hQ : ∀ h', Heap.ExtBut it s.heap h' → Q none { s with heap := h' }) : wpAny (model prog w) A (pyNext (.ref it)) Q E s := by
  obtain ⟨o, ho, hc, hd⟩ := id hit
  unfold pyNext
  refine wpAny_bind (wpAny_attempt (wpAny_callSpecial?_slot (name := Str.ofString "__next__") hit.typeIs F.slot_dict_keyiterator_next
    (wpAny_call_entry F.slot_dict_keyiterator_next hit.typeIs F.entry_dict_keyiterator_next ?_ (F.args_dict_keyiterator_next_1 _))))
  refine wpAny_bind (wpAny_pure ?_)
  refine wpAny_bind ?_
  refine wpAny_bind ?_
  first | refine wpAny_bind (wpAny_typeNameOfWhole_keyiter hit.typeIs (wpAny_pure ?_)) | refine wpAny_bind (wpAny_typeNameOf_keyiter hit.typeIs (wpAny_pure ?_))
  refine wpAny_bind (wpAny_fieldsOf ho hd ?_)
  have hown : Builtin.Dict_items.ownsTuple "dict_keyiterator" = false := by decide
  simp only [hown, Bool.false_eq_true, if_false]
  show wpAny _ _ (if (Value.ref d == Value.none) = true then _ else _) _ _ s
  rw [if_neg (show ¬ ((Value.ref d == Value.none) = true) from Bool.false_ne_true)]
  refine wpAny_bind (wpAny_pure ?_)
  refine wpAny_bind (wpAny_dictEntries hod hdd ?_)
  rw [if_neg (by rw [hsz]; simp)]
  refine wpAny_bind (wpAny_pure ?_)
  refine wpAny_bind (wpAny_dictEpoch hod hdd ?_)
  rw [if_neg (by simp)]
  refine wpAny_pure ?_
  have hge' : es.size ≤ i := by rw [hsz]; exact hge
  simp only [show ¬ ((i : Int) < 0) from by omega, if_false, Int.toNat_natCast, Array.getElem?_eq_none hge']
  refine wpAny_bind ?_
  first | refine wpAny_bind (wpAny_typeNameOfWhole_keyiter hit.typeIs (wpAny_pure ?_)) | refine wpAny_bind (wpAny_typeNameOf_keyiter hit.typeIs (wpAny_pure ?_))
  show wpAny _ _ (setField (.ref it) 0 .none >>= _) _ _ s
  refine wpAny_bind (wpAny_setField ho hd (by simp) ?_)
  show wpAny _ _ (newExc (.type "StopIteration") [] >>= _) _ _ _
  refine wpAny_bind ?_
  simp only [newExc, newTuple]
  refine wpAny_bind (wpAny_newObj_type ?_ (by size_fits))
  refine wpAny_bind (m := firstArgMember _ _) (wpAny_of_eq (a := Value.none) (by first | rfl | (simp only [firstArgMember]; rfl)) ?_)
  refine wpAny_newObj_type ?_ (by size_fits)
  simp only [raiseNew]
  refine wpAny_bind (wpAny_handled ?_)
  rw [show A.in1.handled = none from hh]
  refine wpAny_bind (wpAny_pure (wpAny_throw ?_))
  refine wpAny_bind (wpAny_isInstance (T := "StopIteration") (b := true) ⟨_, Heap.get?_push_size _ rfl, rfl⟩ isSubtype_stop ?_)
  exact wpAny_pure (hQ _ (((Heap.SameBut.update ..).extBut.push _).push _))
end
theorem kv_get {κ : Type} {kvs : List (κ × V)} {vs : List (κ × Value)} (h : KV kvs vs) : ∀ {i : Nat} {k : κ} {v : V}, kvs[i]? = some (k, v) → ∃ u, vs[i]? = some (k, u) ∧ RelV v u := by
  unfold KV at h
  induction h with
  | nil => intro i k v e; simp at e
  | @cons a b l₁ l₂ r t ih =>
    intro i k v e
    cases i with
    | zero =>
      simp only [List.getElem?_cons_zero, Option.some.injEq] at e
      subst e
      refine ⟨b.2, ?_, r.2⟩
      simp only [List.getElem?_cons_zero]
      exact congrArg some (Prod.ext r.1.symm rfl)
    | succ j =>
      simp only [List.getElem?_cons_succ] at e ⊢
      exact ih e
theorem paired_get {α β : Type} {G : α → β → Prop} {l₁ : List α} {l₂ : List β} (h : Paired G l₁ l₂) : ∀ {i : Nat} {a : α}, l₁[i]? = some a → ∃ b, l₂[i]? = some b ∧ G a b := by
  induction h with
  | nil => intro i a e; simp at e
  | @cons a b l₁ l₂ r t ih =>
    intro i a' e
    cases i with
    | zero =>
      simp only [List.getElem?_cons_zero, Option.some.injEq] at e
      subst e
      exact ⟨b, rfl, r⟩
    | succ j =>
      simp only [List.getElem?_cons_succ] at e ⊢
      exact ih e
theorem relV_key {k : Key} {u : Value} (h : keyIs k u = true) : RelV (kV k) u := by
  rcases keyIs_shape h with ⟨i, t, rfl, rfl⟩ | ⟨x, t, rfl, rfl⟩
  · exact ⟨t, rfl⟩
  · exact ⟨t, rfl⟩
section
variable {X : Cx} {pins : List (Addr × Obj)} {σ : St} {H : Hp} {s : Shared} {d : Addr} {o : Obj}
theorem Inv.frzK {kvs : List (Key × V)} (I : Inv X pins σ H s) (h : H d = some (.frz o (.dK kvs))) :
    (d == sysModules) = false ∧ s.heap.get? d = some o ∧ o.ExactDict ∧ ∃ (es : Array DictEntry) (ep : Nat) (vs : List (Key × Value)), o.data = .dict es ep ∧ es.size = kvs.length ∧ KV kvs vs ∧ s.heap.DictAt (mixKind X.prog X.w) d vs ep := by
  obtain ⟨hd, z, hs, vs, kv, o', es, ep, ho, hx, hdt, r⟩ := I.hok d _ h
  rw [hd] at ho
  cases ho
  refine ⟨hs, hd, hx, es, ep, vs, hdt, ?_, kv, o, es, hd, hx, hdt, r⟩
  have l1 := r.2.1.length
  have l2 : kvs.length = vs.length := Paired.length kv
  rw [Array.length_toList] at l1
  omega
theorem Inv.frzT {kvs : List (List Key × V)} (I : Inv X pins σ H s) (h : H d = some (.frz o (.dT kvs))) :
    (d == sysModules) = false ∧ s.heap.get? d = some o ∧ o.ExactDict ∧ ∃ (es : Array DictEntry) (ep : Nat), o.data = .dict es ep ∧ es.size = kvs.length ∧
      ∀ (i : Nat) (k : List Key) (v : V), kvs[i]? = some (k, v) → ∃ (en : DictEntry) (q : Addr), es[i]? = some en ∧ en.key = .ref q ∧ H q = some (.tup (k.map kV)) := by
  obtain ⟨hd, z, hs, xs, pr, o', es, ep, ho, hx, hdt, he, _⟩ := I.hok d _ h
  rw [hd] at ho
  cases ho
  refine ⟨hs, hd, hx, es, ep, hdt, ?_, fun i k v e => ?_⟩
  · have l1 : es.size = xs.length := size_of_entries he
    have l2 : kvs.length = xs.length := Paired.length pr
    omega
  · obtain ⟨b, hb, e1, e2, _⟩ := paired_get pr e
    have q := entry_at he i
    rw [hb] at q
    exact ⟨_, b.2.1, q, rfl, e2⟩
end
def Itk (d : Addr) (o : Obj) (kvs : List (Key × V)) : It :=
  ⟨fun i H => H d = some (.frz o (.dK kvs)) ∧ i < kvs.length, fun i H x H' => H' = H ∧ ∃ k v, kvs[i]? = some (k, v) ∧ x = kV k, fun i H => H d = some (.frz o (.dK kvs)) ∧ kvs.length ≤ i⟩
def Itkt (d : Addr) (o : Obj) (kvs : List (List Key × V)) : It :=
  ⟨fun i H => H d = some (.frz o (.dT kvs)) ∧ i < kvs.length, fun i H x H' => H' = H ∧ ∃ (k : List Key) (v : V) (q : Addr), kvs[i]? = some (k, v) ∧ x = .ref q ∧ H q = some (.tup (k.map kV)), fun i H => H d = some (.frz o (.dT kvs)) ∧ kvs.length ≤ i⟩
def Itd (d : Addr) (o : Obj) (kvs : List (Key × V)) : It :=
  ⟨fun i H => H d = some (.frz o (.dK kvs)) ∧ i < kvs.length, fun i H x H' => H' = H ∧ ∃ k, kvs[i]? = some (k, x), fun i H => H d = some (.frz o (.dK kvs)) ∧ kvs.length ≤ i⟩
theorem dict_ep {o : Obj} {es es' : Array DictEntry} {ep ep' : Nat} (h : o.data = .dict es ep) (h' : o.data = .dict es' ep') : es' = es ∧ ep' = ep := by
  rw [h] at h'
  cases h'
  exact ⟨rfl, rfl⟩
section
variable {P : Program} {w : World} {K : PySem.W.Frag} {tg : Expr} {d : Addr} {o : Obj} {es : Array DictEntry} {ep : Nat}
theorem turn_keys {kvs : List (Key × V)} (it : Addr) (hod : o.data = .dict es ep) : Turn P w K tg (Itk d o kvs) [it] it (fun i h => h.IsKeyIter it d i kvs.length ep) where
  mem := by simp
  obj := fun i h st b hb => by
    have e : b = it := by simpa using hb
    subst e
    obtain ⟨oi, e, c, dd⟩ := st
    exact ⟨oi, e, fun v z => by rw [dd] at z; cases z⟩
  keep := fun i h h' st k => st.at fun oi e => k it (by simp) oi e
  item := by
    intro X hP hw hK hc i pins s σ H E I hf st hg
    subst hP hw hK
    obtain ⟨hd, hi⟩ := hg
    obtain ⟨f0, f1, f2, f3, f4, f5⟩ := hf it (by simp)
    obtain ⟨hs, hgd, hx, es', ep', vs, hdt, hsz, kv, hm⟩ := I.frzK hd
    obtain ⟨rfl, rfl⟩ := dict_ep hod hdt
    obtain ⟨⟨k, v⟩, hkv⟩ : ∃ p, kvs[i]? = some p := ⟨kvs[i], List.getElem?_eq_getElem hi⟩
    obtain ⟨u, hu, ru⟩ := kv_get kv hkv
    have hl : kvs.length = vs.length := Paired.length kv
    rw [hl] at st
    refine wpAny_pyNext_dict_item st hm hu fun key h' hkey st' sb => ?_
    have I1 : Inv X pins σ H { s with heap := h' } := I.turned (t' := s.toks) (fun b ob hb e => (sb.2 b hb).trans e) f0 f1 f3 f4 f5
    obtain ⟨oi, e, c, dd⟩ := id st'
    refine ⟨key, rfl, go_of (s := { s with heap := h' }) e c dd (by decide) ⟨kV k, H, I1, relV_key (show keyIs k key = true from hkey), ⟨rfl, k, v, hkv, rfl⟩, ?_, fun b hb => (hf b hb).1⟩⟩
    show h'.IsKeyIter it d (i + 1) kvs.length _
    rw [hl]
    exact st'
  done := by
    intro X hP hw hK hc i pins s σ H E I hf st hg
    subst hP hw hK
    obtain ⟨hd, hi⟩ := hg
    obtain ⟨f0, f1, f2, f3, f4, f5⟩ := hf it (by simp)
    obtain ⟨hs, hgd, hx, es', ep', vs, hdt, hsz, kv, hm⟩ := I.frzK hd
    obtain ⟨rfl, rfl⟩ := dict_ep hod hdt
    exact next_key_end (I.ok.hd hc) st hgd hdt hsz hi fun h' eb => ⟨rfl, I.turned (t' := s.toks) (fun b ob hb e => eb b ob hb e) f0 f1 f3 f4 f5⟩
  self := fun A i s Q E st h => wpAny_pyIter_keyiter st h
theorem turn_keysT {kvs : List (List Key × V)} (it : Addr) (hod : o.data = .dict es ep) : Turn P w K tg (Itkt d o kvs) [it] it (fun i h => h.IsKeyIter it d i kvs.length ep) where
  mem := by simp
  obj := fun i h st b hb => by
    have e : b = it := by simpa using hb
    subst e
    obtain ⟨oi, e, c, dd⟩ := st
    exact ⟨oi, e, fun v z => by rw [dd] at z; cases z⟩
  keep := fun i h h' st k => st.at fun oi e => k it (by simp) oi e
  item := by
    intro X hP hw hK hc i pins s σ H E I hf st hg
    subst hP hw hK
    obtain ⟨hd, hi⟩ := hg
    obtain ⟨f0, f1, f2, f3, f4, f5⟩ := hf it (by simp)
    obtain ⟨hs, hgd, hx, es', ep', hdt, hsz, ent⟩ := I.frzT hd
    obtain ⟨rfl, rfl⟩ := dict_ep hod hdt
    obtain ⟨⟨k, v⟩, hkv⟩ : ∃ p, kvs[i]? = some p := ⟨kvs[i], List.getElem?_eq_getElem hi⟩
    obtain ⟨en, q, hen, hkey, hq⟩ := ent i k v hkv
    refine next_key_item st hgd hdt hsz hen fun h' st' sb => ?_
    have I1 : Inv X pins σ H { s with heap := h' } := I.turned (t' := s.toks) (fun b ob hb e => (sb.2 b hb).trans e) f0 f1 f3 f4 f5
    obtain ⟨oi, e, c, dd⟩ := id st'
    exact ⟨en.key, rfl, go_of (s := { s with heap := h' }) e c dd (by decide) ⟨.ref q, H, I1, hkey, ⟨rfl, k, v, q, hkv, rfl, hq⟩, st', fun b hb => (hf b hb).1⟩⟩
  done := by
    intro X hP hw hK hc i pins s σ H E I hf st hg
    subst hP hw hK
    obtain ⟨hd, hi⟩ := hg
    obtain ⟨f0, f1, f2, f3, f4, f5⟩ := hf it (by simp)
    obtain ⟨hs, hgd, hx, es', ep', hdt, hsz, ent⟩ := I.frzT hd
    obtain ⟨rfl, rfl⟩ := dict_ep hod hdt
    exact next_key_end (I.ok.hd hc) st hgd hdt hsz hi fun h' eb => ⟨rfl, I.turned (t' := s.toks) (fun b ob hb e => eb b ob hb e) f0 f1 f3 f4 f5⟩
  self := fun A i s Q E st h => by
    refine wpAny_pyIter_slot st.typeIs F.slot_dict_keyiterator_iter (wpAny_call_entry F.slot_dict_keyiterator_iter st.typeIs F.entry_dict_keyiterator_iter ?_ (F.args_dict_keyiterator_iter_1 _))
    show wpAny _ _ (ret (.ref it)) _ _ s
    exact wpAny_pure ⟨_, rfl, "dict_keyiterator", _, st.typeIs, F.slot_dict_keyiterator_next.lookup, h⟩
theorem turn_vals {kvs : List (Key × V)} (it : Addr) (hod : o.data = .dict es ep) : Turn P w K tg (Itd d o kvs) [it] it (fun i h => h.IsValIter it d i kvs.length ep) where
  mem := by simp
  obj := fun i h st b hb => by
    have e : b = it := by simpa using hb
    subst e
    obtain ⟨oi, e, c, dd⟩ := st
    exact ⟨oi, e, fun v z => by rw [dd] at z; cases z⟩
  keep := fun i h h' st k => st.at fun oi e => k it (by simp) oi e
  item := by
    intro X hP hw hK hc i pins s σ H E I hf st hg
    subst hP hw hK
    obtain ⟨hd, hi⟩ := hg
    obtain ⟨f0, f1, f2, f3, f4, f5⟩ := hf it (by simp)
    obtain ⟨hs, hgd, hx, es', ep', vs, hdt, hsz, kv, hm⟩ := I.frzK hd
    obtain ⟨rfl, rfl⟩ := dict_ep hod hdt
    obtain ⟨⟨k, v⟩, hkv⟩ : ∃ p, kvs[i]? = some p := ⟨kvs[i], List.getElem?_eq_getElem hi⟩
    obtain ⟨u, hu, ru⟩ := kv_get kv hkv
    have hl : kvs.length = vs.length := Paired.length kv
    rw [hl] at st
    refine wpAny_pyNext_values_item st hm hu fun h' st' sb => ?_
    have I1 : Inv X pins σ H { s with heap := h' } := I.turned (t' := s.toks) (fun b ob hb e => (sb.2 b hb).trans e) f0 f1 f3 f4 f5
    obtain ⟨oi, e, c, dd⟩ := id st'
    refine ⟨u, rfl, go_of (s := { s with heap := h' }) e c dd (by decide) ⟨v, H, I1, ru, ⟨rfl, k, hkv⟩, ?_, fun b hb => (hf b hb).1⟩⟩
    show h'.IsValIter it d (i + 1) kvs.length _
    rw [hl]
    exact st'
  done := by
    intro X hP hw hK hc i pins s σ H E I hf st hg
    subst hP hw hK
    obtain ⟨hd, hi⟩ := hg
    obtain ⟨f0, f1, f2, f3, f4, f5⟩ := hf it (by simp)
    obtain ⟨hs, hgd, hx, es', ep', vs, hdt, hsz, kv, hm⟩ := I.frzK hd
    obtain ⟨rfl, rfl⟩ := dict_ep hod hdt
    have hl : kvs.length = vs.length := Paired.length kv
    rw [hl] at st
    exact wpAny_pyNext_values_end (I.ok.hd hc) st hm (List.getElem?_eq_none (by omega)) fun h' eb => ⟨rfl, I.turned (t' := s.toks) (fun b ob hb e => eb b ob hb e) f0 f1 f3 f4 f5⟩
  self := fun A i s Q E st h => wpAny_pyIter_valiter st h
end
def iKeys (td : TE) : TI := fun σ H R => td σ H fun x H1 => ∃ d o, x = .ref d ∧ ((∃ kvs, H1 d = some (.frz o (.dK kvs)) ∧ R (Itk d o kvs) H1) ∨ ∃ kvs, H1 d = some (.frz o (.dT kvs)) ∧ R (Itkt d o kvs) H1)
def iVals (td : TE) : TI := fun σ H R => td σ H fun x H1 => ∃ d o kvs, x = .ref d ∧ H1 d = some (.frz o (.dK kvs)) ∧ R (Itd d o kvs) H1
section
variable {X : Cx} {tg e : Expr} {td : TE} {apos cpos : Pos}
theorem pi_keys (he : PE X e td) : PI X tg e (iKeys td) := by
  intro pins s σ H R I h
  refine thn (he pins s σ H _ I h) fun u s1 ⟨x, H1, I1, rx, d, o, ex, q⟩ => ?_
  subst ex
  obtain rfl : u = Value.ref d := rx
  rcases q with ⟨kvs, hd, q⟩ | ⟨kvs, hd, q⟩
  · obtain ⟨hs, hgd, hx, es, ep, vs, hdt, hsz, kv, hm⟩ := I1.frzK hd
    refine iter_keys hs hgd hx hdt (pi_one (tk := s1.toks) I1 _ (turn_keys _ hdt) ⟨_, Heap.get?_push_size _ rfl, rfl, ?_⟩ q)
    rw [hsz] <;> rfl
  · obtain ⟨hs, hgd, hx, es, ep, hdt, hsz, ent⟩ := I1.frzT hd
    refine iter_keys hs hgd hx hdt (pi_one (tk := s1.toks) I1 _ (turn_keysT _ hdt) ⟨_, Heap.get?_push_size _ rfl, rfl, ?_⟩ q)
    rw [hsz] <;> rfl
theorem pi_values (he : PE X e td) (hbase : attributeBase e "values" X.env (eval e X.env) = eval e X.env := by rfl) (hline : (apos.endLine == cpos.line) = true := by rfl) : PI X tg (.Call (.Attribute e "values" apos) [] [] cpos) (iVals td) := by
  intro pins s σ H R I h
  refine wpAny_Call_method (T := "dict") (id := "dict.values") hbase rfl hline F.plainAttrs_dict F.slot_dict_values F.type_dict_values (thn (he pins s σ H _ I h) fun u s1 ⟨x, H1, I1, rx, d, o, kvs, ex, hd, q⟩ => ?_)
  subst ex
  obtain rfl : u = Value.ref d := rx
  obtain ⟨hs, hgd, hx, es, ep, vs, hdt, hsz, kv, hm⟩ := I1.frzK hd
  have hl : kvs.length = vs.length := Paired.length kv
  refine ⟨hm.dictOf.typeIs, hm.dictOf.mapOf.noDict, ?_⟩
  have I2 : Inv X pins σ H1 { s1 with heap := s1.heap.push { cls := .type "dict_values", data := .fields #[.ref d] } } := I1.kept (t' := s1.toks) fun b ob q => Heap.get?_push_of_some _ q
  have fin : wpAny (model X.prog X.w) X.A (pyIter (.ref s1.heap.objs.size)) (PIE X pins σ tg R) X.xe { s1 with heap := s1.heap.push { cls := .type "dict_values", data := .fields #[.ref d] } } := by
    refine wpAny_pyIter_values (d := d) (knd := mixKind X.prog X.w) ⟨_, Heap.get?_push_size _ rfl, rfl, rfl⟩ (hm.push _) (pi_one (tk := s1.toks) I2 _ (turn_vals _ hdt) ⟨_, Heap.get?_push_size _ rfl, rfl, ?_⟩ q)
    rw [hl] <;> rfl
  show wpAny _ _ (callWith cpos (.builtin "dict.values") [.ref d] [] []) _ X.xe s1
  exact method_meetsIn F.slot_dict_values F.entry_dict_values rfl (PySem.evalArgs_none ⟨rfl, hm.dictOf.typeIs, F.args_dict_values_1 _, _, meets_dict_values (mixKind X.prog X.w) d hs, ⟨vs, hm.dictOf⟩, fin⟩)
end
end L2
section
namespace Bits
open PySem PyProof.Rows
end Bits
end
section
namespace TL
open PySem PySem.Builtin PySem.Builtin.Str PySem.StrLaws
abbrev tl (x : Str) : List Nat := x.cps.toList
theorem len_tl (x : Str) : x.length = (tl x).length := by simp [tl, Str.length]
def pre (S l : List Nat) : Bool := l.take S.length == S
def par (S : List Nat) : List Nat → List Nat → Option (List Nat × List Nat)
  | _, [] => none
  | acc, c :: r => if pre S (c :: r) = true then some (acc, (c :: r).drop S.length) else par S (acc ++ [c]) r
theorem len1 {y : Str} (hy : tl y ≠ []) : 1 ≤ y.length := by
  have e2 : 0 < (tl y).length := List.length_pos_iff.mpr hy
  rw [len_tl y]
  exact e2
end TL
end
namespace L2
open PySem PySem.Spec PyProof.Rows
section
variable {X : Cx} {pins : List (Addr × Obj)} {σ : St} {H : Hp} {s : Shared} {Q : VK}
end
section
variable {X : Cx}
end
section
variable {X : Cx} {o e : Expr} {to te : TE}
end
end L2
namespace L2
open PySem PySem.Spec PyProof.Rows
section
variable {X : Cx}
end
end L2
namespace Att
open PySem PySem.W PySem.Calls PyProof.Rows
section
variable {prog : Program} {w : World} {A : Around} {E : Value → Shared → Prop} {s : Shared} {K : Frag}
end
end Att
namespace L2
open PySem PySem.Spec PyProof.Rows
end L2
namespace L2
open PySem PySem.Spec PyProof.Rows
end L2
namespace L2
open PySem PySem.Spec PyProof.Rows
def inClass (s : Stmt) (j : Nat) : Stmt := match s with
  | .ClassDef _ _ _ body _ _ _ _ _ _ _ => body.getD j (.Pass ⟨0, 0, 0, 0⟩)
  | _ => .Pass ⟨0, 0, 0, 0⟩
def defArgs (s : Stmt) : Arguments := match s with
  | .FunctionDef _ a _ _ _ _ _ _ _ _ => a
  | _ => { posonlyargs := [], args := [], vararg := none, kwonlyargs := [], kw_defaults := [], kwarg := none, defaults := [] }
def defBody (s : Stmt) : List Stmt := match s with
  | .FunctionDef _ _ b _ _ _ _ _ _ _ => b
  | _ => []
def defScope (s : Stmt) : Scope := match s with
  | .FunctionDef _ _ _ _ _ _ sc _ _ _ => sc
  | _ => { kind := .function, names := [], isGenerator := false, isCoroutine := false }
abbrev CX0 : CXT := fun _ _ _ _ _ _ => False
abbrev E0 : XK := fun _ _ _ => False
theorem pass0 {X : Cx} : Passes CX0 X E0 := fun _ _ _ _ _ _ _ h => h.elim
structure Fun (K : PySem.W.Frag) (x qual : Str) (st : Stmt) (f : Addr) (fd : FuncData) : Prop where
  ex : ∃ (oc : Value) (od : Option Addr) (kV doc pm : Value) (an : Option Addr) (cdv ct : Value) (osl : Array (Option Value)),
    fd = PySem.W.fnOf x qual (defArgs st) (defBody st) (defScope st) .none kV doc pm an cdv ct ∧ K.lookup f = some ⟨oc, od, .func fd, osl⟩ ∧ PySem.W.codeIn K cdv qual = true
  kp : PySem.W.keepIn K (.ref f) = true
section
variable {P : Program} {w : World} {K : PySem.W.Frag} {mg : Str → Option Value} {base : Heap}
theorem Fun.ok {x qual : Str} {st : Stmt} {f : Addr} {fd : FuncData} {N ps : List Str} {k : Nat} {sp : Sp} (F : Fun K x qual st f fd) (S : FnScope N ps (defScope st)) (len : ∀ vs H Q E, sp vs H Q E → vs.length = ps.length)
    (hbody : ∀ (cdv : Value) (A : Around) (outer : List Env) (s : Shared) (H : Hp) (vs : List V) (Q : VK) (E : XK), Room k (A.deeper (envOfC qual (defScope st) s.heap.objs.size f cdv)) → sp vs H Q E →
      ∃ t, PSs (cxOf CX0 P w K mg base N qual (defScope st) f cdv A outer s H E).nox (defBody st) t ∧ t { nx := fun _ H' => Q .non H', rt := Q } (start N vs) H) : FnOk P w K mg base CX0 (k + 1) f fd ps sp := by
  obtain ⟨oc, od, kV, doc, pm, an, cdv, ct, osl, rfl, lk, hcd⟩ := F.ex
  refine fn_of lk hcd S len fun A outer s H vs Q E hr hsp => ?_
  obtain ⟨t, h, q⟩ := hbody cdv A outer s H vs Q E hr hsp
  exact ⟨t, h.nox, q⟩
theorem Fun.binds {x qual : Str} {st : Stmt} {f : Addr} {fd : FuncData} {ps : List Str} (F : Fun K x qual st f fd)
    (h : ∀ (kV doc pm : Value) (an : Option Addr) (cdv ct : Value) (us : List Value), us.length = ps.length → bindArgs (PySem.W.fnOf x qual (defArgs st) (defBody st) (defScope st) .none kV doc pm an cdv ct) ⟨us, []⟩ = pure (ps.zip us)) : Binds K fd ps [] := by
  obtain ⟨oc, od, kV, doc, pm, an, cdv, ct, osl, rfl, lk, hcd⟩ := F.ex
  exact .all (h kV doc pm an cdv ct)
theorem fun_mk {x qual : Str} {st : Stmt} {f : Addr} {oc : Value} {od an : Option Addr} {osl : Array (Option Value)} {kV doc pm cdv ct : Value} (l : K.lookup f = some ⟨oc, od, .func (PySem.W.fnOf x qual (defArgs st) (defBody st) (defScope st) .none kV doc pm an cdv ct), osl⟩)
    (c : PySem.W.codeIn K cdv qual = true) (k : PySem.W.keepIn K (.ref f) = true) : Fun K x qual st f (PySem.W.fnOf x qual (defArgs st) (defBody st) (defScope st) .none kV doc pm an cdv ct) := ⟨⟨oc, od, kV, doc, pm, an, cdv, ct, osl, rfl, l, c⟩, k⟩
end
theorem hu_of {A : Around} {k : Nat} (hr : Room k A) : A.units + 1 < cLine := Nat.lt_of_le_of_lt (Nat.add_le_add_left (by decide : 1 ≤ 64) _) hr.units
section
variable {X : Cx}
theorem pv (i : Nat) {x : Str} {pos : Pos} (hN : X.N[i]? = some x := by rfl) (hv : Vis X.env.scope x := by first | exact Or.inl rfl | exact Or.inr (Or.inl rfl) | exact Or.inr (Or.inr rfl)) (hd : (x == ("__debug__" : Str)) = false := by decide)
    (hcd : (x == ("__classdict__" : Str)) = false := by decide) : PE X (.Name x pos) (tVar i) := pe_var hN hv hd hcd
theorem call_lenD : CallR X (.builtin "len") (fun xs H Q => ∃ a kvs, xs = [V.ref a] ∧ H a = some (.dK kvs) ∧ Q (.int kvs.length) H) := by
  intro pins s σ H xs us Q I r h
  obtain ⟨a, kvs, rfl, ha, q⟩ := h
  obtain ⟨u, rfl, ru⟩ := vals1 r
  cases ru
  exact d_len I (.inl ha) fun t s' I' => ⟨.int kvs.length, H, I', ⟨t, rfl⟩, q⟩
end
theorem ite2 {c A B : Prop} [Decidable c] (h1 : c → A) (h2 : ¬ c → B) : if c then A else B := by
  by_cases h : c
  · rw [if_pos h]
    exact h1 h
  · rw [if_neg h]
    exact h2 h
def Same (H H' : Hp) : Prop := ∀ b o, H b = some o → H' b = some o
theorem Same.refl (H : Hp) : Same H H := fun _ _ h => h
theorem Same.trans {H H1 H2 : Hp} (a : Same H H1) (b : Same H1 H2) : Same H H2 := fun c o h => b c o (a c o h)
theorem Same.free {H H' : Hp} (e : Same H H') {l : Addr} (h : H' l = Option.none) : H l = Option.none := by
  cases q : H l with
  | none => rfl
  | some o =>
    rw [e l o q] at h
    cases h
theorem Same.seq {K : PySem.W.Frag} {H H' : Hp} {a : Addr} {xs : List V} (e : Same H H') (h : SqL K H a xs) : SqL K H' a xs := by
  rcases h with (h | ⟨o, h⟩) | h
  · exact .inl (.inl (e _ _ h))
  · exact .inl (.inr ⟨o, e _ _ h⟩)
  · exact .inr h
section
variable {κ : Type} [DecidableEq κ]
theorem valV_not {kvs : List (κ × V)} {k : κ} (h : valV kvs k = none) : ¬ k ∈ kvs.map (·.1) := by
  intro m
  obtain ⟨p, hp, e⟩ := List.mem_map.mp m
  have q : (kvs.any fun kv => decide (kv.1 = k)) = true := List.any_eq_true.mpr ⟨p, hp, decide_eq_true e⟩
  rw [valV_any, h] at q
  exact absurd q (by simp)
theorem dropK_pos {p : κ × V} {r : List (κ × V)} {k : κ} (e : p.1 = k) : dropK (p :: r) k = dropK r k := by
  unfold dropK
  rw [List.filter_cons, if_neg (by simp [e])]
theorem dropK_neg {p : κ × V} {r : List (κ × V)} {k : κ} (e : ¬ p.1 = k) : dropK (p :: r) k = p :: dropK r k := by
  unfold dropK
  rw [List.filter_cons, if_pos (by simp [e])]
theorem dropK_no : ∀ {kvs : List (κ × V)} {k : κ}, ¬ k ∈ kvs.map (·.1) → dropK kvs k = kvs
  | [], _, _ => rfl
  | p :: r, k, h => by
    have h' : ¬ k ∈ r.map (·.1) := fun m => by
      obtain ⟨q, hq, e⟩ := List.mem_map.mp m
      exact h (List.mem_map.mpr ⟨q, List.mem_cons.mpr (Or.inr hq), e⟩)
    rw [dropK_neg fun e => h (List.mem_map.mpr ⟨p, List.mem_cons.mpr (Or.inl rfl), e⟩), dropK_no h']
end
theorem at_of {xs : List V} {z : Int} {j : Nat} {v : V} (e : z = (j : Int)) (h : xs[j]? = some v) : atI xs z = some v := by
  rw [e]
  exact atI_nat h
theorem sum_take : ∀ {l : List Int} {i : Nat} {z : Int}, l[i]? = some z → (l.take (i + 1)).sum = (l.take i).sum + z
  | [], i, z, h => by simp at h
  | a :: r, 0, z, h => by
    have e : a = z := Option.some.inj h
    subst e
    show ([a] : List Int).sum = ([] : List Int).sum + a
    rw [List.sum_cons]
    exact Int.add_comm _ _
  | a :: r, i + 1, z, h => by
    have ih := sum_take (l := r) (i := i) (z := z) h
    show (a :: r.take (i + 1)).sum = (a :: r.take i).sum + z
    rw [List.sum_cons, List.sum_cons, ih]
    omega
theorem Same.made {H H1 : Hp} {x dx C : Addr} (nx : H x = Option.none) (nd : H dx = Option.none) (k : ∀ b o, (upd (upd H dx (.own x)) x (.ins C dx [])) b = some o → b ≠ x → H1 b = some o) : Same H H1 := fun b o e =>
  k b o (by rw [upd_ne (ne_of_none e nx), upd_ne (ne_of_none e nd)]; exact e) (ne_of_none e nx)
end L2
end
section
set_option Elab.async false
set_option linter.all false
set_option maxRecDepth 100000
set_option maxHeartbeats 2000000
namespace L2
open PySem PySem.Spec PyProof.Rows
open PySem.W (WData Codec OpenSpec Well WellAll ReadsW ReadsAllW)
mutual
inductive Dw (K : PySem.W.Frag) (H : Hp) : V → WData → Prop
  | non : Dw K H .non .none
  | bl (b : Bool) : Dw K H (.bl b) (.bool b)
  | int (i : Int) : Dw K H (.int i) (.int i)
  | str (x : Str) : Dw K H (.str x) (.str x)
  | byt (b : Array UInt8) : Dw K H (.byt b) (.bytes b.toList)
  | lst {a : Addr} {xs : List V} {ds : List WData} : SqL K H a xs → DwAll K H xs ds → Dw K H (.ref a) (.list ds)
  | tup {a : Addr} {xs : List V} {ds : List WData} : SqT K H a xs → DwAll K H xs ds → Dw K H (.ref a) (.tuple ds)
inductive DwAll (K : PySem.W.Frag) (H : Hp) : List V → List WData → Prop
  | nil : DwAll K H [] []
  | cons {v : V} {vs : List V} {d : WData} {ds : List WData} : Dw K H v d → DwAll K H vs ds → DwAll K H (v :: vs) (d :: ds)
end
theorem dw_ints {K : PySem.W.Frag} {H : Hp} : ∀ ns : List Int, DwAll K H (ns.map V.int) (ns.map WData.int)
  | [] => .nil
  | n :: r => .cons (.int n) (dw_ints r)
theorem ints_dw {K : PySem.W.Frag} {H : Hp} : ∀ (ns : List Int) (xs : List V), DwAll K H xs (ns.map WData.int) → xs = ns.map V.int
  | [], xs, h => by
    cases h
    rfl
  | n :: r, xs, h => by
    cases h with
    | cons h1 h2 =>
      cases h1
      rw [ints_dw r _ h2] <;> rfl
section
variable {P : Program} {w : World} {K : PySem.W.Frag} {H : Hp} {h : Heap} {R : PySem.W.WRecords} {cl : Str → Option Addr}
theorem sqL_at {a : Addr} {xs : List V} (hok : HOk P w H h) (KX : K.In h) (q : SqL K H a xs) : ∃ (its : List Value) (o : Obj) (n : Nat), Vals xs its ∧ h.get? a = some o ∧ o.cls = .type "list" ∧ o.data = .seq its.toArray n := by
  rcases q with q | ⟨o, its, n, e, hc, _, hd, _, hv⟩
  · obtain ⟨_, its, n, hv, e⟩ := (show ObjOk P w H h a (.lst xs) from q.ok hok)
    exact ⟨its, _, n, hv, e, rfl, rfl⟩
  · exact ⟨its.toList, o, n, hv, KX _ _ e, hc, by simp [hd]⟩
theorem sqT_at {a : Addr} {xs : List V} (hok : HOk P w H h) (KX : K.In h) (q : SqT K H a xs) : ∃ (its : List Value) (o : Obj) (n : Nat), Vals xs its ∧ h.get? a = some o ∧ o.cls = .type "tuple" ∧ o.data = .seq its.toArray n := by
  rcases q with q | ⟨o, its, n, e, hc, hd, _, hv⟩
  · obtain ⟨_, its, hv, o, e, hc, n, hd⟩ := (show ObjOk P w H h a (.tup xs) from q.ok hok)
    exact ⟨its, o, n, hv, e, hc, hd⟩
  · exact ⟨its.toList, o, n, hv, KX _ _ e, hc, by simp [hd]⟩
mutual
theorem Dw.reads (hok : HOk P w H h) (KX : K.In h) : ∀ (d : WData) (v : V) (u : Value), Dw K H v d → RelV v u → ∃ as, ReadsW R cl h u d as
  | .none, _, _, x, r => by
    cases x
    cases r
    exact ⟨_, ReadsW.none⟩
  | .bool b, _, _, x, r => by
    cases x
    cases r
    exact ⟨_, ReadsW.bool b⟩
  | .int i, _, _, x, r => by
    cases x
    obtain ⟨t, rfl⟩ := r
    exact ⟨_, ReadsW.int i t⟩
  | .str s, _, _, x, r => by
    cases x
    obtain ⟨t, rfl⟩ := r
    exact ⟨_, ReadsW.str s t⟩
  | .bytes b, _, _, x, r => by
    cases x
    obtain ⟨t, rfl⟩ := r
    exact ⟨_, ReadsW.bytes _ t⟩
  | .list ds, _, _, x, r => by
    cases x with
    | lst hs ha =>
      cases r
      obtain ⟨its, o, n, rv, ho, hc, hd⟩ := sqL_at hok KX hs
      obtain ⟨as, hr⟩ := Dw.readsAll hok KX ds _ its ha rv
      exact ⟨_, ReadsW.list ho hc hd hr⟩
  | .tuple ds, _, _, x, r => by
    cases x with
    | tup hs ha =>
      cases r
      obtain ⟨its, o, n, rv, ho, hc, hd⟩ := sqT_at hok KX hs
      obtain ⟨as, hr⟩ := Dw.readsAll hok KX ds _ its ha rv
      exact ⟨_, ReadsW.tuple ho hc hd hr⟩
  | .float _, _, _, x, _ => by cases x
  | .dict _, _, _, x, _ => by cases x
  | .bytearray _, _, _, x, _ => by cases x
  | .set _, _, _, x, _ => by cases x
  | .frozenset _, _, _, x, _ => by cases x
  | .obj _ _, _, _, x, _ => by cases x
theorem Dw.readsAll (hok : HOk P w H h) (KX : K.In h) : ∀ (ds : List WData) (vs : List V) (us : List Value), DwAll K H vs ds → Vals vs us → ∃ as, ReadsAllW R cl h us ds as
  | [], _, _, x, r => by
    cases x
    cases r
    exact ⟨_, ReadsAllW.nil⟩
  | d :: ds, _, _, x, r => by
    cases x with
    | cons h1 h2 =>
      cases r with
      | cons r1 r2 =>
        obtain ⟨as, q1⟩ := Dw.reads hok KX d _ _ h1 r1
        obtain ⟨bs, q2⟩ := Dw.readsAll hok KX ds _ _ h2 r2
        exact ⟨_, ReadsAllW.cons q1 q2⟩
end
end
mutual
def plW : WData → Bool
  | .none => true
  | .bool _ => true
  | .int _ => true
  | .str _ => true
  | .bytes _ => true
  | .list xs => plWs xs
  | .tuple xs => plWs xs
  | _ => false
def plWs : List WData → Bool
  | [] => true
  | x :: r => plW x && plWs r
end
theorem plWs_map {α : Type} {f : α → WData} (h : ∀ a, plW (f a) = true) : ∀ l : List α, plWs (l.map f) = true
  | [] => rfl
  | x :: r => by
    show (plW (f x) && plWs (r.map f)) = true
    rw [h x, plWs_map h r] <;> rfl
theorem pl_enc : ∀ (c : Codec) (a : c.denote), plW (c.enc a) = true
  | .unit, _ => rfl
  | .bool, _ => rfl
  | .int _ _, _ => rfl
  | .nat _ _, _ => rfl
  | .u8, _ => rfl
  | .bytes _ _, _ => rfl
  | .text _ _ _ _, _ => rfl
  | .list _ _ c, a => plWs_map (fun x => pl_enc c x) a
  | .pair c d, a => by
    show (plW (c.enc a.1) && (plW (d.enc a.2) && true)) = true
    rw [pl_enc c a.1, pl_enc d a.2] <;> rfl
  | .triple c d e, a => by
    show (plW (c.enc a.1) && (plW (d.enc a.2.1) && (plW (e.enc a.2.2) && true))) = true
    rw [pl_enc c a.1, pl_enc d a.2.1, pl_enc e a.2.2] <;> rfl
  | .option c, none => rfl
  | .option c, some x => pl_enc c x
theorem pl_encAll : ∀ (cs : List Codec) (a : Codec.denoteAll cs), plWs (Codec.encAll cs a) = true
  | [], _ => rfl
  | c :: cs, a => by
    show (plW (c.enc a.1) && plWs (Codec.encAll cs a.2)) = true
    rw [pl_enc c a.1, pl_encAll cs a.2] <;> rfl
theorem weight_mem : ∀ {xs : List WData} {d : WData}, d ∈ xs → d.weight ≤ WData.weightAll xs
  | [], d, h => absurd h (by simp)
  | x :: r, d, h => by
    show d.weight ≤ x.weight + 1 + WData.weightAll r
    rcases List.mem_cons.mp h with e | m
    · rw [e]
      omega
    · have z := weight_mem m
      omega
def toV : Value → V
  | .none => .non
  | .bool b => .bl b
  | .int i _ => .int i
  | .str x _ => .str x
  | .bytes b _ => .byt b
  | .ref a => .ref a
  | _ => .non
def OkU (A : List Addr) : Value → Prop
  | .none => True
  | .bool _ => True
  | .int _ _ => True
  | .str _ _ => True
  | .bytes _ _ => True
  | .ref a => a ∈ A
  | _ => False
theorem OkU.mono {A B : List Addr} (h : ∀ a ∈ A, a ∈ B) : ∀ {u : Value}, OkU A u → OkU B u := fun {u} x => by
  cases u with
  | ref a => exact h a x
  | none => trivial
  | bool b => trivial
  | int i t => trivial
  | str s t => trivial
  | bytes b t => trivial
  | _ => exact False.elim x
theorem relV_toV {A : List Addr} {u : Value} (x : OkU A u) : RelV (toV u) u := by
  cases u with
  | ref a => rfl
  | none => rfl
  | bool b => rfl
  | int i t => exact ⟨t, rfl⟩
  | str s t => exact ⟨t, rfl⟩
  | bytes b t => exact ⟨t, rfl⟩
  | _ => exact False.elim x
theorem vals_toV {A : List Addr} : ∀ {vs : List Value}, (∀ u ∈ vs, OkU A u) → Vals (vs.map toV) vs
  | [], _ => .nil
  | u :: r, h => .cons (relV_toV (h u (List.mem_cons_self ..))) (vals_toV fun x hx => h x (List.mem_cons_of_mem _ hx))
def ArgOb (h : Heap) (A : List Addr) (a : Addr) : Prop := ∃ vs : List Value, vs.length ≤ sizeLine ∧ (∀ u ∈ vs, OkU A u) ∧
  (h.get? a = some { cls := .type "list", data := .seq vs.toArray } ∨ h.get? a = some { cls := .type "tuple", data := .seq vs.toArray })
theorem ArgOb.mono {h : Heap} {A B : List Addr} {a : Addr} (k : ∀ a ∈ A, a ∈ B) (x : ArgOb h A a) : ArgOb h B a := by
  obtain ⟨vs, h1, h2, h3⟩ := x
  exact ⟨vs, h1, fun u hu => (h2 u hu).mono k, h3⟩
theorem wellAll_len {P : Params} {h : Heap} : ∀ {vs : List Value} {ds : List WData}, WellAll P h vs ds → vs.length = ds.length
  | _, _, .nil => rfl
  | _, _, .cons _ b => by
    show _ + 1 = _ + 1
    rw [wellAll_len b]
theorem well_list {P : Params} {h : Heap} {v : Value} {ds : List WData} (x : Well P h v (.list ds)) : ∃ (a : Addr) (vs : List Value), v = .ref a ∧ h.get? a = some { cls := .type "list", data := .seq vs.toArray } ∧ WellAll P h vs ds := by
  cases x with
  | list ho hall => exact ⟨_, _, rfl, ho, hall⟩
theorem well_tuple {P : Params} {h : Heap} {v : Value} {ds : List WData} (x : Well P h v (.tuple ds)) : ∃ (a : Addr) (vs : List Value), v = .ref a ∧ h.get? a = some { cls := .type "tuple", data := .seq vs.toArray } ∧ WellAll P h vs ds := by
  cases x with
  | tuple ho hall => exact ⟨_, _, rfl, ho, hall⟩
theorem well_cons {P : Params} {h : Heap} {us : List Value} {d : WData} {ds : List WData} (x : WellAll P h us (d :: ds)) : ∃ (v : Value) (vs : List Value), us = v :: vs ∧ Well P h v d ∧ WellAll P h vs ds := by
  cases x with
  | cons a b => exact ⟨_, _, rfl, a, b⟩
theorem line_of {n : Nat} (h : n ≤ 1048576) : n ≤ sizeLine := Nat.le_trans h (by decide)
section
variable {P : Params} {h : Heap}
mutual
theorem area_one : ∀ (d : WData) (v : Value), Well P h v d → plW d = true → d.weight ≤ 1048576 → ∃ A : List Addr, OkU A v ∧ ∀ a ∈ A, ArgOb h A a
  | .none, _, x, _, _ => by
    cases x
    exact ⟨[], trivial, fun a m => absurd m (by simp)⟩
  | .bool b, _, x, _, _ => by
    cases x
    exact ⟨[], trivial, fun a m => absurd m (by simp)⟩
  | .int i, _, x, _, _ => by
    cases x
    exact ⟨[], trivial, fun a m => absurd m (by simp)⟩
  | .str s, _, x, _, _ => by
    cases x
    exact ⟨[], trivial, fun a m => absurd m (by simp)⟩
  | .bytes b, _, x, _, _ => by
    cases x
    exact ⟨[], trivial, fun a m => absurd m (by simp)⟩
  | .list ds, _, x, p, z => by
    obtain ⟨a, vs, rfl, ho, hall⟩ := well_list x
    have z2 : WData.weightAll ds ≤ 1048576 := z
    obtain ⟨A, h1, h2⟩ := area_all ds _ hall p fun d hd => Nat.le_trans (weight_mem hd) z2
    have k : ∀ b ∈ A, b ∈ a :: A := fun b hb => List.mem_cons_of_mem _ hb
    refine ⟨a :: A, List.mem_cons_self .., fun b hb => ?_⟩
    rcases List.mem_cons.mp hb with e | m
    · rw [e]
      exact ⟨vs, line_of (by rw [wellAll_len hall]; exact Nat.le_trans (PySem.W.length_le_weightAllW ds) z2), fun u hu => (h1 u hu).mono k, .inl ho⟩
    · exact (h2 b m).mono k
  | .tuple ds, _, x, p, z => by
    obtain ⟨a, vs, rfl, ho, hall⟩ := well_tuple x
    have z2 : WData.weightAll ds ≤ 1048576 := z
    obtain ⟨A, h1, h2⟩ := area_all ds _ hall p fun d hd => Nat.le_trans (weight_mem hd) z2
    have k : ∀ b ∈ A, b ∈ a :: A := fun b hb => List.mem_cons_of_mem _ hb
    refine ⟨a :: A, List.mem_cons_self .., fun b hb => ?_⟩
    rcases List.mem_cons.mp hb with e | m
    · rw [e]
      exact ⟨vs, line_of (by rw [wellAll_len hall]; exact Nat.le_trans (PySem.W.length_le_weightAllW ds) z2), fun u hu => (h1 u hu).mono k, .inr ho⟩
    · exact (h2 b m).mono k
  | .float _, _, _, p, _ => Bool.noConfusion (show false = true from p)
  | .dict _, _, _, p, _ => Bool.noConfusion (show false = true from p)
  | .bytearray _, _, _, p, _ => Bool.noConfusion (show false = true from p)
  | .set _, _, _, p, _ => Bool.noConfusion (show false = true from p)
  | .frozenset _, _, _, p, _ => Bool.noConfusion (show false = true from p)
  | .obj _ _, _, _, p, _ => Bool.noConfusion (show false = true from p)
theorem area_all : ∀ (ds : List WData) (vs : List Value), WellAll P h vs ds → plWs ds = true → (∀ d ∈ ds, d.weight ≤ 1048576) → ∃ A : List Addr, (∀ u ∈ vs, OkU A u) ∧ ∀ a ∈ A, ArgOb h A a
  | [], _, x, _, _ => by
    cases x
    exact ⟨[], fun u m => absurd m (by simp), fun a m => absurd m (by simp)⟩
  | d :: ds, _, x, p, z => by
    obtain ⟨v, vs, rfl, x1, x2⟩ := well_cons x
    have q : plW d = true ∧ plWs ds = true := Bool.and_eq_true_iff.mp p
    obtain ⟨A, a1, a2⟩ := area_one d v x1 q.1 (z d (List.mem_cons_self ..))
    obtain ⟨B, b1, b2⟩ := area_all ds vs x2 q.2 fun e he => z e (List.mem_cons_of_mem _ he)
    have kA : ∀ b ∈ A, b ∈ A ++ B := fun b hb => List.mem_append.mpr (.inl hb)
    have kB : ∀ b ∈ B, b ∈ A ++ B := fun b hb => List.mem_append.mpr (.inr hb)
    refine ⟨A ++ B, fun u hu => ?_, fun b hb => ?_⟩
    · rcases List.mem_cons.mp hu with e | m
      · rw [e]
        exact a1.mono kA
      · exact (b1 u m).mono kB
    · rcases List.mem_append.mp hb with m | m
      · exact (a2 b m).mono kA
      · exact (b2 b m).mono kB
end
end
def hoOf (o : Obj) : Option HO := match o.data with
  | .seq vs _ => if (o.cls == Value.type "list") = true then some (.frz o (.lst (vs.toList.map toV))) else some (.frz o (.tup (vs.toList.map toV)))
  | _ => none
def argH (K : PySem.W.Frag) (h : Heap) (A : List Addr) : Hp := fun b => if b ∈ A then (if (K.lookup b).isNone = true then (h.get? b).bind hoOf else none) else none
def OnlyF (H : Hp) : Prop := ∀ b, H b = none ∨ ∃ o u, H b = some (.frz o u)
theorem hoOf_lst (vs : List Value) : hoOf { cls := .type "list", data := .seq vs.toArray } = some (.frz { cls := .type "list", data := .seq vs.toArray } (.lst (vs.map toV))) := by
  show (if (Value.type "list" == Value.type "list") = true then some (HO.frz { cls := .type "list", data := .seq vs.toArray } (.lst (vs.toArray.toList.map toV))) else some (HO.frz { cls := .type "list", data := .seq vs.toArray } (.tup (vs.toArray.toList.map toV)))) = _
  rw [if_pos (beq_self_eq_true _)]
theorem hoOf_tup (vs : List Value) : hoOf { cls := .type "tuple", data := .seq vs.toArray } = some (.frz { cls := .type "tuple", data := .seq vs.toArray } (.tup (vs.map toV))) := by
  show (if (Value.type "tuple" == Value.type "list") = true then some (HO.frz { cls := .type "tuple", data := .seq vs.toArray } (.lst (vs.toArray.toList.map toV))) else some (HO.frz { cls := .type "tuple", data := .seq vs.toArray } (.tup (vs.toArray.toList.map toV)))) = _
  rw [if_neg (by decide)]
section
variable {P : Program} {w : World} {K : PySem.W.Frag} {h : Heap} {A : List Addr}
theorem argH_at {b : Addr} {o : Obj} (hb : b ∈ A) (hk : K.lookup b = none) (e : h.get? b = some o) : argH K h A b = hoOf o := by
  unfold argH
  rw [if_pos hb, hk, if_pos (show (none : Option Obj).isNone = true from rfl), e] <;> rfl
theorem of_argH {b : Addr} {u : HO} (q : argH K h A b = some u) : b ∈ A ∧ K.lookup b = none := by
  unfold argH at q
  by_cases hb : b ∈ A
  · rw [if_pos hb] at q
    cases hk : K.lookup b with
    | none => exact ⟨hb, rfl⟩
    | some o =>
      rw [hk, if_neg (by simp)] at q
      cases q
  · rw [if_neg hb] at q
    cases q
theorem argH_is (ar : ∀ a ∈ A, ArgOb h A a) {b : Addr} {u : HO} (q : argH K h A b = some u) : K.lookup b = none ∧ ∃ vs : List Value, vs.length ≤ sizeLine ∧ (∀ u ∈ vs, OkU A u) ∧
    ((h.get? b = some { cls := .type "list", data := .seq vs.toArray } ∧ u = .frz { cls := .type "list", data := .seq vs.toArray } (.lst (vs.map toV))) ∨
     (h.get? b = some { cls := .type "tuple", data := .seq vs.toArray } ∧ u = .frz { cls := .type "tuple", data := .seq vs.toArray } (.tup (vs.map toV)))) := by
  obtain ⟨hb, hk⟩ := of_argH q
  obtain ⟨vs, h1, h2, h3⟩ := ar b hb
  refine ⟨hk, vs, h1, h2, ?_⟩
  rcases h3 with e | e
  · rw [argH_at hb hk e, hoOf_lst] at q
    exact .inl ⟨e, (Option.some.inj q).symm⟩
  · rw [argH_at hb hk e, hoOf_tup] at q
    exact .inr ⟨e, (Option.some.inj q).symm⟩
theorem argH_only (ar : ∀ a ∈ A, ArgOb h A a) : OnlyF (argH K h A) := fun b => by
  cases q : argH K h A b with
  | none => exact .inl rfl
  | some u =>
    obtain ⟨_, vs, _, _, ⟨_, e⟩ | ⟨_, e⟩⟩ := argH_is ar q
    · exact .inr ⟨_, _, by rw [e]⟩
    · exact .inr ⟨_, _, by rw [e]⟩
theorem argH_ok (ar : ∀ a ∈ A, ArgOb h A a) : HOk P w (argH K h A) h := fun b u q => by
  obtain ⟨_, vs, h1, h2, ⟨e, rfl⟩ | ⟨e, rfl⟩⟩ := argH_is ar q
  · exact ⟨e, by rw [List.length_map]; exact h1, vs, _, vals_toV h2, e⟩
  · exact ⟨e, by rw [List.length_map]; exact h1, vs, vals_toV h2, _, e, rfl, _, rfl⟩
theorem seq_inj {c c' : Value} {vs us : List Value} (e : (some { cls := c, data := .seq vs.toArray } : Option Obj) = some { cls := c', data := .seq us.toArray }) : c = c' ∧ vs = us := by
  have e1 := Option.some.inj e
  have e2 : c = c' := congrArg Obj.cls e1
  have e3 : Data.seq vs.toArray = Data.seq us.toArray := congrArg Obj.data e1
  injection e3 with e4
  refine ⟨e2, ?_⟩
  have e5 := congrArg Array.toList e4
  simpa using e5
theorem argL (KX : K.In h) (ar : ∀ a ∈ A, ArgOb h A a) {a : Addr} {vs : List Value} (ha : a ∈ A) (e : h.get? a = some { cls := .type "list", data := .seq vs.toArray }) : (∀ u ∈ vs, OkU A u) ∧ SqL K (argH K h A) a (vs.map toV) := by
  obtain ⟨us, h1, h2, h3⟩ := ar a ha
  have hu : us = vs := by
    rcases h3 with q | q
    · rw [e] at q
      exact (seq_inj q).2.symm
    · rw [e] at q
      exact absurd (Value.type.inj (seq_inj q).1) (by decide)
  subst hu
  refine ⟨h2, ?_⟩
  cases hk : K.lookup a with
  | none => exact .inl (.inr ⟨_, by rw [argH_at ha hk e, hoOf_lst]⟩)
  | some o =>
    have e2 := KX a o hk
    rw [e] at e2
    obtain rfl := Option.some.inj e2
    exact .inr ⟨_, us.toArray, _, hk, rfl, rfl, rfl, by rw [List.size_toArray]; exact h1, by simpa using vals_toV h2⟩
theorem argT (KX : K.In h) (ar : ∀ a ∈ A, ArgOb h A a) {a : Addr} {vs : List Value} (ha : a ∈ A) (e : h.get? a = some { cls := .type "tuple", data := .seq vs.toArray }) : (∀ u ∈ vs, OkU A u) ∧ SqT K (argH K h A) a (vs.map toV) := by
  obtain ⟨us, h1, h2, h3⟩ := ar a ha
  have hu : us = vs := by
    rcases h3 with q | q
    · rw [e] at q
      exact absurd (Value.type.inj (seq_inj q).1) (by decide)
    · rw [e] at q
      exact (seq_inj q).2.symm
  subst hu
  refine ⟨h2, ?_⟩
  cases hk : K.lookup a with
  | none => exact .inl (.inr ⟨_, by rw [argH_at ha hk e, hoOf_tup]⟩)
  | some o =>
    have e2 := KX a o hk
    rw [e] at e2
    obtain rfl := Option.some.inj e2
    exact .inr ⟨_, us.toArray, _, hk, rfl, rfl, by rw [List.size_toArray]; exact h1, by simpa using vals_toV h2⟩
mutual
theorem dw_one {Pm : Params} (KX : K.In h) (ar : ∀ a ∈ A, ArgOb h A a) : ∀ (d : WData) (v : Value), Well Pm h v d → plW d = true → OkU A v → Dw K (argH K h A) (toV v) d
  | .none, _, x, _, _ => by
    cases x
    exact .non
  | .bool b, _, x, _, _ => by
    cases x
    exact .bl b
  | .int i, _, x, _, _ => by
    cases x
    exact .int i
  | .str s, _, x, _, _ => by
    cases x
    exact .str s
  | .bytes b, _, x, _, _ => by
    cases x
    have z := Dw.byt (K := K) (H := argH K h A) b.toArray
    exact z
  | .list ds, _, x, p, hu => by
    obtain ⟨a, vs, rfl, ho, hall⟩ := well_list x
    obtain ⟨h2, hs⟩ := argL KX ar hu ho
    exact .lst hs (dw_all KX ar ds _ hall p h2)
  | .tuple ds, _, x, p, hu => by
    obtain ⟨a, vs, rfl, ho, hall⟩ := well_tuple x
    obtain ⟨h2, hs⟩ := argT KX ar hu ho
    exact .tup hs (dw_all KX ar ds _ hall p h2)
  | .float _, _, _, p, _ => Bool.noConfusion (show false = true from p)
  | .dict _, _, _, p, _ => Bool.noConfusion (show false = true from p)
  | .bytearray _, _, _, p, _ => Bool.noConfusion (show false = true from p)
  | .set _, _, _, p, _ => Bool.noConfusion (show false = true from p)
  | .frozenset _, _, _, p, _ => Bool.noConfusion (show false = true from p)
  | .obj _ _, _, _, p, _ => Bool.noConfusion (show false = true from p)
theorem dw_all {Pm : Params} (KX : K.In h) (ar : ∀ a ∈ A, ArgOb h A a) : ∀ (ds : List WData) (vs : List Value), WellAll Pm h vs ds → plWs ds = true → (∀ u ∈ vs, OkU A u) → DwAll K (argH K h A) (vs.map toV) ds
  | [], _, x, _, _ => by
    cases x
    exact .nil
  | d :: ds, _, x, p, hu => by
    obtain ⟨v, vs, rfl, x1, x2⟩ := well_cons x
    have q : plW d = true ∧ plWs ds = true := Bool.and_eq_true_iff.mp p
    exact .cons (dw_one KX ar d v x1 q.1 (hu _ (List.mem_cons_self ..))) (dw_all KX ar ds vs x2 q.2 fun u m => hu u (List.mem_cons_of_mem _ m))
end
end
theorem spec_call {P : Program} {w : World} {K : PySem.W.Frag} {mg mb : Str → Option Value} {CX : CXT} {k : Nat} {fa : Addr} {fd : FuncData} {ps : List Str} {sp : Sp} {s₁ : Shared} {vals : List Value} {ds : List WData} {R : PySem.W.WRecords} {cl : Str → Option Addr} {d0 : WData}
    (KX : K.In s₁.heap) (hns : s₁.heap.Ns mainGlobals mg) (hb : s₁.heap.Ns builtinsNs mb) (hbb : ∀ x : Str, x ≠ "__name__" → mb x = bootBuiltins x) (hlim : s₁.heap.NoLimit) (hg : s₁.gens = #[])
    (hwl : WellAll w.params s₁.heap vals ds) (hpl : plWs ds = true) (hwt : ∀ d ∈ ds, d.weight ≤ 1048576) (hr : Room k callerA)
    (F : ∀ base : Heap, K.In base → base.Ns mainGlobals mg → FnOk P w K mg base CX k fa fd ps sp) (hbind : ∀ (s : Shared) (us : List Value), us.length = ps.length → BindsTo s fd ⟨us, []⟩ (ps.zip us)) (hlen : ds.length = ps.length)
    (hsp : ∀ (H : Hp) (xs : List V), OnlyF H → DwAll K H xs ds → sp xs H (fun v H' => Dw K H' v d0) fun _ _ _ => False)
    (hCX : ∀ H e s', CX [] H s₁ (fun _ _ _ => False) e s' → False) :
    codeAny (model P w) callerA (.call (.ref fa) ⟨vals, []⟩) (fun r s' => ∃ u as, r = .ok (.ret u) ∧ ReadsW R cl s'.heap u d0 as ∧ OldK s₁.heap s'.heap ∧ s'.os = s₁.os ∧ AllBare s'.gens) s₁ := by
  obtain ⟨A, ho, ar⟩ := area_all ds vals hwl hpl hwt
  have hO : OnlyF (argH K s₁.heap A) := argH_only ar
  have hok : HOk P w (argH K s₁.heap A) s₁.heap := argH_ok ar
  have hS := dw_all KX ar ds vals hwl hpl ho
  have hV := vals_toV ho
  have hK : ∀ b u, argH K s₁.heap A b = some u → K.lookup b = none := fun b u q => (argH_is ar q).1
  have noA : ∀ {b : Addr} {o : Obj} {es : Array DictEntry} {ep : Nat}, s₁.heap.get? b = some o → o.data = .dict es ep → argH K s₁.heap A b = none := fun {b o es ep} e d => by
    cases q : argH K s₁.heap A b with
    | none => rfl
    | some u =>
      obtain ⟨_, vs, _, _, ⟨e2, _⟩ | ⟨e2, _⟩⟩ := argH_is ar q
      · rw [e2] at e
        cases e
        have d' : Data.seq vs.toArray _ = Data.dict es ep := d
        cases d'
      · rw [e2] at e
        cases e
        have d' : Data.seq vs.toArray _ = Data.dict es ep := d
        cases d'
  generalize argH K s₁.heap A = H at hO hok hS hK noA
  have base_of : ∀ {b : Addr} {o : Obj}, s₁.heap.get? b = some o → H b = none → (hidT s₁.heap H).get? b = some o := fun e n => hidT_get e n
  have nsK : ∀ {b : Addr} {m : Str → Option Value}, s₁.heap.Ns b m → (hidT s₁.heap H).Ns b m := fun {b m} ⟨o, es, ep, e, d, r⟩ => ⟨o, es, ep, base_of e (noA e d), d, r⟩
  have nK : ∀ b o, K.lookup b = some o → H b = none := fun b o e => by
    cases q : H b with
    | none => rfl
    | some u =>
      rw [hK b u q] at e
      cases e
  have hKb : K.In (hidT s₁.heap H) := fun b o e => base_of (KX b o e) (nK b o e)
  have hM : Mod K mg (hidT s₁.heap H) := ⟨hKb, nsK hns, ⟨mb, nsK hb, hbb⟩, let ⟨mc, h1, h2⟩ := hlim; ⟨mc, nsK h1, h2⟩⟩
  have e0 : Env0 P w K mg (hidT s₁.heap H) callerA [] s₁ H := ⟨rfl, hM, fun b o e => of_hidT e, Nat.le_of_eq (hidT_size _ _), trivial, fun b hb => absurd (show b ∈ ([] : List Addr) from hb) (by simp), hok, .of_eq hg⟩
  have hl : vals.length = ps.length := by rw [wellAll_len hwl]; exact hlen
  refine codeAny_mono ((F _ hKb (nsK hns)).run callerA [] s₁ H ⟨vals, []⟩ vals (vals.map toV) _ _ hr e0 (hbind s₁ vals hl) hV (hsp H _ hO hS)) fun r s' x => ?_
  cases r with
  | error e => exact (hCX H e s' x).elim
  | ok fl =>
    cases fl with
    | next => exact False.elim x
    | brk => exact False.elim x
    | cont => exact False.elim x
    | ret u =>
      obtain ⟨v, H', os, bare, un, hok', r', q⟩ := x
      have kept : ∀ b o, s₁.heap.get? b = some o → s'.heap.get? b = some o := fun b o e => by
        cases q2 : H b with
        | none => exact un.keep b o e q2 (by intro z; exact absurd (show b ∈ ([] : List Addr) from z) (by simp)) (by simp)
        | some u2 =>
          rcases hO b with z | ⟨ob, u3, z⟩
          · rw [q2] at z
            cases z
          · have z2 := un.frzs b ob _ z
            obtain ⟨e1, _⟩ := hok b _ z
            obtain ⟨e2, _⟩ := hok' b _ z2
            rw [e] at e1
            cases e1
            exact e2
      have KX' : K.In s'.heap := fun b o e => kept b o (KX b o e)
      obtain ⟨as, hrd⟩ := Dw.reads (R := R) (cl := cl) hok' KX' d0 v u q r'
      exact ⟨u, as, rfl, hrd, OldK.of_keep kept, os, bare⟩
theorem layable_weight {ds : List WData} (h : WData.layableAll ds = true) : ∀ d ∈ ds, d.weight ≤ 1048576 := fun d hd =>
  (PySem.W.layableW_iff.mp (List.all_eq_true.mp h d hd)).2.2
theorem encAll_len : ∀ (cs : List Codec) (a : Codec.denoteAll cs), (Codec.encAll cs a).length = cs.length
  | [], _ => rfl
  | c :: cs, a => by
    show (Codec.encAll cs a.2).length + 1 = cs.length + 1
    rw [encAll_len cs a.2]
theorem walk_spec {r : OpenSpec} {k : Nat} {q : Program} {loose : List Str} {XP : (Str → Option Value) → Heap → Prop} {YP : World → Heap → Prop} {d : DefRec} {K : Params → PySem.W.Frag} {CX : World → CXT} {ps : List Str} {sp : World → Sp}
    (hwell : r.wellSaid = true) (hdf : d.params.defaults = []) (hlen : r.args.length = ps.length) (hr : Room k callerA)
    (hY : ∀ (w : World) (h : Heap), YP w h → (K w.params).In h)
    (F : ∀ (w : World) (mg : Str → Option Value) (fa : Addr) (h : Heap), YP w h → (K w.params).In h → h.Ns mainGlobals mg → mg d.name = some (.ref fa) →
      ∃ fd : FuncData, (∀ (s : Shared) (us : List Value), us.length = ps.length → BindsTo s fd ⟨us, []⟩ (ps.zip us)) ∧
        ∀ base : Heap, (K w.params).In base → base.Ns mainGlobals mg → FnOk r.prog w (K w.params) mg base (CX w) k fa fd ps (sp w))
    (hsp : ∀ (w : World) (H : Hp) (xs : List V) (a : Codec.denoteAll r.args), OnlyF H → Codec.withinAll r.args a = true → Codec.app r.args r.asked a = true → DwAll (K w.params) H xs (Codec.encAll r.args a) →
      sp w xs H (fun v H' => Dw (K w.params) H' v (r.ret.enc (Codec.app r.args r.f a))) fun _ _ _ => False)
    (hCX : ∀ (w : World) (H : Hp) (s : Shared) (e : Value) (s' : Shared), CX w [] H s (fun _ _ _ => False) e s' → False) :
    PySem.W.WalkOS q loose XP YP r d [] (fun f vs => PySem.call f vs) := by
  intro w s_0 s₁ mg mb G Y fa o pm cd doc dV kV ho hd hcd hD hmg hg args vals as hpre hlay hrd hwl hlo
  obtain ⟨a, e1, e2⟩ := PySem.W.os_pre_some hpre
  obtain ⟨e3, hwi⟩ := Codec.encAll_of_decAll r.args args a e1
  subst e3
  have KX := hY w _ Y
  obtain ⟨fd, hb, hF⟩ := F w mg fa _ Y KX G.T.g hmg
  refine PySem.W.enter_call (codeAny_mono (spec_call (R := []) (cl := classAt s_0.heap) (d0 := r.ret.enc (Codec.app r.args r.f a)) KX G.T.g G.T.b G.T.builtins G.T.nolimit hg hwl (pl_encAll _ _) (layable_weight hlay) hr hF hb (by rw [encAll_len]; exact hlen)
    (fun H xs hO hS => hsp w H xs a hO hwi e2 hS) fun H e s' => hCX w H s₁ e s') fun r' s' hq => ?_)
  obtain ⟨u, as', rfl, h1, h2, h3, h4⟩ := hq
  exact ⟨.inl ⟨u, _, as', rfl, fun _ => rfl, h1, (OpenSpec.post_iff hwell hwi _ _).mpr rfl, fun z => Bool.noConfusion (show false = true from z)⟩, h2, h3, h4⟩
theorem walk_specK {r : OpenSpec} {k : Nat} {q : Program} {loose : List Str} {XP : (Str → Option Value) → Heap → Prop} {YP : World → Heap → Prop} {d : DefRec} {K : Params → PySem.W.Frag} {CX : CXT} {ps : List Str} {sp : PySem.W.Frag → Sp}
    (hwell : r.wellSaid = true) (hdf : d.params.defaults = []) (hlen : r.args.length = ps.length) (hr : Room k callerA)
    (hY : ∀ (w : World) (h : Heap), YP w h → (K w.params).In h)
    (F : ∀ (w : World) (mg : Str → Option Value) (fa : Addr) (h : Heap), YP w h → (K w.params).In h → h.Ns mainGlobals mg → mg d.name = some (.ref fa) →
      ∃ fd : FuncData, (∀ (s : Shared) (us : List Value), us.length = ps.length → BindsTo s fd ⟨us, []⟩ (ps.zip us)) ∧
        ∀ base : Heap, (K w.params).In base → base.Ns mainGlobals mg → FnOk r.prog w (K w.params) mg base CX k fa fd ps (sp (K w.params)))
    (hsp : ∀ (K : PySem.W.Frag) (H : Hp) (xs : List V) (a : Codec.denoteAll r.args), OnlyF H → Codec.withinAll r.args a = true → Codec.app r.args r.asked a = true → DwAll K H xs (Codec.encAll r.args a) →
      sp K xs H (fun v H' => Dw K H' v (r.ret.enc (Codec.app r.args r.f a))) fun _ _ _ => False)
    (hCX : ∀ (H : Hp) (s : Shared) (e : Value) (s' : Shared), CX [] H s (fun _ _ _ => False) e s' → False) :
    PySem.W.WalkOS q loose XP YP r d [] (fun f vs => PySem.call f vs) :=
  walk_spec (K := K) (CX := fun _ => CX) (sp := fun w => sp (K w.params)) hwell hdf hlen hr hY F (fun w H xs a h1 h2 h3 h4 => hsp (K w.params) H xs a h1 h2 h3 h4) fun _ H s e s' => hCX H s e s'
end L2
end
section
set_option Elab.async false
namespace M
open Vbfual
theorem sum_nil : Vbfual.sum [] = 0 := rfl
theorem sum_cons (a : Nat) (l : List Nat) : Vbfual.sum (a :: l) = a + Vbfual.sum l := rfl
theorem sum_eq (l : List Nat) : Vbfual.sum l = l.sum := by
  induction l with
  | nil => rfl
  | cons a l ih => rw [sum_cons, List.sum_cons, ih]
theorem sum_perm {l k : List Nat} (h : l.Perm k) : Vbfual.sum l = Vbfual.sum k := by rw [sum_eq, sum_eq]; exact h.sum_nat
theorem sum_append (l k : List Nat) : Vbfual.sum (l ++ k) = Vbfual.sum l + Vbfual.sum k := by simp [sum_eq]
theorem isum_cast {α : Type} (f : α → Nat) (l : List α) : (l.map fun y => (f y : Int)).sum = ((Vbfual.sum (l.map f) : Nat) : Int) := by
  induction l with
  | nil => rfl
  | cons a l ih => rw [List.map_cons, List.sum_cons, ih, List.map_cons, sum_cons]; push_cast; rfl
theorem isum_perm {l k : List Int} (h : l.Perm k) : l.sum = k.sum := by
  induction h with
  | nil => rfl
  | cons x _ ih => rw [List.sum_cons, List.sum_cons, ih]
  | swap x y l => simp only [List.sum_cons]; omega
  | trans _ _ a b => exact a.trans b
theorem isum_append (l k : List Int) : (l ++ k).sum = l.sum + k.sum := by
  induction l with
  | nil => simp
  | cons x l ih => rw [List.cons_append, List.sum_cons, List.sum_cons, ih]; omega
theorem le_sum {α : Type} {f : α → Nat} {y : α} : ∀ {l : List α}, y ∈ l → f y ≤ Vbfual.sum (l.map f)
  | z :: l, h => by
    rw [List.map_cons, sum_cons]
    rcases List.mem_cons.mp h with rfl | h
    · omega
    · have := le_sum (f := f) h; omega
theorem sum_pos {α : Type} {f : α → Nat} {l : List α} (hp : ∀ y ∈ l, 0 < f y) (h : Vbfual.sum (l.map f) = 0) : l = [] := by
  cases l with
  | nil => rfl
  | cons a l =>
    rw [List.map_cons, sum_cons] at h
    have := hp a List.mem_cons_self
    omega
theorem sum_le {α : Type} {f g : α → Nat} : ∀ {l : List α}, (∀ y ∈ l, f y ≤ g y) → Vbfual.sum (l.map f) ≤ Vbfual.sum (l.map g)
  | [], _ => Nat.le_refl _
  | a :: l, h => by
    rw [List.map_cons, List.map_cons, sum_cons, sum_cons]
    have h1 := h a List.mem_cons_self
    have h2 := sum_le (l := l) fun y hy => h y (List.mem_cons_of_mem _ hy)
    omega
theorem sum_sub {α : Type} {f g : α → Nat} : ∀ {l : List α}, (∀ y ∈ l, g y ≤ f y) → Vbfual.sum (l.map fun y => f y - g y) = Vbfual.sum (l.map f) - Vbfual.sum (l.map g)
  | [], _ => rfl
  | a :: l, h => by
    rw [List.map_cons, List.map_cons, List.map_cons, sum_cons, sum_cons, sum_cons]
    have h1 := h a List.mem_cons_self
    have h2 := sum_sub (l := l) fun y hy => h y (List.mem_cons_of_mem _ hy)
    have h3 := sum_le (l := l) fun y hy => h y (List.mem_cons_of_mem _ hy)
    omega
theorem sum_mul {α : Type} (k : Nat) (f : α → Nat) : ∀ l : List α, Vbfual.sum (l.map fun y => k * f y) = k * Vbfual.sum (l.map f)
  | [] => rfl
  | a :: l => by rw [List.map_cons, List.map_cons, sum_cons, sum_cons, sum_mul k f l, Nat.mul_add]
theorem sum_div {α : Type} (u : Nat) (f : α → Nat) : ∀ l : List α, Vbfual.sum (l.map fun y => f y / u) ≤ Vbfual.sum (l.map f) / u
  | [] => Nat.zero_le _
  | a :: l => by
    rw [List.map_cons, List.map_cons, sum_cons, sum_cons]
    exact Nat.le_trans (Nat.add_le_add_left (sum_div u f l) _) Nat.div_add_div_le_add_div
theorem sum_parts (k : Nat) {l : List Holding} {u : Nat} (hu : Vbfual.sum (l.map fun y => y.units) = u) : Vbfual.sum (l.map fun y => k * y.units / u) ≤ k := by
  refine Nat.le_trans (sum_div u (fun y : Holding => k * y.units) l) ?_
  rw [sum_mul k (fun y : Holding => y.units), hu]
  rcases Nat.eq_zero_or_pos u with h | h
  · subst h; simp
  · rw [Nat.mul_div_cancel _ h]; exact Nat.le_refl _
def Srt (l : List Holding) : Prop := l.Pairwise fun a b => a.holder < b.holder
theorem Srt.tail {y : Holding} {l : List Holding} (h : Srt (y :: l)) : Srt l := (List.pairwise_cons.mp h).2
theorem Srt.head {y : Holding} {l : List Holding} (h : Srt (y :: l)) : ∀ z ∈ l, y.holder < z.holder := (List.pairwise_cons.mp h).1
theorem Srt.nodup {l : List Holding} (h : Srt l) : (l.map fun y => y.holder).Nodup := by
  refine List.pairwise_map.mpr (h.imp fun h => ?_)
  exact Nat.ne_of_lt h
theorem Srt.inj {l : List Holding} (h : Srt l) {y z : Holding} (hy : y ∈ l) (hz : z ∈ l) (e : y.holder = z.holder) : y = z := by
  induction l with
  | nil => cases hy
  | cons a l ih =>
    rcases List.mem_cons.mp hy with e1 | h1
    · rcases List.mem_cons.mp hz with e2 | h2
      · rw [e1, e2]
      · rw [e1] at e; exact absurd e (Nat.ne_of_lt (h.head z h2))
    · rcases List.mem_cons.mp hz with e2 | h2
      · rw [e2] at e; exact absurd e.symm (Nat.ne_of_lt (h.head y h1))
      · exact ih h.tail h1 h2
theorem find_holder {l : List Holding} {h : Nat} {y : Holding} (e : l.find? (fun y => y.holder == h) = some y) : y ∈ l ∧ y.holder = h :=
  ⟨List.mem_of_find?_eq_some e, by have := List.find?_some e; simpa using this⟩
theorem find_none {l : List Holding} {h : Nat} (e : l.find? (fun y => y.holder == h) = none) : ∀ y ∈ l, y.holder ≠ h := fun y hy => by
  have := List.find?_eq_none.mp e y hy; simpa using this
theorem holdingOf_holder (x : Fund) (h : Nat) : (holdingOf x h).holder = h := by
  unfold holdingOf
  cases e : x.hold.find? (fun y => y.holder == h) with
  | none => rfl
  | some y => exact (find_holder e).2
theorem holdingOf_mem {x : Fund} (hs : Srt x.hold) {y : Holding} (hy : y ∈ x.hold) : holdingOf x y.holder = y := by
  unfold holdingOf
  cases e : x.hold.find? (fun z => z.holder == y.holder) with
  | none => exact absurd rfl (find_none e y hy)
  | some z => exact hs.inj (find_holder e).1 hy (find_holder e).2
theorem holdingOf_none {x : Fund} {h : Nat} (hn : ∀ y ∈ x.hold, y.holder ≠ h) : holdingOf x h = { holder := h, units := 0, cost := 0, got := 0 } := by
  unfold holdingOf
  cases e : x.hold.find? (fun z => z.holder == h) with
  | none => rfl
  | some z => exact absurd (find_holder e).2 (hn z (find_holder e).1)
theorem has_or {x : Fund} (h : Nat) : (∃ y ∈ x.hold, y.holder = h) ∨ ∀ y ∈ x.hold, y.holder ≠ h := by
  cases e : x.hold.find? (fun z => z.holder == h) with
  | none => exact .inr (find_none e)
  | some z => exact .inl ⟨z, (find_holder e).1, (find_holder e).2⟩
theorem putHold_perm (y : Holding) : ∀ {l : List Holding}, Srt l → (putHold y l).Perm ((if y.units = 0 then [] else [y]) ++ l.filter fun z => decide (z.holder ≠ y.holder))
  | [], _ => by unfold putHold; split <;> simp
  | z :: l, hs => by
    unfold putHold
    by_cases h1 : z.holder = y.holder
    · have hf : (z :: l).filter (fun z => decide (z.holder ≠ y.holder)) = l := by
        rw [List.filter_cons, if_neg (by simp [h1])]
        exact List.filter_eq_self.mpr fun w hw => by have := hs.head w hw; simp; omega
      rw [if_pos h1, hf]
      split <;> simp
    · rw [if_neg h1]
      by_cases h2 : y.holder < z.holder
      · have hf : (z :: l).filter (fun z => decide (z.holder ≠ y.holder)) = z :: l := List.filter_eq_self.mpr fun w hw => by
          rcases List.mem_cons.mp hw with rfl | hw
          · simp [h1]
          · have := hs.head w hw; simp; omega
        rw [if_pos h2, hf]
        split <;> simp
      · rw [if_neg h2, List.filter_cons_of_pos (by simp [h1])]
        exact ((putHold_perm y hs.tail).cons z).trans List.perm_middle.symm
theorem putHold_mem {y z : Holding} {l : List Holding} (hs : Srt l) : z ∈ putHold y l ↔ (z = y ∧ y.units ≠ 0) ∨ (z ∈ l ∧ z.holder ≠ y.holder) := by
  rw [(putHold_perm y hs).mem_iff, List.mem_append, List.mem_filter]
  split
  · next h => simp [h]
  · next h => simp [h]
theorem putHold_srt (y : Holding) : ∀ {l : List Holding}, Srt l → Srt (putHold y l)
  | [], _ => by unfold putHold; split <;> simp [Srt]
  | z :: l, hs => by
    unfold putHold
    split
    · next h1 =>
      split
      · exact hs.tail
      · exact List.pairwise_cons.mpr ⟨fun w hw => by rw [← h1]; exact hs.head w hw, hs.tail⟩
    · next h1 =>
      split
      · next h2 =>
        split
        · exact hs
        · refine List.pairwise_cons.mpr ⟨fun w hw => ?_, hs⟩
          rcases List.mem_cons.mp hw with rfl | hw
          · exact h2
          · exact Nat.lt_trans h2 (hs.head w hw)
      · next h2 =>
        refine List.pairwise_cons.mpr ⟨fun w hw => ?_, putHold_srt y hs.tail⟩
        rcases (putHold_mem hs.tail).mp hw with ⟨rfl, _⟩ | ⟨hw, _⟩
        · omega
        · exact hs.head w hw
theorem putHold_last (y : Holding) (hu : y.units ≠ 0) : ∀ {l : List Holding}, (∀ z ∈ l, z.holder < y.holder) → putHold y l = l ++ [y]
  | [], _ => by unfold putHold; rw [if_neg hu]; rfl
  | z :: l, h => by
    unfold putHold
    have := h z List.mem_cons_self
    rw [if_neg (by omega), if_neg (by omega), putHold_last y hu fun w hw => h w (List.mem_cons_of_mem _ hw)]
    rfl
theorem sum_split {f : Holding → Nat} {x : Fund} (hs : Srt x.hold) (h : Nat) (h0 : f { holder := h, units := 0, cost := 0, got := 0 } = 0) : Vbfual.sum (x.hold.map f) = f (holdingOf x h) + Vbfual.sum ((x.hold.filter fun z => decide (z.holder ≠ h)).map f) := by
  rcases has_or (x := x) h with ⟨y, hy, e⟩ | hn
  · subst e
    rw [holdingOf_mem hs hy]
    have hp : x.hold.Perm (y :: x.hold.filter fun z => decide (z.holder ≠ y.holder)) := by
      have q : ∀ {l : List Holding}, Srt l → y ∈ l → l.Perm (y :: l.filter fun z => decide (z.holder ≠ y.holder)) := by
        intro l
        induction l with
        | nil => intro _ h; cases h
        | cons a l ih =>
          intro hs hy
          rcases List.mem_cons.mp hy with rfl | hy
          · rw [List.filter_cons, if_neg (by simp), List.filter_eq_self.mpr fun w hw => by have := hs.head w hw; simp; omega]
          · have := hs.head y hy
            rw [List.filter_cons, if_pos (by simp; omega)]
            exact ((ih hs.tail hy).cons a).trans (.swap _ _ _)
      exact q hs hy
    rw [sum_perm (hp.map f), List.map_cons, sum_cons]
  · rw [holdingOf_none hn, h0, List.filter_eq_self.mpr fun w hw => by simp [hn w hw]]
    omega
theorem sum_put {f : Holding → Nat} {x : Fund} (hs : Srt x.hold) (y : Holding) (h0 : ∀ z : Holding, z.units = 0 → f z = 0) (hh : f { holder := y.holder, units := 0, cost := 0, got := 0 } = 0) :
    Vbfual.sum ((putHold y x.hold).map f) + f (holdingOf x y.holder) = f y + Vbfual.sum (x.hold.map f) := by
  rw [sum_split hs y.holder hh, sum_perm ((putHold_perm y hs).map f), List.map_append, sum_append]
  split
  · next h => rw [h0 y h]; simp [sum_nil]; omega
  · simp only [List.map_cons, List.map_nil, sum_cons, sum_nil]; omega
end M
end
section
set_option Elab.async false
namespace M
open Vbfual
structure Sf (l : List Holding) : Prop where
  srt : Srt l
  rng : ∀ y ∈ l, 1 ≤ y.holder ∧ y.holder ≤ 20
  pos : ∀ y ∈ l, 0 < y.units
theorem Sf.nil : Sf [] := ⟨by simp [Srt], by simp, by simp⟩
theorem Sf.put {l : List Holding} (h : Sf l) {y : Holding} (hr : 1 ≤ y.holder ∧ y.holder ≤ 20) : Sf (putHold y l) where
  srt := putHold_srt y h.srt
  rng := fun z hz => by
    rcases (putHold_mem h.srt).mp hz with ⟨rfl, _⟩ | ⟨hz, _⟩
    · exact hr
    · exact h.rng z hz
  pos := fun z hz => by
    rcases (putHold_mem h.srt).mp hz with ⟨rfl, hu⟩ | ⟨hz, _⟩
    · omega
    · exact h.pos z hz
theorem Sf.map {l : List Holding} (h : Sf l) (f : Holding → Holding) (hf : ∀ y, (f y).holder = y.holder ∧ (f y).units = y.units) : Sf (l.map f) where
  srt := List.pairwise_map.mpr (h.srt.imp fun {a b} q => by rw [(hf a).1, (hf b).1]; exact q)
  rng := fun z hz => by
    obtain ⟨y, hy, rfl⟩ := List.mem_map.mp hz
    rw [(hf y).1]; exact h.rng y hy
  pos := fun z hz => by
    obtain ⟨y, hy, rfl⟩ := List.mem_map.mp hz
    rw [(hf y).2]; exact h.pos y hy
theorem Sf.le20 {l : List Holding} (h : Sf l) : l.length ≤ 20 := by
  have q : ∀ (n : Nat) (l : List Holding), Srt l → (∀ y ∈ l, n < y.holder ∧ y.holder ≤ 20) → l.length ≤ 20 - n := by
    intro n l
    induction l generalizing n with
    | nil => intro _ _; exact Nat.zero_le _
    | cons a l ih =>
      intro hs hr
      have h1 := hr a List.mem_cons_self
      have h2 := ih a.holder hs.tail fun y hy => ⟨hs.head y hy, (hr y (List.mem_cons_of_mem _ hy)).2⟩
      rw [List.length_cons]; omega
  have := q 0 l h.srt fun y hy => by have := h.rng y hy; omega
  omega
theorem Sf.empty {x : Fund} (h : Sf x.hold) (e : unitsOf x = 0) : x.hold = [] := sum_pos h.pos e
theorem more_value (h n c : Nat) (x : Fund) : (more h n c x).value = x.value := rfl
theorem more_closing (h n c : Nat) (x : Fund) : (more h n c x).closing = x.closing := rfl
theorem more_declared (h n c : Nat) (x : Fund) : (more h n c x).declared = x.declared := rfl
theorem more_sf {x : Fund} (hx : Sf x.hold) {h n c : Nat} (hr : 1 ≤ h ∧ h ≤ 20) : Sf (more h n c x).hold :=
  hx.put (by show 1 ≤ (holdingOf x h).holder ∧ _; rw [holdingOf_holder]; exact hr)
theorem less_sf {x : Fund} (hx : Sf x.hold) {h n c : Nat} (hr : 1 ≤ h ∧ h ≤ 20) : Sf (less h n c x).hold :=
  hx.put (by show 1 ≤ (holdingOf x h).holder ∧ _; rw [holdingOf_holder]; exact hr)
theorem more_units {x : Fund} (hx : Sf x.hold) (h n c : Nat) : unitsOf (more h n c x) = unitsOf x + n := by
  have q := sum_put (f := fun y => y.units) hx.srt { holdingOf x h with units := (holdingOf x h).units + n, cost := (holdingOf x h).cost + c } (fun _ e => e) rfl
  rw [show ({ holdingOf x h with units := (holdingOf x h).units + n, cost := (holdingOf x h).cost + c } : Holding).holder = h from holdingOf_holder x h] at q
  have q' : unitsOf (more h n c x) + (holdingOf x h).units = ((holdingOf x h).units + n) + unitsOf x := q
  omega
theorem less_units {x : Fund} (hx : Sf x.hold) {h n c : Nat} (hn : n ≤ (holdingOf x h).units) : unitsOf (less h n c x) + n = unitsOf x := by
  have q := sum_put (f := fun y => y.units) hx.srt { holdingOf x h with units := (holdingOf x h).units - n, cost := (holdingOf x h).cost - c } (fun _ e => e) rfl
  rw [show ({ holdingOf x h with units := (holdingOf x h).units - n, cost := (holdingOf x h).cost - c } : Holding).holder = h from holdingOf_holder x h] at q
  have q' : unitsOf (less h n c x) + (holdingOf x h).units = ((holdingOf x h).units - n) + unitsOf x := q
  omega
theorem holding_le {x : Fund} (hx : Sf x.hold) (h : Nat) : (holdingOf x h).units ≤ unitsOf x := by
  have := sum_split (f := fun y => y.units) hx.srt h rfl
  show _ ≤ Vbfual.sum (x.hold.map fun y => y.units)
  omega
theorem holding_rng {x : Fund} (hx : Sf x.hold) {h : Nat} (hu : (holdingOf x h).units ≠ 0) : ∃ y ∈ x.hold, y.holder = h ∧ holdingOf x h = y := by
  rcases has_or (x := x) h with ⟨y, hy, e⟩ | hn
  · exact ⟨y, hy, e, by rw [← e]; exact holdingOf_mem hx.srt hy⟩
  · rw [holdingOf_none hn] at hu; exact absurd rfl hu
structure FOk (x : Fund) : Prop where
  sf : Sf x.hold
  many : unitsOf x ≤ MANY
  great : x.value ≤ GREAT
  idle : x.closing = false → x.declared = 0 ∧ ∀ y ∈ x.hold, y.got = 0
  due : x.closing = true → 0 < unitsOf x ∧ x.declared ≤ gotIn x + x.value ∧ ∀ y ∈ x.hold, y.got = x.declared * y.units / unitsOf x
theorem FOk.no : FOk noFund := ⟨Sf.nil, Nat.zero_le _, Nat.zero_le _, fun _ => ⟨rfl, by intro y hy; cases hy⟩, fun h => by cases h⟩
theorem got_none {x : Fund} (hx : Sf x.hold) (hg : ∀ y ∈ x.hold, y.got = 0) (h : Nat) : (holdingOf x h).got = 0 := by
  rcases has_or (x := x) h with ⟨y, hy, e⟩ | hn
  · subst e; rw [holdingOf_mem hx.srt hy]; exact hg y hy
  · rw [holdingOf_none hn]
theorem more_got {x : Fund} (hx : Sf x.hold) {h n c : Nat} (hg : ∀ y ∈ x.hold, y.got = 0) : ∀ y ∈ (more h n c x).hold, y.got = 0 := fun y hy => by
  rcases (putHold_mem hx.srt).mp hy with ⟨rfl, _⟩ | ⟨hy, _⟩
  · exact got_none hx hg h
  · exact hg y hy
theorem less_got {x : Fund} (hx : Sf x.hold) {h n c : Nat} (hg : ∀ y ∈ x.hold, y.got = 0) : ∀ y ∈ (less h n c x).hold, y.got = 0 := fun y hy => by
  rcases (putHold_mem hx.srt).mp hy with ⟨rfl, _⟩ | ⟨hy, _⟩
  · exact got_none hx hg h
  · exact hg y hy
theorem FOk.buy {x : Fund} (hx : FOk x) {h n m : Nat} (hc : x.closing = false) (hr : 1 ≤ h ∧ h ≤ 20) (hv : x.value + m ≤ GREAT) (hu : unitsOf x + n ≤ MANY) : FOk { more h n m x with value := x.value + m } where
  sf := more_sf hx.sf hr
  many := by
    have := more_units hx.sf h n m
    show unitsOf (more h n m x) ≤ _
    omega
  great := hv
  idle := fun _ => ⟨(hx.idle hc).1, more_got hx.sf (hx.idle hc).2⟩
  due := fun h => by
    have : x.closing = true := h
    rw [hc] at this; cases this
theorem FOk.sell {x : Fund} (hx : FOk x) {h n m c : Nat} (hc : x.closing = false) (hr : 1 ≤ h ∧ h ≤ 20) (hn : n ≤ (holdingOf x h).units) : FOk { less h n c x with value := x.value - m } where
  sf := less_sf hx.sf hr
  many := by
    have := less_units (c := c) hx.sf hn
    have := hx.many
    show unitsOf (less h n c x) ≤ _
    omega
  great := Nat.le_trans (Nat.sub_le _ _) hx.great
  idle := fun _ => ⟨(hx.idle hc).1, less_got hx.sf (hx.idle hc).2⟩
  due := fun h => by
    have : x.closing = true := h
    rw [hc] at this; cases this
theorem FOk.transfer {x : Fund} (hx : FOk x) {h g n c : Nat} (hc : x.closing = false) (hr : 1 ≤ h ∧ h ≤ 20) (hg : 1 ≤ g ∧ g ≤ 20) (hn : n ≤ (holdingOf x h).units) : FOk (more g n c (less h n c x)) where
  sf := more_sf (less_sf hx.sf hr) hg
  many := by
    have h1 := less_units (c := c) hx.sf hn
    have h2 := more_units (less_sf (n := n) (c := c) hx.sf hr) g n c
    have := hx.many
    omega
  great := hx.great
  idle := fun _ => ⟨(hx.idle hc).1, more_got (less_sf hx.sf hr) (less_got hx.sf (hx.idle hc).2)⟩
  due := fun h => by
    have : x.closing = true := h
    rw [hc] at this; cases this
theorem FOk.result {x : Fund} (hx : FOk x) {v : Nat} (hv : v ≤ GREAT) (hd : x.closing = true → x.declared - gotIn x ≤ v) : FOk { x with value := v } where
  sf := hx.sf
  many := hx.many
  great := hv
  idle := hx.idle
  due := fun h => by
    have h1 := hx.due h
    have h2 := hd h
    refine ⟨h1.1, ?_, h1.2.2⟩
    show x.declared ≤ gotIn x + v
    omega
theorem sum_zero {α : Type} {f : α → Nat} : ∀ {l : List α}, (∀ y ∈ l, f y = 0) → Vbfual.sum (l.map f) = 0
  | [], _ => rfl
  | a :: l, h => by rw [List.map_cons, sum_cons, h a List.mem_cons_self, sum_zero fun y hy => h y (List.mem_cons_of_mem _ hy)]
theorem FOk.close {x : Fund} (hx : FOk x) (hc : x.closing = false) (hu : unitsOf x ≠ 0) : FOk { x with closing := true, declared := 0 } where
  sf := hx.sf
  many := hx.many
  great := hx.great
  idle := fun h => by cases h
  due := fun _ => ⟨by show 0 < unitsOf x; omega, Nat.zero_le _, fun y hy => by
    show y.got = 0 * y.units / _
    rw [(hx.idle hc).2 y hy, Nat.zero_mul, Nat.zero_div]⟩
theorem units_map {x : Fund} (f : Holding → Holding) (hf : ∀ y, (f y).units = y.units) : Vbfual.sum ((x.hold.map f).map fun y => y.units) = unitsOf x := by
  rw [List.map_map]
  exact congrArg Vbfual.sum (List.map_congr_left fun y _ => hf y)
theorem FOk.cut {x : Fund} (hx : FOk x) (hc : x.closing = false) {v : Nat} (hv : v ≤ x.value) (f : Holding → Holding) (hf : ∀ y, (f y).holder = y.holder ∧ (f y).units = y.units) (hg : ∀ y, (f y).got = y.got) (b : Fund) (hb : b.closing = false) (hd : b.declared = 0) :
    FOk { b with value := v, hold := x.hold.map f } where
  sf := hx.sf.map f hf
  many := by
    have := units_map (x := x) f fun y => (hf y).2
    show Vbfual.sum ((x.hold.map f).map fun y => y.units) ≤ MANY
    rw [this]; exact hx.many
  great := Nat.le_trans hv hx.great
  idle := fun _ => ⟨hd, fun z hz => by
    obtain ⟨y, hy, rfl⟩ := List.mem_map.mp hz
    rw [hg]; exact (hx.idle hc).2 y hy⟩
  due := fun h => by
    have : b.closing = true := h
    rw [hb] at this; cases this
theorem pay_sum {x : Fund} (hx : FOk x) (hc : x.closing = true) {d : Nat} (hd : x.declared ≤ d) (hm : d ≤ gotIn x + x.value) :
    (∀ y ∈ x.hold, y.got ≤ d * y.units / unitsOf x) ∧ Vbfual.sum ((turn x d).map fun p => p.2) = Vbfual.sum (x.hold.map fun y => d * y.units / unitsOf x) - gotIn x ∧
    gotIn x ≤ Vbfual.sum (x.hold.map fun y => d * y.units / unitsOf x) ∧ Vbfual.sum (x.hold.map fun y => d * y.units / unitsOf x) ≤ d := by
  have h1 : ∀ y ∈ x.hold, y.got ≤ d * y.units / unitsOf x := fun y hy => by
    rw [(hx.due hc).2.2 y hy]
    exact Nat.div_le_div_right (Nat.mul_le_mul_right _ hd)
  refine ⟨h1, ?_, sum_le h1, sum_parts d rfl⟩
  have : (turn x d).map (fun p => p.2) = x.hold.map fun y => d * y.units / unitsOf x - y.got := by
    unfold turn; rw [List.map_map]; rfl
  rw [this, sum_sub h1]; rfl
theorem FOk.pay {x : Fund} (hx : FOk x) (hc : x.closing = true) {d : Nat} (hd : x.declared ≤ d) (hm : d ≤ gotIn x + x.value) :
    FOk { x with value := x.value - Vbfual.sum ((turn x d).map fun p => p.2), declared := d, hold := x.hold.map fun y => { y with got := d * y.units / unitsOf x } } := by
  obtain ⟨h1, h2, h3, h4⟩ := pay_sum hx hc hd hm
  have hU : Vbfual.sum ((x.hold.map fun y => { y with got := d * y.units / unitsOf x }).map fun y => y.units) = unitsOf x := units_map (x := x) (fun y => { y with got := d * y.units / unitsOf x }) fun _ => rfl
  refine ⟨hx.sf.map _ fun _ => ⟨rfl, rfl⟩, ?_, Nat.le_trans (Nat.sub_le _ _) hx.great, fun h => ?_, fun _ => ⟨?_, ?_, fun z hz => ?_⟩⟩
  · exact Nat.le_trans (Nat.le_of_eq hU) hx.many
  · have : x.closing = false := h
    rw [hc] at this; cases this
  · exact Nat.lt_of_lt_of_eq (hx.due hc).1 hU.symm
  · show d ≤ Vbfual.sum ((x.hold.map fun y => { y with got := d * y.units / unitsOf x }).map fun y => y.got) + (x.value - _)
    have e : (x.hold.map fun y => { y with got := d * y.units / unitsOf x }).map (fun y => y.got) = x.hold.map fun y => d * y.units / unitsOf x := by rw [List.map_map]; rfl
    rw [e, h2]
    omega
  · obtain ⟨y, hy, rfl⟩ := List.mem_map.mp hz
    show d * y.units / unitsOf x = d * y.units / Vbfual.sum ((x.hold.map fun y => { y with got := d * y.units / unitsOf x }).map fun y => y.units)
    rw [hU]
theorem fold_more {α : Type} (hh : α → Nat) (n c : α → Nat) : ∀ (l : List α) (b : Fund), Sf b.hold → (∀ y ∈ l, 1 ≤ hh y ∧ hh y ≤ 20) →
    Sf (l.foldl (fun (x : Fund) y => more (hh y) (n y) (c y) x) b).hold ∧ unitsOf (l.foldl (fun (x : Fund) y => more (hh y) (n y) (c y) x) b) = unitsOf b + Vbfual.sum (l.map n) ∧
    (l.foldl (fun (x : Fund) y => more (hh y) (n y) (c y) x) b).closing = b.closing ∧ (l.foldl (fun (x : Fund) y => more (hh y) (n y) (c y) x) b).declared = b.declared ∧
    (l.foldl (fun (x : Fund) y => more (hh y) (n y) (c y) x) b).value = b.value ∧
    ((∀ y ∈ b.hold, y.got = 0) → ∀ y ∈ (l.foldl (fun (x : Fund) y => more (hh y) (n y) (c y) x) b).hold, y.got = 0)
  | [], b, hb, _ => ⟨hb, rfl, rfl, rfl, rfl, fun h => h⟩
  | a :: l, b, hb, hr => by
    have h1 := fold_more hh n c l (more (hh a) (n a) (c a) b) (more_sf hb (hr a List.mem_cons_self)) fun y hy => hr y (List.mem_cons_of_mem _ hy)
    refine ⟨h1.1, ?_, h1.2.2.1, h1.2.2.2.1, h1.2.2.2.2.1, fun hg => h1.2.2.2.2.2 (more_got hb hg)⟩
    rw [List.foldl_cons, h1.2.1, more_units hb, List.map_cons, sum_cons]; omega
theorem joined_units {a b : Fund} (ha : Sf a.hold) (hb : Sf b.hold) : unitsOf (joined a b).2 = unitsOf b + Vbfual.sum (a.hold.map fun y => newUnits a b y.units) :=
  (fold_more (fun y : Holding => y.holder) (fun y => newUnits a b y.units) (fun y => y.cost - restOf a b y.units) a.hold b hb ha.rng).2.1
theorem FOk.join {a b : Fund} (ha : FOk a) (hb : FOk b) (hc : b.closing = false) (hv : (joined a b).2.value ≤ GREAT) (hu : unitsOf (joined a b).2 ≤ MANY) : FOk (joined a b).2 := by
  have h := fold_more (fun y : Holding => y.holder) (fun y => newUnits a b y.units) (fun y => y.cost - restOf a b y.units) a.hold b hb.sf ha.sf.rng
  refine ⟨h.1, hu, hv, fun _ => ⟨?_, h.2.2.2.2.2 (hb.idle hc).2⟩, fun q => ?_⟩
  · exact h.2.2.2.1.trans (hb.idle hc).1
  · have q2 : (a.hold.foldl (fun (x : Fund) y => more y.holder (newUnits a b y.units) (y.cost - restOf a b y.units) x) b).closing = true := q
    rw [h.2.2.1, hc] at q2; cases q2
end M
end
section
set_option Elab.async false
set_option linter.unusedVariables false
namespace M
open Vbfual
structure ZOk (z : Scheme) : Prop where
  kind : 1 ≤ z.kind ∧ z.kind ≤ 3
  a : 1 ≤ z.a ∧ z.a ≤ 6
  b : z.b ≤ 6
  b3 : z.kind = 3 → z.b = 0
  b12 : z.kind ≠ 3 → 1 ≤ z.b ∧ z.b ≠ z.a
  part : z.part ≤ 1000000
  quorum : z.quorum ≤ 1000000
  need : z.need ≤ 1000000
  vn : (z.votes.map fun v => v.1).Nodup
  pn : (z.proxies.map fun v => v.1).Nodup
  vr : ∀ p ∈ z.votes, 1 ≤ p.1 ∧ p.1 ≤ 20
  pr : ∀ p ∈ z.proxies, (1 ≤ p.1 ∧ p.1 ≤ 20) ∧ 1 ≤ p.2 ∧ p.2 ≤ 20
  st : z.status ≤ 3
structure SOk (s : State) : Prop where
  nf : s.funds.length = 6
  nc : s.cash.length = 20
  fok : ∀ f, 1 ≤ f → f ≤ 6 → FOk (fundAt s f)
  ns : s.schemes.length ≤ 20
  nums : ∀ (i : Nat) (z : Scheme), s.schemes[i]? = some z → z.num = i + 1
  next : s.next = s.schemes.length + 1
  zok : ∀ z ∈ s.schemes, ZOk z
theorem fundAt_set {s : State} (hn : s.funds.length = 6) {f g : Nat} (x : Fund) (hf : 1 ≤ f ∧ f ≤ 6) (hg : 1 ≤ g) : fundAt (setFund s f x) g = if g = f then x else fundAt s g := by
  unfold fundAt setFund
  show (s.funds.set (f - 1) x).getD (g - 1) noFund = _
  rw [List.getD_eq_getElem?_getD, List.getElem?_set]
  by_cases h : g = f
  · subst h
    rw [if_pos rfl, if_pos (by omega), if_pos rfl]; rfl
  · rw [if_neg (by omega), if_neg h, List.getD_eq_getElem?_getD]
theorem fundAt_same {s : State} (hn : s.funds.length = 6) {f : Nat} (x : Fund) (hf : 1 ≤ f ∧ f ≤ 6) : fundAt (setFund s f x) f = x := by
  rw [fundAt_set hn x hf hf.1, if_pos rfl]
theorem fundAt_ne {s : State} (hn : s.funds.length = 6) {f g : Nat} (x : Fund) (hf : 1 ≤ f ∧ f ≤ 6) (hg : 1 ≤ g) (h : g ≠ f) : fundAt (setFund s f x) g = fundAt s g := by
  rw [fundAt_set hn x hf hg, if_neg h]
theorem cashAt_pays {s : State} (hn : s.cash.length = 20) {h g : Nat} (m : Int) (hh : 1 ≤ h ∧ h ≤ 20) (hg : 1 ≤ g) : cashAt (pays s h m) g = if g = h then cashAt s h + m else cashAt s g := by
  unfold cashAt pays
  show (s.cash.set (h - 1) (cashAt s h + m)).getD (g - 1) 0 = _
  rw [List.getD_eq_getElem?_getD, List.getElem?_set]
  by_cases e : g = h
  · subst e
    rw [if_pos rfl, if_pos (by omega), if_pos rfl]; rfl
  · rw [if_neg (by omega), if_neg e, List.getD_eq_getElem?_getD]
theorem paysAll_keep : ∀ (l : List (Nat × Nat)) (s : State), (paysAll s l).funds = s.funds ∧ (paysAll s l).schemes = s.schemes ∧ (paysAll s l).next = s.next ∧ (paysAll s l).cash.length = s.cash.length
  | [], s => ⟨rfl, rfl, rfl, rfl⟩
  | p :: l, s => by
    have h := paysAll_keep l (pays s p.1 (p.2 : Int))
    refine ⟨h.1, h.2.1, h.2.2.1, h.2.2.2.trans ?_⟩
    show (s.cash.set _ _).length = _
    rw [List.length_set]
theorem SOk.cash {s t : State} (h : SOk s) (h1 : t.funds = s.funds) (h2 : t.schemes = s.schemes) (h3 : t.next = s.next) (h4 : t.cash.length = s.cash.length) : SOk t := by
  obtain ⟨tf, tc, ts, tn⟩ := t
  dsimp only at h1 h2 h3 h4
  subst h1 h2 h3
  exact ⟨h.nf, h4.trans h.nc, h.fok, h.ns, h.nums, h.next, h.zok⟩
theorem SOk.pays {s : State} (h : SOk s) (g : Nat) (m : Int) : SOk (pays s g m) := h.cash rfl rfl rfl (by show (s.cash.set _ _).length = _; rw [List.length_set])
theorem SOk.paysAll {s : State} (h : SOk s) (l : List (Nat × Nat)) : SOk (paysAll s l) :=
  let k := paysAll_keep l s
  h.cash k.1 k.2.1 k.2.2.1 k.2.2.2
theorem SOk.setFund {s : State} (h : SOk s) {f : Nat} {x : Fund} (hf : 1 ≤ f ∧ f ≤ 6) (hx : FOk x) : SOk (setFund s f x) where
  nf := by show (s.funds.set _ _).length = 6; rw [List.length_set]; exact h.nf
  nc := h.nc
  fok := fun g h1 h2 => by
    rw [fundAt_set h.nf x hf h1]
    split
    · exact hx
    · exact h.fok g h1 h2
  ns := h.ns
  nums := h.nums
  next := h.next
  zok := h.zok
theorem SOk.setScheme {s : State} (h : SOk s) {z : Scheme} (hz : ZOk z) : SOk (setScheme s z) where
  nf := h.nf
  nc := h.nc
  fok := h.fok
  ns := by show (s.schemes.map _).length ≤ 20; rw [List.length_map]; exact h.ns
  nums := fun i y e => by
    have e' : (s.schemes.map fun y => if y.num = z.num then z else y)[i]? = some y := e
    rw [List.getElem?_map] at e'
    cases q : s.schemes[i]? with
    | none => rw [q] at e'; cases e'
    | some w =>
      rw [q] at e'
      have e2 : (if w.num = z.num then z else w) = y := Option.some.inj e'
      have h1 := h.nums i w q
      split at e2
      · next hw => rw [← e2, ← hw]; exact h1
      · rw [← e2]; exact h1
  next := by show s.next = (s.schemes.map _).length + 1; rw [List.length_map]; exact h.next
  zok := fun y hy => by
    obtain ⟨w, hw, e⟩ := List.mem_map.mp (show y ∈ s.schemes.map _ from hy)
    split at e
    · rw [← e]; exact hz
    · rw [← e]; exact h.zok w hw
theorem SOk.start : SOk Vbfual.start where
  nf := by decide
  nc := by decide
  fok := fun f h1 h2 => by
    have : fundAt Vbfual.start f = noFund := by
      unfold fundAt Vbfual.start FUNDS
      rw [List.getD_eq_getElem?_getD, List.getElem?_replicate]
      split <;> rfl
    rw [this]; exact FOk.no
  ns := by decide
  nums := fun i z e => by
    have : ([] : List Scheme)[i]? = some z := e
    simp at this
  next := rfl
  zok := fun z hz => by
    have : z ∈ ([] : List Scheme) := hz
    cases this
theorem fundAt_setScheme (s : State) (z : Scheme) (f : Nat) : fundAt (setScheme s z) f = fundAt s f := rfl
theorem find_num {s : State} (h : SOk s) {n : Int} {z : Scheme} (e : s.schemes.find? (fun x => (x.num : Int) == n) = some z) : z ∈ s.schemes ∧ (z.num : Int) = n :=
  ⟨List.mem_of_find?_eq_some e, by have := List.find?_some e; simpa using this⟩
theorem filter_nodup {α : Type} {l : List (Nat × α)} (h : (l.map fun v => v.1).Nodup) (k : Nat) (v : α) : (((l.filter fun v => v.1 != k) ++ [(k, v)]).map fun v => v.1).Nodup := by
  rw [List.map_append, List.nodup_append]
  refine ⟨h.sublist (List.Sublist.map _ List.filter_sublist), by simp, fun a ha b hb => ?_⟩
  obtain ⟨p, hp, rfl⟩ := List.mem_map.mp ha
  have h1 := (List.mem_filter.mp hp).2
  have h2 : b = k := by simpa using hb
  rw [h2]
  simpa using h1
theorem ZOk.vote {z : Scheme} (h : ZOk z) {k : Nat} (hk : 1 ≤ k ∧ k ≤ 20) (v : Bool) : ZOk { z with votes := (z.votes.filter fun v => v.1 != k) ++ [(k, v)] } :=
  ⟨h.kind, h.a, h.b, h.b3, h.b12, h.part, h.quorum, h.need, filter_nodup h.vn k v, h.pn, fun p hp => by
    rcases List.mem_append.mp hp with q | q
    · exact h.vr p (List.mem_filter.mp q).1
    · rw [List.mem_singleton.mp q]; exact hk, h.pr, h.st⟩
theorem ZOk.proxy {z : Scheme} (h : ZOk z) {k g : Nat} (hk : 1 ≤ k ∧ k ≤ 20) (hg : 1 ≤ g ∧ g ≤ 20) : ZOk { z with proxies := (z.proxies.filter fun v => v.1 != k) ++ [(k, g)] } :=
  ⟨h.kind, h.a, h.b, h.b3, h.b12, h.part, h.quorum, h.need, h.vn, filter_nodup h.pn k g, h.vr, fun p hp => by
    rcases List.mem_append.mp hp with q | q
    · exact h.pr p (List.mem_filter.mp q).1
    · rw [List.mem_singleton.mp q]; exact ⟨hk, hg⟩, h.st⟩
theorem ZOk.state {z : Scheme} (h : ZOk z) {k : Nat} (hk : k ≤ 3) : ZOk { z with status := k } :=
  ⟨h.kind, h.a, h.b, h.b3, h.b12, h.part, h.quorum, h.need, h.vn, h.pn, h.vr, h.pr, hk⟩
theorem in_iff {n lo hi : Int} : inside n lo hi = true ↔ lo ≤ n ∧ n ≤ hi := by unfold inside; simp
theorem in_not {n lo hi : Int} : inside n lo hi = false ↔ ¬ (lo ≤ n ∧ n ≤ hi) := by rw [← in_iff]; simp
theorem fund_rng {f : Int} (h : ¬ isFund f = false) : 1 ≤ f.toNat ∧ f.toNat ≤ 6 := by
  unfold isFund at h; rw [in_not] at h; omega
theorem holder_rng {f : Int} (h : ¬ isHolder f = false) : 1 ≤ f.toNat ∧ f.toNat ≤ 20 := by
  unfold isHolder at h; rw [in_not] at h; omega
theorem SOk.doBuy {s : State} (h : SOk s) {f g m : Nat} (hf : 1 ≤ f ∧ f ≤ 6) (hg : 1 ≤ g ∧ g ≤ 20) : SOk (doBuy s f g m).1 := by
  unfold Vbfual.doBuy
  dsimp only
  split
  · exact h
  · next hc =>
    split
    · exact h
    · generalize (if unitsOf (fundAt s f) = 0 then m * MILLION else m * unitsOf (fundAt s f) / (fundAt s f).value) = n
      split
      · exact h
      · split
        · exact h
        · next h2 => exact (h.setFund hf ((h.fok f hf.1 hf.2).buy (by simpa using hc) hg (by omega) (by omega))).pays _ _
theorem SOk.doSell {s : State} (h : SOk s) {f g n : Nat} (hf : 1 ≤ f ∧ f ≤ 6) (hg : 1 ≤ g ∧ g ≤ 20) : SOk (doSell s f g n).1 := by
  unfold Vbfual.doSell
  dsimp only
  split
  · exact h
  · next hc =>
    split
    · exact h
    · split
      · exact h
      · exact (h.setFund hf ((h.fok f hf.1 hf.2).sell (by simpa using hc) hg (by omega))).pays _ _
theorem SOk.doTransfer {s : State} (h : SOk s) {f g k n : Nat} (hf : 1 ≤ f ∧ f ≤ 6) (hg : 1 ≤ g ∧ g ≤ 20) (hk : 1 ≤ k ∧ k ≤ 20) : SOk (doTransfer s f g k n).1 := by
  unfold Vbfual.doTransfer
  dsimp only
  split
  · exact h
  · next hc =>
    split
    · exact h
    · split
      · exact h
      · split
        · exact h
        · exact h.setFund hf ((h.fok f hf.1 hf.2).transfer (by simpa using hc) hg hk (by omega))
theorem SOk.doEffect {s : State} (h : SOk s) {z : Scheme} (hz : ZOk z) : SOk (doEffect s z).1 := by
  have ht : SOk (Vbfual.setScheme s { z with status := 3 }) := h.setScheme (hz.state (by omega))
  have ha := h.fok z.a hz.a.1 hz.a.2
  unfold Vbfual.doEffect
  dsimp only
  split
  · exact h
  · split
    · exact h
    · next h1 =>
      have hca : (fundAt s z.a).closing = false := by simpa using fun q => h1 (.inl q)
      split
      · exact ht.setFund hz.a (ha.close hca fun q => h1 (.inr q))
      · next h3 =>
        have hb := h.fok z.b (hz.b12 h3).1 hz.b
        have hzb : 1 ≤ z.b ∧ z.b ≤ 6 := ⟨(hz.b12 h3).1, hz.b⟩
        split
        · exact h
        · next h4 =>
          have hcb : (fundAt s z.b).closing = false := by simpa using h4
          split
          · split
            · exact h
            · have hv : (fundAt s z.a).value * z.part / MILLION ≤ (fundAt s z.a).value := by
                refine Nat.div_le_of_le_mul ?_
                rw [Nat.mul_comm]
                exact Nat.mul_le_mul_right _ hz.part
              refine (ht.setFund hz.a ?_).setFund hzb ?_
              · exact ha.cut hca (Nat.sub_le _ _) (fun y => { y with cost := y.cost - y.cost * z.part / MILLION }) (fun _ => ⟨rfl, rfl⟩) (fun _ => rfl) (fundAt s z.a) hca (ha.idle hca).1
              · exact ha.cut hca hv (fun y => { y with cost := y.cost * z.part / MILLION }) (fun _ => ⟨rfl, rfl⟩) (fun _ => rfl) (fundAt s z.b) hcb (hb.idle hcb).1
          · split
            · exact h
            · split
              · exact h
              · next h6 =>
                exact ((ht.setFund hz.a FOk.no).setFund hzb (ha.join hb hcb (by omega) (by omega))).paysAll _
theorem SOk.onScheme {s : State} (h : SOk s) {n : Int} {f : Scheme → State × Ans} (hf : ∀ z ∈ s.schemes, SOk (f z).1) : SOk (onScheme s n f).1 := by
  unfold Vbfual.onScheme
  split
  · exact h
  · split
    · exact h
    · next z e => exact hf z (find_num h e).1
theorem SOk.step {s : State} (h : SOk s) (c : Call) : SOk (Vbfual.step s c).1 := by
  cases c with
  | begin => exact SOk.start
  | buy f g m =>
    show SOk (if isFund f = false ∨ isHolder g = false ∨ inside m 1 1000000000 = false then no s 1 else _).1
    split
    · exact h
    · next q => exact h.doBuy (fund_rng fun e => q (.inl e)) (holder_rng fun e => q (.inr (.inl e)))
  | sell f g m =>
    show SOk (if isFund f = false ∨ isHolder g = false ∨ inside m 1 (10 ^ 18) = false then no s 1 else _).1
    split
    · exact h
    · next q => exact h.doSell (fund_rng fun e => q (.inl e)) (holder_rng fun e => q (.inr (.inl e)))
  | transfer f g k m =>
    show SOk (if isFund f = false ∨ isHolder g = false ∨ isHolder k = false ∨ inside m 1 (10 ^ 18) = false then no s 1 else _).1
    split
    · exact h
    · next q => exact h.doTransfer (fund_rng fun e => q (.inl e)) (holder_rng fun e => q (.inr (.inl e))) (holder_rng fun e => q (.inr (.inr (.inl e))))
  | result f d =>
    unfold Vbfual.step
    dsimp only
    split
    · exact h
    · next q =>
      have hf := fund_rng fun e => q (.inl e)
      split
      · exact h
      · generalize hB : (if (fundAt s f.toNat).closing = true then (((fundAt s f.toNat).declared - gotIn (fundAt s f.toNat) : Nat) : Int) else 0) = B
        split
        · exact h
        · split
          · exact h
          · next h1 h2 h3 =>
            have h3' : ((fundAt s f.toNat).value : Int) + d ≤ ((10 ^ 12 : Nat) : Int) := by
              have : ¬ (((10 ^ 12 : Nat) : Int) < ((fundAt s f.toNat).value : Int) + d) := h3
              omega
            refine h.setFund hf ((h.fok _ hf.1 hf.2).result ?_ fun hc => ?_)
            · show _ ≤ 10 ^ 12
              omega
            · rw [if_pos hc] at hB
              omega
  | propose k a b p q n =>
    unfold Vbfual.step
    dsimp only
    split
    · exact h
    · next hr =>
      generalize h6' : (if k = 3 then decide (b ≠ 0) else decide (b = 0 ∨ b = a)) = bad
      split
      · exact h
      · next h6 =>
        split
        · exact h
        · next h8 =>
          subst h6'
          have r1 : ¬ inside k 1 3 = false := fun e => hr (.inl e)
          have r2 : ¬ isFund a = false := fun e => hr (.inr (.inl e))
          have r3 : ¬ inside b 0 6 = false := fun e => hr (.inr (.inr (.inl e)))
          have r4 : ¬ inside p 0 1000000 = false := fun e => hr (.inr (.inr (.inr (.inl e))))
          have r5 : ¬ inside q 0 1000000 = false := fun e => hr (.inr (.inr (.inr (.inr (.inl e)))))
          have r6 : ¬ inside n 0 1000000 = false := fun e => hr (.inr (.inr (.inr (.inr (.inr e)))))
          unfold isFund at r2
          rw [in_not] at r1 r2 r3 r4 r5 r6
          have hz : ∀ num : Nat, ZOk { num := num, kind := k.toNat, a := a.toNat, b := b.toNat, part := p.toNat, quorum := q.toNat, need := n.toNat, votes := [], proxies := [], status := 0 } := fun num => by
            refine ⟨⟨by show 1 ≤ k.toNat; omega, by show k.toNat ≤ 3; omega⟩, ⟨by show 1 ≤ a.toNat; omega, by show a.toNat ≤ 6; omega⟩, by show b.toNat ≤ 6; omega, fun e => ?_, fun e => ?_, by show p.toNat ≤ 1000000; omega, by show q.toNat ≤ 1000000; omega, by show n.toNat ≤ 1000000; omega, by simp, by simp, by simp, by simp, Nat.zero_le _⟩
            · have e' : k.toNat = 3 := e
              have : k = 3 := by omega
              rw [if_pos this] at h6
              show b.toNat = 0
              simp at h6
              omega
            · have e' : k.toNat ≠ 3 := e
              have : ¬ k = 3 := by omega
              rw [if_neg this] at h6
              simp at h6
              show 1 ≤ b.toNat ∧ b.toNat ≠ a.toNat
              omega
          have h8' : s.schemes.length < 20 := Nat.lt_of_not_le h8
          refine ⟨h.nf, h.nc, h.fok, ?_, fun i z e => ?_, ?_, fun z hz' => ?_⟩
          · show (s.schemes ++ [_]).length ≤ 20
            rw [List.length_append]
            simp
            omega
          · have e' : (s.schemes ++ [_])[i]? = some z := e
            rw [List.getElem?_append] at e'
            split at e'
            · exact h.nums i z e'
            · next hi =>
              have : i = s.schemes.length := by
                have := (List.getElem?_eq_some_iff.mp e').1
                simp at this
                omega
              subst this
              simp at e'
              rw [← e']
              exact h.next
          · show s.next + 1 = (s.schemes ++ [_]).length + 1
            rw [List.length_append, h.next]
            rfl
          · rcases List.mem_append.mp (show z ∈ s.schemes ++ [_] from hz') with q | q
            · exact h.zok z q
            · rw [List.mem_singleton.mp q]; exact hz _
  | vote n g y =>
    unfold Vbfual.step
    dsimp only
    split
    · exact h
    · next q =>
      refine h.onScheme fun z hz => ?_
      split
      · exact h
      · exact h.setScheme ((h.zok z hz).vote (holder_rng fun e => q (.inl e)) _)
  | proxy n g y =>
    unfold Vbfual.step
    dsimp only
    split
    · exact h
    · next q =>
      refine h.onScheme fun z hz => ?_
      split
      · exact h
      · split
        · exact h
        · exact h.setScheme ((h.zok z hz).proxy (holder_rng fun e => q (.inl e)) (holder_rng fun e => q (.inr e)))
  | count n =>
    refine h.onScheme fun z hz => ?_
    split
    · exact h
    · refine h.setScheme ((h.zok z hz).state ?_)
      split <;> omega
  | effect n => exact h.onScheme fun z hz => h.doEffect (h.zok z hz)
  | pay f m =>
    unfold Vbfual.step
    dsimp only
    split
    · exact h
    · next q =>
      have hf := fund_rng fun e => q (.inl e)
      split
      · exact h
      · next hc =>
        split
        · exact h
        · next h7 => exact (h.setFund hf ((h.fok _ hf.1 hf.2).pay (by simpa using hc) (by omega) (by omega))).paysAll _
  | last f =>
    unfold Vbfual.step
    dsimp only
    split
    · exact h
    · next q =>
      have hf := fund_rng q
      split
      · exact h
      · exact (h.setFund hf FOk.no).paysAll _
  | fund f =>
    unfold Vbfual.step
    dsimp only
    split <;> exact h
  | holding f g =>
    unfold Vbfual.step
    dsimp only
    split <;> exact h
  | cash g =>
    unfold Vbfual.step
    dsimp only
    split <;> exact h
  | holders f =>
    unfold Vbfual.step
    dsimp only
    split <;> exact h
  | scheme n => exact h.onScheme fun z hz => h
  | tally n => exact h.onScheme fun z hz => h
  | speaker n g =>
    unfold Vbfual.step
    dsimp only
    split
    · exact h
    · exact h.onScheme fun z hz => h
  | offer a b g =>
    unfold Vbfual.step
    dsimp only
    split
    · exact h
    · split
      · exact h
      · split <;> exact h
end M
end
section
set_option Elab.async false
set_option linter.unusedVariables false
namespace M
open Vbfual
theorem nodup_le : ∀ (n : Nat) (l : List Nat), l.Nodup → (∀ y ∈ l, y < n) → l.length ≤ n
  | 0, l, _, h => by
    cases l with
    | nil => exact Nat.le_refl _
    | cons a l => exact absurd (h a List.mem_cons_self) (Nat.not_lt_zero _)
  | n + 1, l, nd, h => by
    have h1 := nodup_le n (l.filter fun y => decide (y ≠ n)) (nd.sublist List.filter_sublist) fun y hy => by
      obtain ⟨a, b⟩ := List.mem_filter.mp hy
      have := h y a
      have : y ≠ n := by simpa using b
      omega
    have h2 : l.length ≤ (l.filter fun y => decide (y ≠ n)).length + 1 := by
      by_cases hm : n ∈ l
      · have hp : l.Perm (n :: l.filter fun y => decide (y ≠ n)) := by
          have e : l.filter (fun y => decide (y ≠ n)) = l.erase n := by
            rw [nd.erase_eq_filter]
            exact List.filter_congr fun y _ => by simp [bne]; rfl
          rw [e]
          exact List.perm_cons_erase hm
        rw [hp.length_eq, List.length_cons]
        exact Nat.le_refl _
      · rw [List.filter_eq_self.mpr fun y hy => by simpa using fun e : y = n => hm (e ▸ hy)]
        omega
    omega
theorem speaks_loop {z : Scheme} {S : List Nat} (hS : ∀ y ∈ S, voteOf z y = none ∧ ∃ p, proxyOf z y = some p ∧ p ∈ S) : ∀ (n h : Nat), h ∈ S → speaks z n h = none
  | 0, _, _ => rfl
  | n + 1, h, hh => by
    obtain ⟨h1, p, h2, h3⟩ := hS h hh
    unfold speaks
    rw [h1, h2]
    exact speaks_loop hS n p h3
theorem proxy_rng {z : Scheme} (hz : ZOk z) {h p : Nat} (e : proxyOf z h = some p) : 1 ≤ p ∧ p ≤ 20 := by
  unfold proxyOf at e
  cases q : z.proxies.find? (fun v => v.1 == h) with
  | none => rw [q] at e; cases e
  | some v =>
    rw [q] at e
    have e' : v.2 = p := Option.some.inj e
    rw [← e']
    exact (hz.pr v (List.mem_of_find?_eq_some q)).2
theorem speaks_more {z : Scheme} (hz : ZOk z) : ∀ (n h : Nat) (L : List Nat), (h :: L).Nodup → (∀ y ∈ h :: L, 1 ≤ y ∧ y ≤ 20) → 20 ≤ L.length + n → (∀ y ∈ L, voteOf z y = none ∧ ∃ p, proxyOf z y = some p ∧ p ∈ h :: L) → speaks z (n + 1) h = speaks z n h
  | 0, h, L, nd, hr, hl, hc => by
    have := nodup_le 20 ((h :: L).map fun y => y - 1) (by
      refine List.pairwise_map.mpr (List.Pairwise.imp_of_mem ?_ nd)
      intro a b ha hb hab
      have := hr a ha
      have := hr b hb
      omega) (fun y hy => by
        obtain ⟨w, hw, rfl⟩ := List.mem_map.mp hy
        have := hr w hw
        omega)
    rw [List.length_map, List.length_cons] at this
    omega
  | n + 1, h, L, nd, hr, hl, hc => by
    unfold speaks
    cases hv : voteOf z h with
    | some _ => rfl
    | none =>
      cases hp : proxyOf z h with
      | none => rfl
      | some g =>
        show speaks z (n + 1) g = speaks z n g
        by_cases hg : g ∈ h :: L
        · have hS : ∀ y ∈ h :: L, voteOf z y = none ∧ ∃ p, proxyOf z y = some p ∧ p ∈ h :: L := fun y hy => by
            rcases List.mem_cons.mp hy with e | hy
            · rw [e]; exact ⟨hv, g, hp, hg⟩
            · exact hc y hy
          rw [speaks_loop hS _ _ hg, speaks_loop hS _ _ hg]
        · refine speaks_more hz n g (h :: L) (List.nodup_cons.mpr ⟨hg, nd⟩) (fun y hy => ?_) (by rw [List.length_cons]; omega) fun y hy => ?_
          · rcases List.mem_cons.mp hy with e | hy
            · rw [e]; exact proxy_rng hz hp
            · exact hr y hy
          · rcases List.mem_cons.mp hy with e | hy
            · rw [e]; exact ⟨hv, g, hp, List.mem_cons_self⟩
            · obtain ⟨h1, p, h2, h3⟩ := hc y hy
              exact ⟨h1, p, h2, List.mem_cons_of_mem _ h3⟩
theorem speaks_20 {z : Scheme} (hz : ZOk z) {h : Nat} (hh : 1 ≤ h ∧ h ≤ 20) : speaks z (HOLDERS + 1) h = speaks z 20 h :=
  speaks_more hz 20 h [] (by simp) (fun y hy => by rw [List.mem_singleton.mp hy]; exact hh) (by simp) (by simp)
theorem speaks_voted {z : Scheme} : ∀ {n h g : Nat}, speaks z n h = some g → (voteOf z g).isSome = true
  | 0, _, _, e => by cases e
  | n + 1, h, g, e => by
    unfold speaks at e
    cases hv : voteOf z h with
    | some b =>
      rw [hv] at e
      have e' : h = g := Option.some.inj e
      rw [← e', hv]; rfl
    | none =>
      rw [hv] at e
      cases hp : proxyOf z h with
      | none => rw [hp] at e; cases e
      | some p =>
        rw [hp] at e
        exact speaks_voted (n := n) e
theorem voteOf_rng {z : Scheme} (hz : ZOk z) {g : Nat} (h : (voteOf z g).isSome = true) : 1 ≤ g ∧ g ≤ 20 := by
  unfold voteOf at h
  cases q : z.votes.find? (fun v => v.1 == g) with
  | none => rw [q] at h; cases h
  | some v =>
    have := hz.vr v (List.mem_of_find?_eq_some q)
    have e : v.1 = g := by have := List.find?_some q; simpa using this
    omega
def castBy (z : Scheme) (y : Holding) : Nat := if (choiceOf z y.holder).isSome then y.units else 0
def forBy (z : Scheme) (y : Holding) : Nat := if choiceOf z y.holder == some true then y.units else 0
theorem sum_filter {p : Holding → Bool} : ∀ l : List Holding, Vbfual.sum ((l.filter p).map fun y => y.units) = Vbfual.sum (l.map fun y => if p y then y.units else 0)
  | [] => rfl
  | a :: l => by
    rw [List.filter_cons, List.map_cons, sum_cons, ← sum_filter l]
    split
    · rw [List.map_cons, sum_cons]
    · omega
theorem cast_eq (z : Scheme) (x : Fund) : castIn z x = Vbfual.sum (x.hold.map (castBy z)) := sum_filter _
theorem for_eq (z : Scheme) (x : Fund) : forIn z x = Vbfual.sum (x.hold.map (forBy z)) := sum_filter _
theorem sum_take {α : Type} (f : α → Nat) {l : List α} {i : Nat} {y : α} (h : l[i]? = some y) : Vbfual.sum ((l.take (i + 1)).map f) = Vbfual.sum ((l.take i).map f) + f y := by
  rw [List.take_add_one, h, List.map_append, sum_append]
  rfl
theorem sorted_same {l k : List Int} (hp : l.Perm k) (hl : l.Pairwise (· ≤ ·)) (hk : k.Pairwise (· < ·)) : l = k :=
  List.Perm.eq_of_pairwise (le := (· ≤ ·)) (fun a b _ _ h1 h2 => by omega) hl (hk.imp fun h => by omega) hp
theorem Srt.ints {l : List Holding} (h : Srt l) : (l.map fun y => (y.holder : Int)).Pairwise (· < ·) := List.pairwise_map.mpr (h.imp fun q => by omega)
end M
end
section
set_option Elab.async false
set_option linter.unusedVariables false
namespace M
open Vbfual
theorem mb {a b c d : Nat} (h1 : a ≤ c) (h2 : b ≤ d) : a * b ≤ c * d := Nat.mul_le_mul h1 h2
theorem new_int {a b : Fund} {u : Nat} (hb : unitsOf b ≠ 0) : ((newUnits a b u : Nat) : Int) = (u : Int) * a.value * unitsOf b / ((unitsOf a : Int) * b.value) := by
  unfold newUnits
  rw [if_neg hb]
  push_cast
  rfl
theorem new_le {a b : Fund} {u : Nat} (hb : unitsOf b ≠ 0) : newUnits a b u * b.value * unitsOf a ≤ u * a.value * unitsOf b := by
  unfold newUnits
  rw [if_neg hb, Nat.mul_assoc, Nat.mul_comm b.value]
  exact Nat.div_mul_le_self _ _
theorem rest_int {a b : Fund} {u : Nat} (hb : unitsOf b ≠ 0) : ((restOf a b u : Nat) : Int) = ((u : Int) * a.value * unitsOf b - (newUnits a b u : Int) * b.value * unitsOf a) / ((unitsOf a : Int) * unitsOf b) := by
  unfold restOf
  rw [if_neg hb]
  have := new_le (a := a) (b := b) (u := u) hb
  rw [Int.natCast_ediv, Int.ofNat_sub this]
  push_cast
  rfl
theorem rest_le {a b : Fund} {u : Nat} : restOf a b u ≤ a.value * u / unitsOf a := by
  unfold restOf
  split
  · exact Nat.zero_le _
  · next hb =>
    refine Nat.le_trans (Nat.div_le_div_right (Nat.sub_le _ _)) ?_
    rw [Nat.mul_comm (unitsOf a), ← Nat.div_div_eq_div_mul, Nat.mul_div_cancel _ (Nat.pos_of_ne_zero hb), Nat.mul_comm u]
    exact Nat.le_refl _
theorem cash_le {a b : Fund} : Vbfual.sum (a.hold.map fun y => restOf a b y.units) ≤ a.value :=
  Nat.le_trans (sum_le fun y _ => rest_le) (sum_parts a.value rfl)
theorem joined_cash (a b : Fund) : (joined a b).1.map (fun p => p.2) = a.hold.map fun y => restOf a b y.units := by
  unfold joined
  dsimp only
  rw [List.map_map]
  rfl
theorem joined_value (a b : Fund) : (((joined a b).2.value : Nat) : Int) = (b.value : Int) + a.value - (Vbfual.sum (a.hold.map fun y => restOf a b y.units) : Nat) := by
  have e : (joined a b).2.value = b.value + a.value - Vbfual.sum (a.hold.map fun y => restOf a b y.units) := by
    rw [← joined_cash a b]
    rfl
  have := cash_le (a := a) (b := b)
  rw [e]
  omega
def part1 (a b : Fund) (l : List Holding) : Fund := l.foldl (fun (x : Fund) y => more y.holder (newUnits a b y.units) (y.cost - restOf a b y.units) x) b
theorem part1_take {a b : Fund} {l : List Holding} {i : Nat} {y : Holding} (h : l[i]? = some y) : part1 a b (l.take (i + 1)) = more y.holder (newUnits a b y.units) (y.cost - restOf a b y.units) (part1 a b (l.take i)) := by
  unfold part1
  rw [List.take_add_one, h, List.foldl_append]
  rfl
def paid1 (a b : Fund) (l : List Holding) : List (Nat × Nat) := l.map fun y => (y.holder, restOf a b y.units)
theorem paysAll_take {s : State} {l : List (Nat × Nat)} {i : Nat} {p : Nat × Nat} (h : l[i]? = some p) : paysAll s (l.take (i + 1)) = pays (paysAll s (l.take i)) p.1 (p.2 : Int) := by
  unfold paysAll
  rw [List.take_add_one, h, List.foldl_append]
  rfl
def addC (c : Nat → Int) (h : Nat) (m : Int) : Nat → Int := fun g => if g = h then c h + m else c g
theorem cashAt_addC {s : State} (hn : s.cash.length = 20) {h : Nat} (m : Int) (hh : 1 ≤ h ∧ h ≤ 20) {g : Nat} (hg : 1 ≤ g) : cashAt (pays s h m) g = addC (cashAt s) h m g := cashAt_pays hn m hh hg
def cut2 (part : Nat) (y : Holding) : Holding := { y with cost := y.cost * part / MILLION }
def cut1 (part : Nat) (y : Holding) : Holding := { y with cost := y.cost - y.cost * part / MILLION }
theorem more_last {b : Fund} {y : Holding} {c : Nat} (hu : y.units ≠ 0) (hg : y.got = 0) (hl : ∀ z ∈ b.hold, z.holder < y.holder) : more y.holder y.units c b = { b with hold := b.hold ++ [{ y with cost := c }] } := by
  have hn : holdingOf b y.holder = { holder := y.holder, units := 0, cost := 0, got := 0 } := holdingOf_none fun z hz => by have := hl z hz; omega
  unfold more
  dsimp only
  rw [hn, putHold_last _ (by simpa using hu) (by simpa using hl)]
  simp [hg]
theorem div_take {part : Nat} {b : Fund} (hb : b.hold = []) {l : List Holding} (hl : Sf l) (hg : ∀ y ∈ l, y.got = 0) {i : Nat} {y : Holding} (h : l[i]? = some y) :
    more y.holder y.units (y.cost * part / MILLION) { b with hold := (l.take i).map (cut2 part) } = { b with hold := (l.take (i + 1)).map (cut2 part) } := by
  have hm : y ∈ l := List.mem_of_getElem? h
  rw [more_last (by have := hl.pos y hm; omega) (hg y hm) fun z hz => ?_]
  · show Fund.mk _ _ _ _ = Fund.mk _ _ _ _
    congr 1
    rw [List.take_add_one, h, List.map_append]
    rfl
  · obtain ⟨w, hw, rfl⟩ := List.mem_map.mp hz
    show w.holder < y.holder
    obtain ⟨j, hj, e⟩ := List.mem_iff_getElem.mp hw
    have hj' : j < i := by rw [List.length_take] at hj; omega
    obtain ⟨hi, ei⟩ := List.getElem?_eq_some_iff.mp h
    have := List.pairwise_iff_getElem.mp hl.srt j i (by omega) hi hj'
    rw [List.getElem_take] at e
    rw [← e, ← ei]
    exact this
end M
end
section
set_option Elab.async false
set_option linter.unusedVariables false
namespace M
open Vbfual
theorem p_cases {p : Int} (h0 : 0 ≤ p) (h1 : p ≤ 19) : p = 0 ∨ p = 1 ∨ p = 2 ∨ p = 3 ∨ p = 4 ∨ p = 5 ∨ p = 6 ∨ p = 7 ∨ p = 8 ∨ p = 9 ∨ p = 10 ∨ p = 11 ∨ p = 12 ∨ p = 13 ∨ p = 14 ∨ p = 15 ∨ p = 16 ∨ p = 17 ∨ p = 18 ∨ p = 19 := by omega
theorem shape_rng {p : Int} {n k : Nat} (h : PyVbfual.shape p = some (n, k)) : 0 ≤ p ∧ p ≤ 19 ∧ k = 0 := by
  by_cases hr : 0 ≤ p ∧ p ≤ 19
  · refine ⟨hr.1, hr.2, ?_⟩
    rcases p_cases hr.1 hr.2 with e | e | e | e | e | e | e | e | e | e | e | e | e | e | e | e | e | e | e | e <;> subst e <;> (have e' := Option.some.inj h; cases e'; rfl)
  · unfold PyVbfual.shape at h
    rw [if_neg (by omega), if_neg (by omega), if_neg (by omega), if_neg (by omega), if_neg (by omega), if_neg (by omega), if_neg (by omega), if_neg (by omega), if_neg (by omega), if_neg (by omega),
      if_neg (by omega), if_neg (by omega), if_neg (by omega), if_neg (by omega), if_neg (by omega), if_neg (by omega), if_neg (by omega), if_neg (by omega), if_neg (by omega), if_neg (by omega)] at h
    cases h
theorem calls_step {f : Nat} {p : Int} {r : List Int} {cs : List (List (List Int))} (h : PyFlat.calls PyVbfual.shape f (p :: r) = some cs) :
    ∃ f' n cs', f = f' + 1 ∧ PyVbfual.shape p = some (n, 0) ∧ n ≤ r.length ∧ cs = [p :: r.take n] :: cs' ∧ PyFlat.calls PyVbfual.shape f' (r.drop n) = some cs' := by
  cases f with
  | zero => cases h
  | succ f =>
    unfold PyFlat.calls at h
    cases hc : PyFlat.call PyVbfual.shape (p :: r) with
    | none => rw [hc] at h; cases h
    | some ct =>
      obtain ⟨c, t⟩ := ct
      rw [hc] at h
      dsimp only at h
      cases hq : PyFlat.calls PyVbfual.shape f t with
      | none => rw [hq] at h; cases h
      | some cs' =>
        rw [hq] at h
        have e := Option.some.inj h
        unfold PyFlat.call at hc
        dsimp only at hc
        cases hs : PyVbfual.shape p with
        | none => rw [hs] at hc; cases hc
        | some nk =>
          obtain ⟨n, k⟩ := nk
          obtain ⟨_, _, rfl⟩ := shape_rng hs
          rw [hs] at hc
          dsimp only at hc
          split at hc
          · cases hc
          · next hl =>
            have e2 : ((p :: r.take n) :: [], r.drop n) = (c, t) := Option.some.inj hc
            cases e2
            exact ⟨f, n, cs', rfl, rfl, by omega, e.symm, hq⟩
def callFor : Int → List Int → Option Call
  | 0, [] => some .begin
  | 1, [f, h, m] => some (.buy f h m)
  | 2, [f, h, n] => some (.sell f h n)
  | 3, [f, h, g, n] => some (.transfer f h g n)
  | 4, [f, d] => some (.result f d)
  | 5, [k, a, b, p, q, n] => some (.propose k a b p q n)
  | 6, [n, h, y] => some (.vote n h y)
  | 7, [n, h, g] => some (.proxy n h g)
  | 8, [n] => some (.count n)
  | 9, [n] => some (.effect n)
  | 10, [f, m] => some (.pay f m)
  | 11, [f] => some (.last f)
  | 12, [f] => some (.fund f)
  | 13, [f, h] => some (.holding f h)
  | 14, [h] => some (.cash h)
  | 15, [f] => some (.holders f)
  | 16, [n] => some (.scheme n)
  | 17, [n] => some (.tally n)
  | 18, [n, h] => some (.speaker n h)
  | 19, [a, b, h] => some (.offer a b h)
  | _, _ => none
theorem len1 {l : List Int} (h : l.length = 1) : ∃ a, l = [a] := by match l, h with | [a], _ => exact ⟨a, rfl⟩
theorem len2 {l : List Int} (h : l.length = 2) : ∃ a b, l = [a, b] := by match l, h with | [a, b], _ => exact ⟨a, b, rfl⟩
theorem len3 {l : List Int} (h : l.length = 3) : ∃ a b c, l = [a, b, c] := by match l, h with | [a, b, c], _ => exact ⟨a, b, c, rfl⟩
theorem len4 {l : List Int} (h : l.length = 4) : ∃ a b c d, l = [a, b, c, d] := by match l, h with | [a, b, c, d], _ => exact ⟨a, b, c, d, rfl⟩
theorem len6 {l : List Int} (h : l.length = 6) : ∃ a b c d e f, l = [a, b, c, d, e, f] := by match l, h with | [a, b, c, d, e, f], _ => exact ⟨a, b, c, d, e, f, rfl⟩
theorem step_for {p : Int} {n : Nat} {args : List Int} (hs : PyVbfual.shape p = some (n, 0)) (hl : args.length = n) :
    ∃ c, callFor p args = some c ∧ ∀ s, VbfualNeutral.step s (PyVbfual.whole [p :: args]) = Vbfual.step s c := by
  obtain ⟨h0, h1, _⟩ := shape_rng hs
  rcases p_cases h0 h1 with e | e | e | e | e | e | e | e | e | e | e | e | e | e | e | e | e | e | e | e <;> subst e <;> (have e' := Option.some.inj hs; cases e')
  · have := List.eq_nil_of_length_eq_zero hl
    subst this; exact ⟨_, rfl, fun _ => rfl⟩
  · obtain ⟨a, b, c, rfl⟩ := len3 hl; exact ⟨_, rfl, fun _ => rfl⟩
  · obtain ⟨a, b, c, rfl⟩ := len3 hl; exact ⟨_, rfl, fun _ => rfl⟩
  · obtain ⟨a, b, c, d, rfl⟩ := len4 hl; exact ⟨_, rfl, fun _ => rfl⟩
  · obtain ⟨a, b, rfl⟩ := len2 hl; exact ⟨_, rfl, fun _ => rfl⟩
  · obtain ⟨a, b, c, d, e, f, rfl⟩ := len6 hl; exact ⟨_, rfl, fun _ => rfl⟩
  · obtain ⟨a, b, c, rfl⟩ := len3 hl; exact ⟨_, rfl, fun _ => rfl⟩
  · obtain ⟨a, b, c, rfl⟩ := len3 hl; exact ⟨_, rfl, fun _ => rfl⟩
  · obtain ⟨a, rfl⟩ := len1 hl; exact ⟨_, rfl, fun _ => rfl⟩
  · obtain ⟨a, rfl⟩ := len1 hl; exact ⟨_, rfl, fun _ => rfl⟩
  · obtain ⟨a, b, rfl⟩ := len2 hl; exact ⟨_, rfl, fun _ => rfl⟩
  · obtain ⟨a, rfl⟩ := len1 hl; exact ⟨_, rfl, fun _ => rfl⟩
  · obtain ⟨a, rfl⟩ := len1 hl; exact ⟨_, rfl, fun _ => rfl⟩
  · obtain ⟨a, b, rfl⟩ := len2 hl; exact ⟨_, rfl, fun _ => rfl⟩
  · obtain ⟨a, rfl⟩ := len1 hl; exact ⟨_, rfl, fun _ => rfl⟩
  · obtain ⟨a, rfl⟩ := len1 hl; exact ⟨_, rfl, fun _ => rfl⟩
  · obtain ⟨a, rfl⟩ := len1 hl; exact ⟨_, rfl, fun _ => rfl⟩
  · obtain ⟨a, rfl⟩ := len1 hl; exact ⟨_, rfl, fun _ => rfl⟩
  · obtain ⟨a, b, rfl⟩ := len2 hl; exact ⟨_, rfl, fun _ => rfl⟩
  · obtain ⟨a, b, c, rfl⟩ := len3 hl; exact ⟨_, rfl, fun _ => rfl⟩
def dueFrom (s : State) (cs : List (List (List Int))) : List Int := PyFlat.told (PyFlat.played VbfualNeutral.step s (cs.map PyVbfual.whole))
theorem due_nil (s : State) : dueFrom s [] = [] := rfl
theorem due_cons (s : State) (c : List (List Int)) (cs : List (List (List Int))) : dueFrom s (c :: cs) = (((VbfualNeutral.step s (PyVbfual.whole c)).2.length : Int) :: (VbfualNeutral.step s (PyVbfual.whole c)).2) ++ dueFrom (VbfualNeutral.step s (PyVbfual.whole c)).1 cs := by
  unfold dueFrom
  rw [List.map_cons]
  rfl
theorem answers_due {l : List Int} (h : PyVbfual.answers_asked l = true) : ∃ cs, PyFlat.calls PyVbfual.shape l.length l = some cs ∧ cs.length ≤ 400 ∧ PyVbfual.answers l = dueFrom Vbfual.start cs := by
  unfold PyVbfual.answers_asked at h
  unfold PyVbfual.answers
  cases hc : PyFlat.calls PyVbfual.shape l.length l with
  | none =>
    unfold PyVbfual.calls at h
    rw [hc] at h
    cases h
  | some cs =>
    have e : PyVbfual.calls l = some (cs.map PyVbfual.whole) := by unfold PyVbfual.calls; rw [hc]
    rw [e] at h ⊢
    dsimp only at h ⊢
    rw [Bool.and_eq_true] at h
    refine ⟨cs, rfl, ?_, rfl⟩
    have := h.1
    unfold PyFlat.atMost at this
    rw [List.length_map] at this
    simpa using this
end M
end
section
set_option Elab.async false
set_option linter.unusedVariables false
namespace M
open Vbfual
theorem state_ext {s t : State} (h1 : s.funds = t.funds) (h2 : s.cash = t.cash) (h3 : s.schemes = t.schemes) (h4 : s.next = t.next) : s = t := by
  obtain ⟨_, _, _, _⟩ := s
  obtain ⟨_, _, _, _⟩ := t
  dsimp only at h1 h2 h3 h4
  subst h1 h2 h3 h4
  rfl
theorem paysAll_cash : ∀ (l : List (Nat × Nat)) {s t : State}, s.cash = t.cash → (paysAll s l).cash = (paysAll t l).cash
  | [], _, _, h => h
  | p :: l, s, t, h => paysAll_cash l (s := pays s p.1 p.2) (t := pays t p.1 p.2) (by
      show s.cash.set (p.1 - 1) (cashAt s p.1 + _) = t.cash.set (p.1 - 1) (cashAt t p.1 + _)
      unfold cashAt
      rw [h])
theorem putHold_mid {y y' : Holding} (hh : y'.holder = y.holder) (hu : y'.units ≠ 0) : ∀ {l1 l2 : List Holding}, Srt (l1 ++ y :: l2) → putHold y' (l1 ++ y :: l2) = l1 ++ y' :: l2
  | [], l2, _ => by
    show putHold y' (y :: l2) = _
    unfold putHold
    rw [if_pos hh.symm, if_neg hu]
    rfl
  | z :: l1, l2, hs => by
    have h1 := hs.head y (List.mem_append_right _ List.mem_cons_self)
    show putHold y' (z :: (l1 ++ y :: l2)) = z :: (l1 ++ y' :: l2)
    unfold putHold
    rw [if_neg (by omega), if_neg (by omega), putHold_mid hh hu hs.tail]
theorem take_drop_split {α : Type} {l : List α} {i : Nat} {y : α} (h : l[i]? = some y) : l.drop i = y :: l.drop (i + 1) := by
  obtain ⟨hi, e⟩ := List.getElem?_eq_some_iff.mp h
  rw [List.drop_eq_getElem_cons hi, e]
def cutTo (part i : Nat) (l : List Holding) : List Holding := (l.take i).map (cut1 part) ++ l.drop i
theorem cutTo_zero (part : Nat) (l : List Holding) : cutTo part 0 l = l := by simp [cutTo]
theorem cutTo_all (part : Nat) (l : List Holding) : cutTo part l.length l = l.map (cut1 part) := by simp [cutTo]
theorem cutTo_srt {part i : Nat} {l : List Holding} (h : Sf l) : Sf (cutTo part i l) := by
  have e : cutTo part i l = (l.take i).map (cut1 part) ++ (l.drop i) := rfl
  have hm : ∀ z ∈ cutTo part i l, ∃ w ∈ l, w.holder = z.holder ∧ w.units = z.units := fun z hz => by
    rcases List.mem_append.mp hz with q | q
    · obtain ⟨w, hw, rfl⟩ := List.mem_map.mp q
      exact ⟨w, List.mem_of_mem_take hw, rfl, rfl⟩
    · exact ⟨z, List.mem_of_mem_drop q, rfl, rfl⟩
  refine ⟨?_, fun z hz => ?_, fun z hz => ?_⟩
  · have h2 : (cutTo part i l).map (fun y => y.holder) = l.map fun y => y.holder := by
      rw [e, List.map_append, List.map_map]
      have : (l.take i).map ((fun y => y.holder) ∘ cut1 part) = (l.take i).map fun y => y.holder := rfl
      rw [this, ← List.map_append, List.take_append_drop]
    have h3 : (l.map fun y => y.holder).Pairwise (· < ·) := List.pairwise_map.mpr h.srt
    rw [← h2] at h3
    exact List.pairwise_map.mp h3
  · obtain ⟨w, hw, e1, e2⟩ := hm z hz
    rw [← e1]; exact h.rng w hw
  · obtain ⟨w, hw, e1, e2⟩ := hm z hz
    rw [← e2]; exact h.pos w hw
theorem cutTo_step {part i : Nat} {l : List Holding} (hl : Sf l) {y : Holding} (h : l[i]? = some y) : y ∈ cutTo part i l ∧ putHold (cut1 part y) (cutTo part i l) = cutTo part (i + 1) l := by
  have hd := take_drop_split h
  have hs := (cutTo_srt (part := part) (i := i) hl).srt
  unfold cutTo at hs ⊢
  rw [hd] at hs ⊢
  refine ⟨List.mem_append_right _ List.mem_cons_self, ?_⟩
  rw [putHold_mid (y := y) (y' := cut1 part y) rfl (by show y.units ≠ 0; have := hl.pos y (List.mem_of_getElem? h); omega) hs, List.take_add_one, h, List.map_append, List.append_assoc]
  rfl
theorem part1_ok {a b : Fund} (ha : Sf a.hold) (hb : FOk b) (hc : b.closing = false) (hu : unitsOf (joined a b).2 ≤ MANY) (i : Nat) : FOk (part1 a b (a.hold.take i)) := by
  have h := fold_more (fun y : Holding => y.holder) (fun y => newUnits a b y.units) (fun y => y.cost - restOf a b y.units) (a.hold.take i) b hb.sf fun y hy => ha.rng y (List.mem_of_mem_take hy)
  have hj := joined_units ha hb.sf
  refine ⟨h.1, ?_, ?_, fun _ => ⟨?_, h.2.2.2.2.2 (hb.idle hc).2⟩, fun q => ?_⟩
  · show unitsOf (part1 a b (a.hold.take i)) ≤ MANY
    have e : unitsOf (part1 a b (a.hold.take i)) = unitsOf b + Vbfual.sum ((a.hold.take i).map fun y => newUnits a b y.units) := h.2.1
    have hle : Vbfual.sum ((a.hold.take i).map fun y => newUnits a b y.units) ≤ Vbfual.sum (a.hold.map fun y => newUnits a b y.units) := by
      have := List.take_append_drop i a.hold
      calc _ ≤ Vbfual.sum ((a.hold.take i).map fun y => newUnits a b y.units) + Vbfual.sum ((a.hold.drop i).map fun y => newUnits a b y.units) := Nat.le_add_right _ _
        _ = Vbfual.sum ((a.hold.take i ++ a.hold.drop i).map fun y => newUnits a b y.units) := by rw [List.map_append, sum_append]
        _ = _ := by rw [this]
    omega
  · exact Nat.le_trans (Nat.le_of_eq h.2.2.2.2.1) hb.great
  · exact h.2.2.2.1.trans (hb.idle hc).1
  · have q2 : (part1 a b (a.hold.take i)).closing = true := q
    have := h.2.2.1
    rw [show (part1 a b (a.hold.take i)).closing = b.closing from this, hc] at q2
    cases q2
theorem part1_flds (a b : Fund) (l : List Holding) : (part1 a b l).value = b.value ∧ (part1 a b l).closing = b.closing ∧ (part1 a b l).declared = b.declared := by
  induction l generalizing b with
  | nil => exact ⟨rfl, rfl, rfl⟩
  | cons y l ih =>
    have key : ∀ (l : List Holding) (c : Fund), (l.foldl (fun (x : Fund) y => more y.holder (newUnits a b y.units) (y.cost - restOf a b y.units) x) c).value = c.value ∧ (l.foldl (fun (x : Fund) y => more y.holder (newUnits a b y.units) (y.cost - restOf a b y.units) x) c).closing = c.closing ∧ (l.foldl (fun (x : Fund) y => more y.holder (newUnits a b y.units) (y.cost - restOf a b y.units) x) c).declared = c.declared := by
      intro l
      induction l with
      | nil => intro c; exact ⟨rfl, rfl, rfl⟩
      | cons z l ih2 => intro c; exact ih2 _
    exact key (y :: l) b
theorem joined_is (a b : Fund) : (joined a b).2 = { part1 a b a.hold with value := (joined a b).2.value } := rfl
end M
end
section
set_option Elab.async false
set_option linter.unusedVariables false
namespace M
open Vbfual
theorem flat2_len (l : List Holding) : (l.flatMap fun y => [y.holder, y.units]).length = 2 * l.length := by
  induction l with
  | nil => rfl
  | cons a l ih => rw [List.flatMap_cons, List.length_append, ih, List.length_cons]; simp; omega
theorem no_len (s : State) (n : Nat) : (no s n).2.length ≤ 50 := by show 1 ≤ 50; decide
theorem yes_len (s : State) (l : List Nat) (h : l.length ≤ 50) : (yes s l).2.length ≤ 50 := by
  show (l.map _).length ≤ 50
  rw [List.length_map]
  exact h
theorem on_len {s : State} {n : Int} {f : Scheme → State × Ans} (h : ∀ z ∈ s.schemes, (f z).2.length ≤ 50) : (onScheme s n f).2.length ≤ 50 := by
  unfold onScheme
  split
  · exact no_len s 1
  · split
    · exact no_len s 4
    · next z e => exact h z (List.mem_of_find?_eq_some e)
theorem step_len {s : State} (h : SOk s) (c : Call) : (Vbfual.step s c).2.length ≤ 50 := by
  cases c with
  | begin => exact yes_len _ _ (by simp)
  | buy f g m =>
    show (if _ then _ else _ : State × Ans).2.length ≤ 50
    split
    · exact no_len s 1
    · unfold Vbfual.doBuy
      dsimp only
      repeat' split
      all_goals first | exact no_len _ _ | exact yes_len _ _ (by simp)
  | sell f g m =>
    show (if _ then _ else _ : State × Ans).2.length ≤ 50
    split
    · exact no_len s 1
    · unfold Vbfual.doSell
      dsimp only
      repeat' split
      all_goals first | exact no_len _ _ | exact yes_len _ _ (by simp)
  | transfer f g k m =>
    show (if _ then _ else _ : State × Ans).2.length ≤ 50
    split
    · exact no_len s 1
    · unfold Vbfual.doTransfer
      dsimp only
      repeat' split
      all_goals first | exact no_len _ _ | exact yes_len _ _ (by simp)
  | result f d =>
    unfold Vbfual.step
    dsimp only
    repeat' split
    all_goals first | exact no_len _ _ | exact yes_len _ _ (by simp)
  | propose k a b p q n =>
    unfold Vbfual.step
    dsimp only
    repeat' split
    all_goals first | exact no_len _ _ | exact yes_len _ _ (by simp)
  | vote n g y =>
    unfold Vbfual.step
    dsimp only
    split
    · exact no_len _ _
    · refine on_len fun z hz => ?_
      repeat' split
      all_goals first | exact no_len _ _ | exact yes_len _ _ (by simp)
  | proxy n g y =>
    unfold Vbfual.step
    dsimp only
    split
    · exact no_len _ _
    · refine on_len fun z hz => ?_
      repeat' split
      all_goals first | exact no_len _ _ | exact yes_len _ _ (by simp)
  | count n =>
    refine on_len fun z hz => ?_
    split
    · exact no_len _ _
    · exact yes_len _ _ (by simp)
  | effect n =>
    refine on_len fun z hz => ?_
    unfold Vbfual.doEffect
    dsimp only
    repeat' split
    all_goals first | exact no_len _ _ | exact yes_len _ _ (by simp)
  | pay f m =>
    unfold Vbfual.step
    dsimp only
    repeat' split
    all_goals first | exact no_len _ _ | exact yes_len _ _ (by simp)
  | last f =>
    unfold Vbfual.step
    dsimp only
    repeat' split
    all_goals first | exact no_len _ _ | exact yes_len _ _ (by simp)
  | fund f =>
    unfold Vbfual.step
    dsimp only
    split
    · exact no_len _ _
    · exact yes_len _ _ (by simp)
  | holding f g =>
    unfold Vbfual.step
    dsimp only
    split
    · exact no_len _ _
    · exact yes_len _ _ (by show 4 ≤ 50; decide)
  | cash g =>
    unfold Vbfual.step
    dsimp only
    split
    · exact no_len _ _
    · show 2 ≤ 50
      decide
  | holders f =>
    unfold Vbfual.step
    dsimp only
    split
    · exact no_len _ _
    · next hf =>
      refine yes_len _ _ ?_
      have hr := fund_rng hf
      have := (h.fok _ hr.1 hr.2).sf.le20
      rw [List.length_cons, flat2_len]
      omega
  | scheme n => exact on_len fun z hz => yes_len _ _ (by simp)
  | tally n => exact on_len fun z hz => yes_len _ _ (by show 4 ≤ 50; decide)
  | speaker n g =>
    unfold Vbfual.step
    dsimp only
    split
    · exact no_len _ _
    · exact on_len fun z hz => yes_len _ _ (by simp)
  | offer a b g =>
    unfold Vbfual.step
    dsimp only
    repeat' split
    all_goals first | exact no_len _ _ | exact yes_len _ _ (by simp)
end M
end
section
set_option Elab.async false
namespace M
open Vbfual
def mapTo (g : Holding → Holding) (i : Nat) (l : List Holding) : List Holding := (l.take i).map g ++ l.drop i
theorem mapTo_zero (g : Holding → Holding) (l : List Holding) : mapTo g 0 l = l := by simp [mapTo]
theorem mapTo_all (g : Holding → Holding) (l : List Holding) : mapTo g l.length l = l.map g := by simp [mapTo]
theorem mapTo_len (g : Holding → Holding) (i : Nat) (l : List Holding) : (mapTo g i l).length = l.length := by
  simp [mapTo]; omega
theorem mapTo_map {β : Type} {g : Holding → Holding} {f : Holding → β} (hg : ∀ y, f (g y) = f y) (i : Nat) (l : List Holding) : (mapTo g i l).map f = l.map f := by
  have e : (l.take i).map (f ∘ g) = (l.take i).map f := List.map_congr_left fun y _ => hg y
  rw [mapTo, List.map_append, List.map_map, e, ← List.map_append, List.take_append_drop]
theorem mapTo_sf {g : Holding → Holding} (hg : ∀ y, (g y).holder = y.holder ∧ (g y).units = y.units) {i : Nat} {l : List Holding} (h : Sf l) : Sf (mapTo g i l) := by
  have hm : ∀ z ∈ mapTo g i l, ∃ w ∈ l, w.holder = z.holder ∧ w.units = z.units := fun z hz => by
    rcases List.mem_append.mp hz with q | q
    · obtain ⟨w, hw, rfl⟩ := List.mem_map.mp q
      exact ⟨w, List.mem_of_mem_take hw, (hg w).1.symm, (hg w).2.symm⟩
    · exact ⟨z, List.mem_of_mem_drop q, rfl, rfl⟩
  refine ⟨?_, fun z hz => ?_, fun z hz => ?_⟩
  · have h3 : (l.map fun y => y.holder).Pairwise (· < ·) := List.pairwise_map.mpr h.srt
    rw [← mapTo_map (g := g) (fun y => (hg y).1) i l] at h3
    exact List.pairwise_map.mp h3
  · obtain ⟨w, hw, e1, e2⟩ := hm z hz
    rw [← e1]; exact h.rng w hw
  · obtain ⟨w, hw, e1, e2⟩ := hm z hz
    rw [← e2]; exact h.pos w hw
theorem mapTo_step {g : Holding → Holding} (hg : ∀ y, (g y).holder = y.holder ∧ (g y).units = y.units) {i : Nat} {l : List Holding} (hl : Sf l) {y : Holding} (h : l[i]? = some y) : y ∈ mapTo g i l ∧ putHold (g y) (mapTo g i l) = mapTo g (i + 1) l := by
  have hd := take_drop_split h
  have hs := (mapTo_sf (i := i) hg hl).srt
  unfold mapTo at hs ⊢
  rw [hd] at hs ⊢
  refine ⟨List.mem_append_right _ List.mem_cons_self, ?_⟩
  rw [putHold_mid (y := y) (y' := g y) (hg y).1 (by rw [(hg y).2]; have := hl.pos y (List.mem_of_getElem? h); omega) hs, List.take_add_one, h, List.map_append, List.append_assoc]
  rfl
theorem mapTo_units {g : Holding → Holding} (hg : ∀ y, (g y).units = y.units) (i : Nat) (l : List Holding) : (mapTo g i l).map (fun y => y.units) = l.map fun y => y.units := mapTo_map hg i l
theorem rank_take {α : Type} {lt : α → α → Bool} {S l : List α} (hp : S.Perm l) (hS : S.Pairwise fun a b => lt a b = true ∧ lt b a = false) (irr : ∀ a, lt a a = false) {k : Nat} {x : α} (hx : x ∈ S) : (l.filter fun y => lt y x).length < k ↔ x ∈ S.take k := by
  rw [← (hp.filter fun y => lt y x).length_eq]
  obtain ⟨p, q, rfl⟩ := List.append_of_mem hx
  obtain ⟨h1, h2, h3⟩ := List.pairwise_append.mp hS
  have e1 : p.filter (fun y => lt y x) = p := List.filter_eq_self.mpr fun a ha => (h3 a ha x List.mem_cons_self).1
  have e2 : (x :: q).filter (fun y => lt y x) = [] := List.filter_eq_nil_iff.mpr fun a ha => by
    rcases List.mem_cons.mp ha with rfl | ha
    · rw [irr]; decide
    · rw [((List.pairwise_cons.mp h2).1 a ha).2]; decide
  rw [List.filter_append, e1, e2, List.append_nil]
  constructor
  · intro h
    rw [List.take_append, List.take_of_length_le (by omega)]
    refine List.mem_append_right _ ?_
    obtain ⟨n, hn⟩ : ∃ n, k - p.length = n + 1 := ⟨k - p.length - 1, by omega⟩
    rw [hn, List.take_succ_cons]
    exact List.mem_cons_self
  · intro h
    refine Nat.lt_of_not_le fun hk => ?_
    rw [List.take_append_of_le_length hk] at h
    have := (h3 x (List.mem_of_mem_take h) x List.mem_cons_self).1
    rw [irr] at this
    cases this
def remOf (a all : Nat) (y : Holding) : Nat := a * y.units % all
def aheadOf (a all : Nat) (y z : Holding) : Bool := decide (remOf a all y < remOf a all z) || (remOf a all y == remOf a all z && decide (z.holder < y.holder))
def leftOf (a all : Nat) (l : List Holding) : Nat := a - Vbfual.sum (l.map fun y => a * y.units / all)
def shareOf (a all : Nat) (l : List Holding) (y : Holding) : Nat := a * y.units / all + if (l.filter (aheadOf a all y)).length < leftOf a all l then 1 else 0
theorem parts_hold {l : List Holding} (hs : Srt l) (a : Nat) : parts a (l.map fun y => y.units) = l.map (shareOf a (Vbfual.sum (l.map fun y => y.units)) l) := by
  refine List.ext_getElem (by simp [parts]) fun i h1 h2 => ?_
  have hi : i < l.length := by simpa using h2
  unfold parts
  simp only [List.getElem_map, List.getElem_zip, List.getElem_range, List.map_map]
  have key : (((List.range (l.map fun y => y.units).length).zip (l.map ((fun w => a * w % Vbfual.sum (l.map fun y => y.units)) ∘ fun y => y.units))).filter fun y => decide (a * l[i].units % Vbfual.sum (l.map fun y => y.units) < y.2) || (a * l[i].units % Vbfual.sum (l.map fun y => y.units) == y.2 && decide (y.1 < i))).length = (l.filter (aheadOf a (Vbfual.sum (l.map fun y => y.units)) l[i])).length := by
    obtain ⟨U, hU⟩ : ∃ U, Vbfual.sum (l.map fun y => y.units) = U := ⟨_, rfl⟩
    rw [hU]
    have e : (List.range (l.map fun y => y.units).length).zip (l.map ((fun w => a * w % U) ∘ fun y => y.units)) = l.zipIdx.map fun q => (q.2, a * q.1.units % U) := by
      refine List.ext_getElem (by simp) fun j g1 g2 => ?_
      simp
    have e2 : l.filter (aheadOf a U l[i]) = (l.zipIdx.map fun q => q.1).filter (aheadOf a U l[i]) := by
      rw [show (l.zipIdx.map fun q => q.1) = l from List.zipIdx_map_fst 0 l]
    rw [e, e2, List.filter_map, List.filter_map, List.length_map, List.length_map]
    congr 1
    refine List.filter_congr fun q hq => ?_
    obtain ⟨z, j⟩ := q
    have hz : l[j]? = some z := by simpa [List.mem_zipIdx_iff_getElem?] using hq
    obtain ⟨hj, ez⟩ := List.getElem?_eq_some_iff.mp hz
    have hlt : decide (j < i) = decide (z.holder < l[i].holder) := by
      apply decide_eq_decide.mpr
      rw [← ez]
      constructor
      · intro h; exact List.pairwise_iff_getElem.mp hs j i hj hi h
      · intro h
        refine Nat.lt_of_not_le fun hle => ?_
        rcases Nat.lt_or_eq_of_le hle with g | g
        · have := List.pairwise_iff_getElem.mp hs i j hi hj g
          omega
        · subst g; omega
    show (decide (a * l[i].units % U < a * z.units % U) || (a * l[i].units % U == a * z.units % U && decide (j < i))) = aheadOf a U l[i] z
    rw [hlt]
    rfl
  exact congrArg (fun n => a * l[i].units / Vbfual.sum (l.map fun y => y.units) + if n < leftOf a (Vbfual.sum (l.map fun y => y.units)) l then 1 else 0) key
theorem atEnd_hold {x : Fund} (hs : Srt x.hold) : atEnd x = x.hold.map fun y => (y.holder, shareOf (gotIn x + x.value) (unitsOf x) x.hold y - y.got) := by
  unfold atEnd
  rw [parts_hold hs]
  show (x.hold.zip (x.hold.map (shareOf (gotIn x + x.value) (unitsOf x) x.hold))).map (fun p => (p.1.holder, p.2 - p.1.got)) = _
  refine List.ext_getElem (by simp) fun i h1 h2 => ?_
  simp
theorem got_share {x : Fund} (hx : FOk x) (hc : x.closing = true) {y : Holding} (hy : y ∈ x.hold) : y.got ≤ (gotIn x + x.value) * y.units / unitsOf x := by
  rw [(hx.due hc).2.2 y hy]
  exact Nat.div_le_div_right (Nat.mul_le_mul_right _ (hx.due hc).2.1)
theorem left_le {l : List Holding} {a : Nat} : Vbfual.sum (l.map fun y => a * y.units / Vbfual.sum (l.map fun y => y.units)) ≤ a := sum_parts a rfl
def rankLe (a all : Nat) (y z : Holding) : Bool := decide (remOf a all z < remOf a all y) || (remOf a all z == remOf a all y && decide (y.holder ≤ z.holder))
def rankS (a all : Nat) (l : List Holding) : List Holding := l.mergeSort (rankLe a all)
theorem rankS_perm (a all : Nat) (l : List Holding) : (rankS a all l).Perm l := List.mergeSort_perm l _
theorem rankS_pw {l : List Holding} (hs : Srt l) (a all : Nat) : (rankS a all l).Pairwise fun y z => aheadOf a all z y = true ∧ aheadOf a all y z = false := by
  have h1 : (rankS a all l).Pairwise fun y z => rankLe a all y z = true := by
    refine List.pairwise_mergeSort (fun x y z h1 h2 => ?_) (fun x y => ?_) l
    · simp [rankLe] at h1 h2 ⊢; omega
    · simp [rankLe]; omega
  have h2 : (rankS a all l).Pairwise fun y z => y.holder ≠ z.holder := by
    have : ((rankS a all l).map fun y => y.holder).Nodup := ((rankS_perm a all l).map _).nodup_iff.mpr hs.nodup
    exact List.pairwise_map.mp this
  refine (h1.and h2).imp fun {y z} h => ?_
  obtain ⟨h, hn⟩ := h
  simp [rankLe] at h
  simp [aheadOf]
  omega
theorem ahead_irr (a all : Nat) (y : Holding) : aheadOf a all y y = false := by simp [aheadOf]
def luckyOf (a all : Nat) (l : List Holding) : List Nat := ((rankS a all l).take (leftOf a all l)).map fun y => y.holder
theorem share_rank {l : List Holding} (hs : Srt l) {a all : Nat} {y : Holding} (hy : y ∈ l) : shareOf a all l y = a * y.units / all + if y.holder ∈ luckyOf a all l then 1 else 0 := by
  unfold shareOf
  have := rank_take (lt := fun z y => aheadOf a all y z) (rankS_perm a all l) ((rankS_pw hs a all).imp fun h => h) (ahead_irr a all) (k := leftOf a all l) (x := y) ((rankS_perm a all l).mem_iff.mpr hy)
  have h2 : y.holder ∈ luckyOf a all l ↔ y ∈ (rankS a all l).take (leftOf a all l) := by
    constructor
    · intro h
      obtain ⟨z, hz, e⟩ := List.mem_map.mp h
      rw [← hs.inj ((rankS_perm a all l).mem_iff.mp (List.mem_of_mem_take hz)) hy e]
      exact hz
    · intro h; exact List.mem_map.mpr ⟨y, h, rfl⟩
  by_cases h : y.holder ∈ luckyOf a all l
  · rw [if_pos h, if_pos (this.mpr (h2.mp h))]
  · rw [if_neg h, if_neg fun q => h (h2.mpr (this.mp q))]
theorem left_lt {l : List Holding} (hl : l ≠ []) {a : Nat} (hu : 0 < Vbfual.sum (l.map fun y => y.units)) : leftOf a (Vbfual.sum (l.map fun y => y.units)) l < l.length := by
  obtain ⟨U, hU⟩ : ∃ U, Vbfual.sum (l.map fun y => y.units) = U := ⟨_, rfl⟩
  rw [hU] at hu ⊢
  have key : ∀ k : List Holding, k ≠ [] → a * Vbfual.sum (k.map fun y => y.units) < U * (Vbfual.sum (k.map fun y => a * y.units / U) + k.length) := by
    intro k
    induction k with
    | nil => intro h; exact absurd rfl h
    | cons y k ih =>
      intro _
      rw [List.map_cons, List.map_cons, sum_cons, sum_cons, List.length_cons]
      have e1 : a * y.units = U * (a * y.units / U) + a * y.units % U := (Nat.div_add_mod _ _).symm
      have e2 : a * y.units % U < U := Nat.mod_lt _ hu
      have e3 : U * (a * y.units / U + Vbfual.sum (k.map fun y => a * y.units / U) + (k.length + 1)) = U * (a * y.units / U) + U + U * (Vbfual.sum (k.map fun y => a * y.units / U) + k.length) := by
        rw [Nat.mul_add, Nat.mul_add, Nat.mul_add, Nat.mul_add, Nat.mul_one]; omega
      rw [Nat.mul_add, e3]
      rcases k with _ | ⟨z, k⟩
      · simp [Vbfual.sum]; omega
      · have := ih (by simp)
        omega
  have h := key l hl
  rw [hU, Nat.mul_comm] at h
  have := Nat.lt_of_mul_lt_mul_left h
  have hp := List.length_pos_iff.mpr hl
  unfold leftOf
  omega
theorem sum_mem_take {α : Type} [DecidableEq α] {S : List α} (hn : S.Nodup) (k : Nat) (hk : k ≤ S.length) : Vbfual.sum (S.map fun y => if y ∈ S.take k then 1 else 0) = k := by
  have e : S = S.take k ++ S.drop k := (List.take_append_drop k S).symm
  have h1 : ∀ T : List α, (∀ y ∈ T, y ∈ S.take k) → Vbfual.sum (T.map fun y => if y ∈ S.take k then 1 else 0) = T.length := by
    intro T hT
    induction T with
    | nil => rfl
    | cons y T ih => rw [List.map_cons, sum_cons, if_pos (hT y List.mem_cons_self), ih fun z hz => hT z (List.mem_cons_of_mem _ hz), List.length_cons]; omega
  have h2 : ∀ T : List α, (∀ y ∈ T, ¬ y ∈ S.take k) → Vbfual.sum (T.map fun y => if y ∈ S.take k then 1 else 0) = 0 := by
    intro T hT
    induction T with
    | nil => rfl
    | cons y T ih => rw [List.map_cons, sum_cons, if_neg (hT y List.mem_cons_self), ih fun z hz => hT z (List.mem_cons_of_mem _ hz)]
  have hd : ∀ y ∈ S.drop k, ¬ y ∈ S.take k := fun y hy hy2 => by
    rw [e] at hn
    exact (List.nodup_append.mp hn).2.2 y hy2 y hy rfl
  have : Vbfual.sum ((S.take k ++ S.drop k).map fun y => if y ∈ S.take k then 1 else 0) = k := by
    rw [List.map_append, sum_append, h1 _ (fun y h => h), h2 _ hd, List.length_take]
    omega
  rwa [← e] at this
theorem sum_add {α : Type} (f g : α → Nat) : ∀ l : List α, Vbfual.sum (l.map fun y => f y + g y) = Vbfual.sum (l.map f) + Vbfual.sum (l.map g)
  | [] => rfl
  | y :: l => by rw [List.map_cons, List.map_cons, List.map_cons, sum_cons, sum_cons, sum_cons, sum_add f g l]; omega
theorem share_sum {l : List Holding} (hs : Srt l) (hl : l ≠ []) {a : Nat} (hu : 0 < Vbfual.sum (l.map fun y => y.units)) : Vbfual.sum (l.map (shareOf a (Vbfual.sum (l.map fun y => y.units)) l)) = a := by
  obtain ⟨U, hU⟩ : ∃ U, Vbfual.sum (l.map fun y => y.units) = U := ⟨_, rfl⟩
  have h1 := left_lt hl (a := a) hu
  have h0 := left_le (l := l) (a := a)
  rw [hU] at h0 h1 ⊢
  rw [List.map_congr_left fun y hy => share_rank hs hy, sum_add]
  have e : Vbfual.sum (l.map fun y => if y.holder ∈ luckyOf a U l then 1 else 0) = leftOf a U l := by
    rw [← sum_perm ((rankS_perm a U l).map fun y => if y.holder ∈ luckyOf a U l then 1 else 0)]
    have hn : ((rankS a U l).map fun y => y.holder).Nodup := ((rankS_perm a U l).map _).nodup_iff.mpr hs.nodup
    have := sum_mem_take hn (leftOf a U l) (by rw [List.length_map, (rankS_perm a U l).length_eq]; omega)
    rw [List.map_map, ← List.map_take] at this
    exact this
  rw [e]
  unfold leftOf
  omega
theorem end_sum {x : Fund} (hx : FOk x) (hc : x.closing = true) : Vbfual.sum ((atEnd x).map fun p => p.2) = x.value := by
  have hu := (hx.due hc).1
  have hl : x.hold ≠ [] := fun e => by
    unfold unitsOf at hu
    rw [e] at hu
    exact absurd hu (by decide)
  rw [atEnd_hold hx.sf.srt, List.map_map]
  have h1 : ∀ y ∈ x.hold, y.got ≤ shareOf (gotIn x + x.value) (unitsOf x) x.hold y := fun y hy => Nat.le_trans (got_share hx hc hy) (Nat.le_add_right _ _)
  have := sum_sub h1
  have e2 : Vbfual.sum (x.hold.map (shareOf (gotIn x + x.value) (unitsOf x) x.hold)) = gotIn x + x.value := share_sum hx.sf.srt hl hu
  show Vbfual.sum (x.hold.map fun y => shareOf (gotIn x + x.value) (unitsOf x) x.hold y - y.got) = x.value
  rw [this]
  show Vbfual.sum (x.hold.map (shareOf (gotIn x + x.value) (unitsOf x) x.hold)) - gotIn x = x.value
  rw [e2]
  omega
end M
end
section
set_option Elab.async false
namespace M
open Vbfual
def rkOf (a all : Nat) (y : Holding) : Int := -((remOf a all y : Nat) : Int) * 32 + y.holder
theorem rk_mod {l : List Holding} (hl : Sf l) {a all : Nat} {y : Holding} (hy : y ∈ l) : rkOf a all y % 32 = y.holder := by
  have := hl.rng y hy
  unfold rkOf
  omega
theorem rank_keys {l : List Holding} (hl : Sf l) (a all : Nat) {ks : List Int} (hp : ks.Perm (l.map (rkOf a all))) (hs : ks.Pairwise (· ≤ ·)) : ks = (rankS a all l).map (rkOf a all) := by
  refine sorted_same (hp.trans ((rankS_perm a all l).map _).symm) hs (List.pairwise_map.mpr ?_)
  have h1 := rankS_pw hl.srt a all
  refine h1.imp_of_mem fun {y z} hy hz h => ?_
  have ry := hl.rng y ((rankS_perm a all l).mem_iff.mp hy)
  have rz := hl.rng z ((rankS_perm a all l).mem_iff.mp hz)
  have h2 := h.1
  unfold aheadOf at h2
  unfold rkOf
  simp at h2
  omega
theorem rank_holders {l : List Holding} (hl : Sf l) (a all : Nat) {ks : List Int} (hp : ks.Perm (l.map (rkOf a all))) (hs : ks.Pairwise (· ≤ ·)) : ks.map (fun k => k % 32) = (rankS a all l).map fun y => (y.holder : Int) := by
  rw [rank_keys hl a all hp hs, List.map_map]
  exact List.map_congr_left fun y hy => rk_mod hl ((rankS_perm a all l).mem_iff.mp hy)
def setGot (sh : Nat → Nat) (y : Holding) : Holding := { y with got := sh y.holder }
def payL (sh : Nat → Nat) (l : List Holding) : List (Nat × Nat) := l.map fun y => (y.holder, sh y.holder - y.got)
theorem setGot_ok (sh : Nat → Nat) (y : Holding) : (setGot sh y).holder = y.holder ∧ (setGot sh y).units = y.units := ⟨rfl, rfl⟩
def downOf (x : Fund) (k : Nat) (h : Nat) : Nat := k * (holdingOf x h).units / unitsOf x
def shareAt (x : Fund) (k : Nat) (h : Nat) : Nat := downOf x k h + if h ∈ luckyOf k (unitsOf x) x.hold then 1 else 0
theorem down_mem {x : Fund} (hs : Srt x.hold) (k : Nat) {y : Holding} (hy : y ∈ x.hold) : downOf x k y.holder = k * y.units / unitsOf x := by
  unfold downOf
  rw [holdingOf_mem hs hy]
theorem shareAt_mem {x : Fund} (hs : Srt x.hold) (k : Nat) {y : Holding} (hy : y ∈ x.hold) : shareAt x k y.holder = shareOf k (unitsOf x) x.hold y := by
  unfold shareAt
  rw [down_mem hs k hy, share_rank hs hy]
theorem payL_turn {x : Fund} (hs : Srt x.hold) (k : Nat) : payL (downOf x k) x.hold = turn x k := by
  unfold payL turn
  exact List.map_congr_left fun y hy => by rw [down_mem hs k hy]
theorem setGot_turn {x : Fund} (hs : Srt x.hold) (k : Nat) : x.hold.map (setGot (downOf x k)) = x.hold.map fun y => { y with got := k * y.units / unitsOf x } := by
  exact List.map_congr_left fun y hy => by unfold setGot; rw [down_mem hs k hy]
theorem payL_end {x : Fund} (hs : Srt x.hold) : payL (shareAt x (gotIn x + x.value)) x.hold = atEnd x := by
  rw [atEnd_hold hs]
  unfold payL
  exact List.map_congr_left fun y hy => by rw [shareAt_mem hs _ hy]
theorem left_eq {x : Fund} (hs : Srt x.hold) (k : Nat) : (k : Int) - ((Vbfual.sum (x.hold.map fun y => downOf x k y.holder) : Nat) : Int) = ((leftOf k (unitsOf x) x.hold : Nat) : Int) := by
  have e : (x.hold.map fun y => downOf x k y.holder) = x.hold.map fun y => k * y.units / unitsOf x := List.map_congr_left fun y hy => down_mem hs k hy
  rw [e]
  have := left_le (l := x.hold) (a := k)
  unfold leftOf
  show (k : Int) - ((Vbfual.sum (x.hold.map fun y => k * y.units / unitsOf x) : Nat) : Int) = _
  have h2 : Vbfual.sum (x.hold.map fun y => k * y.units / unitsOf x) ≤ k := this
  omega
theorem take_holder {l : List Holding} (hs : Srt l) {i : Nat} {y : Holding} (h : l[i]? = some y) : y.holder ∉ (l.take i).map fun y => y.holder := by
  intro hm
  obtain ⟨z, hz, e⟩ := List.mem_map.mp hm
  have hn := hs.nodup
  have e2 : l.map (fun y => y.holder) = ((l.take i).map fun y => y.holder) ++ y.holder :: ((l.drop (i + 1)).map fun y => y.holder) := by
    conv => lhs; rw [← List.take_append_drop i l, take_drop_split h, List.map_append, List.map_cons]
  rw [e2] at hn
  exact (List.nodup_append.mp hn).2.2 _ hm _ List.mem_cons_self rfl
end M
end
section
set_option Elab.async false
set_option linter.all false
set_option maxRecDepth 100000
namespace L2
open PySem PySem.Spec PyProof.Rows
def CDivL (_ j : Int) : Prop := 0 < j ∧ j.natAbs < 2 ^ 200
section
variable {X : Cx}
theorem op_fdivL : OpR X (binaryOp .FloorDiv) (rI CDivL fun i j => .int (i / j)) := opI fun i j _ _ _ _ _ hc q => by
  have h1 : (0 : Int) < j := hc.1
  have h2 := hc.2
  refine floordiv_int (by omega) (by rw [Int.fdiv_eq_ediv_of_nonneg i (by omega)]; exact q) (.inl (PyProof.noPylong_of_log2 ?_))
  exact Nat.lt_of_lt_of_le ((Nat.log2_lt (by omega)).2 h2) (by decide)
theorem pe_gint {x : Str} {n : Int} {pos : Pos} (hg : Gl X x) (hm : ∃ t, X.mg x = some (.int n t)) (hd : (x == ("__debug__" : Str)) = false := by decide) : PE X (.Name x pos) (tC (.int n)) := by
  obtain ⟨t, hm⟩ := hm
  exact pe_glob hg hm ⟨t, rfl⟩ hd
def rSortedD : List V → Hp → VK → Prop := fun vs H Q => ∃ (a : Addr) (kvs : List (Key × V)) (ns : List Int), vs = [V.ref a] ∧ Rd H a (.dK kvs) ∧ kvs.map (·.1) = ns.map Sum.inl ∧ ns.length < 64 ∧
  ∀ (ns' : List Int) (p : Addr), ns'.Perm ns → ns'.Pairwise (· ≤ ·) → H p = none → Q (.ref p) (upd H p (.lst (ns'.map V.int)))
theorem kv_keys : ∀ {kvs : List (Key × V)} {vs : List (Key × Value)}, KV kvs vs → kvs.map (·.1) = vs.map (·.1)
  | _, _, .nil => rfl
  | _, _, .cons r t => by rw [List.map_cons, List.map_cons, r.1, kv_keys t]
theorem ints_at : ∀ {vs : List Value} {ns : List Int}, vs.length = ns.length → (∀ (j : Nat) (v : Value), vs[j]? = some v → ∃ n t, ns[j]? = some n ∧ v = Value.int n t) → IntsAre vs ns
  | [], [], _, _ => .nil
  | [], _ :: _, h, _ => by simp at h
  | _ :: _, [], h, _ => by simp at h
  | v :: vs, n :: ns, h, f => by
    obtain ⟨m, t, e, rfl⟩ := f 0 v rfl
    have e' : n = m := Option.some.inj e
    subst e'
    exact .cons n t (ints_at (by simpa using h) fun j u hu => f (j + 1) u hu)
theorem cr_sortedD (hc : X.calm = true) : CallR X (.builtin "sorted") rSortedD := by
  intro pins s σ H vs us Q I r h
  obtain ⟨a, kvs, ns, rfl, hd, hk, h64, q⟩ := h
  rw [Vals.ref1 r]
  obtain ⟨z, hsys, es, rel, dd⟩ := dk_rd I.hok hd
  obtain ⟨ep, hat⟩ := dd.dictAt
  have hl : es.length = ns.length := by
    have := congrArg List.length ((kv_keys rel).symm.trans hk)
    simpa using this
  refine Calls.call_function_entry kind_sorted plain_sorted entry_sorted (args_sorted1 _) ?_
  unfold Builtin.«sorted»
  refine wpAny_bind (m := checkCount "sorted" 1 1 _) (wpAny_pure ?_)
  refine wpAny_bind (PySem.W.kdu_collect (A := X.A.in1) (PySem.W.kdl_dict (knd := mixKind X.prog X.w) (kvs := es) (ep := ep) hsys) (I.ok.hd hc) hat (by rw [hl]; exact small64 h64) fun h' tk acc hkp hacc => ?_)
  have hlen : acc.toList.length = es.length := by rw [Array.length_toList]; exact hacc.1
  have hI : IntsAre acc.toList ns := ints_at (hlen.trans hl) fun j v e => by
    obtain ⟨k, x, hx, hkv⟩ := hacc.2 j v (by rw [← Array.getElem?_toList]; exact e)
    have e1 : (es.map (·.1))[j]? = some k := by rw [List.getElem?_map, hx]; rfl
    rw [← kv_keys rel, hk, List.getElem?_map] at e1
    cases e2 : ns[j]? with
    | none => rw [e2] at e1; cases e1
    | some n =>
      rw [e2] at e1
      have e3 : k = Sum.inl n := (Option.some.inj e1).symm
      subst e3
      rcases keyIs_shape (show keyIs (Sum.inl n) v = true from hkv) with ⟨i, t, e4, e5⟩ | ⟨y, t, e4, e5⟩
      · cases e4
        exact ⟨_, t, rfl, e5⟩
      · cases e4
  have hz : acc.toList.length ≤ sizeLine := by rw [hlen, hl]; exact small64 h64
  refine wpAny_bind (wpAny_newList ?_ hz)
  have hoL : (h'.push (seqObj "list" acc.toList.toArray 0)).get? h'.objs.size = some (seqObj "list" acc.toList.toArray 0) := Heap.get?_push_size _ rfl
  show wpAny _ _ _ _ _ { s with heap := h'.push (seqObj "list" acc.toList.toArray 0), toks := tk }
  have I1 : Inv X pins σ H { s with heap := h', toks := tk } := I.kept hkp
  refine wpAny_bind (wpAny_holding (wpAny_call_entry slot_list_sort ⟨_, hoL, rfl⟩ entry_list_sort (list_sort_tree hoL hI (by rw [hlen, hl]; exact h64) fun out ns' a1 a2 a3 => ⟨_, rfl, ?_⟩) (args_list_sort _)))
  obtain ⟨ep', he'⟩ := PyProof.Rows.sortedHeap_at (vs := acc.toList) (out := out) hoL
  refine wpAny_pure ⟨_, rfl, ?_⟩
  have hlen' : (ns'.map V.int).length ≤ sizeLine := by rw [List.length_map, a2.length_eq]; exact small64 h64
  have hf : H h'.objs.size = none := I1.hok.fresh (Nat.le_refl _)
  refine ⟨.ref h'.objs.size, upd H h'.objs.size (.lst (ns'.map V.int)), I1.laid (t' := tk) (fun b u e => ?_) (Nat.le_refl _) ⟨hlen', out.toList, ep', vals_of_ints a1, he'⟩, rfl, q ns' _ a2 a3 hf⟩
  have hb : b ≠ h'.objs.size := Nat.ne_of_lt (Heap.lt_size e)
  rw [PyProof.Rows.sortedHeap_old hb (Heap.lt_size (Heap.get?_push_of_some _ e))]
  exact Heap.get?_push_of_some _ e
end
def Good (H : Hp) : Prop := ∀ a kvs, H a ≠ some (.dT kvs)
theorem Good.upd {H : Hp} (g : Good H) {a : Addr} {o : HO} (h : ∀ kvs, o ≠ .dT kvs) : Good (upd H a o) := fun b kvs e => by
  by_cases hb : b = a
  · subst hb
    rw [upd_same] at e
    exact h kvs (Option.some.inj e)
  · rw [upd_ne hb] at e
    exact g b kvs e
theorem obj_less {P : Program} {w : World} {H H' : Hp} {h h' : Heap} {a : Addr} : ∀ {o : HO}, ((∀ kvs, o ≠ .dT kvs) ∨ ∃ ob, h.get? a = some ob ∧ h'.get? a = some ob) → ObjOk P w H h a o → ObjOk P w H' h' a o → ObjOk P w H h' a o := by
  intro o
  induction o with
  | ins C dx fs => intro _ x x'; exact ⟨x.1, x'.2⟩
  | dT kvs =>
    intro hn x x'
    rcases hn with hn | ⟨ob, e1, e2⟩
    · exact absurd rfl (hn kvs)
    · obtain ⟨z, y, xs, r, ob', es, ep, e, c⟩ := x
      rw [e1] at e
      cases e
      exact ⟨z, y, xs, r, ob, es, ep, e2, c⟩
  | frz ob u ih =>
    intro _ x x'
    obtain ⟨e, q⟩ := x
    obtain ⟨e', q'⟩ := x'
    exact ⟨e', ih (.inr ⟨ob, e, e'⟩) q q'⟩
  | _ => intro _ _ x'; exact x'
theorem HOk.less {P : Program} {w : World} {H H' : Hp} {h h' : Heap} (sub : Same H H') (g : Good H) (ok : HOk P w H h) (ok' : HOk P w H' h') : HOk P w H h' := fun a o e =>
  obj_less (.inl fun kvs z => g a kvs (by rw [e, z])) (ok a o e) (ok' a o (sub a o e))
section
variable {P : Program} {w : World} {K : PySem.W.Frag} {mg : Str → Option Value} {base : Heap}
theorem FnOk.pure {k : Nat} {f : Addr} {fd : FuncData} {ps : List Str} {sp sp' : Sp} (F : FnOk P w K mg base CX0 k f fd ps sp) (h : ∀ vs H Q E, sp' vs H Q E → Good H ∧ sp vs H (fun v H' => Same H H' ∧ Q v H) E) : FnOk P w K mg base CX0 k f fd ps sp' where
  len := fun vs H Q E q => F.len vs H _ E (h vs H Q E q).2
  run := fun A outer s H args us vs Q E hr e0 hb hv hs => by
    obtain ⟨g, hs'⟩ := h vs H Q E hs
    refine codeAny_mono (F.run A outer s H args us vs _ E hr e0 hb hv hs') fun r s' q => ?_
    cases r with
    | error e => exact q
    | ok fl =>
      cases fl with
      | ret u =>
        obtain ⟨v, H', os, bare, un, hok, r, same, q⟩ := q
        exact ⟨v, H, os, bare, ⟨un.keep, un.slot, fun b o e n hx => n, un.there, fun _ _ e => e, fun _ _ _ e => e, fun b ps e => ⟨#[], by rw [e]; simp⟩⟩, HOk.less same g e0.hok hok, r, q⟩
      | next => exact q
      | brk => exact q
      | cont => exact q
structure Ok (P : Program) (w : World) (K : PySem.W.Frag) (mg : Str → Option Value) (base : Heap) (k : Nat) (x : Str) (ps : List Str) (sp : Sp) : Prop where
  ex : ∃ f fd, mg x = some (.ref f) ∧ PySem.W.keepIn K (.ref f) = true ∧ Binds K fd ps [] ∧ FnOk P w K mg base CX0 k f fd ps sp
structure OkC (P : Program) (w : World) (K : PySem.W.Frag) (mg : Str → Option Value) (base : Heap) (k : Nat) (x : Str) (C : Addr) (ps : List Str) (sp : Sp) : Prop where
  ex : ∃ f fd, mg x = some (.ref C) ∧ Mk K C f ∧ Binds K fd ps [] ∧ FnOk P w K mg base CX0 k f fd ps sp
end
def tOk (sp : Sp) (t : TA) : TE := fun σ H Q => t σ H fun vs H1 => sp vs H1 Q E0
def tMk (C : Addr) (sp : Sp) (t : TA) : TE := fun σ H Q => t σ H fun vs H1 => ∀ x dx, H1 x = none → H1 dx = none → dx ≠ x →
  sp (.ref x :: vs) (upd (upd H1 dx (.own x)) x (.ins C dx [])) (fun v H2 => v = .non ∧ Q (.ref x) H2) E0
section
variable {X : Cx} {k : Nat} {C : Addr} {ps : List Str} {sp : Sp} {x : Str} {p pos : Pos} {e : Expr} {es : List Expr} {t : TA}
theorem pe_ok (O : Ok X.prog X.w X.K X.mg X.base k x ps sp) (hr : Room k X.A) (hg : Gl X x) (ha : PA X (e :: es) t) (hdb : (x == ("__debug__" : Str)) = false := by decide)
    (he : starEach (e :: es) X.env = (false, eval e X.env) :: starEach es X.env := by rfl) (hpl : (backTo pos (starEach es X.env)).any (·.1) = false := by rfl) : PE X (.Call (.Name x p) (e :: es) [] pos) (tOk sp t) := by
  obtain ⟨f, fd, hm, hk, hb, F⟩ := O.ex
  intro pins s σ H Q I h
  have q := pe_call (pos := pos) (p := p) F hr hg hm hk hb .nil pass0 ha hdb he hpl pins s σ H Q I
  refine q ?_
  show t σ H fun vs H1 => sp (vs ++ []) H1 Q E0
  simp only [List.append_nil]
  exact h
theorem pe_mk (O : OkC X.prog X.w X.K X.mg X.base k x C ps sp) (hr : Room (k + 1) X.A) (hg : Gl X x) (ha : PA X (e :: es) t) (hdb : (x == ("__debug__" : Str)) = false := by decide)
    (he : starEach (e :: es) X.env = (false, eval e X.env) :: starEach es X.env := by rfl) (hpl : (backTo pos (starEach es X.env)).any (·.1) = false := by rfl) : PE X (.Call (.Name x p) (e :: es) [] pos) (tMk C sp t) := by
  obtain ⟨f, fd, hm, M, hb, F⟩ := O.ex
  intro pins s σ H Q I h
  refine pe_make (pos := pos) (p := p) M F hr hg hm hb .nil pass0 ha hdb he hpl pins s σ H Q I ?_
  show t σ H fun vs H1 => ∀ x dx, H1 x = none → H1 dx = none → dx ≠ x → sp (.ref x :: (vs ++ [])) (upd (upd H1 dx (.own x)) x (.ins C dx [])) (fun v H2 => v = .non ∧ Q (.ref x) H2) E0
  simp only [List.append_nil]
  exact h
theorem pe_mk0 (O : OkC X.prog X.w X.K X.mg X.base k x C ps sp) (hr : Room (k + 1) X.A) (hg : Gl X x) (hdb : (x == ("__debug__" : Str)) = false := by decide) : PE X (.Call (.Name x p) [] [] pos) (tMk C sp tNil) := by
  obtain ⟨f, fd, hm, M, hb, F⟩ := O.ex
  intro pins s σ H Q I h
  exact pe_make0 (pos := pos) (p := p) M F hr hg hm hb .nil pass0 hdb pins s σ H Q I h
end
theorem lc_vals {d : Addr} {o : Obj} {kvs : List (Key × V)} {g : TG} {tt : TT} {te : TE} {vs : List Nat} {σ : St} {H1 : Hp} {D : Addr} {Qd : Hp → Prop} (Pv : Nat → Hp → Prop) (h0 : Pv 0 (upd H1 D (.lst [])))
    (hl : ∀ i H, i ≤ kvs.length → Pv i H → H d = some (.frz o (.dK kvs)))
    (hs : ∀ i k x H, kvs[i]? = some (k, x) → Pv i H → g x (wipe σ vs) H fun σ2 H2 => wipe σ2 vs = wipe σ vs ∧ tt σ2 H2 fun b H3 =>
      if b = true then te σ2 H3 fun y H4 => ∃ acc, H4 D = some (.lst acc) ∧ acc.length < sizeLine ∧ Pv (i + 1) (upd H4 D (.lst (acc ++ [y]))) else Pv (i + 1) H3) (hd : ∀ H, Pv kvs.length H → Qd H) :
    ∃ W : Nat → Nat → Hp → Prop, (∃ m, W 0 m (upd H1 D (.lst []))) ∧ ∀ i m H, W i m H →
      ((Itd d o kvs).stop i H ∧ Qd H) ∨ ((Itd d o kvs).go i H ∧ ∃ Nx : Hp → Prop, (∀ H', Nx H' → ∃ m', m' < m ∧ W (i + 1) m' H') ∧ ∀ x H', (Itd d o kvs).yld i H x H' → g x (wipe σ vs) H' fun σ2 H2 => wipe σ2 vs = wipe σ vs ∧ tt σ2 H2 fun b H3 =>
        if b = true then te σ2 H3 fun y H4 => ∃ acc, H4 D = some (.lst acc) ∧ acc.length < sizeLine ∧ Nx (upd H4 D (.lst (acc ++ [y]))) else Nx H3) := by
  refine ⟨fun i m H => m = kvs.length - i ∧ i ≤ kvs.length ∧ Pv i H, ⟨kvs.length, by simp, Nat.zero_le _, h0⟩, ?_⟩
  rintro i m H ⟨rfl, hi, p⟩
  have q := hl i H hi p
  by_cases hlt : i < kvs.length
  · refine .inr ⟨⟨q, hlt⟩, Pv (i + 1), fun H' p' => ⟨kvs.length - (i + 1), by omega, rfl, hlt, p'⟩, fun x H' y => ?_⟩
    obtain ⟨e, k, y⟩ := y
    subst e
    exact hs i k x _ y p
  · have e : i = kvs.length := by omega
    subst e
    exact .inl ⟨⟨q, Nat.le_refl _⟩, hd H p⟩
def GdE (e : DictEntry) (p : Int × Int) : Prop := (∃ t, e.key = .int p.1 t) ∧ (∃ t, e.val = .int p.2 t) ∧ e.hash = hashInt p.1
structure GD (K : PySem.W.Frag) (a : Addr) (kvs : List (Int × Int)) : Prop where
  ex : ∃ o es ep, K.lookup a = some o ∧ o.ExactDict ∧ o.data = .dict es ep ∧ Paired GdE es.toList kvs
theorem gd_pairs {P : Program} {w : World} : ∀ {es : List DictEntry} {kvs : List (Int × Int)}, Paired GdE es kvs → ∃ vs : List (Key × Value), KV (kvs.map fun p => ((Sum.inl p.1 : Key), V.int p.2)) vs ∧ Pairs (mixKind P w) es vs ∧ vs.map (·.1) = kvs.map (fun p => (Sum.inl p.1 : Key)) ∧
    ∀ e ∈ es, ∃ k, (mixKind P w).is k e.key = true ∧ e.hash = (mixKind P w).hash k
  | _, _, .nil => ⟨[], .nil, .nil, rfl, by intro e he; cases he⟩
  | e :: es, p :: kvs, .cons r t => by
    obtain ⟨vs, h1, h2, h3, h4⟩ := gd_pairs (P := P) (w := w) t
    obtain ⟨⟨t1, e1⟩, ⟨t2, e2⟩, e3⟩ := r
    refine ⟨(Sum.inl p.1, .int p.2 t2) :: vs, .cons ⟨rfl, t2, rfl⟩ h1, .cons ?_ e2 h2, ?_, fun e' he => ?_⟩
    · show keyIs (Sum.inl p.1) e.key = true
      rw [e1]
      exact keyIs_int _ _
    · rw [List.map_cons, List.map_cons, h3]
    · rcases List.mem_cons.mp he with q | q
      · rw [q]
        exact ⟨Sum.inl p.1, by show keyIs (Sum.inl p.1) e.key = true; rw [e1]; exact keyIs_int _ _, e3⟩
      · exact h4 e' q
theorem gd_val {kvs : List (Int × Int)} {k v : Int} (h : kvs.lookup k = some v) : valV (kvs.map fun p => ((Sum.inl p.1 : Key), V.int p.2)) (Sum.inl k) = some (.int v) := by
  induction kvs with
  | nil => cases h
  | cons p kvs ih =>
    rw [List.map_cons]
    rw [List.lookup_cons] at h
    by_cases e : k = p.1
    · rw [beq_iff_eq.mpr e] at h
      cases h
      exact valV_pos (by rw [e])
    · rw [beq_eq_false_iff_ne.mpr e] at h
      exact (valV_neg fun z => e (Sum.inl.inj z).symm).trans (ih h)
def tDGetG (kvs : List (Int × Int)) (ty : TE) : TE := fun σ H Q => ty σ H fun y H1 => ∃ k v, y = .int k ∧ kvs.lookup k = some v ∧ Q (.int v) H1
theorem pe_dgetG {X : Cx} {x : Str} {kvs : List (Int × Int)} {i : Expr} {p pos : Pos} {ty : TE} (hg : Gl X x) (hm : ∃ a, X.mg x = some (.ref a) ∧ GD X.K a kvs) (hi : PE X i ty) (hs : NoSl i) (nd : (kvs.map (·.1)).Nodup := by decide)
    (hd : (x == ("__debug__" : Str)) = false := by decide) : PE X (.Subscript (.Name x p) i pos) (tDGetG kvs ty) := by
  intro pins s σ H Q I h
  obtain ⟨a, hm, gd⟩ := hm
  obtain ⟨o, es, ep, h1, h2, h3, h4⟩ := gd.ex
  refine subD_of PySem.F.slot_dict_getitem.lookup hs (ld_glob I hg hm (thn (hi pins s σ H _ I h) fun iv s2 ⟨y, H2, I2, ry, k, v, ey, l, q2⟩ => ?_) hd)
  subst ey
  obtain ⟨vs, k1, k2, k3, k4⟩ := gd_pairs (P := X.prog) (w := X.w) h4
  have dd : s2.heap.DictOf (mixKind X.prog X.w) a vs := ⟨o, es, ep, I2.kIn a o h1, h2, h3, fun e he => k4 e (by simpa using he), k2, by
    rw [k3]
    refine List.pairwise_map.mpr ((List.pairwise_map.mp nd).imp fun n z => n (Sum.inl.inj z))⟩
  obtain ⟨w', hw, rw'⟩ := RelO.some_of (v := .int v) (o := valueAt vs (Sum.inl k)) (by rw [← gd_val l]; exact k1.val (Sum.inl k))
  have ry' : RelV (kV (Sum.inl k)) iv := ry
  exact ⟨dd.typeIs, wpAny_getItem_of (kV_is ry') dd.mapOf hw ⟨.int v, H2, I2.tok _, rw', q2⟩⟩
end L2
end
section
set_option Elab.async false
set_option linter.all false
namespace L2
open PySem PyProof.Rows PySem.W
def pcmp (n : Nat) (r : Nat → Int) : Nat → Nat → (Bool → Shared → Prop) → Shared → Prop := fun i j C s => i < n ∧ j < n ∧ C (decide (r i < r j)) s
theorem kp_mono {n : Nat} {r : Nat → Int} {α : Type} {Q Q' : α → Shared → Prop} (h : ∀ a s, Q a s → Q' a s) : ∀ (t : KasT α) (s : Shared), KasT.kasWp (pcmp n r) t Q s → KasT.kasWp (pcmp n r) t Q' s := by
  intro t
  induction t with
  | ret a => exact fun s q => h a s q
  | ask i j k ih => exact fun s q => ⟨q.1, q.2.1, ih _ s q.2.2⟩
theorem kp_bind {n : Nat} {r : Nat → Int} {α β : Type} {f : α → KasT β} {Q : β → Shared → Prop} : ∀ (t : KasT α) (s : Shared), KasT.kasWp (pcmp n r) t (fun a s => KasT.kasWp (pcmp n r) (f a) Q s) s → KasT.kasWp (pcmp n r) (t.bind f) Q s := by
  intro t
  induction t with
  | ret a => exact fun s q => q
  | ask i j k ih => exact fun s q => ⟨q.1, q.2.1, ih _ s q.2.2⟩
theorem kp_real {n : Nat} {r : Nat → Int} {cmp : Nat → Nat → (Bool → Shared → Prop) → Shared → Prop} {S : Shared → Prop} (h : ∀ i j C s, i < n → j < n → S s → C (decide (r i < r j)) s → cmp i j C s)
    {α : Type} {Q : α → Shared → Prop} : ∀ (t : KasT α) (s : Shared), S s → KasT.kasWp (pcmp n r) t Q s → KasT.kasWp cmp t Q s := by
  intro t
  induction t with
  | ret a => exact fun s _ q => q
  | ask i j k ih => exact fun s hs q => h i j _ s q.1 q.2.1 hs (ih _ s hs q.2.2)
variable {n : Nat} {r : Nat → Int}
def RK (r : Nat → Int) (p : Array Nat) (i : Nat) : Int := r (p.getD i 0)
theorem rk_at {p : Array Nat} {i j : Nat} (h : i = j) : RK r p i = RK r p j := by rw [h]
def PmI (n : Nat) (p : Array Nat) : Prop := p.Perm (List.range n).toArray
theorem PmI.size {p : Array Nat} (h : PmI n p) : p.size = n := by have := h.size_eq; simpa using this
theorem PmI.lt {p : Array Nat} (h : PmI n p) (h0 : 0 < n) (k : Nat) : p.getD k 0 < n := by
  rw [Array.getD_eq_getD_getElem?]
  cases e : p[k]? with
  | none => exact h0
  | some x =>
    have : x ∈ p := Array.mem_of_getElem? e
    have := (Array.Perm.mem_iff h).mp this
    simpa using this
def Up (r : Nat → Int) (p : Array Nat) (m : Nat) : Prop := ∀ i j, i ≤ j → j < m → RK r p i ≤ RK r p j
def Dn (r : Nat → Int) (p : Array Nat) (m : Nat) : Prop := ∀ i j, i ≤ j → j < m → RK r p j ≤ RK r p i
theorem Up.more {p : Array Nat} {m : Nat} (h : Up r p m) (h0 : 0 < m) (h1 : RK r p (m - 1) ≤ RK r p m) : Up r p (m + 1) := fun i j hi hj => by
  rcases Nat.lt_or_eq_of_le (Nat.le_of_lt_succ hj) with hj | rfl
  · exact h i j hi hj
  · rcases Nat.lt_or_eq_of_le hi with hi | rfl
    · exact Int.le_trans (h i (j - 1) (by omega) (by omega)) h1
    · exact Int.le_refl _
theorem Dn.more {p : Array Nat} {m : Nat} (h : Dn r p m) (h0 : 0 < m) (h1 : RK r p m ≤ RK r p (m - 1)) : Dn r p (m + 1) := fun i j hi hj => by
  rcases Nat.lt_or_eq_of_le (Nat.le_of_lt_succ hj) with hj | rfl
  · exact h i j hi hj
  · rcases Nat.lt_or_eq_of_le hi with hi | rfl
    · exact Int.le_trans h1 (h i (j - 1) (by omega) (by omega))
    · exact Int.le_refl _
theorem Up.one (p : Array Nat) : Up r p 1 := fun i j hi hj => by
  have : i = j := by omega
  subst this; exact Int.le_refl _
theorem rk_rev {p : Array Nat} {i j : Nat} (hj : j ≤ p.size) (k : Nat) : RK r (kas_rev p i j) k = if i ≤ k ∧ k < j then RK r p (i + j - 1 - k) else RK r p k := by
  have e : ∀ (p : Array Nat) (i : Nat), RK r p i = r (p[i]?.getD 0) := fun p i => by unfold RK; rw [Array.getD_eq_getD_getElem?]
  rw [e, e, e, kas_rev, getElem?_mirror_all hj]
  split <;> rfl
theorem PmI.rev {p : Array Nat} (h : PmI n p) (i j : Nat) : PmI n (kas_rev p i j) := (mirror_perm p i j _).trans h
theorem PmI.bubble {p : Array Nat} (h : PmI n p) (i j : Nat) : PmI n (PyProof.Rows.bubble p i j) := (bubble_perm p i j).trans h
theorem wp_asc {p : Array Nat} (hp : PmI n p) {Q : Nat → Shared → Prop} {s : Shared} : ∀ (f m : Nat), 0 < m → m + f ≤ n → Up r p m → (∀ m', m ≤ m' → m' ≤ m + f → Up r p m' → (m' = m + f ∨ RK r p m' < RK r p (m' - 1)) → Q m' s) → KasT.kasWp (pcmp n r) (kas_asc p f m) Q s
  | 0, m, h0, hf, hu, q => q m (Nat.le_refl _) (Nat.le_refl _) hu (.inl rfl)
  | f + 1, m, h0, hf, hu, q => by
    refine ⟨hp.lt (by omega) _, hp.lt (by omega) _, ?_⟩
    show KasT.kasWp _ (if decide (RK r p m < RK r p (m - 1)) = true then _ else _) _ _
    by_cases hc : RK r p m < RK r p (m - 1)
    · rw [if_pos (decide_eq_true hc)]
      exact q m (Nat.le_refl _) (by omega) hu (.inr hc)
    · rw [if_neg fun z => hc (of_decide_eq_true z)]
      refine wp_asc hp f (m + 1) (by omega) (by omega) (hu.more h0 (Int.not_lt.mp hc)) fun m' h1 h2 h3 h4 => q m' (by omega) (by omega) h3 ?_
      rcases h4 with h4 | h4
      · exact .inl (by omega)
      · exact .inr h4
def Blk (r : Nat → Int) (p : Array Nat) (m q : Nat) : Prop := q + 1 ≤ m ∧ ∀ i, m - 1 - q ≤ i → i < m → RK r p i = RK r p (m - 1)
theorem rk_rev_eq {p : Array Nat} {i j : Nat} (hj : j ≤ p.size) (hij : i < j) (h : ∀ k, i ≤ k → k < j → RK r p k = RK r p (j - 1)) (k : Nat) : RK r (kas_rev p i j) k = RK r p k := by
  rw [rk_rev hj]
  split
  · next hk => rw [h _ (by omega) (by omega), h k hk.1 hk.2]
  · rfl
theorem Dn.same {p p' : Array Nat} {m : Nat} (e : ∀ k, RK r p' k = RK r p k) (h : Dn r p m) : Dn r p' m := fun i j hi hj => by rw [e, e]; exact h i j hi hj
theorem wp_desc {Q : Array Nat × Nat × Nat → Shared → Prop} {s : Shared} : ∀ (f : Nat) (p : Array Nat) (m q : Nat), PmI n p → m + f ≤ n → Dn r p m → Blk r p m q →
    (∀ p' m' q', PmI n p' → m ≤ m' → m' ≤ n → Dn r p' m' → Blk r p' m' q' → Q (p', m', q') s) → KasT.kasWp (pcmp n r) (kas_desc f p m q) Q s
  | 0, p, m, q, hp, hf, hd, hb, k => k p m q hp (Nat.le_refl _) (by omega) hd hb
  | f + 1, p, m, q, hp, hf, hd, hb, k => by
    have h0 : 0 < m := by have := hb.1; omega
    refine ⟨hp.lt (by omega) _, hp.lt (by omega) _, ?_⟩
    show KasT.kasWp _ (if decide (RK r p m < RK r p (m - 1)) = true then _ else _) _ _
    by_cases hc : RK r p m < RK r p (m - 1)
    · rw [if_pos (decide_eq_true hc)]
      split
      · have hs := hp.size
        have e := rk_rev_eq (r := r) (p := p) (i := m - (q + 1)) (j := m) (by omega) (by omega) fun i h1 h2 => hb.2 i (by omega) h2
        refine wp_desc f _ (m + 1) 0 (hp.rev _ _) (by omega) ((hd.same e).more h0 (by rw [e, e]; omega)) ⟨by omega, fun i h1 h2 => rk_at (by omega)⟩ fun p' m' q' a1 a2 a3 a4 a5 => k p' m' q' a1 (by omega) a3 a4 a5
      · refine wp_desc f _ (m + 1) 0 hp (by omega) (hd.more h0 (by omega)) ⟨by omega, fun i h1 h2 => rk_at (by omega)⟩ fun p' m' q' a1 a2 a3 a4 a5 => k p' m' q' a1 (by omega) a3 a4 a5
    · rw [if_neg fun z => hc (of_decide_eq_true z)]
      refine ⟨hp.lt (by omega) _, hp.lt (by omega) _, ?_⟩
      show KasT.kasWp _ (if decide (RK r p (m - 1) < RK r p m) = true then _ else _) _ _
      by_cases hc2 : RK r p (m - 1) < RK r p m
      · rw [if_pos (decide_eq_true hc2)]
        exact k p m q hp (Nat.le_refl _) (by omega) hd hb
      · rw [if_neg fun z => hc2 (of_decide_eq_true z)]
        refine wp_desc f _ (m + 1) (q + 1) hp (by omega) (hd.more h0 (by omega)) ⟨by have := hb.1; omega, fun i h1 h2 => ?_⟩ fun p' m' q' a1 a2 a3 a4 a5 => k p' m' q' a1 (by omega) a3 a4 a5
        show RK r p i = RK r p m
        rcases Nat.lt_or_eq_of_le (Nat.le_of_lt_succ h2) with h | rfl
        · rw [hb.2 i (by omega) h]; omega
        · rfl
theorem wp_tail3 {p : Array Nat} {m : Nat} (hp : PmI n p) (h0 : 0 < m) (hm : m ≤ n) (hd : Dn r p m) {Q : Nat × Array Nat → Shared → Prop} {s : Shared} (q : ∀ m' p', PmI n p' → 0 < m' → m' ≤ n → Up r p' m' → Q (m', p') s) : KasT.kasWp (pcmp n r) (kas_tail3 m n p) Q s := by
  have hs := hp.size
  refine kp_bind _ _ (wp_asc (hp.rev 0 m) (n - m) m h0 (by omega) (fun i j hi hj => ?_) fun m' h1 h2 h3 _ => q m' _ (hp.rev 0 m) (by omega) (by omega) h3)
  rw [rk_rev (by omega), rk_rev (by omega), if_pos ⟨Nat.zero_le _, by omega⟩, if_pos ⟨Nat.zero_le _, hj⟩]
  exact hd _ _ (by omega) (by omega)
theorem wp_descPart {p : Array Nat} {m : Nat} (hp : PmI n p) (hm : m + 1 ≤ n) (hd : Dn r p (m + 1)) {Q : Nat × Array Nat → Shared → Prop} {s : Shared} (q : ∀ m' p', PmI n p' → 0 < m' → m' ≤ n → Up r p' m' → Q (m', p') s) : KasT.kasWp (pcmp n r) (kas_descPart m n p) Q s := by
  refine kp_bind _ _ (wp_desc _ p (m + 1) 0 hp (by omega) hd ⟨by omega, fun i h1 h2 => rk_at (by omega)⟩ fun p' m' q' a1 a2 a3 a4 a5 => ?_)
  have hs := a1.size
  show KasT.kasWp _ (if q' > 0 then _ else _) _ _
  split
  · have e := rk_rev_eq (r := r) (p := p') (i := m' - (q' + 1)) (j := m') (by omega) (by omega) fun i h1 h2 => a5.2 i (by omega) h2
    exact wp_tail3 (a1.rev _ _) (by omega) a3 (a4.same e) q
  · exact wp_tail3 a1 (by omega) a3 a4 q
theorem wp_count {p : Array Nat} (hp : PmI n p) (h0 : 0 < n) {Q : Nat × Array Nat → Shared → Prop} {s : Shared} (q : ∀ m' p', PmI n p' → 0 < m' → m' ≤ n → Up r p' m' → Q (m', p') s) : KasT.kasWp (pcmp n r) (kas_count n p) Q s := by
  have hs := hp.size
  refine kp_bind _ _ (wp_asc hp (n - 1) 1 (by omega) (by omega) (Up.one p) fun m h1 h2 h3 h4 => ?_)
  show KasT.kasWp _ (if (m == n) = true then _ else _) _ _
  split
  · exact q m p hp (by omega) (by omega) h3
  · next hne =>
    have hmn : m ≠ n := fun e => hne (by rw [e]; exact beq_self_eq_true n)
    have hlt : RK r p m < RK r p (m - 1) := by
      rcases h4 with h4 | h4
      · omega
      · exact h4
    split
    · refine ⟨hp.lt h0 _, hp.lt h0 _, ?_⟩
      show KasT.kasWp _ (if decide (RK r p 0 < RK r p (m - 1)) = true then _ else _) _ _
      by_cases hc : RK r p 0 < RK r p (m - 1)
      · rw [if_pos (decide_eq_true hc)]
        exact q m p hp (by omega) (by omega) h3
      · rw [if_neg fun z => hc (of_decide_eq_true z)]
        have hall : ∀ k, 0 ≤ k → k < m → RK r p k = RK r p (m - 1) := fun k _ hk => by
          have a1 := h3 0 k (by omega) hk
          have a2 := h3 k (m - 1) (by omega) (by omega)
          omega
        have e := rk_rev_eq (r := r) (p := p) (i := 0) (j := m) (by omega) (by omega) hall
        refine wp_descPart (hp.rev 0 m) (by omega) (Dn.same e (Dn.more (fun i j hi hj => ?_) (by omega) (by omega))) q
        rw [hall i (by omega) (by omega), hall j (by omega) hj]
        exact Int.le_refl _
    · next h1' =>
      have : m = 1 := by omega
      subst this
      refine wp_descPart hp (by omega) (Dn.more (fun i j hi hj => ?_) (by omega) (by omega)) q
      have : i = j := by omega
      subst this; exact Int.le_refl _
theorem wp_place {p : Array Nat} (hp : PmI n p) {k : Nat} (hk : k < n) {Q : Nat → Shared → Prop} {s : Shared} : ∀ (f l u : Nat), l ≤ u → u ≤ k → u - l ≤ f → (∀ i, i < l → RK r p i ≤ RK r p k) → (∀ i, u ≤ i → i < k → RK r p k < RK r p i) → Up r p k →
    (∀ l', l' ≤ k → (∀ i, i < l' → RK r p i ≤ RK r p k) → (∀ i, l' ≤ i → i < k → RK r p k < RK r p i) → Q l' s) → KasT.kasWp (pcmp n r) (kas_place p k f l u) Q s
  | 0, l, u, hlu, huk, hf, a, b, hu, q => q l (by omega) a (fun i h1 h2 => b i (by omega) h2)
  | f + 1, l, u, hlu, huk, hf, a, b, hu, q => by
    show KasT.kasWp _ (if l ≥ u then _ else _) _ _
    split
    · exact q l (by omega) a (fun i h1 h2 => b i (by omega) h2)
    · refine ⟨hp.lt (by omega) _, hp.lt (by omega) _, ?_⟩
      show KasT.kasWp _ (if decide (RK r p k < RK r p ((l + u) / 2)) = true then _ else _) _ _
      by_cases hc : RK r p k < RK r p ((l + u) / 2)
      · rw [if_pos (decide_eq_true hc)]
        refine wp_place hp hk f l ((l + u) / 2) (by omega) (by omega) (by omega) a (fun i h1 h2 => ?_) hu q
        exact Int.lt_of_lt_of_le hc (hu _ _ h1 h2)
      · rw [if_neg fun z => hc (of_decide_eq_true z)]
        refine wp_place hp hk f ((l + u) / 2 + 1) u (by omega) (by omega) (by omega) (fun i h1 => ?_) b hu q
        exact Int.le_trans (hu i ((l + u) / 2) (by omega) (by omega)) (Int.not_lt.mp hc)
theorem rk_bubble {p : Array Nat} {k d : Nat} (hk : k < p.size) (hd : d ≤ k) (i : Nat) : RK r (PyProof.Rows.bubble p k d) i = if i = k - d then RK r p k else if k - d < i ∧ i ≤ k then RK r p (i - 1) else RK r p i := by
  have e : ∀ (p : Array Nat) (i : Nat), RK r p i = r (p[i]?.getD 0) := fun p i => by unfold RK; rw [Array.getD_eq_getD_getElem?]
  rw [e, e, e, e, getElem?_bubble hk d hd]
  split
  · rfl
  · split <;> rfl
theorem wp_bin {Q : Array Nat → Shared → Prop} {s : Shared} (q : ∀ p, PmI n p → Up r p n → Q p s) : ∀ (f : Nat) (p : Array Nat) (k : Nat), PmI n p → 0 < k → k + f = n → Up r p k → KasT.kasWp (pcmp n r) (kas_bin f p k) Q s
  | 0, p, k, hp, h0, hf, hu => q p hp (by rw [← hf]; exact hu)
  | f + 1, p, k, hp, h0, hf, hu => by
    have hs := hp.size
    refine kp_bind _ _ (wp_place hp (k := k) (by omega) k 0 k (Nat.zero_le _) (Nat.le_refl _) (by omega) (fun i h => absurd h (Nat.not_lt_zero _)) (fun i h1 h2 => absurd h1 (by omega)) hu fun l hl a b => ?_)
    refine wp_bin q f _ (k + 1) (hp.bubble k (k - l)) (by omega) (by omega) fun i j hi hj => ?_
    rw [rk_bubble (by omega) (by omega), rk_bubble (by omega) (by omega)]
    have e : k - (k - l) = l := by omega
    rw [e]
    by_cases h1 : i = l
    · rw [if_pos h1]
      by_cases h2 : j = l
      · rw [if_pos h2]; exact Int.le_refl _
      · rw [if_neg h2, if_pos ⟨by omega, by omega⟩]
        exact Int.le_of_lt (b (j - 1) (by omega) (by omega))
    · rw [if_neg h1]
      by_cases h2 : j = l
      · rw [if_pos h2, if_neg (by omega)]
        exact a i (by omega)
      · rw [if_neg h2]
        by_cases h3 : l < i ∧ i ≤ k
        · rw [if_pos h3, if_pos ⟨by omega, by omega⟩]
          exact hu _ _ (by omega) (by omega)
        · rw [if_neg h3]
          by_cases h4 : l < j ∧ j ≤ k
          · rw [if_pos h4]
            exact hu _ _ (by omega) (by omega)
          · rw [if_neg h4]
            exact hu _ _ hi (by omega)
theorem wp_sort (h0 : 0 < n) {Q : Array Nat → Shared → Prop} {s : Shared} (q : ∀ p, PmI n p → Up r p n → Q p s) : KasT.kasWp (pcmp n r) (kas_sort n) Q s := by
  refine kp_bind _ _ (wp_count (Array.Perm.refl _) h0 fun m p hp hm hmn hu => ?_)
  show KasT.kasWp _ (if m < n then kas_bin (n - max m 1) p (max m 1) else _) _ _
  have e : max m 1 = m := by omega
  rw [e]
  split
  · exact wp_bin q _ p m hp hm (by omega) hu
  · have : m = n := by omega
    subst this
    exact q p hp hu
end L2
end
section
set_option Elab.async false
set_option linter.all false
namespace L2
open PySem PyProof.Rows PySem.W
structure TupAt (h : Heap) (v : Value) (k : List Int) : Prop where
  ex : ∃ (a : Addr) (o : Obj) (its : Array Value) (n : Nat), v = .ref a ∧ h.get? a = some o ∧ o.cls = .type "tuple" ∧ o.data = .seq its n ∧ IntsAre its.toList k
theorem lex_wp {prog : Program} {w : World} {A : Around} {Q : Bool → Shared → Prop} {s : Shared} : ∀ {ps : List Value} {xs : List Int}, IntsAre ps xs → ∀ {qs : List Value} {ys : List Int} (i : Nat), IntsAre qs ys → xs.length = ys.length → Q (HT.lexLt xs ys) s → KatLex prog w A true false Q (ps.zip qs) i s := by
  intro ps xs h1
  induction h1 with
  | nil =>
    intro qs ys i h2 hl q
    cases h2 with
    | nil => exact kat_nil q
    | cons y u h2 => cases hl
  | cons x t h1 ih =>
    intro qs ys i h2 hl q
    cases h2 with
    | nil => cases hl
    | cons y u h2 =>
      refine kat_cons (wpAny_eqBool_int ?_)
      by_cases e : x = y
      · rw [HT.lexLt_cons, if_pos e] at q
        have hb : (x == y) = true := by rw [e]; exact beq_self_eq_true y
        rw [hb]
        exact kat_yes (ih (i + 1) h2 (by simpa using hl) q)
      · rw [HT.lexLt_cons, if_neg e] at q
        have hb : (x == y) = false := by rw [beq_eq_false_iff_ne]; exact e
        rw [hb]
        refine kat_no ?_
        cases hi : (true && i == 0) with
        | true => exact oneLt_int q
        | false => exact kat_one _ _ (PySem.P.lt_int q)
theorem tup_lt {prog : Program} {w : World} {A : Around} {E : Value → Shared → Prop} {Q : Bool → Shared → Prop} {s : Shared} {x y : Value} {k l : List Int} (hx : TupAt s.heap x k) (hy : TupAt s.heap y l) (hl : k.length = l.length) (q : Q (HT.lexLt k l) s) :
    wpAny (model prog w) A (keyLt' (tuples' true) x y) Q E s := by
  obtain ⟨a, o, its, n, rfl, e1, _, d1, i1⟩ := hx.ex
  obtain ⟨b, o', its', n', rfl, e2, _, d2, i2⟩ := hy.ex
  refine kat_lt e1 d1 e2 d2 ?_
  have : decide (its.size < its'.size) = false := by
    rw [decide_eq_false_iff_not]
    have a1 := i1.length
    have a2 := i2.length
    rw [Array.length_toList] at a1 a2
    omega
  rw [this]
  exact lex_wp i1 0 i2 hl q
theorem katTups_of {h : Heap} : ∀ {vs : List Value} {ks : List (List Int)}, vs.length = ks.length → (∀ (i : Nat) (v : Value) (k : List Int), vs[i]? = some v → ks[i]? = some k → TupAt h v k ∧ k ≠ []) → ∃ fs, KatTups h vs fs ∧ fs.length = vs.length ∧ ∀ v ∈ fs, ∃ n t, v = .int n t
  | [], ks, _, _ => ⟨[], trivial, rfl, by intro v hv; cases hv⟩
  | v :: vs, [], hl, _ => by cases hl
  | v :: vs, k :: ks, hl, hk => by
    obtain ⟨fs, h1, h2, h3⟩ := katTups_of (vs := vs) (ks := ks) (by simpa using hl) fun i v' k' e1 e2 => hk (i + 1) v' k' e1 e2
    obtain ⟨ht, hne⟩ := hk 0 v k rfl rfl
    obtain ⟨a, o, its, n, rfl, e1, c1, d1, i1⟩ := ht.ex
    cases hi : its.toList with
    | nil => rw [hi] at i1; cases i1; exact absurd rfl hne
    | cons f r =>
      rw [hi] at i1
      cases i1 with
      | cons x t i1 =>
        refine ⟨.int x t :: fs, ⟨⟨a, o, its, n, rfl, e1, c1, d1, ?_⟩, h1⟩, by rw [List.length_cons, List.length_cons, h2], fun v' hv' => ?_⟩
        · rw [← Array.getElem?_toList, hi]; rfl
        · rcases List.mem_cons.mp hv' with rfl | hv'
          · exact ⟨_, _, rfl⟩
          · exact h3 v' hv'
theorem looks_int {M : Model} {h : Heap} {n : Int} {t : Tok} : Looks M h (typeOf (.int n t)) (.type "int") := fun A Q E s _ q => wpAny_pure q
theorem TupAt.keep {h h' : Heap} {v : Value} {k : List Int} (x : TupAt h v k) (hk : ∀ b o, h.get? b = some o → o.cls = .type "tuple" → h'.get? b = some o) : TupAt h' v k := by
  obtain ⟨a, o, its, n, e, e1, c1, d1, i1⟩ := x.ex
  exact ⟨a, o, its, n, e, hk a o e1 c1, c1, d1, i1⟩
theorem list_sort_tups {prog : Program} {w : World} {A : Around} {E : Value → Shared → Prop} {s : Shared} {a : Addr} {vs : List Value} {n : Nat} {P : PySem.Fin → Shared → Prop} {ks : List (List Int)} {r : Nat → Int} {len : Nat}
    (hob : s.heap.get? a = some (seqObj "list" vs.toArray n)) (h64 : vs.length < 64) (hl : vs.length = ks.length) (hk : ∀ (i : Nat) (v : Value) (k : List Int), vs[i]? = some v → ks[i]? = some k → TupAt s.heap v k ∧ k ≠ [] ∧ k.length = len)
    (hr : ∀ (i j : Nat) (k l : List Int), ks[i]? = some k → ks[j]? = some l → HT.lexLt k l = decide (r i < r j))
    (q : ∀ p : Array Nat, PmI vs.length p → Up r p vs.length → P (.done (.ret .none)) { s with heap := sortedHeap s.heap a vs (p.toList.map fun i => vs.getD i .none).toArray }) :
    wpAny (model prog w) A (Builtin.«list.sort» { pos := [.ref a] }) P E s := by
  rw [list_sort_plain]
  have hz : vs.toArray.size ≤ sizeLine := by rw [List.size_toArray]; exact small64 h64
  refine wpAny_bind (listItems_at hob rfl ?_)
  refine wpAny_bind (listUpdate_at hob rfl ?_ hz (Nat.zero_le _))
  have h1 := get?_update_seq hob fun _ => #[]
  obtain ⟨n1, hn1⟩ : ∃ n1, (if ((#[] : Array Value).size == vs.toArray.size) = true then n else n + 1) = n1 := ⟨_, rfl⟩
  rw [hn1] at h1
  refine wpAny_bind (seqEpoch_at h1 rfl ?_)
  refine wpAny_bind (wpAny_newTuple ?_ hz)
  refine wpAny_bind (wpAny_newList ?_ (Nat.zero_le _))
  refine wpAny_holding ?_
  have h3 : (((s.heap.update a (Obj.mapSeq fun _ => #[])).push (seqObj "tuple" vs.toArray 0)).push (seqObj "list" #[] 0)).get? a = some (seqObj "list" #[] n1) := Heap.get?_push_of_some _ (Heap.get?_push_of_some _ h1)
  dsimp only
  by_cases hlt : vs.toArray.size < 2
  · rw [if_pos hlt]
    refine wpAny_bind (wpAny_pure ?_)
    rw [if_pos hlt]
    refine wpAny_bind (show wpAny _ _ (pure (PUnit.unit, SortSt.mk' general' (vs.toArray.zip vs.toArray) #[] 7 none)) _ _ _ from wpAny_pure ?_)
    have hv : Array.map (fun x => x.snd) (vs.toArray.zip vs.toArray) = ((List.range vs.length).toArray.toList.map fun i => vs.getD i .none).toArray := by
      have e1 : Array.map (fun x => x.snd) (vs.toArray.zip vs.toArray) = vs.toArray := by
        apply Array.ext'
        simp [List.map_snd_zip]
      have e2 : ((List.range vs.length).toArray.toList.map fun i => vs.getD i .none) = vs := by
        refine List.ext_getElem (by simp) fun i h1 h2 => ?_
        simp [h2]
      rw [e1, e2]
    have q2 := q (List.range vs.length).toArray (Array.Perm.refl _) fun i j hi hj => by
      rw [List.size_toArray] at hlt
      have : i = j := by omega
      subst this; exact Int.le_refl _
    rw [← hv] at q2
    dsimp only
    refine wpAny_bind (seqEpoch_at h3 rfl ?_)
    refine wpAny_bind (listUpdate_at h3 rfl ?_ (Nat.zero_le _) ?_)
    · show wpAny _ _ (if (n1 != n1) = true then _ else _) _ _ _
      rw [bne_self_eq_false, if_neg (by decide)]
      exact wpAny_pure q2
    · show (Array.map (fun x => x.snd) (vs.toArray.zip vs.toArray)).size ≤ sizeLine + 1
      simp only [Array.size_map, Array.size_zip]
      omega
  · rw [if_neg hlt]
    have h2 : 2 ≤ vs.length := by rw [List.size_toArray] at hlt; omega
    have hkp : ∀ b o, s.heap.get? b = some o → o.cls = .type "tuple" → (((s.heap.update a (Obj.mapSeq fun _ => #[])).push (seqObj "tuple" vs.toArray 0)).push (seqObj "list" #[] 0)).get? b = some o := fun b o e c => by
      have hne : b ≠ a := fun z => by
        subst z
        rw [hob] at e
        cases e
        exact absurd (show Value.type "list" = Value.type "tuple" from c) (by decide +kernel)
      refine Heap.get?_push_of_some _ (Heap.get?_push_of_some _ ?_)
      rw [Heap.get?_update_ne _ _ _ _ hne]
      exact e
    obtain ⟨fs, f1, f2, f3⟩ := katTups_of (h := ((s.heap.update a (Obj.mapSeq fun _ => #[])).push (seqObj "tuple" vs.toArray 0)).push (seqObj "list" #[] 0)) hl fun i v k e1 e2 => ⟨(hk i v k e1 e2).1.keep hkp, (hk i v k e1 e2).2.1⟩
    refine wpAny_bind (kat_kind (T := .type "int") f1 (by omega) (fun v hv => ?_) (by decide +kernel) ?_)
    · obtain ⟨n, t, rfl⟩ := f3 v hv
      exact looks_int
    have hT : (Value.type "int" != Value.type "tuple") = true := by decide +kernel
    rw [hT]
    rw [if_neg hlt]
    obtain ⟨s3, hs3⟩ : ∃ s3 : Shared, s3 = { s with heap := ((s.heap.update a (Obj.mapSeq fun _ => #[])).push (seqObj "tuple" vs.toArray 0)).push (seqObj "list" #[] 0) } := ⟨_, rfl⟩
    have hrun : wpAny (model prog w) A (sortRuns'.run (SortSt.mk' (tuples' true) (vs.toArray.zip vs.toArray) #[] 7 none)) (fun x s' => s' = s3 ∧ failedOf x.snd = none ∧ ∃ p : Array Nat, PmI vs.length p ∧ Up r p vs.length ∧ arrOf x.snd = Array.map (kas_item (vs.toArray.zip vs.toArray)) p) E s3 := by
      refine kat_run (Q := fun st s' => s' = s3 ∧ failedOf st = none ∧ ∃ p : Array Nat, PmI vs.length p ∧ Up r p vs.length ∧ arrOf st = Array.map (kas_item (vs.toArray.zip vs.toArray)) p) (G := fun p s' => s' = s3 ∧ PmI vs.length p ∧ Up r p vs.length) rfl h2 h64 (fun p st' s' hp ha hf hg => ⟨hg.1, hf, p, hg.2.1, hg.2.2, ha⟩) (kp_real (n := vs.length) (r := r) (S := fun s' => s' = s3) (fun i j C s' hi hj hs hC => ?_) _ _ rfl (wp_sort (by omega) fun p h1 h2 => ⟨rfl, h1, h2⟩))
      subst hs
      subst hs3
      have hi' : i < ks.length := by omega
      have hj' : j < ks.length := by omega
      have a1 := hk i vs[i] ks[i] (List.getElem?_eq_getElem hi) (List.getElem?_eq_getElem hi')
      have a2 := hk j vs[j] ks[j] (List.getElem?_eq_getElem hj) (List.getElem?_eq_getElem hj')
      show wpAny _ _ (keyLt' (tuples' true) (vs.getD i .none) (vs.getD j .none)) _ _ _
      have e1 : vs.getD i .none = vs[i] := by simp [hi]
      have e2 : vs.getD j .none = vs[j] := by simp [hj]
      rw [e1, e2]
      refine tup_lt (a1.1.keep hkp) (a2.1.keep hkp) (a1.2.2.trans a2.2.2.symm) ?_
      rw [hr i j _ _ (List.getElem?_eq_getElem hi') (List.getElem?_eq_getElem hj')]
      exact hC
    subst hs3
    refine wpAny_bind (wpAny_mono hrun ?_ fun _ _ h => h)
    rintro ⟨_, st'⟩ s' ⟨rfl, hf, p, g1, g2, ha⟩
    have hs := kat_snds (vs := vs) (ks := vs) rfl ha
    have q2 := q p g1 g2
    rw [← hs] at q2
    dsimp only
    refine wpAny_bind (seqEpoch_at h3 rfl ?_)
    refine wpAny_bind (listUpdate_at h3 rfl ?_ (Nat.zero_le _) ?_)
    · have hf' : failedOf st' = none := hf
      rw [hf']
      show wpAny _ _ (if (n1 != n1) = true then _ else _) _ _ _
      rw [bne_self_eq_false, if_neg (by decide)]
      exact wpAny_pure q2
    · show (Array.map (fun x => x.snd) (arrOf st')).size ≤ sizeLine + 1
      rw [hs, List.size_toArray, List.length_map, Array.length_toList, g1.size]
      have := small64 h64
      omega
end L2
end
section
set_option Elab.async false
set_option linter.all false
namespace L2
open PySem PyProof.Rows PySem.W
variable {X : Cx}
theorem vals_refs {α : Type} {f : α → Addr} : ∀ {l : List α} {us : List Value}, Vals (l.map fun t => V.ref (f t)) us → us = l.map fun t => Value.ref (f t)
  | [], _, .nil => rfl
  | t :: l, _, .cons r q => by
    have e1 := vals_refs q
    have e2 : _ = Value.ref (f t) := r
    rw [List.map_cons, ← e1, e2]
theorem refs_vals {α : Type} {f : α → Addr} : ∀ l : List α, Vals (l.map fun t => V.ref (f t)) (l.map fun t => Value.ref (f t))
  | [] => .nil
  | t :: l => .cons rfl (refs_vals l)
def rSortedT (K : PySem.W.Frag) : List V → Hp → VK → Prop := fun vs H Q => ∃ (a : Addr) (ts : List (Addr × List Int)) (r : List Int → Int) (len : Nat), vs = [V.ref a] ∧ SqL K H a (ts.map fun t => V.ref t.1) ∧ ts.length < 64 ∧
  (∀ t ∈ ts, H t.1 = some (.tup (t.2.map V.int)) ∧ t.2 ≠ [] ∧ t.2.length = len) ∧ (∀ t ∈ ts, ∀ u ∈ ts, HT.lexLt t.2 u.2 = decide (r t.2 < r u.2)) ∧
  ∀ (ts' : List (Addr × List Int)) (p : Addr), ts'.Perm ts → ts'.Pairwise (fun t u => r t.2 ≤ r u.2) → H p = none → Q (.ref p) (upd H p (.lst (ts'.map fun t => V.ref t.1)))
theorem cr_sortedT : CallR X (.builtin "sorted") (rSortedT X.K) := by
  intro pins s σ H vs us Q I rr h
  obtain ⟨a, ts, r, len, rfl, hs, h64, ht, hr, q⟩ := h
  obtain ⟨its, rv, hl, _⟩ := I.list hs
  rw [Vals.ref1 rr]
  have hits := vals_refs rv
  subst hits
  refine Calls.call_function_entry kind_sorted plain_sorted entry_sorted (args_sorted1 _) ?_
  unfold Builtin.«sorted»
  refine wpAny_bind (m := checkCount "sorted" 1 1 _) (wpAny_pure ?_)
  refine wpAny_bind (collect_list hl.isList ?_ (by rw [List.length_map]; exact small64 h64))
  obtain ⟨h', hh'⟩ : ∃ h', h' = (s.heap.push (seqObj "list" #[] 0)).update s.heap.objs.size (Obj.mapSeq fun x => x ++ (ts.map fun t => Value.ref t.1).toArray) := ⟨_, rfl⟩
  have hkp : ∀ b o, s.heap.get? b = some o → h'.get? b = some o := fun b o e => by
    rw [hh', Heap.get?_update_ne _ _ _ _ (Nat.ne_of_lt (Heap.lt_size e))]
    exact Heap.get?_push_of_some _ e
  rw [← hh']
  have hz : (ts.map fun t => Value.ref t.1).length ≤ sizeLine := by rw [List.length_map]; exact small64 h64
  refine wpAny_bind (wpAny_newList ?_ hz)
  have hoL : (h'.push (seqObj "list" (ts.map fun t => Value.ref t.1).toArray 0)).get? h'.objs.size = some (seqObj "list" (ts.map fun t => Value.ref t.1).toArray 0) := Heap.get?_push_size _ rfl
  have I1 : Inv X pins σ H { s with heap := h' } := I.kept (t' := s.toks) hkp
  show wpAny _ _ _ _ _ { s with heap := h'.push (seqObj "list" (ts.map fun t => Value.ref t.1).toArray 0) }
  have hlen : (ts.map fun t => Value.ref t.1).length = ts.length := List.length_map _
  refine wpAny_bind (wpAny_holding (wpAny_call_entry slot_list_sort ⟨_, hoL, rfl⟩ entry_list_sort (list_sort_tups (ks := ts.map fun t => t.2) (r := fun i => r ((ts.map fun t => t.2).getD i [])) (len := len) hoL (by rw [hlen]; exact h64) (by rw [List.length_map, List.length_map]) (fun i v k e1 e2 => ?_) (fun i j k l e1 e2 => ?_) fun p hp hu => ⟨_, rfl, ?_⟩) (args_list_sort _)))
  · rw [List.getElem?_map] at e1 e2
    cases e3 : ts[i]? with
    | none => rw [e3] at e1; cases e1
    | some t =>
      rw [e3] at e1 e2
      cases e1
      cases e2
      obtain ⟨g1, g2, g3⟩ := ht t (List.mem_of_getElem? e3)
      refine ⟨?_, g2, g3⟩
      obtain ⟨its, w1, w2, w3⟩ := I1.tuple (SqT.of (K := X.K) g1)
      obtain ⟨o, o1, o2, n, o3⟩ := w2
      exact ⟨t.1, o, its.toArray, n, rfl, Heap.get?_push_of_some _ o1, o2, o3, intsAre_of w1⟩
  · rw [List.getElem?_map] at e1 e2
    cases e3 : ts[i]? with
    | none => rw [e3] at e1; cases e1
    | some t =>
      cases e4 : ts[j]? with
      | none => rw [e4] at e2; cases e2
      | some u =>
        rw [e3] at e1
        rw [e4] at e2
        cases e1
        cases e2
        rw [hr t (List.mem_of_getElem? e3) u (List.mem_of_getElem? e4)]
        have a1 : (ts.map fun t => t.2).getD i [] = t.2 := by rw [List.getD_eq_getElem?_getD, List.getElem?_map, e3]; rfl
        have a2 : (ts.map fun t => t.2).getD j [] = u.2 := by rw [List.getD_eq_getElem?_getD, List.getElem?_map, e4]; rfl
        rw [a1, a2]
  rw [hlen] at hp hu
  obtain ⟨ep', he'⟩ := PyProof.Rows.sortedHeap_at (vs := ts.map fun t => Value.ref t.1) (out := (p.toList.map fun i => (ts.map fun t => Value.ref t.1).getD i .none).toArray) hoL
  refine wpAny_pure ⟨_, rfl, ?_⟩
  have hpl : p.toList.Perm (List.range ts.length) := by have := Array.perm_iff_toList_perm.mp hp; simpa using this
  have hlt : ∀ i ∈ p.toList, i < ts.length := fun i hi => List.mem_range.mp (hpl.mem_iff.mp hi)
  have hout : (p.toList.map fun i => (ts.map fun t => Value.ref t.1).getD i .none) = (p.toList.map fun i => ts.getD i (0, [])).map fun t => Value.ref t.1 := by
    rw [List.map_map]
    refine List.map_congr_left fun i hi => ?_
    have := hlt i hi
    rw [List.getD_eq_getElem?_getD, List.getElem?_map]
    show _ = Value.ref (ts.getD i (0, [])).1
    rw [List.getD_eq_getElem?_getD, List.getElem?_eq_getElem this]
    rfl
  have hperm : (p.toList.map fun i => ts.getD i (0, [])).Perm ts := by
    have e : (List.range ts.length).map (fun i => ts.getD i (0, [])) = ts := by
      refine List.ext_getElem (by simp) fun i h1 h2 => ?_
      simp [h2]
    have := hpl.map fun i => ts.getD i (0, [])
    rwa [e] at this
  have hpw : (p.toList.map fun i => ts.getD i (0, [])).Pairwise fun t u => r t.2 ≤ r u.2 := by
    refine List.pairwise_map.mpr (List.pairwise_iff_getElem.mpr fun i j hi hj hij => ?_)
    have hn := hp.size
    rw [Array.length_toList] at hi hj
    have := hu i j (Nat.le_of_lt hij) (by omega)
    have rk : ∀ k, k < p.size → ∀ (hk : k < p.toList.length), RK (fun i => r ((ts.map fun t => t.2).getD i [])) p k = r (ts.getD p.toList[k] (0, [])).2 := fun k hk hk' => by
      have hm : p.toList[k] < ts.length := hlt _ (List.getElem_mem _)
      have e0 : p.getD k 0 = p.toList[k] := by rw [Array.getD_eq_getD_getElem?, Array.getElem?_eq_getElem hk]; rfl
      show r ((ts.map fun t => t.2).getD (p.getD k 0) []) = _
      rw [e0, List.getD_eq_getElem?_getD, List.getElem?_map, List.getD_eq_getElem?_getD, List.getElem?_eq_getElem hm]
      rfl
    rw [rk i hi (by rw [Array.length_toList]; exact hi), rk j hj (by rw [Array.length_toList]; exact hj)] at this
    exact this
  have hlen' : ((p.toList.map fun i => ts.getD i (0, [])).map fun t => V.ref t.1).length ≤ sizeLine := by rw [List.length_map, hperm.length_eq]; exact small64 h64
  have hf : H h'.objs.size = none := I1.hok.fresh (Nat.le_refl _)
  refine ⟨.ref h'.objs.size, upd H h'.objs.size (.lst ((p.toList.map fun i => ts.getD i (0, [])).map fun t => V.ref t.1)), I1.laid (t' := s.toks) (fun b u e => ?_) (Nat.le_refl _) ⟨hlen', _, ep', refs_vals (f := fun t : Addr × List Int => t.1) _, ?_⟩, rfl, q _ _ hperm hpw hf⟩
  · have hb : b ≠ h'.objs.size := Nat.ne_of_lt (Heap.lt_size e)
    rw [PyProof.Rows.sortedHeap_old hb (Heap.lt_size (Heap.get?_push_of_some _ e))]
    exact Heap.get?_push_of_some _ e
  · rw [← hout]
    exact he'
end L2
end
section
set_option Elab.async false
set_option linter.all false
namespace L2
open PySem PySem.Spec PyProof.Rows
section
variable {prog : Program} {w : World} {A : Around} {E : Value → Shared → Prop} {s : Shared} {T : String} {r d : Addr} {n : Nat} {Pv : Nat → Value → Prop} {Ok : Heap → Prop} {Q : Value → Shared → Prop}
theorem sum_src (K : PySem.W.KdlSrc prog w T r d n Pv Ok) (hh : A.handled = none) (hok : Ok s.heap) {val : Nat → Int} (hv : ∀ i v, Pv i v → ∃ t : Tok, v = Value.int (val i) t)
    (q : ∀ h' tk t', (∀ b o, s.heap.get? b = some o → h'.get? b = some o) → Q (.int (preSum val n) t') { s with heap := h', toks := tk }) : wpAny (model prog w) A (call (.builtin "sum") [.ref r]) Q E s := by
  obtain ⟨oI, St, h1, h2, h3⟩ := K.iter A.in1 s hh hok
  have hd := (K.there _ hok).2
  refine call_sum_walkAnyS (h1 _ _ ⟨_, _, _, _, n, Pv, _, val, rfl, h2.toS, h3, fun b hb => ?_, hv, fun s' t' mv => ?_⟩)
  · have e : b = s.heap.objs.size ∨ b = d := by simpa using hb
    have z : (s.heap.push oI).objs.size = s.heap.objs.size + 1 := size_push' _ _
    show b < (s.heap.push oI).objs.size
    rcases e with e | e
    · rw [e, z]; exact Nat.lt_succ_self _
    · rw [e, z]; exact Nat.lt_succ_of_lt hd
  · have k : ∀ b o, s.heap.get? b = some o → s'.heap.get? b = some o := fun b o e => by
      have hb := Heap.lt_size e
      refine mv.heap b o (fun z => ?_) (Heap.get?_push_of_some _ e)
      have : b = s.heap.objs.size := by simpa using z
      exact absurd hb (by rw [this]; exact Nat.lt_irrefl _)
    rw [Moved.eq_with mv]
    exact q _ _ t' k
end
def tSumV (td : TE) : TE := fun σ H Q => td σ H fun x H1 => ∃ (d : Addr) (kvs : List (Key × V)) (ns : List Int), x = .ref d ∧ Rd H1 d (.dK kvs) ∧ kvs.map (·.2) = ns.map V.int ∧ Q (.int ns.sum) H1
theorem kv_snd : ∀ {kvs : List (Key × V)} {vs : List (Key × Value)} {ns : List Int}, KV kvs vs → kvs.map (·.2) = ns.map V.int → vs.length = ns.length ∧ ∀ i k v, vs[i]? = some (k, v) → ∃ t, v = Value.int (ns.getD i 0) t
  | [], _, [], .nil, _ => ⟨rfl, fun i k v e => by cases e⟩
  | [], _, _ :: _, .nil, e => by cases e
  | p :: kvs, u :: vs, [], .cons _ _, e => by cases e
  | p :: kvs, u :: vs, m :: ns, .cons r t, e => by
    rw [List.map_cons, List.map_cons] at e
    injection e with e1 e2
    obtain ⟨h1, h2⟩ := kv_snd t e2
    refine ⟨by rw [List.length_cons, List.length_cons, h1], fun i k v hi => ?_⟩
    cases i with
    | zero =>
      have hu : u = (k, v) := Option.some.inj hi
      obtain ⟨_, r2⟩ := r
      rw [e1, hu] at r2
      exact r2
    | succ i => exact h2 i k v hi
theorem preSum_getD (ns : List Int) : preSum (fun i => ns.getD i 0) ns.length = ns.sum := by
  have key : ∀ k, k ≤ ns.length → preSum (fun i => ns.getD i 0) k = (ns.take k).sum := by
    intro k
    induction k with
    | zero => intro _; rfl
    | succ k ih =>
      intro hk
      show preSum (fun i => ns.getD i 0) k + ns.getD k 0 = _
      rw [ih (by omega), List.take_add_one, List.getElem?_eq_getElem (by omega), List.getD_eq_getElem?_getD, List.getElem?_eq_getElem (by omega), M.isum_append]
      simp
  rw [key _ (Nat.le_refl _), List.take_length]
section
variable {X : Cx} {e : Expr} {td : TE} {p pos apos cpos : Pos}
theorem pe_sumV (hc : X.calm = true) (he : PE X e td) (hg : Gl X "sum") (hm : X.mg "sum" = none) (hb : attributeBase e "values" X.env (eval e X.env) = eval e X.env := by rfl) (hl : (apos.endLine == cpos.line) = true := by rfl)
    (h1 : starEach [.Call (.Attribute e "values" apos) [] [] cpos] X.env = [(false, eval (.Call (.Attribute e "values" apos) [] [] cpos) X.env)] := by rfl) : PE X (.Call (.Name "sum" p) [.Call (.Attribute e "values" apos) [] [] cpos] [] pos) (tSumV td) := by
  intro pins s σ H Q I h
  refine wpAny_Call_Name_kw (ld_blt I hg hm boot_sum ?_ (by decide) (by decide))
  refine callWith_builtin1 ?_ h1 rfl
  rw [h1]
  refine Calls.spliced_cons ?_
  refine wpAny_Call_method (T := "dict") (id := "dict.values") hb rfl hl F.plainAttrs_dict F.slot_dict_values F.type_dict_values (thn (he pins s σ H _ I h) fun u s1 ⟨x, H1, I1, rx, d, kvs, ns, ex, hd, hn, q⟩ => ?_)
  subst ex
  obtain rfl : u = Value.ref d := rx
  obtain ⟨z, hsys, es, rel, dd⟩ := dk_rd I1.hok hd
  obtain ⟨ep, hat⟩ := dd.dictAt
  obtain ⟨l1, l2⟩ := kv_snd rel hn
  refine ⟨dd.typeIs, dd.mapOf.noDict, ?_⟩
  have I2 : Inv X pins σ H1 { s1 with heap := s1.heap.push { cls := .type "dict_values", data := .fields #[.ref d] } } := I1.kept (t' := s1.toks) fun b ob q => Heap.get?_push_of_some _ q
  show wpAny _ _ (callWith cpos (.builtin "dict.values") [.ref d] [] []) _ X.xe s1
  refine method_meetsIn F.slot_dict_values F.entry_dict_values rfl (PySem.evalArgs_none ⟨rfl, dd.typeIs, F.args_dict_values_1 _, _, meets_dict_values (mixKind X.prog X.w) d hsys, ⟨es, dd⟩, ?_⟩)
  refine Calls.spliced_nil ?_
  refine sum_src (PySem.W.kdl_values (knd := mixKind X.prog X.w) (kvs := es) (ep := ep)) (I.ok.hd hc) ⟨⟨_, Heap.get?_push_size _ rfl, rfl, rfl⟩, hat.push _⟩ (val := fun i => ns.getD i 0) (fun i v ⟨k, hk⟩ => l2 i k v hk) fun h' tk t' hk => ?_
  rw [l1, preSum_getD]
  exact ⟨.int _, H1, I2.kept hk, ⟨_, rfl⟩, q⟩
end
theorem for_keys {d : Addr} {o : Obj} {kvs : List (Key × V)} {g : TG} {tb : TS} {D : Ends} {σ : St} {H : Hp} (Pv : Nat → St → Hp → Prop) (h0 : Pv 0 σ H) (hl : ∀ i σ H, i ≤ kvs.length → Pv i σ H → H d = some (.frz o (.dK kvs)))
    (hs : ∀ i k v σ H, kvs[i]? = some (k, v) → Pv i σ H → g (kV k) σ H fun σ2 H2 => tb { D with nx := Pv (i + 1), ct := Pv (i + 1), bk := D.nx } σ2 H2) (hd : ∀ σ H, Pv kvs.length σ H → D.nx σ H) :
    ∃ W : Nat → Nat → St → Hp → Prop, (∃ m, W 0 m σ H) ∧ ∀ i m σ H, W i m σ H →
      ((Itk d o kvs).stop i H ∧ D.nx σ H) ∨ ((Itk d o kvs).go i H ∧ ∃ N : St → Hp → Prop, (∀ σ' H', N σ' H' → ∃ m', m' < m ∧ W (i + 1) m' σ' H') ∧ ∀ x H', (Itk d o kvs).yld i H x H' → g x σ H' fun σ2 H2 => tb { D with nx := N, ct := N, bk := D.nx } σ2 H2) := by
  refine ⟨fun i m σ H => m = kvs.length - i ∧ i ≤ kvs.length ∧ Pv i σ H, ⟨kvs.length, by simp, Nat.zero_le _, h0⟩, ?_⟩
  rintro i m σ H ⟨rfl, hi, p⟩
  have q := hl i σ H hi p
  by_cases hlt : i < kvs.length
  · refine .inr ⟨⟨q, hlt⟩, Pv (i + 1), fun σ' H' p' => ⟨kvs.length - (i + 1), by omega, rfl, hlt, p'⟩, fun x H' y => ?_⟩
    obtain ⟨e, k, v, y1, y2⟩ := y
    subst e y2
    exact hs i k v σ _ y1 p
  · have e : i = kvs.length := by omega
    subst e
    exact .inl ⟨⟨q, Nat.le_refl _⟩, hd σ H p⟩
end L2
end
section
set_option Elab.async false
set_option linter.all false
set_option maxRecDepth 100000
namespace R
open PySem PySem.Spec PyProof.Rows L2 M
open Vbfual (Holding Fund Scheme State unitsOf gotIn holdingOf fundAt cashAt more less putHold newUnits restOf)
theorem lk_eq {f : Str} {x : V} {r : List (Str × V)} : List.lookup f ((f, x) :: r) = some x := by rw [List.lookup_cons, beq_self_eq_true]
theorem lk_ne {f g : Str} {x : V} {r : List (Str × V)} (h : ¬ f = g) : List.lookup f ((g, x) :: r) = List.lookup f r := by rw [List.lookup_cons, beq_eq_false_iff_ne.mpr h]
theorem pf_nil {f : Str} {x : V} : putF f x [] = [(f, x)] := rfl
theorem pf_eq {f : Str} {x y : V} {r : List (Str × V)} : putF f y ((f, x) :: r) = (f, y) :: r := by unfold putF; rw [if_pos rfl]
theorem pf_ne {f g : Str} {x y : V} {r : List (Str × V)} (h : ¬ g = f) : putF f y ((g, x) :: r) = (g, x) :: putF f y r := by rw [putF, if_neg h]
def fH (v0 v1 v2 : V) : List (Str × V) := [("units", v0), ("cost", v1), ("paid", v2)]
theorem fH_units (v0 v1 v2 : V) : (fH v0 v1 v2).lookup ("units" : Str) = some v0 := by unfold fH; rw [lk_eq]
theorem fH_put_units (v0 v1 v2 y : V) : putF "units" y (fH v0 v1 v2) = fH y v1 v2 := by unfold fH; rw [pf_eq]
theorem fH_cost (v0 v1 v2 : V) : (fH v0 v1 v2).lookup ("cost" : Str) = some v1 := by unfold fH; rw [lk_ne (by decide +kernel), lk_eq]
theorem fH_put_cost (v0 v1 v2 y : V) : putF "cost" y (fH v0 v1 v2) = fH v0 y v2 := by unfold fH; rw [pf_ne (by decide +kernel), pf_eq]
theorem fH_paid (v0 v1 v2 : V) : (fH v0 v1 v2).lookup ("paid" : Str) = some v2 := by unfold fH; rw [lk_ne (by decide +kernel), lk_ne (by decide +kernel), lk_eq]
theorem fH_put_paid (v0 v1 v2 y : V) : putF "paid" y (fH v0 v1 v2) = fH v0 v1 y := by unfold fH; rw [pf_ne (by decide +kernel), pf_ne (by decide +kernel), pf_eq]
theorem fH_init (v0 v1 v2 : V) : (putF "paid" v2 (putF "cost" v1 (putF "units" v0 []))) = fH v0 v1 v2 := by unfold fH; rw [pf_nil (f := "units"), pf_ne (f := "cost") (g := "units") (by decide +kernel), pf_nil (f := "cost"), pf_ne (f := "paid") (g := "units") (by decide +kernel), pf_ne (f := "paid") (g := "cost") (by decide +kernel), pf_nil (f := "paid")]
theorem fH_len (v0 v1 v2 : V) : (fH v0 v1 v2).length = 3 := rfl
def fF (v0 v1 v2 v3 : V) : List (Str × V) := [("value", v0), ("holdings", v1), ("closing", v2), ("declared", v3)]
theorem fF_value (v0 v1 v2 v3 : V) : (fF v0 v1 v2 v3).lookup ("value" : Str) = some v0 := by unfold fF; rw [lk_eq]
theorem fF_put_value (v0 v1 v2 v3 y : V) : putF "value" y (fF v0 v1 v2 v3) = fF y v1 v2 v3 := by unfold fF; rw [pf_eq]
theorem fF_holdings (v0 v1 v2 v3 : V) : (fF v0 v1 v2 v3).lookup ("holdings" : Str) = some v1 := by unfold fF; rw [lk_ne (by decide +kernel), lk_eq]
theorem fF_put_holdings (v0 v1 v2 v3 y : V) : putF "holdings" y (fF v0 v1 v2 v3) = fF v0 y v2 v3 := by unfold fF; rw [pf_ne (by decide +kernel), pf_eq]
theorem fF_closing (v0 v1 v2 v3 : V) : (fF v0 v1 v2 v3).lookup ("closing" : Str) = some v2 := by unfold fF; rw [lk_ne (by decide +kernel), lk_ne (by decide +kernel), lk_eq]
theorem fF_put_closing (v0 v1 v2 v3 y : V) : putF "closing" y (fF v0 v1 v2 v3) = fF v0 v1 y v3 := by unfold fF; rw [pf_ne (by decide +kernel), pf_ne (by decide +kernel), pf_eq]
theorem fF_declared (v0 v1 v2 v3 : V) : (fF v0 v1 v2 v3).lookup ("declared" : Str) = some v3 := by unfold fF; rw [lk_ne (by decide +kernel), lk_ne (by decide +kernel), lk_ne (by decide +kernel), lk_eq]
theorem fF_put_declared (v0 v1 v2 v3 y : V) : putF "declared" y (fF v0 v1 v2 v3) = fF v0 v1 v2 y := by unfold fF; rw [pf_ne (by decide +kernel), pf_ne (by decide +kernel), pf_ne (by decide +kernel), pf_eq]
theorem fF_init (v0 v1 v2 v3 : V) : (putF "declared" v3 (putF "closing" v2 (putF "holdings" v1 (putF "value" v0 [])))) = fF v0 v1 v2 v3 := by unfold fF; rw [pf_nil (f := "value"), pf_ne (f := "holdings") (g := "value") (by decide +kernel), pf_nil (f := "holdings"), pf_ne (f := "closing") (g := "value") (by decide +kernel), pf_ne (f := "closing") (g := "holdings") (by decide +kernel), pf_nil (f := "closing"), pf_ne (f := "declared") (g := "value") (by decide +kernel), pf_ne (f := "declared") (g := "holdings") (by decide +kernel), pf_ne (f := "declared") (g := "closing") (by decide +kernel), pf_nil (f := "declared")]
theorem fF_len (v0 v1 v2 v3 : V) : (fF v0 v1 v2 v3).length = 4 := rfl
def fB (v0 v1 v2 : V) : List (Str × V) := [("funds", v0), ("cash", v1), ("schemes", v2)]
theorem fB_funds (v0 v1 v2 : V) : (fB v0 v1 v2).lookup ("funds" : Str) = some v0 := by unfold fB; rw [lk_eq]
theorem fB_put_funds (v0 v1 v2 y : V) : putF "funds" y (fB v0 v1 v2) = fB y v1 v2 := by unfold fB; rw [pf_eq]
theorem fB_cash (v0 v1 v2 : V) : (fB v0 v1 v2).lookup ("cash" : Str) = some v1 := by unfold fB; rw [lk_ne (by decide +kernel), lk_eq]
theorem fB_put_cash (v0 v1 v2 y : V) : putF "cash" y (fB v0 v1 v2) = fB v0 y v2 := by unfold fB; rw [pf_ne (by decide +kernel), pf_eq]
theorem fB_schemes (v0 v1 v2 : V) : (fB v0 v1 v2).lookup ("schemes" : Str) = some v2 := by unfold fB; rw [lk_ne (by decide +kernel), lk_ne (by decide +kernel), lk_eq]
theorem fB_put_schemes (v0 v1 v2 y : V) : putF "schemes" y (fB v0 v1 v2) = fB v0 v1 y := by unfold fB; rw [pf_ne (by decide +kernel), pf_ne (by decide +kernel), pf_eq]
theorem fB_init (v0 v1 v2 : V) : (putF "schemes" v2 (putF "cash" v1 (putF "funds" v0 []))) = fB v0 v1 v2 := by unfold fB; rw [pf_nil (f := "funds"), pf_ne (f := "cash") (g := "funds") (by decide +kernel), pf_nil (f := "cash"), pf_ne (f := "schemes") (g := "funds") (by decide +kernel), pf_ne (f := "schemes") (g := "cash") (by decide +kernel), pf_nil (f := "schemes")]
theorem fB_len (v0 v1 v2 : V) : (fB v0 v1 v2).length = 3 := rfl
def fS (v0 v1 v2 v3 v4 v5 v6 v7 v8 : V) : List (Str × V) := [("kind", v0), ("fund_number", v1), ("other_number", v2), ("part", v3), ("quorum", v4), ("need", v5), ("votes", v6), ("proxies", v7), ("state", v8)]
theorem fS_kind (v0 v1 v2 v3 v4 v5 v6 v7 v8 : V) : (fS v0 v1 v2 v3 v4 v5 v6 v7 v8).lookup ("kind" : Str) = some v0 := by unfold fS; rw [lk_eq]
theorem fS_put_kind (v0 v1 v2 v3 v4 v5 v6 v7 v8 y : V) : putF "kind" y (fS v0 v1 v2 v3 v4 v5 v6 v7 v8) = fS y v1 v2 v3 v4 v5 v6 v7 v8 := by unfold fS; rw [pf_eq]
theorem fS_fund_number (v0 v1 v2 v3 v4 v5 v6 v7 v8 : V) : (fS v0 v1 v2 v3 v4 v5 v6 v7 v8).lookup ("fund_number" : Str) = some v1 := by unfold fS; rw [lk_ne (by decide +kernel), lk_eq]
theorem fS_put_fund_number (v0 v1 v2 v3 v4 v5 v6 v7 v8 y : V) : putF "fund_number" y (fS v0 v1 v2 v3 v4 v5 v6 v7 v8) = fS v0 y v2 v3 v4 v5 v6 v7 v8 := by unfold fS; rw [pf_ne (by decide +kernel), pf_eq]
theorem fS_other_number (v0 v1 v2 v3 v4 v5 v6 v7 v8 : V) : (fS v0 v1 v2 v3 v4 v5 v6 v7 v8).lookup ("other_number" : Str) = some v2 := by unfold fS; rw [lk_ne (by decide +kernel), lk_ne (by decide +kernel), lk_eq]
theorem fS_put_other_number (v0 v1 v2 v3 v4 v5 v6 v7 v8 y : V) : putF "other_number" y (fS v0 v1 v2 v3 v4 v5 v6 v7 v8) = fS v0 v1 y v3 v4 v5 v6 v7 v8 := by unfold fS; rw [pf_ne (by decide +kernel), pf_ne (by decide +kernel), pf_eq]
theorem fS_part (v0 v1 v2 v3 v4 v5 v6 v7 v8 : V) : (fS v0 v1 v2 v3 v4 v5 v6 v7 v8).lookup ("part" : Str) = some v3 := by unfold fS; rw [lk_ne (by decide +kernel), lk_ne (by decide +kernel), lk_ne (by decide +kernel), lk_eq]
theorem fS_put_part (v0 v1 v2 v3 v4 v5 v6 v7 v8 y : V) : putF "part" y (fS v0 v1 v2 v3 v4 v5 v6 v7 v8) = fS v0 v1 v2 y v4 v5 v6 v7 v8 := by unfold fS; rw [pf_ne (by decide +kernel), pf_ne (by decide +kernel), pf_ne (by decide +kernel), pf_eq]
theorem fS_quorum (v0 v1 v2 v3 v4 v5 v6 v7 v8 : V) : (fS v0 v1 v2 v3 v4 v5 v6 v7 v8).lookup ("quorum" : Str) = some v4 := by unfold fS; rw [lk_ne (by decide +kernel), lk_ne (by decide +kernel), lk_ne (by decide +kernel), lk_ne (by decide +kernel), lk_eq]
theorem fS_put_quorum (v0 v1 v2 v3 v4 v5 v6 v7 v8 y : V) : putF "quorum" y (fS v0 v1 v2 v3 v4 v5 v6 v7 v8) = fS v0 v1 v2 v3 y v5 v6 v7 v8 := by unfold fS; rw [pf_ne (by decide +kernel), pf_ne (by decide +kernel), pf_ne (by decide +kernel), pf_ne (by decide +kernel), pf_eq]
theorem fS_need (v0 v1 v2 v3 v4 v5 v6 v7 v8 : V) : (fS v0 v1 v2 v3 v4 v5 v6 v7 v8).lookup ("need" : Str) = some v5 := by unfold fS; rw [lk_ne (by decide +kernel), lk_ne (by decide +kernel), lk_ne (by decide +kernel), lk_ne (by decide +kernel), lk_ne (by decide +kernel), lk_eq]
theorem fS_put_need (v0 v1 v2 v3 v4 v5 v6 v7 v8 y : V) : putF "need" y (fS v0 v1 v2 v3 v4 v5 v6 v7 v8) = fS v0 v1 v2 v3 v4 y v6 v7 v8 := by unfold fS; rw [pf_ne (by decide +kernel), pf_ne (by decide +kernel), pf_ne (by decide +kernel), pf_ne (by decide +kernel), pf_ne (by decide +kernel), pf_eq]
theorem fS_votes (v0 v1 v2 v3 v4 v5 v6 v7 v8 : V) : (fS v0 v1 v2 v3 v4 v5 v6 v7 v8).lookup ("votes" : Str) = some v6 := by unfold fS; rw [lk_ne (by decide +kernel), lk_ne (by decide +kernel), lk_ne (by decide +kernel), lk_ne (by decide +kernel), lk_ne (by decide +kernel), lk_ne (by decide +kernel), lk_eq]
theorem fS_put_votes (v0 v1 v2 v3 v4 v5 v6 v7 v8 y : V) : putF "votes" y (fS v0 v1 v2 v3 v4 v5 v6 v7 v8) = fS v0 v1 v2 v3 v4 v5 y v7 v8 := by unfold fS; rw [pf_ne (by decide +kernel), pf_ne (by decide +kernel), pf_ne (by decide +kernel), pf_ne (by decide +kernel), pf_ne (by decide +kernel), pf_ne (by decide +kernel), pf_eq]
theorem fS_proxies (v0 v1 v2 v3 v4 v5 v6 v7 v8 : V) : (fS v0 v1 v2 v3 v4 v5 v6 v7 v8).lookup ("proxies" : Str) = some v7 := by unfold fS; rw [lk_ne (by decide +kernel), lk_ne (by decide +kernel), lk_ne (by decide +kernel), lk_ne (by decide +kernel), lk_ne (by decide +kernel), lk_ne (by decide +kernel), lk_ne (by decide +kernel), lk_eq]
theorem fS_put_proxies (v0 v1 v2 v3 v4 v5 v6 v7 v8 y : V) : putF "proxies" y (fS v0 v1 v2 v3 v4 v5 v6 v7 v8) = fS v0 v1 v2 v3 v4 v5 v6 y v8 := by unfold fS; rw [pf_ne (by decide +kernel), pf_ne (by decide +kernel), pf_ne (by decide +kernel), pf_ne (by decide +kernel), pf_ne (by decide +kernel), pf_ne (by decide +kernel), pf_ne (by decide +kernel), pf_eq]
theorem fS_state (v0 v1 v2 v3 v4 v5 v6 v7 v8 : V) : (fS v0 v1 v2 v3 v4 v5 v6 v7 v8).lookup ("state" : Str) = some v8 := by unfold fS; rw [lk_ne (by decide +kernel), lk_ne (by decide +kernel), lk_ne (by decide +kernel), lk_ne (by decide +kernel), lk_ne (by decide +kernel), lk_ne (by decide +kernel), lk_ne (by decide +kernel), lk_ne (by decide +kernel), lk_eq]
theorem fS_put_state (v0 v1 v2 v3 v4 v5 v6 v7 v8 y : V) : putF "state" y (fS v0 v1 v2 v3 v4 v5 v6 v7 v8) = fS v0 v1 v2 v3 v4 v5 v6 v7 y := by unfold fS; rw [pf_ne (by decide +kernel), pf_ne (by decide +kernel), pf_ne (by decide +kernel), pf_ne (by decide +kernel), pf_ne (by decide +kernel), pf_ne (by decide +kernel), pf_ne (by decide +kernel), pf_ne (by decide +kernel), pf_eq]
theorem fS_init (v0 v1 v2 v3 v4 v5 v6 v7 v8 : V) : (putF "state" v8 (putF "proxies" v7 (putF "votes" v6 (putF "need" v5 (putF "quorum" v4 (putF "part" v3 (putF "other_number" v2 (putF "fund_number" v1 (putF "kind" v0 []))))))))) = fS v0 v1 v2 v3 v4 v5 v6 v7 v8 := by unfold fS; rw [pf_nil (f := "kind"), pf_ne (f := "fund_number") (g := "kind") (by decide +kernel), pf_nil (f := "fund_number"), pf_ne (f := "other_number") (g := "kind") (by decide +kernel), pf_ne (f := "other_number") (g := "fund_number") (by decide +kernel), pf_nil (f := "other_number"), pf_ne (f := "part") (g := "kind") (by decide +kernel), pf_ne (f := "part") (g := "fund_number") (by decide +kernel), pf_ne (f := "part") (g := "other_number") (by decide +kernel), pf_nil (f := "part"), pf_ne (f := "quorum") (g := "kind") (by decide +kernel), pf_ne (f := "quorum") (g := "fund_number") (by decide +kernel), pf_ne (f := "quorum") (g := "other_number") (by decide +kernel), pf_ne (f := "quorum") (g := "part") (by decide +kernel), pf_nil (f := "quorum"), pf_ne (f := "need") (g := "kind") (by decide +kernel), pf_ne (f := "need") (g := "fund_number") (by decide +kernel), pf_ne (f := "need") (g := "other_number") (by decide +kernel), pf_ne (f := "need") (g := "part") (by decide +kernel), pf_ne (f := "need") (g := "quorum") (by decide +kernel), pf_nil (f := "need"), pf_ne (f := "votes") (g := "kind") (by decide +kernel), pf_ne (f := "votes") (g := "fund_number") (by decide +kernel), pf_ne (f := "votes") (g := "other_number") (by decide +kernel), pf_ne (f := "votes") (g := "part") (by decide +kernel), pf_ne (f := "votes") (g := "quorum") (by decide +kernel), pf_ne (f := "votes") (g := "need") (by decide +kernel), pf_nil (f := "votes"), pf_ne (f := "proxies") (g := "kind") (by decide +kernel), pf_ne (f := "proxies") (g := "fund_number") (by decide +kernel), pf_ne (f := "proxies") (g := "other_number") (by decide +kernel), pf_ne (f := "proxies") (g := "part") (by decide +kernel), pf_ne (f := "proxies") (g := "quorum") (by decide +kernel), pf_ne (f := "proxies") (g := "need") (by decide +kernel), pf_ne (f := "proxies") (g := "votes") (by decide +kernel), pf_nil (f := "proxies"), pf_ne (f := "state") (g := "kind") (by decide +kernel), pf_ne (f := "state") (g := "fund_number") (by decide +kernel), pf_ne (f := "state") (g := "other_number") (by decide +kernel), pf_ne (f := "state") (g := "part") (by decide +kernel), pf_ne (f := "state") (g := "quorum") (by decide +kernel), pf_ne (f := "state") (g := "need") (by decide +kernel), pf_ne (f := "state") (g := "votes") (by decide +kernel), pf_ne (f := "state") (g := "proxies") (by decide +kernel), pf_nil (f := "state")]
theorem fS_len (v0 v1 v2 v3 v4 v5 v6 v7 v8 : V) : (fS v0 v1 v2 v3 v4 v5 v6 v7 v8).length = 9 := rfl
structure Cs where
  h : Addr
  f : Addr
  s : Addr
  b : Addr
abbrev Own := Addr → Nat
def Frm (r : Nat) (own : Own) (H : Hp) (own' : Own) (H' : Hp) : Prop := ∀ b o, H b = some o → own b ≠ r → H' b = some o ∧ own' b = own b
theorem Frm.refl {r : Nat} {own : Own} {H : Hp} : Frm r own H own H := fun _ _ e _ => ⟨e, rfl⟩
theorem Frm.trans {r : Nat} {o1 o2 o3 : Own} {H1 H2 H3 : Hp} (a : Frm r o1 H1 o2 H2) (b : Frm r o2 H2 o3 H3) : Frm r o1 H1 o3 H3 := fun c o e n => by
  obtain ⟨e1, n1⟩ := a c o e n
  obtain ⟨e2, n2⟩ := b c o e1 (by rw [n1]; exact n)
  exact ⟨e2, n2.trans n1⟩
theorem Frm.upd {r : Nat} {own : Own} {H : Hp} {a : Addr} {u : HO} (h : own a = r) : Frm r own H own (L2.upd H a u) := fun b o e n => by
  have hb : b ≠ a := fun z => n (by rw [z]; exact h)
  exact ⟨by rw [upd_ne hb]; exact e, rfl⟩
theorem Frm.upd' {r : Nat} {own own' : Own} {H H' : Hp} {a : Addr} {u : HO} (f : Frm r own H own' H') (h : own' a = r) : Frm r own H own' (L2.upd H' a u) := f.trans (Frm.upd h)
theorem Frm.lay {r : Nat} {own : Own} {H : Hp} {a : Addr} {u : HO} (h : H a = none) : Frm r own H own (L2.upd H a u) := fun b o e n => ⟨by rw [upd_ne (ne_of_none e h)]; exact e, rfl⟩
def give (own : Own) (a : Addr) (r : Nat) : Own := fun b => if b = a then r else own b
theorem give_same {own : Own} {a : Addr} {r : Nat} : give own a r a = r := by unfold give; rw [if_pos rfl]
theorem give_ne {own : Own} {a b : Addr} {r : Nat} (h : b ≠ a) : give own a r b = own b := by unfold give; rw [if_neg h]
def kv (p : Addr × Holding) : Key × V := (Sum.inl (p.2.holder : Int), V.ref p.1)
structure HoldAt (C : Cs) (own : Own) (H : Hp) (r : Nat) (p : Addr × Holding) : Prop where
  at_ : ∃ dx, H p.1 = some (.ins C.h dx (fH (.int p.2.units) (.int p.2.cost) (.int p.2.got)))
  ow : own p.1 = r
structure HoldsAt (C : Cs) (own : Own) (H : Hp) (r : Nat) (d : Addr) (E : List (Addr × Holding)) : Prop where
  dic : H d = some (.dK (E.map kv))
  od : own d = r
  each : ∀ p ∈ E, HoldAt C own H r p
  nd : (E.map (·.1)).Nodup
structure FundAt (C : Cs) (own : Own) (H : Hp) (r : Nat) (a : Addr) (x : Fund) : Prop where
  good : Good H
  sf : Sf x.hold
  ex : ∃ dx d E, H a = some (.ins C.f dx (fF (.int x.value) (.ref d) (.bl x.closing) (.int x.declared))) ∧ own a = r ∧ HoldsAt C own H r d E ∧ (E.map (·.2)).Perm x.hold
section
variable {C : Cs} {own own' : Own} {H H' : Hp} {r r' : Nat} {a d : Addr} {x : Fund} {E : List (Addr × Holding)}
theorem HoldsAt.keep (h : HoldsAt C own H r d E) (k : ∀ b o, H b = some o → own b = r → H' b = some o ∧ own' b = r) : HoldsAt C own' H' r d E where
  dic := (k _ _ h.dic h.od).1
  od := (k _ _ h.dic h.od).2
  each := fun p hp => by
    obtain ⟨dx, e⟩ := (h.each p hp).at_
    have q := k _ _ e (h.each p hp).ow
    exact ⟨⟨dx, q.1⟩, q.2⟩
  nd := h.nd
theorem FundAt.keep (h : FundAt C own H r a x) (g : Good H') (k : ∀ b o, H b = some o → own b = r → H' b = some o ∧ own' b = r) : FundAt C own' H' r a x := by
  obtain ⟨dx, d, E, h1, h2, h3, h4⟩ := h.ex
  have q := k _ _ h1 h2
  exact ⟨g, h.sf, dx, d, E, q.1, q.2, h3.keep k, h4⟩
theorem FundAt.frame (h : FundAt C own H r a x) (g : Good H') (f : Frm r' own H own' H') (n : r ≠ r') : FundAt C own' H' r a x :=
  h.keep g fun b o e ob => by
    have q := f b o e (by rw [ob]; exact n)
    exact ⟨q.1, q.2.trans ob⟩
theorem FundAt.same (h : FundAt C own H r a x) (g : Good H') (f : Same H H') : FundAt C own H' r a x := h.keep g fun b o e ob => ⟨f b o e, ob⟩
theorem FundAt.upd (h : FundAt C own H r a x) {b : Addr} {o : HO} (g : ∀ kvs, o ≠ .dT kvs) (n : own b ≠ r ∨ H b = none) : FundAt C own (L2.upd H b o) r a x :=
  h.keep (h.good.upd g) fun c u e oc => by
    have hb : c ≠ b := by
      rcases n with n | n
      · exact fun z => n (by rw [← z]; exact oc)
      · exact ne_of_none e n
    exact ⟨by rw [upd_ne hb]; exact e, oc⟩
theorem nd_holders (hs : Sf x.hold) (hp : (E.map (·.2)).Perm x.hold) : (E.map fun p => p.2.holder).Nodup := by
  have h1 : ((E.map (·.2)).map fun y => y.holder).Perm (x.hold.map fun y => y.holder) := hp.map _
  rw [List.map_map] at h1
  exact (h1.nodup_iff).mpr hs.srt.nodup
theorem val_in : ∀ {E : List (Addr × Holding)} {p : Addr × Holding}, (E.map fun p => p.2.holder).Nodup → p ∈ E → valV (E.map kv) (Sum.inl (p.2.holder : Int)) = some (.ref p.1)
  | q :: E, p, nd, hp => by
    rw [List.map_cons] at nd ⊢
    obtain ⟨h1, h2⟩ := List.nodup_cons.mp nd
    rcases List.mem_cons.mp hp with e | hp
    · subst e
      exact valV_pos rfl
    · refine (valV_neg fun z => ?_).trans (val_in h2 hp)
      have z' : (q.2.holder : Int) = p.2.holder := Sum.inl.inj z
      exact h1 (List.mem_map.mpr ⟨p, hp, by omega⟩)
theorem val_out : ∀ {E : List (Addr × Holding)} {h : Nat}, (∀ p ∈ E, p.2.holder ≠ h) → valV (E.map kv) (Sum.inl (h : Int)) = none
  | [], _, _ => rfl
  | q :: E, h, n => by
    rw [List.map_cons]
    refine (valV_neg fun z => ?_).trans (val_out fun p hp => n p (List.mem_cons_of_mem _ hp))
    have z' : (q.2.holder : Int) = h := Sum.inl.inj z
    exact n q List.mem_cons_self (by omega)
theorem mem_E (hp : (E.map (·.2)).Perm x.hold) {y : Holding} (hy : y ∈ x.hold) : ∃ p ∈ E, p.2 = y := by
  obtain ⟨p, h1, h2⟩ := List.mem_map.mp (hp.mem_iff.mpr hy)
  exact ⟨p, h1, h2⟩
theorem mem_hold (hp : (E.map (·.2)).Perm x.hold) {p : Addr × Holding} (h : p ∈ E) : p.2 ∈ x.hold := hp.mem_iff.mp (List.mem_map.mpr ⟨p, h, rfl⟩)
theorem len_E (hs : Sf x.hold) (hp : (E.map (·.2)).Perm x.hold) : E.length ≤ 20 := by
  have := hp.length_eq
  rw [List.length_map] at this
  rw [this]
  exact hs.le20
theorem small (n : Nat) (h : n ≤ 100000) : n < sizeLine := by rw [sizeLine_eq]; omega
theorem fst_inj {α β : Type} {E : List (α × β)} {p q : α × β} (nd : (E.map (·.1)).Nodup) (hq : q ∈ E) (hp : p ∈ E) (h : q.1 = p.1) : q = p := by
  induction E with
  | nil => cases hq
  | cons w E ih =>
    obtain ⟨n1, n2⟩ := List.nodup_cons.mp (show (w.1 :: E.map (·.1)).Nodup from nd)
    rcases List.mem_cons.mp hq with a | a
    · rcases List.mem_cons.mp hp with b | b
      · rw [a, b]
      · exact absurd (List.mem_map.mpr ⟨p, b, by rw [← h, a]⟩) n1
    · rcases List.mem_cons.mp hp with b | b
      · exact absurd (List.mem_map.mpr ⟨q, a, by rw [h, b]⟩) n1
      · exact ih n2 a b
def setE (E : List (Addr × Holding)) (p : Addr) (y : Holding) : List (Addr × Holding) := E.map fun q => if q.1 = p then (p, y) else q
theorem setE_kv {p : Addr × Holding} {y : Holding} (hp : p ∈ E) (nd : (E.map (·.1)).Nodup) (e : y.holder = p.2.holder) : (setE E p.1 y).map kv = E.map kv := by
  unfold setE
  rw [List.map_map]
  refine List.map_congr_left fun q hq => ?_
  show kv (if q.1 = p.1 then (p.1, y) else q) = kv q
  by_cases h : q.1 = p.1
  · rw [if_pos h]
    have hqp : q = p := fst_inj nd hq hp h
    unfold kv
    rw [hqp, e]
  · rw [if_neg h]
theorem setE_fst {p : Addr} {y : Holding} : (setE E p y).map (·.1) = E.map (·.1) := by
  unfold setE
  rw [List.map_map]
  refine List.map_congr_left fun q hq => ?_
  show (if q.1 = p then (p, y) else q).1 = q.1
  split
  · next h => exact h.symm
  · rfl
theorem setE_perm {p : Addr × Holding} {y : Holding} (hp : p ∈ E) (nd : (E.map (·.1)).Nodup) (hn : (E.map fun p => p.2.holder).Nodup) (e : y.holder = p.2.holder) :
    ((setE E p.1 y).map (·.2)).Perm (y :: (E.map (·.2)).filter fun z => decide (z.holder ≠ y.holder)) := by
  obtain ⟨E1, E2, rfl⟩ := List.append_of_mem hp
  have k1 : ∀ q ∈ E1 ++ E2, q.1 ≠ p.1 ∧ q.2.holder ≠ p.2.holder := fun q hq => by
    rw [List.map_append, List.map_cons, List.nodup_append] at nd hn
    obtain ⟨a1, a2, a3⟩ := nd
    obtain ⟨b1, b2, b3⟩ := hn
    obtain ⟨a4, _⟩ := List.nodup_cons.mp a2
    obtain ⟨b4, _⟩ := List.nodup_cons.mp b2
    rcases List.mem_append.mp hq with h | h
    · exact ⟨a3 _ (List.mem_map.mpr ⟨q, h, rfl⟩) _ List.mem_cons_self, b3 _ (List.mem_map.mpr ⟨q, h, rfl⟩) _ List.mem_cons_self⟩
    · exact ⟨fun z => a4 (List.mem_map.mpr ⟨q, h, z⟩), fun z => b4 (List.mem_map.mpr ⟨q, h, z⟩)⟩
  have k2 : ∀ l : List (Addr × Holding), (∀ q ∈ l, q ∈ E1 ++ E2) → (setE l p.1 y).map (·.2) = l.map (·.2) := fun l hl => by
    unfold setE
    rw [List.map_map]
    refine List.map_congr_left fun q hq => ?_
    show (if q.1 = p.1 then (p.1, y) else q).2 = q.2
    rw [if_neg (k1 q (hl q hq)).1]
  have k3 : ∀ l : List (Addr × Holding), (∀ q ∈ l, q ∈ E1 ++ E2) → (l.map (·.2)).filter (fun z => decide (z.holder ≠ y.holder)) = l.map (·.2) := fun l hl => List.filter_eq_self.mpr fun z hz => by
    obtain ⟨q, hq, rfl⟩ := List.mem_map.mp hz
    rw [e]
    exact decide_eq_true (k1 q (hl q hq)).2
  have s1 : setE (E1 ++ p :: E2) p.1 y = setE E1 p.1 y ++ (p.1, y) :: setE E2 p.1 y := by
    unfold setE
    rw [List.map_append, List.map_cons, if_pos rfl]
  rw [s1, List.map_append, List.map_cons, k2 E1 fun q h => List.mem_append_left _ h, k2 E2 fun q h => List.mem_append_right _ h]
  rw [List.map_append, List.map_cons, List.filter_append, List.filter_cons_of_neg (by simp [e]), k3 E1 fun q h => List.mem_append_left _ h, k3 E2 fun q h => List.mem_append_right _ h]
  exact List.perm_middle
theorem put_perm {y : Holding} {l : List Holding} (hs : Sf x.hold) (hp : (E.map (·.2)).Perm x.hold) (hu : y.units ≠ 0) (h : l.Perm (y :: (E.map (·.2)).filter fun z => decide (z.holder ≠ y.holder))) : l.Perm (putHold y x.hold) := by
  have q := putHold_perm y hs.srt
  rw [if_neg hu] at q
  exact (h.trans ((hp.filter _).cons y)).trans q.symm
theorem drop_perm {y : Holding} {l : List Holding} (hs : Sf x.hold) (hp : (E.map (·.2)).Perm x.hold) (hu : y.units = 0) (h : l.Perm ((E.map (·.2)).filter fun z => decide (z.holder ≠ y.holder))) : l.Perm (putHold y x.hold) := by
  have q := putHold_perm y hs.srt
  rw [if_pos hu] at q
  exact (h.trans (hp.filter _)).trans q.symm
theorem HoldsAt.set {p : Addr × Holding} {y : Holding} (h : HoldsAt C own H r d E) (hp : p ∈ E) (e : y.holder = p.2.holder) {dx : Addr} : HoldsAt C own (L2.upd H p.1 (.ins C.h dx (fH (.int y.units) (.int y.cost) (.int y.got)))) r d (setE E p.1 y) where
  dic := by
    obtain ⟨dx', e'⟩ := (h.each p hp).at_
    rw [upd_ne (ne_of h.dic e' (by intro z; cases z)), setE_kv hp h.nd e]
    exact h.dic
  od := h.od
  each := fun q hq => by
    obtain ⟨w, hw, rfl⟩ := List.mem_map.mp hq
    split
    · exact ⟨⟨dx, upd_same⟩, (h.each p hp).ow⟩
    · next n =>
      obtain ⟨dx', e'⟩ := (h.each w hw).at_
      exact ⟨⟨dx', by rw [upd_ne n]; exact e'⟩, (h.each w hw).ow⟩
  nd := by rw [setE_fst]; exact h.nd
theorem snoc_kv {q : Addr} {y : Holding} : (E ++ [(q, y)]).map kv = E.map kv ++ [kv (q, y)] := by rw [List.map_append]; rfl
theorem putK_out {h : Nat} {v : V} (n : ∀ p ∈ E, p.2.holder ≠ h) : putK (E.map kv) (Sum.inl (h : Int)) v = E.map kv ++ [(Sum.inl (h : Int), v)] := putK_new v (val_out n)
theorem filter_out {h : Nat} {l : List Holding} (n : ∀ z ∈ l, z.holder ≠ h) : l.filter (fun z => decide (z.holder ≠ h)) = l := List.filter_eq_self.mpr fun z hz => decide_eq_true (n z hz)
theorem dropK_kv {h : Nat} : dropK (E.map kv) (Sum.inl (h : Int)) = (E.filter fun p => decide (p.2.holder ≠ h)).map kv := by
  unfold dropK
  rw [List.filter_map]
  refine congrArg _ (List.filter_congr fun p _ => ?_)
  show decide ((kv p).1 ≠ Sum.inl (h : Int)) = decide (p.2.holder ≠ h)
  refine decide_eq_decide.mpr (not_congr ⟨fun z => ?_, fun z => ?_⟩)
  · have : (p.2.holder : Int) = h := Sum.inl.inj z
    omega
  · unfold kv
    rw [z]
theorem drop_snd {h : Nat} : (E.filter fun p => decide (p.2.holder ≠ h)).map (·.2) = (E.map (·.2)).filter fun z => decide (z.holder ≠ h) := by
  rw [List.filter_map]
  rfl
end
end R
end
section
set_option Elab.async false
set_option linter.all false
set_option maxRecDepth 100000
namespace R
open PySem PySem.Spec PyProof.Rows L2 M
open Vbfual (Holding Fund Scheme State unitsOf gotIn holdingOf fundAt cashAt more less putHold newUnits restOf voteOf proxyOf)
def T (l : List Nat) (g : Nat → V) : List (Key × V) := l.map fun i : Nat => ((Sum.inl ((i : Nat) : Int) : Key), g i)
theorem T_val {l : List Nat} {g : Nat → V} {h : Nat} (hm : h ∈ l) : valV (T l g) (Sum.inl (h : Int)) = some (g h) := by
  induction l with
  | nil => cases hm
  | cons a l ih =>
    show valV ((Sum.inl (a : Int), g a) :: T l g) _ = _
    by_cases e : a = h
    · subst e
      exact valV_pos rfl
    · refine (valV_neg fun z => e (by have : (a : Int) = h := Sum.inl.inj z; omega)).trans (ih ?_)
      rcases List.mem_cons.mp hm with z | z
      · exact absurd z.symm e
      · exact z
theorem T_none {l : List Nat} {g : Nat → V} {h : Int} (hm : ∀ i ∈ l, (i : Int) ≠ h) : valV (T l g) (Sum.inl h) = none := by
  induction l with
  | nil => rfl
  | cons a l ih =>
    show valV ((Sum.inl (a : Int), g a) :: T l g) _ = _
    exact (valV_neg fun z => hm a List.mem_cons_self (Sum.inl.inj z)).trans (ih fun i hi => hm i (List.mem_cons_of_mem _ hi))
theorem T_put {l : List Nat} {g : Nat → V} {h : Nat} {v : V} (hm : h ∈ l) : putK (T l g) (Sum.inl (h : Int)) v = T l fun i => if i = h then v else g i := by
  unfold putK
  rw [valV_any, T_val hm, if_pos (show (some (g h)).isSome = true from rfl)]
  unfold T
  rw [List.map_map]
  refine List.map_congr_left fun (i : Nat) _ => ?_
  show (if (Sum.inl (i : Int) : Key) = Sum.inl (h : Int) then ((Sum.inl (i : Int) : Key), v) else (Sum.inl (i : Int), g i)) = (Sum.inl (i : Int), if i = h then v else g i)
  by_cases e : i = h
  · rw [if_pos (by rw [e]), if_pos e]
  · rw [if_neg (fun z => e (by have : (i : Int) = h := Sum.inl.inj z; omega)), if_neg e]
theorem T_snoc {l : List Nat} {g : Nat → V} {h : Nat} {v : V} (hm : h ∉ l) : putK (T l g) (Sum.inl (h : Int)) v = T (l ++ [h]) fun i => if i = h then v else g i := by
  rw [putK_new v (T_none fun i hi z => hm (by have : i = h := by omega
                                              rw [← this]; exact hi))]
  unfold T
  rw [List.map_append]
  refine congr (congrArg _ (List.map_congr_left fun i hi => ?_)) ?_
  · show _ = (Sum.inl (i : Int), if i = h then v else g i)
    rw [if_neg (fun e : i = h => hm (by rw [← e]; exact hi))]
  · show _ = [(Sum.inl (h : Int), if h = h then v else g h)]
    rw [if_pos rfl]
theorem T_congr {l : List Nat} {g g' : Nat → V} (h : ∀ i ∈ l, g i = g' i) : T l g = T l g' := List.map_congr_left fun (i : Nat) hi => by rw [h i hi]
section
variable {κ : Type} [DecidableEq κ]
theorem val_perm {l k : List (κ × V)} (h : l.Perm k) (nd : (l.map (·.1)).Nodup) (x : κ) : valV l x = valV k x := by
  induction h with
  | nil => rfl
  | cons p _ ih =>
    have nd' := (List.nodup_cons.mp nd).2
    by_cases e : p.1 = x
    · rw [valV_pos e, valV_pos e]
    · rw [valV_neg e, valV_neg e, ih nd']
  | swap p q l =>
    have n1 : q.1 ≠ p.1 := fun e => (List.nodup_cons.mp nd).1 (List.mem_map.mpr ⟨p, List.mem_cons_self, e.symm⟩)
    by_cases e1 : p.1 = x
    · have e2 : ¬ q.1 = x := fun z => n1 (z.trans e1.symm)
      rw [valV_neg e2, valV_pos e1, valV_pos e1]
    · by_cases e2 : q.1 = x
      · rw [valV_pos e2, valV_neg e1, valV_pos e2]
      · rw [valV_neg e2, valV_neg e1, valV_neg e1, valV_neg e2]
  | trans h1 _ a b => exact (a nd).trans (b (((h1.map (·.1)).nodup_iff).mp nd))
theorem put_perm' : ∀ {l : List (κ × V)} {x : κ} {v : V}, (l.map (·.1)).Nodup → (putK l x v).Perm (dropK l x ++ [(x, v)])
  | l, x, v, nd => by
    unfold putK
    split
    · next h =>
      rw [valV_any] at h
      induction l with
      | nil => cases h
      | cons p l ih =>
        obtain ⟨n1, n2⟩ := List.nodup_cons.mp (show (p.1 :: l.map (·.1)).Nodup from nd)
        by_cases e : p.1 = x
        · subst e
          rw [List.map_cons, if_pos rfl, dropK_pos rfl, dropK_no n1]
          have : (l.map fun kv => if kv.1 = p.1 then (kv.1, v) else kv) = l := by
            rw [List.map_congr_left (g := id) fun q hq => ?_, List.map_id]
            rw [if_neg fun z => n1 (List.mem_map.mpr ⟨q, hq, z⟩)]
            rfl
          rw [this]
          exact (List.perm_append_comm (l₁ := [(p.1, v)]) (l₂ := l))
        · rw [valV_neg e] at h
          rw [List.map_cons, if_neg e, dropK_neg e]
          exact (ih n2 h).cons p
    · next h =>
      rw [valV_any] at h
      have hn : valV l x = none := by
        cases q : valV l x with
        | none => rfl
        | some _ => rw [q] at h; exact absurd rfl h
      rw [dropK_no (valV_not hn)]
end
def vv (p : Nat × Bool) : Key × V := (Sum.inl (p.1 : Int), V.int (if p.2 then 1 else 0))
def pp (p : Nat × Nat) : Key × V := (Sum.inl (p.1 : Int), V.int p.2)
section
variable {α : Type} (e : Nat × α → Key × V) (f : α → V) (he : ∀ p, e p = (Sum.inl (p.1 : Int), f p.2))
include he
theorem enc_nd {l : List (Nat × α)} (h : (l.map fun v => v.1).Nodup) : ((l.map e).map (·.1)).Nodup := by
  rw [List.map_map]
  have : (l.map ((·.1) ∘ e)) = (l.map fun v => v.1).map fun (n : Nat) => (Sum.inl ((n : Nat) : Int) : Key) := by
    rw [List.map_map]
    exact List.map_congr_left fun p _ => by show (e p).1 = _; rw [he]; rfl
  rw [this]
  refine List.pairwise_map.mpr (h.imp fun {a b} n z => n ?_)
  have : (a : Int) = b := Sum.inl.inj z
  omega
theorem enc_val (l : List (Nat × α)) (h : Nat) : valV (l.map e) (Sum.inl (h : Int)) = ((l.find? fun v => v.1 == h).map fun v => v.2).map f := by
  induction l with
  | nil => rfl
  | cons p l ih =>
    rw [List.map_cons, List.find?_cons]
    by_cases q : p.1 = h
    · rw [valV_pos (by rw [he, q]), beq_iff_eq.mpr q, he]
      rfl
    · rw [valV_neg (by rw [he]; exact fun z => q (by have : (p.1 : Int) = h := Sum.inl.inj z; omega)), ih, beq_eq_false_iff_ne.mpr q]
theorem enc_drop (l : List (Nat × α)) (h : Nat) : dropK (l.map e) (Sum.inl (h : Int)) = (l.filter fun v => v.1 != h).map e := by
  unfold dropK
  rw [List.filter_map]
  refine congrArg _ (List.filter_congr fun p _ => ?_)
  show decide ((e p).1 ≠ Sum.inl (h : Int)) = _
  rw [he]
  by_cases q : p.1 = h
  · rw [q]; simp
  · have : ¬ (Sum.inl (p.1 : Int) : Key) = Sum.inl (h : Int) := fun z => q (by have : (p.1 : Int) = h := Sum.inl.inj z; omega)
    simp [this, q]
theorem enc_put {kvs : List (Key × V)} {l : List (Nat × α)} (hp : kvs.Perm (l.map e)) (nd : (l.map fun v => v.1).Nodup) (h : Nat) (v : α) : (putK kvs (Sum.inl (h : Int)) (f v)).Perm (((l.filter fun v => v.1 != h) ++ [(h, v)]).map e) := by
  have nk : (kvs.map (·.1)).Nodup := ((hp.map (·.1)).nodup_iff).mpr (enc_nd e f he nd)
  refine (put_perm' nk).trans ?_
  rw [List.map_append, ← enc_drop e f he l h]
  have e1 : [(h, v)].map e = [(Sum.inl (h : Int), f v)] := by rw [List.map_cons, he]; rfl
  rw [e1]
  exact (hp.filter _).append_right _
end
structure SchAt (C : Cs) (own : Own) (H : Hp) (r : Nat) (a : Addr) (z : Scheme) : Prop where
  good : Good H
  ex : ∃ dx vd pd kvs kps, H a = some (.ins C.s dx (fS (.int z.kind) (.int z.a) (.int z.b) (.int z.part) (.int z.quorum) (.int z.need) (.ref vd) (.ref pd) (.int z.status))) ∧ own a = r ∧
    H vd = some (.dK kvs) ∧ own vd = r ∧ H pd = some (.dK kps) ∧ own pd = r ∧ vd ≠ pd ∧ kvs.Perm (z.votes.map vv) ∧ kps.Perm (z.proxies.map pp)
section
variable {C : Cs} {own own' : Own} {H H' : Hp} {r r' : Nat} {a : Addr} {z : Scheme}
theorem SchAt.keep (h : SchAt C own H r a z) (g : Good H') (k : ∀ b o, H b = some o → own b = r → H' b = some o ∧ own' b = r) : SchAt C own' H' r a z := by
  obtain ⟨dx, vd, pd, kvs, kps, h1, h2, h3, h4, h5, h6, h7⟩ := h.ex
  exact ⟨g, dx, vd, pd, kvs, kps, (k _ _ h1 h2).1, (k _ _ h1 h2).2, (k _ _ h3 h4).1, (k _ _ h3 h4).2, (k _ _ h5 h6).1, (k _ _ h5 h6).2, h7⟩
theorem SchAt.frame (h : SchAt C own H r a z) (g : Good H') (f : Frm r' own H own' H') (n : r ≠ r') : SchAt C own' H' r a z :=
  h.keep g fun b o e ob => by
    have q := f b o e (by rw [ob]; exact n)
    exact ⟨q.1, q.2.trans ob⟩
end
structure Lo where
  fd : Addr
  cd : Addr
  sd : Addr
  fa : Nat → Addr
  za : Nat → Addr
def six : List Nat := [1, 2, 3, 4, 5, 6]
def twenty : List Nat := (List.range 20).map (· + 1)
theorem mem_six {f : Nat} (h : 1 ≤ f ∧ f ≤ 6) : f ∈ six := by
  obtain ⟨h1, h2⟩ := h
  have : f = 1 ∨ f = 2 ∨ f = 3 ∨ f = 4 ∨ f = 5 ∨ f = 6 := by omega
  rcases this with e | e | e | e | e | e <;> subst e <;> decide
theorem mem_twenty {h : Nat} (hh : 1 ≤ h ∧ h ≤ 20) : h ∈ twenty := List.mem_map.mpr ⟨h - 1, List.mem_range.mpr (by omega), by omega⟩
theorem of_twenty {h : Nat} (hh : h ∈ twenty) : 1 ≤ h ∧ h ≤ 20 := by
  obtain ⟨i, hi, rfl⟩ := List.mem_map.mp hh
  have := List.mem_range.mp hi
  omega
structure BookAt (C : Cs) (L : Lo) (own : Own) (H : Hp) (b : Addr) (s : State) : Prop where
  good : Good H
  ok : SOk s
  bk : ∃ dx, H b = some (.ins C.b dx (fB (.ref L.fd) (.ref L.cd) (.ref L.sd)))
  ob : own b = 7
  fdic : H L.fd = some (.dK (T six fun i => .ref (L.fa i)))
  ofd : own L.fd = 7
  cdic : H L.cd = some (.dK (T twenty fun i => .int (cashAt s i)))
  ocd : own L.cd = 8
  sdic : H L.sd = some (.dK (T (s.schemes.map fun z => z.num) fun i => .ref (L.za i)))
  osd : own L.sd = 9
  fund : ∀ f, 1 ≤ f → f ≤ 6 → FundAt C own H f (L.fa f) (fundAt s f)
  sch : ∀ z ∈ s.schemes, SchAt C own H (9 + z.num) (L.za z.num) z
def Out (own : Own) (H : Hp) (own' : Own) (H' : Hp) : Prop := ∀ b o, H b = some o → own b = 0 → H' b = some o ∧ own' b = 0
theorem Out.refl {own : Own} {H : Hp} : Out own H own H := fun _ _ e n => ⟨e, n⟩
theorem Out.trans {o1 o2 o3 : Own} {H1 H2 H3 : Hp} (a : Out o1 H1 o2 H2) (b : Out o2 H2 o3 H3) : Out o1 H1 o3 H3 := fun c o e n => by
  obtain ⟨e1, n1⟩ := a c o e n
  exact b c o e1 n1
theorem Frm.out {r : Nat} {own own' : Own} {H H' : Hp} (f : Frm r own H own' H') (h : r ≠ 0) : Out own H own' H' := fun b o e n => by
  obtain ⟨e1, n1⟩ := f b o e (by rw [n]; exact h.symm)
  exact ⟨e1, n1.trans n⟩
theorem Out.lay {own : Own} {H : Hp} {a : Addr} {u : HO} (h : H a = none) : Out own H own (L2.upd H a u) := fun b o e n => ⟨by rw [upd_ne (ne_of_none e h)]; exact e, n⟩
section
variable {C : Cs} {L : Lo} {own own' : Own} {H H' : Hp} {b : Addr} {s : State}
theorem BookAt.out (B : BookAt C L own H b s) {p : Addr} {u : HO} (g : ∀ kvs, u ≠ .dT kvs) (n : own p = 0 ∨ H p = none) : BookAt C L own (L2.upd H p u) b s := by
  have ne : ∀ {c o}, H c = some o → own c ≠ 0 → L2.upd H p u c = some o := fun {c o} e oc => by
    have : c ≠ p := by
      rcases n with n | n
      · exact fun z => oc (by rw [z]; exact n)
      · exact ne_of_none e n
    rw [upd_ne this]
    exact e
  obtain ⟨dx, hb⟩ := B.bk
  have n7 : ∀ {c k : Nat}, own c = k → k ≠ 0 → own c ≠ 0 := fun e hk => by rw [e]; exact hk
  refine ⟨B.good.upd g, B.ok, ⟨dx, ne hb (n7 B.ob (by decide))⟩, B.ob, ne B.fdic (n7 B.ofd (by decide)), B.ofd, ne B.cdic (n7 B.ocd (by decide)), B.ocd, ne B.sdic (n7 B.osd (by decide)), B.osd, fun f h1 h2 => ?_, fun z hz => ?_⟩
  · exact (B.fund f h1 h2).keep (B.good.upd g) fun c o e oc => ⟨ne e (n7 oc (by omega)), oc⟩
  · exact (B.sch z hz).keep (B.good.upd g) fun c o e oc => ⟨ne e (n7 oc (by omega)), oc⟩
theorem BookAt.setFund (B : BookAt C L own H b s) {f : Nat} {x : Fund} (hf : 1 ≤ f ∧ f ≤ 6) (hx : FOk x) (F : FundAt C own' H' f (L.fa f) x) (fr : Frm f own H own' H') : BookAt C L own' H' b (Vbfual.setFund s f x) := by
  obtain ⟨dx, hb⟩ := B.bk
  have k : ∀ {c o n}, H c = some o → own c = n → n ≠ f → H' c = some o ∧ own' c = n := fun {c o n} e oc hn => by
    obtain ⟨e1, n1⟩ := fr c o e (by rw [oc]; exact hn)
    exact ⟨e1, n1.trans oc⟩
  refine ⟨F.good, B.ok.setFund hf hx, ⟨dx, (k hb B.ob (by omega)).1⟩, (k hb B.ob (by omega)).2, (k B.fdic B.ofd (by omega)).1, (k B.fdic B.ofd (by omega)).2, (k B.cdic B.ocd (by omega)).1, (k B.cdic B.ocd (by omega)).2,
    (k B.sdic B.osd (by omega)).1, (k B.sdic B.osd (by omega)).2, fun g h1 h2 => ?_, fun z hz => ?_⟩
  · rw [fundAt_set B.ok.nf x hf h1]
    split
    · next e => rw [e]; exact F
    · next e => exact (B.fund g h1 h2).frame F.good fr e
  · exact (B.sch z hz).frame F.good fr (by omega)
theorem pays_keep (s : State) (h : Nat) (m : Int) : (Vbfual.pays s h m).funds = s.funds ∧ (Vbfual.pays s h m).schemes = s.schemes := ⟨rfl, rfl⟩
theorem BookAt.pays (B : BookAt C L own H b s) {h : Nat} {m : Int} (hh : 1 ≤ h ∧ h ≤ 20) : BookAt C L own (L2.upd H L.cd (.dK (putK (T twenty fun i => .int (cashAt s i)) (Sum.inl (h : Int)) (.int (cashAt s h + m))))) b (Vbfual.pays s h m) := by
  obtain ⟨dx, hb⟩ := B.bk
  have g := B.good.upd (a := L.cd) (o := .dK (putK (T twenty fun i => .int (cashAt s i)) (Sum.inl (h : Int)) (.int (cashAt s h + m)))) (by intro _ z; cases z)
  have ne : ∀ {c o n}, H c = some o → own c = n → n ≠ 8 → L2.upd H L.cd (.dK (putK (T twenty fun i => .int (cashAt s i)) (Sum.inl (h : Int)) (.int (cashAt s h + m)))) c = some o := fun {c o n} e oc hn => by
    rw [upd_ne fun z => hn (by rw [← oc, z]; exact B.ocd)]
    exact e
  refine ⟨g, B.ok.pays h m, ⟨dx, ne hb B.ob (by decide)⟩, B.ob, ne B.fdic B.ofd (by decide), B.ofd, ?_, B.ocd, ne B.sdic B.osd (by decide), B.osd, fun f h1 h2 => ?_, fun z hz => ?_⟩
  · rw [upd_same, T_put (mem_twenty hh)]
    refine congrArg (fun q => some (HO.dK q)) (T_congr fun i hi => ?_)
    rw [cashAt_pays B.ok.nc m hh (of_twenty hi).1]
    split <;> rfl
  · exact (B.fund f h1 h2).keep g fun c o e oc => ⟨ne e oc (by omega), oc⟩
  · exact (B.sch z hz).keep g fun c o e oc => ⟨ne e oc (by omega), oc⟩
theorem BookAt.setScheme (B : BookAt C L own H b s) {z z' : Scheme} (hz : z ∈ s.schemes) (e : z'.num = z.num) (ho : ZOk z') (Z : SchAt C own' H' (9 + z.num) (L.za z.num) z') (fr : Frm (9 + z.num) own H own' H') : BookAt C L own' H' b (Vbfual.setScheme s z') := by
  obtain ⟨dx, hb⟩ := B.bk
  have hnum : 1 ≤ z.num := by
    obtain ⟨i, hi, ei⟩ := List.mem_iff_getElem.mp hz
    have := B.ok.nums i z (by rw [List.getElem?_eq_getElem hi, ei])
    omega
  have k : ∀ {c o n}, H c = some o → own c = n → n ≠ 9 + z.num → H' c = some o ∧ own' c = n := fun {c o n} e oc hn => by
    obtain ⟨e1, n1⟩ := fr c o e (by rw [oc]; exact hn)
    exact ⟨e1, n1.trans oc⟩
  refine ⟨Z.good, B.ok.setScheme ho, ⟨dx, (k hb B.ob (by omega)).1⟩, (k hb B.ob (by omega)).2, (k B.fdic B.ofd (by omega)).1, (k B.fdic B.ofd (by omega)).2, (k B.cdic B.ocd (by omega)).1, (k B.cdic B.ocd (by omega)).2,
    ?_, (k B.sdic B.osd (by omega)).2, fun g h1 h2 => ?_, fun w hw => ?_⟩
  · rw [(k B.sdic B.osd (by omega)).1]
    refine congrArg (fun q => some (HO.dK (T q _))) ?_
    show _ = (s.schemes.map _).map _
    rw [List.map_map]
    refine List.map_congr_left fun w _ => ?_
    show w.num = (if w.num = z'.num then z' else w).num
    split
    · next h => exact h
    · rfl
  · exact (B.fund g h1 h2).frame Z.good fr (by omega)
  · obtain ⟨v, hv, ew⟩ := List.mem_map.mp (show w ∈ s.schemes.map _ from hw)
    split at ew
    · rw [← ew, e]; exact Z
    · next h =>
      rw [← ew]
      exact (B.sch v hv).frame Z.good fr (by rw [e] at h; omega)
end
end R
end
section
set_option Elab.async false
set_option linter.all false
set_option maxRecDepth 100000
namespace R
open PySem PySem.Spec PyProof.Rows L2 M
open Vbfual (Holding Fund Scheme State unitsOf gotIn holdingOf fundAt cashAt more less putHold newUnits restOf voteOf proxyOf)
section
variable {C : Cs} {own own' : Own} {H H' : Hp} {r r' : Nat} {a d dx : Addr} {x : Fund} {E : List (Addr × Holding)}
structure FundIs (C : Cs) (own : Own) (H : Hp) (r : Nat) (a dx d : Addr) (E : List (Addr × Holding)) (x : Fund) : Prop where
  good : Good H
  sf : Sf x.hold
  at_ : H a = some (.ins C.f dx (fF (.int x.value) (.ref d) (.bl x.closing) (.int x.declared)))
  ow : own a = r
  hs : HoldsAt C own H r d E
  pm : (E.map (·.2)).Perm x.hold
theorem FundAt.open_ (F : FundAt C own H r a x) : ∃ dx d E, FundIs C own H r a dx d E x := by
  obtain ⟨dx, d, E, h1, h2, h3, h4⟩ := F.ex
  exact ⟨dx, d, E, F.good, F.sf, h1, h2, h3, h4⟩
theorem FundIs.close (F : FundIs C own H r a dx d E x) : FundAt C own H r a x := ⟨F.good, F.sf, dx, d, E, F.at_, F.ow, F.hs, F.pm⟩
theorem fF_ne_fH {v0 v1 v2 v3 u0 u1 u2 : V} {C1 C2 d1 d2 : Addr} : HO.ins C1 d1 (fF v0 v1 v2 v3) ≠ HO.ins C2 d2 (fH u0 u1 u2) := by
  intro z
  injection z with _ _ z
  have := congrArg List.length z
  rw [fF_len, fH_len] at this
  cases this
theorem FundIs.ne_d (F : FundIs C own H r a dx d E x) : a ≠ d := ne_of F.at_ F.hs.dic (by intro z; cases z)
theorem FundIs.ne_p (F : FundIs C own H r a dx d E x) {p : Addr × Holding} (hp : p ∈ E) : a ≠ p.1 := by
  obtain ⟨dx', e⟩ := (F.hs.each p hp).at_
  exact ne_of F.at_ e fF_ne_fH
theorem FundIs.write (F : FundIs C own H r a dx d E x) {vi di : Int} {v dn : Nat} {c : Bool} (hv : vi = (v : Int)) (hd : di = (dn : Int)) :
    FundIs C own (L2.upd H a (.ins C.f dx (fF (.int vi) (.ref d) (.bl c) (.int di)))) r a dx d E { x with value := v, closing := c, declared := dn } where
  good := F.good.upd (by intro _ z; cases z)
  sf := F.sf
  at_ := by rw [upd_same, hv, hd]
  ow := F.ow
  hs := {
    dic := by rw [upd_ne F.ne_d.symm]; exact F.hs.dic
    od := F.hs.od
    each := fun p hp => by
      obtain ⟨dx', e⟩ := (F.hs.each p hp).at_
      exact ⟨⟨dx', by rw [upd_ne (F.ne_p hp).symm]; exact e⟩, (F.hs.each p hp).ow⟩
    nd := F.hs.nd }
  pm := F.pm
theorem FundIs.setH (F : FundIs C own H r a dx d E x) {p : Addr × Holding} (hp : p ∈ E) {y : Holding} {ui ci gi : Int} {dp : Addr} (e : y.holder = p.2.holder) (hu : ui = (y.units : Int)) (hc : ci = (y.cost : Int)) (hg : gi = (y.got : Int)) :
    Good (L2.upd H p.1 (.ins C.h dp (fH (.int ui) (.int ci) (.int gi)))) ∧ L2.upd H p.1 (.ins C.h dp (fH (.int ui) (.int ci) (.int gi))) a = some (.ins C.f dx (fF (.int x.value) (.ref d) (.bl x.closing) (.int x.declared))) ∧
    HoldsAt C own (L2.upd H p.1 (.ins C.h dp (fH (.int ui) (.int ci) (.int gi)))) r d (setE E p.1 y) := by
  subst hu hc hg
  refine ⟨F.good.upd (by intro _ z; cases z), ?_, F.hs.set hp e⟩
  rw [upd_ne (F.ne_p hp)]
  exact F.at_
theorem FundIs.put (F : FundIs C own H r a dx d E x) {p : Addr × Holding} (hp : p ∈ E) {y : Holding} {ui ci gi : Int} {dp : Addr} (e : y.holder = p.2.holder) (hn : y.units ≠ 0) (hu : ui = (y.units : Int)) (hc : ci = (y.cost : Int)) (hg : gi = (y.got : Int)) :
    FundIs C own (L2.upd H p.1 (.ins C.h dp (fH (.int ui) (.int ci) (.int gi)))) r a dx d (setE E p.1 y) { x with hold := putHold y x.hold } := by
  obtain ⟨h1, h2, h3⟩ := F.setH (dp := dp) hp e hu hc hg
  have hr := F.sf.rng p.2 (mem_hold F.pm hp)
  exact ⟨h1, F.sf.put (by rw [e]; exact hr), h2, F.ow, h3, put_perm F.sf F.pm hn (setE_perm hp F.hs.nd (nd_holders F.sf F.pm) e)⟩
theorem FundIs.new (F : FundIs C own H r a dx d E x) {q dq : Addr} {y : Holding} (hn : ∀ z ∈ x.hold, z.holder ≠ y.holder) (hr : 1 ≤ y.holder ∧ y.holder ≤ 20) (hu : y.units ≠ 0)
    (G : Good H') (k : ∀ b o, H b = some o → b ≠ d → H' b = some o) (hd : H' d = some (.dK (E.map kv ++ [(Sum.inl (y.holder : Int), V.ref q)]))) (hq : H q = none)
    (hy : H' q = some (.ins C.h dq (fH (.int y.units) (.int y.cost) (.int y.got)))) : FundIs C (give own q r) H' r a dx d (E ++ [(q, y)]) { x with hold := putHold y x.hold } := by
  have nE : ∀ p ∈ E, p.2.holder ≠ y.holder := fun p hp => hn p.2 (mem_hold F.pm hp)
  have gv : ∀ {b o}, H b = some o → give own q r b = own b := fun {b o} e => give_ne (ne_of_none e hq)
  refine ⟨G, F.sf.put hr, k _ _ F.at_ F.ne_d, by rw [gv F.at_]; exact F.ow, ⟨by rw [hd, snoc_kv]; rfl, by rw [gv F.hs.dic]; exact F.hs.od, fun p hp => ?_, ?_⟩, ?_⟩
  · rcases List.mem_append.mp hp with hp | hp
    · obtain ⟨dx', e⟩ := (F.hs.each p hp).at_
      exact ⟨⟨dx', k _ _ e (ne_of e F.hs.dic (by intro z; cases z))⟩, by rw [gv e]; exact (F.hs.each p hp).ow⟩
    · rw [List.mem_singleton.mp hp]
      exact ⟨⟨dq, hy⟩, give_same⟩
  · rw [List.map_append, List.nodup_append]
    refine ⟨F.hs.nd, by simp, fun u hu' v hv => ?_⟩
    obtain ⟨p, hp, rfl⟩ := List.mem_map.mp hu'
    have : v = q := by simpa using hv
    obtain ⟨dx', e⟩ := (F.hs.each p hp).at_
    rw [this]
    exact ne_of_none e hq
  · refine put_perm F.sf F.pm hu ?_
    rw [filter_out (fun z hz => by
      obtain ⟨p, hp, rfl⟩ := List.mem_map.mp hz
      exact nE p hp), List.map_append]
    exact List.perm_append_comm (l₂ := [y])
theorem FundIs.drop (F : FundIs C own H r a dx d E x) {h : Nat} {y : Holding} (e : y.holder = h) (hu : y.units = 0) (hr : 1 ≤ h ∧ h ≤ 20) :
    FundIs C own (L2.upd H d (.dK (dropK (E.map kv) (Sum.inl (h : Int))))) r a dx d (E.filter fun p => decide (p.2.holder ≠ h)) { x with hold := putHold y x.hold } where
  good := F.good.upd (by intro _ z; cases z)
  sf := F.sf.put (by rw [e]; exact hr)
  at_ := by rw [upd_ne F.ne_d]; exact F.at_
  ow := F.ow
  hs := {
    dic := by rw [upd_same, dropK_kv]
    od := F.hs.od
    each := fun p hp => by
      have hp := (List.mem_filter.mp hp).1
      obtain ⟨dx', q⟩ := (F.hs.each p hp).at_
      exact ⟨⟨dx', by rw [upd_ne (ne_of q F.hs.dic (by intro z; cases z))]; exact q⟩, (F.hs.each p hp).ow⟩
    nd := F.hs.nd.sublist (List.Sublist.map _ List.filter_sublist) }
  pm := drop_perm F.sf F.pm hu (by rw [drop_snd, e])
theorem FundIs.get (F : FundIs C own H r a dx d E x) {y : Holding} (hy : y ∈ x.hold) : ∃ p ∈ E, p.2 = y ∧ valV (E.map kv) (Sum.inl (y.holder : Int)) = some (.ref p.1) := by
  obtain ⟨p, hp, rfl⟩ := mem_E F.pm hy
  exact ⟨p, hp, rfl, val_in (nd_holders F.sf F.pm) hp⟩
theorem FundIs.none_ (F : FundIs C own H r a dx d E x) {h : Nat} (hn : ∀ z ∈ x.hold, z.holder ≠ h) : valV (E.map kv) (Sum.inl (h : Int)) = none := val_out fun p hp => hn p.2 (mem_hold F.pm hp)
theorem FundIs.units (F : FundIs C own H r a dx d E x) : (E.map fun p => (p.2.units : Int)).sum = (unitsOf x : Int) := by
  have e : (E.map fun p => (p.2.units : Int)) = (E.map (·.2)).map fun y => (y.units : Int) := by rw [List.map_map]; rfl
  rw [e, isum_perm (F.pm.map _), isum_cast]
  rfl
theorem FundIs.gots (F : FundIs C own H r a dx d E x) : (E.map fun p => (p.2.got : Int)).sum = (gotIn x : Int) := by
  have e : (E.map fun p => (p.2.got : Int)) = (E.map (·.2)).map fun y => (y.got : Int) := by rw [List.map_map]; rfl
  rw [e, isum_perm (F.pm.map _), isum_cast]
  rfl
theorem FundIs.len (F : FundIs C own H r a dx d E x) : E.length ≤ 20 := len_E F.sf F.pm
theorem FundIs.keys (F : FundIs C own H r a dx d E x) : (E.map kv).map (·.1) = (E.map fun p => (p.2.holder : Int)).map Sum.inl := by rw [List.map_map, List.map_map]; rfl
theorem FundIs.sorted (F : FundIs C own H r a dx d E x) {ns : List Int} (hp : ns.Perm (E.map fun p => (p.2.holder : Int))) (hs : ns.Pairwise (· ≤ ·)) : ns = x.hold.map fun y => (y.holder : Int) := by
  refine sorted_same (hp.trans ?_) hs F.sf.srt.ints
  have e : (E.map fun p => (p.2.holder : Int)) = (E.map (·.2)).map fun y => (y.holder : Int) := by rw [List.map_map]; rfl
  rw [e]
  exact F.pm.map _
end
end R
end
section
set_option Elab.async false
set_option linter.all false
set_option maxRecDepth 100000
namespace R
open PySem PySem.Spec PyProof.Rows L2 M
open Vbfual (Holding Fund Scheme State unitsOf gotIn holdingOf fundAt cashAt more less putHold newUnits restOf voteOf proxyOf)
theorem vv_eq (p : Nat × Bool) : vv p = (Sum.inl (p.1 : Int), V.int (if p.2 then 1 else 0)) := rfl
theorem pp_eq (p : Nat × Nat) : pp p = (Sum.inl (p.1 : Int), V.int p.2) := rfl
structure SchIs (C : Cs) (own : Own) (H : Hp) (r : Nat) (a dx vd pd : Addr) (kvs kps : List (Key × V)) (z : Scheme) : Prop where
  good : Good H
  at_ : H a = some (.ins C.s dx (fS (.int z.kind) (.int z.a) (.int z.b) (.int z.part) (.int z.quorum) (.int z.need) (.ref vd) (.ref pd) (.int z.status)))
  ow : own a = r
  vat : H vd = some (.dK kvs)
  vow : own vd = r
  pat : H pd = some (.dK kps)
  pow : own pd = r
  ne : vd ≠ pd
  vp : kvs.Perm (z.votes.map vv)
  pp : kps.Perm (z.proxies.map R.pp)
section
variable {C : Cs} {own own' : Own} {H H' : Hp} {r r' : Nat} {a dx vd pd : Addr} {z : Scheme} {kvs kps : List (Key × V)}
theorem SchAt.open_ (Z : SchAt C own H r a z) : ∃ dx vd pd kvs kps, SchIs C own H r a dx vd pd kvs kps z := by
  obtain ⟨dx, vd, pd, kvs, kps, h1, h2, h3, h4, h5, h6, h7, h8, h9⟩ := Z.ex
  exact ⟨dx, vd, pd, kvs, kps, Z.good, h1, h2, h3, h4, h5, h6, h7, h8, h9⟩
theorem SchIs.close (Z : SchIs C own H r a dx vd pd kvs kps z) : SchAt C own H r a z := ⟨Z.good, dx, vd, pd, kvs, kps, Z.at_, Z.ow, Z.vat, Z.vow, Z.pat, Z.pow, Z.ne, Z.vp, Z.pp⟩
theorem SchIs.vote_ (Z : SchIs C own H r a dx vd pd kvs kps z) (hz : ZOk z) (h : Nat) : valV kvs (Sum.inl (h : Int)) = (voteOf z h).map fun b => V.int (if b then 1 else 0) := by
  rw [val_perm Z.vp (((Z.vp.map (·.1)).nodup_iff).mpr (enc_nd vv (fun b : Bool => V.int (if b then 1 else 0)) vv_eq hz.vn))]
  exact enc_val vv (fun b : Bool => V.int (if b then 1 else 0)) vv_eq z.votes h
theorem SchIs.proxy_ (Z : SchIs C own H r a dx vd pd kvs kps z) (hz : ZOk z) (h : Nat) : valV kps (Sum.inl (h : Int)) = (proxyOf z h).map fun (g : Nat) => V.int (g : Int) := by
  rw [val_perm Z.pp (((Z.pp.map (·.1)).nodup_iff).mpr (enc_nd R.pp (fun n : Nat => V.int (n : Int)) pp_eq hz.pn))]
  exact enc_val R.pp (fun n : Nat => V.int (n : Int)) pp_eq z.proxies h
theorem SchIs.ne_v (Z : SchIs C own H r a dx vd pd kvs kps z) : a ≠ vd := ne_of Z.at_ Z.vat (by intro z; cases z)
theorem SchIs.ne_p (Z : SchIs C own H r a dx vd pd kvs kps z) : a ≠ pd := ne_of Z.at_ Z.pat (by intro z; cases z)
theorem SchIs.vote (Z : SchIs C own H r a dx vd pd kvs kps z) (hz : ZOk z) (h : Nat) (b : Bool) :
    SchAt C own (L2.upd H vd (.dK (putK kvs (Sum.inl (h : Int)) (.int (if b then 1 else 0))))) r a { z with votes := (z.votes.filter fun v => v.1 != h) ++ [(h, b)] } :=
  SchIs.close (dx := dx) (vd := vd) (pd := pd) (kvs := putK kvs (Sum.inl (h : Int)) (.int (if b then 1 else 0))) (kps := kps) ⟨Z.good.upd (by intro _ z; cases z), by rw [upd_ne Z.ne_v]; exact Z.at_, Z.ow, upd_same, Z.vow, by rw [upd_ne Z.ne.symm]; exact Z.pat, Z.pow, Z.ne,
    enc_put vv (fun b : Bool => V.int (if b then 1 else 0)) vv_eq Z.vp hz.vn h b, Z.pp⟩
theorem SchIs.proxy (Z : SchIs C own H r a dx vd pd kvs kps z) (hz : ZOk z) (h g : Nat) :
    SchAt C own (L2.upd H pd (.dK (putK kps (Sum.inl (h : Int)) (.int (g : Int))))) r a { z with proxies := (z.proxies.filter fun v => v.1 != h) ++ [(h, g)] } :=
  SchIs.close (dx := dx) (vd := vd) (pd := pd) (kvs := kvs) (kps := putK kps (Sum.inl (h : Int)) (.int (g : Int))) ⟨Z.good.upd (by intro _ z; cases z), by rw [upd_ne Z.ne_p]; exact Z.at_, Z.ow, by rw [upd_ne Z.ne]; exact Z.vat, Z.vow, upd_same, Z.pow, Z.ne,
    Z.vp, enc_put R.pp (fun n : Nat => V.int (n : Int)) pp_eq Z.pp hz.pn h g⟩
theorem SchIs.state (Z : SchIs C own H r a dx vd pd kvs kps z) {st : Int} {n : Nat} (e : st = (n : Int)) :
    SchAt C own (L2.upd H a (.ins C.s dx (fS (.int z.kind) (.int z.a) (.int z.b) (.int z.part) (.int z.quorum) (.int z.need) (.ref vd) (.ref pd) (.int st)))) r a { z with status := n } :=
  SchIs.close (dx := dx) (vd := vd) (pd := pd) (kvs := kvs) (kps := kps) ⟨Z.good.upd (by intro _ z; cases z), by rw [upd_same, e], Z.ow, by rw [upd_ne Z.ne_v.symm]; exact Z.vat, Z.vow, by rw [upd_ne Z.ne_p.symm]; exact Z.pat, Z.pow, Z.ne, Z.vp, Z.pp⟩
theorem SchIs.vlen (Z : SchIs C own H r a dx vd pd kvs kps z) : kvs.length = z.votes.length := by rw [Z.vp.length_eq, List.length_map]
theorem SchIs.plen (Z : SchIs C own H r a dx vd pd kvs kps z) : kps.length = z.proxies.length := by rw [Z.pp.length_eq, List.length_map]
theorem nodup20 {α : Type} {l : List (Nat × α)} (h : (l.map fun v => v.1).Nodup) (hr : ∀ p ∈ l, 1 ≤ p.1 ∧ p.1 ≤ 20) : l.length ≤ 21 := by
  have := nodup_le 21 (l.map fun v => v.1) h fun y hy => by
    obtain ⟨p, hp, rfl⟩ := List.mem_map.mp hy
    have := hr p hp
    omega
  rwa [List.length_map] at this
end
section
variable {C : Cs} {L : Lo} {own own' : Own} {H H' : Hp} {b : Addr} {s : State}
theorem BookAt.num (B : BookAt C L own H b s) {z : Scheme} (hz : z ∈ s.schemes) : 1 ≤ z.num ∧ z.num ≤ s.schemes.length := by
  obtain ⟨i, hi, e⟩ := List.mem_iff_getElem.mp hz
  have := B.ok.nums i z (by rw [List.getElem?_eq_getElem hi, e])
  omega
theorem BookAt.nums (B : BookAt C L own H b s) : s.schemes.map (fun z => z.num) = (List.range s.schemes.length).map (· + 1) := by
  refine List.ext_getElem? fun i => ?_
  rw [List.getElem?_map, List.getElem?_map]
  by_cases hi : i < s.schemes.length
  · rw [List.getElem?_eq_getElem hi, List.getElem?_range hi]
    exact congrArg some (B.ok.nums i _ (List.getElem?_eq_getElem hi))
  · rw [List.getElem?_eq_none (by omega), List.getElem?_eq_none (by rw [List.length_range]; omega)]
    rfl
theorem BookAt.find (B : BookAt C L own H b s) (n : Int) :
    (∃ z ∈ s.schemes, (z.num : Int) = n ∧ s.schemes.find? (fun x => (x.num : Int) == n) = some z ∧ valV (T (s.schemes.map fun z => z.num) fun i => .ref (L.za i)) (Sum.inl n) = some (.ref (L.za z.num))) ∨
    (s.schemes.find? (fun x => (x.num : Int) == n) = none ∧ valV (T (s.schemes.map fun z => z.num) fun i => .ref (L.za i)) (Sum.inl n) = none) := by
  cases e : s.schemes.find? (fun x => (x.num : Int) == n) with
  | none =>
    refine .inr ⟨rfl, T_none fun i hi => ?_⟩
    obtain ⟨z, hz, rfl⟩ := List.mem_map.mp hi
    have := List.find?_eq_none.mp e z hz
    simpa using this
  | some z =>
    obtain ⟨h1, h2⟩ := find_num B.ok e
    refine .inl ⟨z, h1, h2, rfl, ?_⟩
    rw [← h2]
    exact T_val (List.mem_map.mpr ⟨z, h1, rfl⟩)
theorem BookAt.fundGet (B : BookAt C L own H b s) {f : Nat} (hf : 1 ≤ f ∧ f ≤ 6) : valV (T six fun i => .ref (L.fa i)) (Sum.inl (f : Int)) = some (.ref (L.fa f)) := T_val (mem_six hf)
theorem BookAt.addScheme (B : BookAt C L own H b s) {z : Scheme} {a : Addr} (hn : z.num = s.next) (hok : SOk { s with next := s.next + 1, schemes := s.schemes ++ [z] })
    (k : ∀ c o, H c = some o → own c ≠ 9 → own c ≠ 9 + z.num → H' c = some o ∧ own' c = own c) (G : Good H')
    (hs : H' L.sd = some (.dK (putK (T (s.schemes.map fun z => z.num) fun i => .ref (L.za i)) (Sum.inl (z.num : Int)) (.ref a)))) (os : own' L.sd = 9) (Z : SchAt C own' H' (9 + z.num) a z) :
    BookAt C { L with za := fun i => if i = z.num then a else L.za i } own' H' b { s with next := s.next + 1, schemes := s.schemes ++ [z] } := by
  obtain ⟨dx, hb⟩ := B.bk
  have hnum : z.num = s.schemes.length + 1 := hn.trans B.ok.next
  have k' : ∀ {c o n}, H c = some o → own c = n → n ≠ 9 → n ≠ 9 + z.num → H' c = some o ∧ own' c = n := fun {c o n} e oc h1 h2 => by
    obtain ⟨e1, n1⟩ := k c o e (by rw [oc]; exact h1) (by rw [oc]; exact h2)
    exact ⟨e1, n1.trans oc⟩
  refine ⟨G, hok, ⟨dx, (k' hb B.ob (by decide) (by omega)).1⟩, (k' hb B.ob (by decide) (by omega)).2, (k' B.fdic B.ofd (by decide) (by omega)).1, (k' B.fdic B.ofd (by decide) (by omega)).2, (k' B.cdic B.ocd (by decide) (by omega)).1, (k' B.cdic B.ocd (by decide) (by omega)).2,
    ?_, os, fun f h1 h2 => ?_, fun w hw => ?_⟩
  · show H' L.sd = some (.dK (T ((s.schemes ++ [z]).map fun z => z.num) fun i => .ref (if i = z.num then a else L.za i)))
    rw [hs, T_snoc (fun hm => by
      obtain ⟨w, hw, e⟩ := List.mem_map.mp hm
      have := B.num hw
      omega), List.map_append]
    refine congrArg (fun q => some (HO.dK q)) (T_congr fun i _ => ?_)
    split <;> rfl
  · exact (B.fund f h1 h2).keep G fun c o e oc => k' e oc (by omega) (by omega)
  · show SchAt C own' H' (9 + w.num) (if w.num = z.num then a else L.za w.num) w
    rcases List.mem_append.mp hw with hw | hw
    · have := B.num hw
      rw [if_neg (by omega)]
      exact (B.sch w hw).keep G fun c o e oc => k' e oc (by omega) (by omega)
    · rw [List.mem_singleton.mp hw, if_pos rfl]
      exact Z
end
end R
end
section
set_option Elab.async false
set_option linter.all false
set_option maxRecDepth 100000
set_option maxHeartbeats 2000000
namespace R
open PySem PySem.Spec PyProof.Rows L2 M
open Vbfual (Holding Fund Scheme State unitsOf gotIn holdingOf fundAt cashAt more less putHold newUnits restOf voteOf proxyOf)
theorem z0 : ((0 : Nat) = 0) = True := eq_self 0
local macro_rules | `(tactic| walk_at "sc") => `(tactic| exact ⟨rfl, rfl, rfl, by decide +kernel, rfl, by decide +kernel, by decide +kernel⟩)
def top (i : Nat) : Stmt := PySem.Challenge.pw_fundsjoined_s01_answers.main.body.getD i (.Pass ⟨0, 0, 0, 0⟩)
structure Txt (K : PySem.W.Frag) (mg : Str → Option Value) (C : Cs) : Prop where
  c_FUNDS : ∃ t, mg "FUNDS" = some (.int 6 t)
  c_HOLDERS_limits : ∃ t, mg "HOLDERS_limits" = some (.int 20 t)
  c_MOST_SCHEMES : ∃ t, mg "MOST_SCHEMES" = some (.int 20 t)
  c_HIGHEST_SCHEME_NUMBER : ∃ t, mg "HIGHEST_SCHEME_NUMBER" = some (.int 1000000 t)
  c_MOST_VALUE : ∃ t, mg "MOST_VALUE" = some (.int 1000000000000 t)
  c_MOST_UNITS : ∃ t, mg "MOST_UNITS" = some (.int 1000000000000000000 t)
  c_MOST_BOUGHT_AT_ONCE : ∃ t, mg "MOST_BOUGHT_AT_ONCE" = some (.int 1000000000 t)
  c_MILLION : ∃ t, mg "MILLION" = some (.int 1000000 t)
  c_OUT_OF_RANGE : ∃ t, mg "OUT_OF_RANGE" = some (.int (-1) t)
  c_NOT_THERE : ∃ t, mg "NOT_THERE" = some (.int (-4) t)
  c_WRONG_STATE : ∃ t, mg "WRONG_STATE" = some (.int (-5) t)
  c_NOT_ALLOWED : ∃ t, mg "NOT_ALLOWED" = some (.int (-6) t)
  c_WRONG_AMOUNT : ∃ t, mg "WRONG_AMOUNT" = some (.int (-7) t)
  c_NO_ROOM : ∃ t, mg "NO_ROOM" = some (.int (-8) t)
  c_NOTHING_TO_RECKON_BY : ∃ t, mg "NOTHING_TO_RECKON_BY" = some (.int (-9) t)
  c_JOIN : ∃ t, mg "JOIN" = some (.int 1 t)
  c_DIVIDE : ∃ t, mg "DIVIDE" = some (.int 2 t)
  c_CLOSE : ∃ t, mg "CLOSE" = some (.int 3 t)
  c_STATE_OPEN : ∃ t, mg "STATE_OPEN" = some (.int 0 t)
  c_STATE_PASSED : ∃ t, mg "STATE_PASSED" = some (.int 1 t)
  c_STATE_FAILED : ∃ t, mg "STATE_FAILED" = some (.int 2 t)
  c_STATE_DONE : ∃ t, mg "STATE_DONE" = some (.int 3 t)
  clH : Cls K C.h
  nH_units : NoAttr K C.h "units"
  nH_cost : NoAttr K C.h "cost"
  nH_paid : NoAttr K C.h "paid"
  clF : Cls K C.f
  nF_value : NoAttr K C.f "value"
  nF_holdings : NoAttr K C.f "holdings"
  nF_closing : NoAttr K C.f "closing"
  nF_declared : NoAttr K C.f "declared"
  clS : Cls K C.s
  nS_kind : NoAttr K C.s "kind"
  nS_fund_number : NoAttr K C.s "fund_number"
  nS_other_number : NoAttr K C.s "other_number"
  nS_part : NoAttr K C.s "part"
  nS_quorum : NoAttr K C.s "quorum"
  nS_need : NoAttr K C.s "need"
  nS_votes : NoAttr K C.s "votes"
  nS_proxies : NoAttr K C.s "proxies"
  nS_state : NoAttr K C.s "state"
  clB : Cls K C.b
  nB_funds : NoAttr K C.b "funds"
  nB_cash : NoAttr K C.b "cash"
  nB_schemes : NoAttr K C.b "schemes"
  c_BEGIN : ∃ t, mg "BEGIN" = some (.int 0 t)
  c_BUY : ∃ t, mg "BUY" = some (.int 1 t)
  c_SELL : ∃ t, mg "SELL" = some (.int 2 t)
  c_TRANSFER : ∃ t, mg "TRANSFER" = some (.int 3 t)
  c_RESULT : ∃ t, mg "RESULT" = some (.int 4 t)
  c_PROPOSE : ∃ t, mg "PROPOSE" = some (.int 5 t)
  c_VOTE : ∃ t, mg "VOTE" = some (.int 6 t)
  c_PROXY : ∃ t, mg "PROXY" = some (.int 7 t)
  c_COUNT : ∃ t, mg "COUNT" = some (.int 8 t)
  c_EFFECT : ∃ t, mg "EFFECT" = some (.int 9 t)
  c_PAY : ∃ t, mg "PAY" = some (.int 10 t)
  c_LAST : ∃ t, mg "LAST" = some (.int 11 t)
  c_FUND : ∃ t, mg "FUND" = some (.int 12 t)
  c_HOLDING : ∃ t, mg "HOLDING" = some (.int 13 t)
  c_CASH : ∃ t, mg "CASH" = some (.int 14 t)
  c_HOLDERS_schemes : ∃ t, mg "HOLDERS_schemes" = some (.int 15 t)
  c_SCHEME : ∃ t, mg "SCHEME" = some (.int 16 t)
  c_TALLY : ∃ t, mg "TALLY" = some (.int 17 t)
  c_SPEAKER : ∃ t, mg "SPEAKER" = some (.int 18 t)
  d_HOW_MANY_NUMBERS : ∃ a, mg "HOW_MANY_NUMBERS" = some (.ref a) ∧ GD K a [(0, 0), (1, 3), (2, 3), (3, 4), (4, 2), (5, 6), (6, 3), (7, 3), (8, 1), (9, 1), (10, 2), (11, 1), (12, 1), (13, 2), (14, 1), (15, 1), (16, 1), (17, 1), (18, 2), (19, 3)]
  b_len : mg "len" = none
  b_sum : mg "sum" = none
  b_max : mg "max" = none
  b_sorted : mg "sorted" = none
  b_range : mg "range" = none
  b_list : mg "list" = none
theorem cx_K {CX : CXT} {P : Program} {w : World} {K : PySem.W.Frag} {mg : Str → Option Value} {base : Heap} {N : List Str} {qual : Str} {sc : Scope} {f : Addr} {cd : Value} {A : Around} {outer : List Env} {s : Shared} {H : Hp} {E : XK} : (cxOf CX P w K mg base N qual sc f cd A outer s H E).K = K := rfl
theorem lt1000_0 : (0 < 1000) = True := by decide
theorem lt1000_1 : (1 < 1000) = True := by decide
theorem lt1000_2 : (2 < 1000) = True := by decide
theorem lt1000_3 : (3 < 1000) = True := by decide
theorem lt1000_4 : (4 < 1000) = True := by decide
theorem lt1000_9 : (9 < 1000) = True := by decide
theorem fits_1 : (1 ≤ sizeLine) = True := by rw [sizeLine_eq]; decide
theorem fits_2 : (2 ≤ sizeLine) = True := by rw [sizeLine_eq]; decide
theorem fits_3 : (3 ≤ sizeLine) = True := by rw [sizeLine_eq]; decide
theorem fits_4 : (4 ≤ sizeLine) = True := by rw [sizeLine_eq]; decide
theorem fits_6 : (6 ≤ sizeLine) = True := by rw [sizeLine_eq]; decide
theorem putF_len (f : Str) (v : V) : ∀ fs : List (Str × V), (putF f v fs).length ≤ fs.length + 1
  | [] => Nat.le_refl _
  | (g, x) :: r => by
    unfold putF
    split
    · simp
    · rw [List.length_cons, List.length_cons]
      have := putF_len f v r
      omega
theorem pn0 {f0 : Str} {v0 : V} : (putF f0 v0 []).length ≤ 1 := Nat.le_trans (putF_len _ _ _) (Nat.le_refl _)
theorem pl0 {f0 : Str} {v0 : V} : ((putF f0 v0 []).length < 1000) = True := eq_true (Nat.lt_of_le_of_lt pn0 (by decide))
theorem pn1 {f0 f1 : Str} {v0 v1 : V} : (putF f1 v1 (putF f0 v0 [])).length ≤ 2 := Nat.le_trans (putF_len _ _ _) (Nat.add_le_add_right pn0 1)
theorem pl1 {f0 f1 : Str} {v0 v1 : V} : ((putF f1 v1 (putF f0 v0 [])).length < 1000) = True := eq_true (Nat.lt_of_le_of_lt pn1 (by decide))
theorem pn2 {f0 f1 f2 : Str} {v0 v1 v2 : V} : (putF f2 v2 (putF f1 v1 (putF f0 v0 []))).length ≤ 3 := Nat.le_trans (putF_len _ _ _) (Nat.add_le_add_right pn1 1)
theorem pl2 {f0 f1 f2 : Str} {v0 v1 v2 : V} : ((putF f2 v2 (putF f1 v1 (putF f0 v0 []))).length < 1000) = True := eq_true (Nat.lt_of_le_of_lt pn2 (by decide))
theorem pn3 {f0 f1 f2 f3 : Str} {v0 v1 v2 v3 : V} : (putF f3 v3 (putF f2 v2 (putF f1 v1 (putF f0 v0 [])))).length ≤ 4 := Nat.le_trans (putF_len _ _ _) (Nat.add_le_add_right pn2 1)
theorem pl3 {f0 f1 f2 f3 : Str} {v0 v1 v2 v3 : V} : ((putF f3 v3 (putF f2 v2 (putF f1 v1 (putF f0 v0 [])))).length < 1000) = True := eq_true (Nat.lt_of_le_of_lt pn3 (by decide))
theorem pn4 {f0 f1 f2 f3 f4 : Str} {v0 v1 v2 v3 v4 : V} : (putF f4 v4 (putF f3 v3 (putF f2 v2 (putF f1 v1 (putF f0 v0 []))))).length ≤ 5 := Nat.le_trans (putF_len _ _ _) (Nat.add_le_add_right pn3 1)
theorem pl4 {f0 f1 f2 f3 f4 : Str} {v0 v1 v2 v3 v4 : V} : ((putF f4 v4 (putF f3 v3 (putF f2 v2 (putF f1 v1 (putF f0 v0 []))))).length < 1000) = True := eq_true (Nat.lt_of_le_of_lt pn4 (by decide))
theorem pn5 {f0 f1 f2 f3 f4 f5 : Str} {v0 v1 v2 v3 v4 v5 : V} : (putF f5 v5 (putF f4 v4 (putF f3 v3 (putF f2 v2 (putF f1 v1 (putF f0 v0 [])))))).length ≤ 6 := Nat.le_trans (putF_len _ _ _) (Nat.add_le_add_right pn4 1)
theorem pl5 {f0 f1 f2 f3 f4 f5 : Str} {v0 v1 v2 v3 v4 v5 : V} : ((putF f5 v5 (putF f4 v4 (putF f3 v3 (putF f2 v2 (putF f1 v1 (putF f0 v0 [])))))).length < 1000) = True := eq_true (Nat.lt_of_le_of_lt pn5 (by decide))
theorem pn6 {f0 f1 f2 f3 f4 f5 f6 : Str} {v0 v1 v2 v3 v4 v5 v6 : V} : (putF f6 v6 (putF f5 v5 (putF f4 v4 (putF f3 v3 (putF f2 v2 (putF f1 v1 (putF f0 v0 []))))))).length ≤ 7 := Nat.le_trans (putF_len _ _ _) (Nat.add_le_add_right pn5 1)
theorem pl6 {f0 f1 f2 f3 f4 f5 f6 : Str} {v0 v1 v2 v3 v4 v5 v6 : V} : ((putF f6 v6 (putF f5 v5 (putF f4 v4 (putF f3 v3 (putF f2 v2 (putF f1 v1 (putF f0 v0 []))))))).length < 1000) = True := eq_true (Nat.lt_of_le_of_lt pn6 (by decide))
theorem pn7 {f0 f1 f2 f3 f4 f5 f6 f7 : Str} {v0 v1 v2 v3 v4 v5 v6 v7 : V} : (putF f7 v7 (putF f6 v6 (putF f5 v5 (putF f4 v4 (putF f3 v3 (putF f2 v2 (putF f1 v1 (putF f0 v0 [])))))))).length ≤ 8 := Nat.le_trans (putF_len _ _ _) (Nat.add_le_add_right pn6 1)
theorem pl7 {f0 f1 f2 f3 f4 f5 f6 f7 : Str} {v0 v1 v2 v3 v4 v5 v6 v7 : V} : ((putF f7 v7 (putF f6 v6 (putF f5 v5 (putF f4 v4 (putF f3 v3 (putF f2 v2 (putF f1 v1 (putF f0 v0 [])))))))).length < 1000) = True := eq_true (Nat.lt_of_le_of_lt pn7 (by decide))
theorem pn8 {f0 f1 f2 f3 f4 f5 f6 f7 f8 : Str} {v0 v1 v2 v3 v4 v5 v6 v7 v8 : V} : (putF f8 v8 (putF f7 v7 (putF f6 v6 (putF f5 v5 (putF f4 v4 (putF f3 v3 (putF f2 v2 (putF f1 v1 (putF f0 v0 []))))))))).length ≤ 9 := Nat.le_trans (putF_len _ _ _) (Nat.add_le_add_right pn7 1)
theorem pl8 {f0 f1 f2 f3 f4 f5 f6 f7 f8 : Str} {v0 v1 v2 v3 v4 v5 v6 v7 v8 : V} : ((putF f8 v8 (putF f7 v7 (putF f6 v6 (putF f5 v5 (putF f4 v4 (putF f3 v3 (putF f2 v2 (putF f1 v1 (putF f0 v0 []))))))))).length < 1000) = True := eq_true (Nat.lt_of_le_of_lt pn8 (by decide))
def spWithin : Sp := fun vs H Q _ => ∃ n lo hi : Int, vs = [.int n, .int lo, .int hi] ∧ Q (.bl (Vbfual.inside n lo hi)) H
def spB1 (g : Int → Bool) : Sp := fun vs H Q _ => ∃ n : Int, vs = [.int n] ∧ Q (.bl (g n)) H
set_option hygiene false in
local macro_rules | `(tactic| walk_at "rd") => `(tactic| simp only [tSeq, tIfS, tRet, tRetN, tDrop, tNext, tAsg, gName, tAug, ipI, tIf, tAndV, tOrV, tNotV, tAnd, tOr, tNot, tB, tTest, tCmp, t2I, tOp, tUn, rI, rI0, rU, tVar, tC, tOk, tCons, tNil, tFld, sFld, sFldAug, rAdd, rSub, tDGet, tDIn, tDNotIn, sDPut, sDAug, tDPop1, tLst, tTup, tCB, tBM, tMk, tDNewK, rIxL, rIxT, spB1, spWithin, List.cons.injEq, Bool.not_eq_true, Bool.not_eq_false, Bool.not_true, Bool.not_false, Bool.true_eq_false, Bool.false_eq_true, if_true, if_false, L2.start, List.map_cons, List.map_nil, List.length_cons, List.length_nil, Nat.reduceAdd, Nat.reduceSub, Nat.sub_self, List.replicate, List.cons_append, List.nil_append, List.append_nil, List.set_cons_zero, List.set_cons_succ, List.getElem?_cons_zero, List.getElem?_cons_succ, Option.some.injEq, exists_eq_left', exists_eq_left, exists_and_left, exists_const, V.int.injEq, V.bl.injEq, V.ref.injEq, HO.ins.injEq, HO.dK.injEq, decide_eq_true_eq, Bool.not_eq_true', decide_eq_false_iff_not, cx_K, and_assoc, true_and, and_true, upd_same, upd_upd, fH_units, fH_cost, fH_paid, fF_value, fF_holdings, fF_closing, fF_declared, fB_funds, fB_cash, fB_schemes, fS_kind, fS_fund_number, fS_other_number, fS_part, fS_quorum, fS_need, fS_votes, fS_proxies, fS_state,
  fH_put_units, fH_put_cost, fH_put_paid, fF_put_value, fF_put_holdings, fF_put_closing, fF_put_declared, fB_put_funds, fB_put_cash, fB_put_schemes, fS_put_state, fH_len, fF_len, fB_len, fS_len, lt1000_0, lt1000_1, lt1000_2, lt1000_3, lt1000_4, lt1000_9, Nat.reduceLT, fits_1, fits_2, fits_3, fits_4, fits_6, pl0, pl1, pl2, pl3, pl4, pl5, pl6, pl7, pl8, fH_init, fF_init, fB_init, fS_init,
  T.clH, T.clF, T.clS, T.clB, T.nH_units, T.nH_cost, T.nH_paid, T.nF_value, T.nF_holdings, T.nF_closing, T.nF_declared, T.nS_kind, T.nS_fund_number, T.nS_other_number, T.nS_part, T.nS_quorum, T.nS_need, T.nS_votes, T.nS_proxies, T.nS_state, T.nB_funds, T.nB_cash, T.nB_schemes])
set_option hygiene false in
local macro_rules | `(tactic| walk_at "rds") => `(tactic| simp only [tSeq, tIfS, tRet, tRetN, tDrop, tNext, tAsg, gName, tAug, ipI, tIf, tAndV, tOrV, tNotV, tAnd, tOr, tNot, tB, tTest, tCmp, t2I, tOp, tUn, rI, rI0, rU, tVar, tC, tOk, tCons, tNil, tFld, sFld, sFldAug, rAdd, rSub, tDGet, tDIn, tDNotIn, sDPut, sDAug, tDPop1, tLst, tTup, tCB, tBM, tMk, tDNewK, rIxL, rIxT, spB1, spWithin, List.cons.injEq, Bool.not_eq_true, Bool.not_eq_false, Bool.not_true, Bool.not_false, Bool.true_eq_false, Bool.false_eq_true, if_true, if_false, L2.start, List.map_cons, List.map_nil, List.length_cons, List.length_nil, Nat.reduceAdd, Nat.reduceSub, Nat.sub_self, List.replicate, List.cons_append, List.nil_append, List.append_nil, List.set_cons_zero, List.set_cons_succ, List.getElem?_cons_zero, List.getElem?_cons_succ, Option.some.injEq, exists_eq_left', exists_eq_left, exists_and_left, exists_const, V.int.injEq, V.bl.injEq, V.ref.injEq, HO.ins.injEq, HO.dK.injEq, decide_eq_true_eq, Bool.not_eq_true', decide_eq_false_iff_not, cx_K, and_assoc, true_and, and_true, upd_same, upd_upd, fH_units, fH_cost, fH_paid, fF_value, fF_holdings, fF_closing, fF_declared, fB_funds, fB_cash, fB_schemes, fS_kind, fS_fund_number, fS_other_number, fS_part, fS_quorum, fS_need, fS_votes, fS_proxies, fS_state,
  fH_put_units, fH_put_cost, fH_put_paid, fF_put_value, fF_put_holdings, fF_put_closing, fF_put_declared, fB_put_funds, fB_put_cash, fB_put_schemes, fS_put_state, fH_len, fF_len, fB_len, fS_len, lt1000_0, lt1000_1, lt1000_2, lt1000_3, lt1000_4, lt1000_9, Nat.reduceLT, fits_1, fits_2, fits_3, fits_4, fits_6, pl0, pl1, pl2, pl3, pl4, pl5, pl6, pl7, pl8, fH_init, fF_init, fB_init, fS_init,
  T.clH, T.clF, T.clS, T.clB, T.nH_units, T.nH_cost, T.nH_paid, T.nF_value, T.nF_holdings, T.nF_closing, T.nF_declared, T.nS_kind, T.nS_fund_number, T.nS_other_number, T.nS_part, T.nS_quorum, T.nS_need, T.nS_votes, T.nS_proxies, T.nS_state, T.nB_funds, T.nB_cash, T.nB_schemes, *])
set_option hygiene false in
local macro_rules | `(tactic| walk_at "rde") => `(tactic| simp only [tSeq, tIfS, tRet, tRetN, tDrop, tNext, tAsg, gName, tAug, ipI, tIf, tAndV, tOrV, tNotV, tAnd, tOr, tNot, tB, tTest, tCmp, t2I, tOp, tUn, rI, rI0, rU, tVar, tC, tOk, tCons, tNil, tFld, sFld, sFldAug, rAdd, rSub, tDGet, tDIn, tDNotIn, sDPut, sDAug, tDPop1, tLst, tTup, tCB, tBM, tMk, tDNewK, rIxL, rIxT, spB1, spWithin, List.cons.injEq, Bool.not_eq_true, Bool.not_eq_false, Bool.not_true, Bool.not_false, Bool.true_eq_false, Bool.false_eq_true, if_true, if_false, L2.start, List.map_cons, List.map_nil, List.length_cons, List.length_nil, Nat.reduceAdd, Nat.reduceSub, Nat.sub_self, List.replicate, List.cons_append, List.nil_append, List.append_nil, List.set_cons_zero, List.set_cons_succ, List.getElem?_cons_zero, List.getElem?_cons_succ, Option.some.injEq, exists_eq_left', exists_eq_left, exists_and_left, exists_const, V.int.injEq, V.bl.injEq, V.ref.injEq, HO.ins.injEq, HO.dK.injEq, decide_eq_true_eq, Bool.not_eq_true', decide_eq_false_iff_not, cx_K, and_assoc, true_and, and_true, upd_same, upd_upd, fH_units, fH_cost, fH_paid, fF_value, fF_holdings, fF_closing, fF_declared, fB_funds, fB_cash, fB_schemes, fS_kind, fS_fund_number, fS_other_number, fS_part, fS_quorum, fS_need, fS_votes, fS_proxies, fS_state,
  fH_put_units, fH_put_cost, fH_put_paid, fF_put_value, fF_put_holdings, fF_put_closing, fF_put_declared, fB_put_funds, fB_put_cash, fB_put_schemes, fS_put_state, fH_len, fF_len, fB_len, fS_len, lt1000_0, lt1000_1, lt1000_2, lt1000_3, lt1000_4, lt1000_9, Nat.reduceLT, fits_1, fits_2, fits_3, fits_4, fits_6, pl0, pl1, pl2, pl3, pl4, pl5, pl6, pl7, pl8, fH_init, fF_init, fB_init, fS_init,
  T.clH, T.clF, T.clS, T.clB, T.nH_units, T.nH_cost, T.nH_paid, T.nF_value, T.nF_holdings, T.nF_closing, T.nF_declared, T.nS_kind, T.nS_fund_number, T.nS_other_number, T.nS_part, T.nS_quorum, T.nS_need, T.nS_votes, T.nS_proxies, T.nS_state, T.nB_funds, T.nB_cash, T.nB_schemes, e1, e2, e3, e4, e5, e6])
section
variable {P : Program} {w : World} {K : PySem.W.Frag} {mg : Str → Option Value} {base : Heap} {C : Cs}
abbrev s_within : Stmt := top 16
theorem sc_within : FnScope ["number", "lowest", "highest"] ["number", "lowest", "highest"] (defScope s_within) := by walk_at "sc"
theorem ok_within {f : Addr} {fd : FuncData} (F : Fun K "within" "within" s_within f fd) (T : Txt K mg C) : FnOk P w K mg base CX0 1 f fd ["number", "lowest", "highest"] spWithin := by
  refine F.ok sc_within (fun vs H Q E h => ?_) (fun cdv A outer s H vs Q E hr h => ?_)
  · obtain ⟨n, lo, hi, rfl, _⟩ := h
    rfl
  · obtain ⟨n, lo, hi, rfl, q⟩ := h
    have nd := sc_within.nd
    have hu := hu_of hr
    have e1 := z0; have e2 := z0; have e3 := z0; have e4 := z0; have e5 := z0; have e6 := z0
    refine ⟨_, (pss_one (ps_ret (pe_and (pe_cmp (pc_le (pv 1) (pv 0))) (pe_one (pe_cmp (pc_le (pv 0) (pv 2))))))), ?_⟩
    walk_at "rd"
    unfold Vbfual.inside at q
    split
    · next h => simpa [h] using q
    · next h => simpa [h] using q
abbrev s_is_fund : Stmt := top 17
theorem sc_is_fund : FnScope ["number"] ["number"] (defScope s_is_fund) := by walk_at "sc"
theorem ok_is_fund {f : Addr} {fd : FuncData} (F : Fun K "is_fund" "is_fund" s_is_fund f fd) (T : Txt K mg C) (O_within : Ok P w K mg base 1 "within" ["number", "lowest", "highest"] spWithin) : FnOk P w K mg base CX0 2 f fd ["number"] (spB1 Vbfual.isFund) := by
  refine F.ok sc_is_fund (fun vs H Q E h => ?_) (fun cdv A outer s H vs Q E hr h => ?_)
  · obtain ⟨n, rfl, _⟩ := h
    rfl
  · obtain ⟨n, rfl, q⟩ := h
    have nd := sc_is_fund.nd
    have hu := hu_of hr
    have e1 := z0; have e2 := z0; have e3 := z0; have e4 := z0; have e5 := z0; have e6 := z0
    refine ⟨_, (pss_one (ps_ret (pe_ok O_within (hr.mono (by decide)) rfl (pa_cons (pv 0) (pa_cons pe_int (pa_cons (pe_gint rfl T.c_FUNDS) pa_nil)))))), ?_⟩
    walk_at "rd"
    exact q
abbrev s_is_holder : Stmt := top 18
theorem sc_is_holder : FnScope ["number"] ["number"] (defScope s_is_holder) := by walk_at "sc"
theorem ok_is_holder {f : Addr} {fd : FuncData} (F : Fun K "is_holder" "is_holder" s_is_holder f fd) (T : Txt K mg C) (O_within : Ok P w K mg base 1 "within" ["number", "lowest", "highest"] spWithin) : FnOk P w K mg base CX0 2 f fd ["number"] (spB1 Vbfual.isHolder) := by
  refine F.ok sc_is_holder (fun vs H Q E h => ?_) (fun cdv A outer s H vs Q E hr h => ?_)
  · obtain ⟨n, rfl, _⟩ := h
    rfl
  · obtain ⟨n, rfl, q⟩ := h
    have nd := sc_is_holder.nd
    have hu := hu_of hr
    have e1 := z0; have e2 := z0; have e3 := z0; have e4 := z0; have e5 := z0; have e6 := z0
    refine ⟨_, (pss_one (ps_ret (pe_ok O_within (hr.mono (by decide)) rfl (pa_cons (pv 0) (pa_cons pe_int (pa_cons (pe_gint rfl T.c_HOLDERS_limits) pa_nil)))))), ?_⟩
    walk_at "rd"
    exact q
abbrev s_is_amount_of_units : Stmt := top 19
theorem sc_is_amount_of_units : FnScope ["number"] ["number"] (defScope s_is_amount_of_units) := by walk_at "sc"
theorem ok_is_amount_of_units {f : Addr} {fd : FuncData} (F : Fun K "is_amount_of_units" "is_amount_of_units" s_is_amount_of_units f fd) (T : Txt K mg C) (O_within : Ok P w K mg base 1 "within" ["number", "lowest", "highest"] spWithin) : FnOk P w K mg base CX0 2 f fd ["number"] (spB1 fun n => Vbfual.inside n 1 (10 ^ 18)) := by
  refine F.ok sc_is_amount_of_units (fun vs H Q E h => ?_) (fun cdv A outer s H vs Q E hr h => ?_)
  · obtain ⟨n, rfl, _⟩ := h
    rfl
  · obtain ⟨n, rfl, q⟩ := h
    have nd := sc_is_amount_of_units.nd
    have hu := hu_of hr
    have e1 := z0; have e2 := z0; have e3 := z0; have e4 := z0; have e5 := z0; have e6 := z0
    refine ⟨_, (pss_one (ps_ret (pe_ok O_within (hr.mono (by decide)) rfl (pa_cons (pv 0) (pa_cons pe_int (pa_cons (pe_gint rfl T.c_MOST_UNITS) pa_nil)))))), ?_⟩
    walk_at "rd"
    exact q
abbrev s_is_millionths : Stmt := top 20
theorem sc_is_millionths : FnScope ["number"] ["number"] (defScope s_is_millionths) := by walk_at "sc"
theorem ok_is_millionths {f : Addr} {fd : FuncData} (F : Fun K "is_millionths" "is_millionths" s_is_millionths f fd) (T : Txt K mg C) (O_within : Ok P w K mg base 1 "within" ["number", "lowest", "highest"] spWithin) : FnOk P w K mg base CX0 2 f fd ["number"] (spB1 fun n => Vbfual.inside n 0 1000000) := by
  refine F.ok sc_is_millionths (fun vs H Q E h => ?_) (fun cdv A outer s H vs Q E hr h => ?_)
  · obtain ⟨n, rfl, _⟩ := h
    rfl
  · obtain ⟨n, rfl, q⟩ := h
    have nd := sc_is_millionths.nd
    have hu := hu_of hr
    have e1 := z0; have e2 := z0; have e3 := z0; have e4 := z0; have e5 := z0; have e6 := z0
    refine ⟨_, (pss_one (ps_ret (pe_ok O_within (hr.mono (by decide)) rfl (pa_cons (pv 0) (pa_cons pe_int (pa_cons (pe_gint rfl T.c_MILLION) pa_nil)))))), ?_⟩
    walk_at "rd"
    exact q
def spHolding (C : Cs) : Sp := fun vs H Q _ => ∃ (p dx : Addr), vs = [.ref p] ∧ H p = some (.ins C.h dx []) ∧ Q .non (upd H p (.ins C.h dx (fH (.int 0) (.int 0) (.int 0))))
abbrev s_Holding_init : Stmt := inClass (top 29) 0
theorem sc_Holding_init : FnScope ["self"] ["self"] (defScope s_Holding_init) := by walk_at "sc"
theorem ok_Holding_init {f : Addr} {fd : FuncData} (F : Fun K "__init__" "Holding.__init__" s_Holding_init f fd) (T : Txt K mg C) : FnOk P w K mg base CX0 1 f fd ["self"] (spHolding C) := by
  refine F.ok sc_Holding_init (fun vs H Q E h => ?_) (fun cdv A outer s H vs Q E hr h => ?_)
  · obtain ⟨p, dx, rfl, _⟩ := h
    rfl
  · obtain ⟨p, dx, rfl, hp, q⟩ := h
    have nd := sc_Holding_init.nd
    have hu := hu_of hr
    have e1 := z0; have e2 := z0; have e3 := z0; have e4 := z0; have e5 := z0; have e6 := z0
    refine ⟨_, (pss_cons (ps_fld (pv 0) pe_int rfl)
      (pss_cons (ps_fld (pv 0) pe_int rfl)
      (pss_one (ps_fld (pv 0) pe_int rfl)))), ?_⟩
    walk_at "rd"
    simp only [hp]
    walk_at "rd"
    exact q
def spFund (C : Cs) : Sp := fun vs H Q _ => ∃ (p dx : Addr), vs = [.ref p] ∧ Good H ∧ H p = some (.ins C.f dx []) ∧ ∀ (H' : Hp) (d : Addr), Good H' → H' p = some (.ins C.f dx (fF (.int 0) (.ref d) (.bl false) (.int 0))) → H' d = some (.dK []) → H d = none →
  (∀ b o, H b = some o → b ≠ p → H' b = some o) → Q .non H'
abbrev s_Fund_init : Stmt := inClass (top 30) 0
theorem sc_Fund_init : FnScope ["self"] ["self"] (defScope s_Fund_init) := by walk_at "sc"
theorem ok_Fund_init {f : Addr} {fd : FuncData} (F : Fun K "__init__" "Fund.__init__" s_Fund_init f fd) (T : Txt K mg C) : FnOk P w K mg base CX0 1 f fd ["self"] (spFund C) := by
  refine F.ok sc_Fund_init (fun vs H Q E h => ?_) (fun cdv A outer s H vs Q E hr h => ?_)
  · obtain ⟨p, dx, rfl, _⟩ := h
    rfl
  · obtain ⟨p, dx, rfl, g, hp, q⟩ := h
    have nd := sc_Fund_init.nd
    have hu := hu_of hr
    have e1 := z0; have e2 := z0; have e3 := z0; have e4 := z0; have e5 := z0; have e6 := z0
    refine ⟨_, (pss_cons (ps_fld (pv 0) pe_int rfl)
      (pss_cons (ps_fld (pv 0) pe_dnewK rfl)
      (pss_cons (ps_fld (pv 0) pe_bl rfl)
      (pss_one (ps_fld (pv 0) pe_int rfl))))), ?_⟩
    walk_at "rd"
    simp only [hp]
    walk_at "rd"
    intro d hd
    have n1 : d ≠ p := fun e => by rw [e, upd_same] at hd; cases hd
    have n2 : H d = none := by rw [upd_ne n1] at hd; exact hd
    simp only [upd_ne n1.symm]
    walk_at "rd"
    refine q _ d ?_ upd_same ?_ n2 fun b o e hb => ?_
    · exact ((g.upd (by intro _ z; cases z)).upd (by intro _ z; cases z)).upd (by intro _ z; cases z)
    · rw [upd_ne n1, upd_same]
    · rw [upd_ne hb, upd_ne (ne_of_none e n2), upd_ne hb]
      exact e
theorem rd_sum (T : Txt K mg C) {own : Own} {H : Hp} {r : Nat} {a dx d : Addr} {E : List (Addr × Holding)} {x : Fund} (F : FundIs C own H r a dx d E x) {name : Str} {val : Holding → Int} (hn : NoAttr K C.h name)
    (hl : ∀ y : Holding, (fH (.int y.units) (.int y.cost) (.int y.got)).lookup name = some (.int (val y))) {Q : VK} (q : ∀ H', Same H H' → Q (.int (E.map fun p => val p.2).sum) H') :
    tCB (rSum K) (tCons (tLockE (tLc (iVals (tFld K (tVar 0) "holdings")) (gName 1) tYes (tFld K (tVar 1) name) [1])) tNil) [some (.ref a), none] H Q := by
  refine ⟨d, _, F.hs.dic, True.intro, fun od => ?_⟩
  refine ⟨_, rfl, a, C.f, dx, _, _, rfl, by rw [upd_ne F.ne_d]; exact F.at_, T.clF, T.nF_holdings, fF_holdings _ _ _ _, d, od, _, rfl, upd_same, fun D hD => ?_⟩
  have nDd : D ≠ d := fun e => by rw [e, upd_same] at hD; cases hD
  have hD' : H D = none := by rw [upd_ne nDd] at hD; exact hD
  refine lc_vals (fun i H' => H' = upd (upd H d (.frz od (.dK (E.map kv)))) D (.lst ((E.take i).map fun p => V.int (val p.2)))) rfl (fun i H' _ e => ?_) (fun i k v H' hi e => ?_) fun H' e => ?_
  · rw [e, upd_ne nDd.symm, upd_same]
  · subst e
    rw [List.getElem?_map] at hi
    cases hp : E[i]? with
    | none => rw [hp] at hi; cases hi
    | some p =>
      rw [hp] at hi
      have hi' : kv p = (k, v) := Option.some.inj hi
      have hv : v = .ref p.1 := (congrArg Prod.snd hi').symm
      subst hv
      obtain ⟨dx', e'⟩ := (F.hs.each p (List.mem_of_getElem? hp)).at_
      have n1 : p.1 ≠ D := ne_of_none e' hD'
      have n2 : p.1 ≠ d := ne_of e' F.hs.dic (by intro z; cases z)
      refine ⟨rfl, ?_⟩
      simp only [tYes, if_true]
      refine ⟨_, rfl, p.1, C.h, dx', _, _, rfl, by rw [upd_ne n1, upd_ne n2]; exact e', T.clH, hn, hl p.2, _, upd_same, ?_, ?_⟩
      · rw [List.length_map, List.length_take]
        exact small _ (by have := F.len; omega)
      · rw [upd_upd, List.take_add_one, hp, List.map_append]
        rfl
  · subst e
    refine ⟨by rw [upd_ne nDd.symm, upd_same], D, E.map fun p => val p.2, rfl, SqL.of ?_, q _ fun b o e => ?_⟩
    · rw [upd_ne nDd, upd_same, List.length_map, List.take_length, List.map_map]
      rfl
    · by_cases hb : b = d
      · rw [hb, upd_same]
        rw [hb, F.hs.dic] at e
        exact e
      · rw [upd_ne hb, upd_ne (ne_of_none e hD'), upd_ne hb]
        exact e
def spSum (C : Cs) (g : Fund → Nat) : Sp := fun vs H Q _ => ∃ (a : Addr) (own : Own) (r : Nat) (x : Fund), vs = [.ref a] ∧ FundAt C own H r a x ∧ Q (.int (g x)) H
def spSum0 (C : Cs) (g : Fund → Nat) : Sp := fun vs H Q _ => ∃ (a : Addr) (own : Own) (r : Nat) (x : Fund), vs = [.ref a] ∧ FundAt C own H r a x ∧ ∀ H', Same H H' → Q (.int (g x)) H'
abbrev s_all_units : Stmt := top 33
theorem sc_all_units : FnScope ["fund", "holding"] ["fund"] (defScope s_all_units) := by walk_at "sc"
theorem ok_all_units {f : Addr} {fd : FuncData} (F : Fun K "all_units" "all_units" s_all_units f fd) (T : Txt K mg C) : FnOk P w K mg base CX0 1 f fd ["fund"] (spSum0 C unitsOf) := by
  refine F.ok sc_all_units (fun vs H Q E h => ?_) (fun cdv A outer s H vs Q E hr h => ?_)
  · obtain ⟨a, own, r, x, rfl, _⟩ := h
    rfl
  · obtain ⟨a, own, r, x, rfl, F, q⟩ := h
    have nd := sc_all_units.nd
    have hu := hu_of hr
    have e1 := z0; have e2 := z0; have e3 := z0; have e4 := z0; have e5 := z0; have e6 := z0
    refine ⟨_, (pss_one (ps_ret (pe_callB (cr_sum rfl) (by rfl) T.b_sum boot_sum (pa_cons (pe_lock (pe_lc (te := (tFld K (tVar 1) "units")) rfl nd (pi_values (pe_fld (pv 0) rfl)) (blkOk_by (N := ["fund", "holding"]) (sc := defScope s_all_units) (own := [("holding", 1)]) (by decide +kernel)) (fun _ _ _ _ _ => pg_name (i := 1) nd rfl (Or.inl rfl)) (fun _ _ _ _ _ => pts_nil) (fun _ _ _ _ _ => (pe_fld (pv 1) rfl)))) pa_nil)))), ?_⟩
    obtain ⟨dx, d, E, F⟩ := F.open_
    refine rd_sum T F T.nH_units (val := fun y => (y.units : Int)) (fun y => fH_units _ _ _) fun H' s => ?_
    rw [F.units]
    exact q H' s
theorem okp_all_units {f : Addr} {fd : FuncData} (F : Fun K "all_units" "all_units" s_all_units f fd) (T : Txt K mg C) : FnOk P w K mg base CX0 1 f fd ["fund"] (spSum C unitsOf) := (ok_all_units F T).pure fun vs H Q E h => by
  obtain ⟨a, own, r, x, rfl, F, q⟩ := h
  exact ⟨F.good, a, own, r, x, rfl, F, fun H' s => ⟨s, q⟩⟩
abbrev s_all_paid : Stmt := top 34
theorem sc_all_paid : FnScope ["fund", "holding"] ["fund"] (defScope s_all_paid) := by walk_at "sc"
theorem ok_all_paid {f : Addr} {fd : FuncData} (F : Fun K "all_paid" "all_paid" s_all_paid f fd) (T : Txt K mg C) : FnOk P w K mg base CX0 1 f fd ["fund"] (spSum0 C gotIn) := by
  refine F.ok sc_all_paid (fun vs H Q E h => ?_) (fun cdv A outer s H vs Q E hr h => ?_)
  · obtain ⟨a, own, r, x, rfl, _⟩ := h
    rfl
  · obtain ⟨a, own, r, x, rfl, F, q⟩ := h
    have nd := sc_all_paid.nd
    have hu := hu_of hr
    have e1 := z0; have e2 := z0; have e3 := z0; have e4 := z0; have e5 := z0; have e6 := z0
    refine ⟨_, (pss_one (ps_ret (pe_callB (cr_sum rfl) (by rfl) T.b_sum boot_sum (pa_cons (pe_lock (pe_lc (te := (tFld K (tVar 1) "paid")) rfl nd (pi_values (pe_fld (pv 0) rfl)) (blkOk_by (N := ["fund", "holding"]) (sc := defScope s_all_paid) (own := [("holding", 1)]) (by decide +kernel)) (fun _ _ _ _ _ => pg_name (i := 1) nd rfl (Or.inl rfl)) (fun _ _ _ _ _ => pts_nil) (fun _ _ _ _ _ => (pe_fld (pv 1) rfl)))) pa_nil)))), ?_⟩
    obtain ⟨dx, d, E, F⟩ := F.open_
    refine rd_sum T F T.nH_paid (val := fun y => (y.got : Int)) (fun y => fH_paid _ _ _) fun H' s => ?_
    rw [F.gots]
    exact q H' s
theorem okp_all_paid {f : Addr} {fd : FuncData} (F : Fun K "all_paid" "all_paid" s_all_paid f fd) (T : Txt K mg C) : FnOk P w K mg base CX0 1 f fd ["fund"] (spSum C gotIn) := (ok_all_paid F T).pure fun vs H Q E h => by
  obtain ⟨a, own, r, x, rfl, F, q⟩ := h
  exact ⟨F.good, a, own, r, x, rfl, F, fun H' s => ⟨s, q⟩⟩
end
section
variable {P : Program} {w : World} {K : PySem.W.Frag} {mg : Str → Option Value} {base : Heap} {C : Cs}
def spUnitsOf (C : Cs) : Sp := fun vs H Q _ => ∃ (a : Addr) (own : Own) (r : Nat) (x : Fund) (h : Nat), vs = [.ref a, .int h] ∧ FundAt C own H r a x ∧ Q (.int (holdingOf x h).units) H
abbrev s_units_of : Stmt := top 36
theorem sc_units_of : FnScope ["fund", "holder"] ["fund", "holder"] (defScope s_units_of) := by walk_at "sc"
theorem ok_units_of {f : Addr} {fd : FuncData} (F : Fun K "units_of" "units_of" s_units_of f fd) (T : Txt K mg C) : FnOk P w K mg base CX0 1 f fd ["fund", "holder"] (spUnitsOf C) := by
  refine F.ok sc_units_of (fun vs H Q E h => ?_) (fun cdv A outer s H vs Q E hr h => ?_)
  · obtain ⟨a, own, r, x, h, rfl, _⟩ := h
    rfl
  · obtain ⟨a, own, r, x, h, rfl, F, q⟩ := h
    have nd := sc_units_of.nd
    have hu := hu_of hr
    have e1 := z0; have e2 := z0; have e3 := z0; have e4 := z0; have e5 := z0; have e6 := z0
    refine ⟨_, (pss_cons (ps_if (pt_cmp (pc_dnotin hu (pv 1) (pe_fld (pv 0) rfl))) (pss_one (ps_ret pe_int)) pss_nil)
      (pss_one (ps_ret (pe_fld (pe_dget hu (pe_fld (pv 0) rfl) (pv 1) (fun _ _ => rfl)) rfl)))), ?_⟩
    obtain ⟨dx, d, E, F⟩ := F.open_
    walk_at "rd"
    simp only [F.at_]
    walk_at "rd"
    refine ⟨_, DGet.k (k := Sum.inl (h : Int)) F.hs.dic, ?_⟩
    rcases has_or (x := x) h with ⟨y, hy, rfl⟩ | hn
    · obtain ⟨p, hp, rfl, hv⟩ := F.get hy
      obtain ⟨dx', e⟩ := (F.hs.each p hp).at_
      rw [holdingOf_mem F.sf.srt hy] at q
      rw [hv]
      simp only [Option.isSome_some, Bool.true_eq_false, if_false]
      exact ⟨_, by rw [← hv]; exact DGet.k (k := Sum.inl (p.2.holder : Int)) F.hs.dic, p.1, rfl, _, _, _, e, T.clH, T.nH_units, _, fH_units _ _ _, q⟩
    · rw [holdingOf_none hn] at q
      rw [F.none_ hn]
      simp only [Option.isSome_none, if_true]
      exact q
def spWorth (C : Cs) : Sp := fun vs H Q _ => ∃ (a : Addr) (own : Own) (r : Nat) (x : Fund), vs = [.ref a] ∧ FundAt C own H r a x ∧ Q (.bl (decide (x.value = 0 ∧ 0 < unitsOf x))) H
abbrev s_is_worthless : Stmt := top 35
theorem sc_is_worthless : FnScope ["fund"] ["fund"] (defScope s_is_worthless) := by walk_at "sc"
theorem ok_is_worthless {f : Addr} {fd : FuncData} (F : Fun K "is_worthless" "is_worthless" s_is_worthless f fd) (T : Txt K mg C) (O_all_units : Ok P w K mg base 1 "all_units" ["fund"] (spSum C unitsOf)) : FnOk P w K mg base CX0 2 f fd ["fund"] (spWorth C) := by
  refine F.ok sc_is_worthless (fun vs H Q E h => ?_) (fun cdv A outer s H vs Q E hr h => ?_)
  · obtain ⟨a, own, r, x, rfl, _⟩ := h
    rfl
  · obtain ⟨a, own, r, x, rfl, F0, q⟩ := h
    have nd := sc_is_worthless.nd
    have hu := hu_of hr
    have e1 := z0; have e2 := z0; have e3 := z0; have e4 := z0; have e5 := z0; have e6 := z0
    refine ⟨_, (pss_one (ps_ret (pe_and (pe_cmp (pc_eqI (pe_fld (pv 0) rfl) pe_int)) (pe_one (pe_cmp (pc_gt (pe_ok O_all_units (hr.mono (by decide)) rfl (pa_cons (pv 0) pa_nil)) pe_int)))))), ?_⟩
    obtain ⟨dx, d, E, F⟩ := F0.open_
    have e1 := F.at_
    walk_at "rde"
    refine ite2 (fun h0 => ?_) fun h0 => ?_
    · refine ⟨a, own, r, x, rfl, F0, ?_⟩
      walk_at "rde"
      have e : decide (x.value = 0 ∧ 0 < unitsOf x) = decide ((0 : Int) < (unitsOf x : Nat)) := decide_eq_decide.mpr (by omega)
      rw [e] at q
      exact q
    · have e : decide (x.value = 0 ∧ 0 < unitsOf x) = false := decide_eq_false (by omega)
      rw [e] at q
      exact q
theorem putHold_zero {y : Holding} (hu : y.units = 0) : ∀ {l : List Holding}, (∀ z ∈ l, z.holder ≠ y.holder) → putHold y l = l
  | [], _ => by unfold putHold; rw [if_pos hu]
  | z :: l, h => by
    unfold putHold
    rw [if_neg (h z List.mem_cons_self), if_pos hu, putHold_zero hu fun w hw => h w (List.mem_cons_of_mem _ hw)]
    split <;> rfl
theorem more_zero {x : Fund} {h c : Nat} (hn : ∀ z ∈ x.hold, z.holder ≠ h) : more h 0 c x = x := by
  unfold Vbfual.more
  dsimp only
  rw [holdingOf_none hn, putHold_zero rfl hn]
theorem more_mem {x : Fund} (hs : Sf x.hold) {y : Holding} (hy : y ∈ x.hold) (u c : Nat) : more y.holder u c x = { x with hold := putHold { y with units := y.units + u, cost := y.cost + c } x.hold } := by
  unfold Vbfual.more
  dsimp only
  rw [holdingOf_mem hs.srt hy]
theorem more_out {x : Fund} {h : Nat} (hn : ∀ z ∈ x.hold, z.holder ≠ h) (u c : Nat) : more h u c x = { x with hold := putHold { holder := h, units := u, cost := c, got := 0 } x.hold } := by
  unfold Vbfual.more
  dsimp only
  rw [holdingOf_none hn, Nat.zero_add, Nat.zero_add]
theorem val_new {E : List (Addr × Holding)} {h : Nat} {v : V} (n : ∀ p ∈ E, p.2.holder ≠ h) : valV (putK (E.map kv) (Sum.inl (h : Int)) v) (Sum.inl (h : Int)) = some v := by
  rw [putK_out n, valV_snoc _ _ _ _ (val_out n), if_pos rfl]
def spAdd (C : Cs) : Sp := fun vs H Q _ => ∃ (a : Addr) (own : Own) (r : Nat) (x : Fund) (h u c : Nat), vs = [.ref a, .int h, .int u, .int c] ∧ FundAt C own H r a x ∧ (1 ≤ h ∧ h ≤ 20) ∧
  ∀ own' H', FundAt C own' H' r a (more h u c x) → Frm r own H own' H' → Q .non H'
abbrev s_add_to_holding : Stmt := top 37
theorem sc_add_to_holding : FnScope ["fund", "holder", "units", "cost", "holding"] ["fund", "holder", "units", "cost"] (defScope s_add_to_holding) := by walk_at "sc"
theorem ok_add_to_holding {f : Addr} {fd : FuncData} (F : Fun K "add_to_holding" "add_to_holding" s_add_to_holding f fd) (T : Txt K mg C) (O_Holding : OkC P w K mg base 1 "Holding" C.h ["self"] (spHolding C)) : FnOk P w K mg base CX0 3 f fd ["fund", "holder", "units", "cost"] (spAdd C) := by
  refine F.ok sc_add_to_holding (fun vs H Q E h => ?_) (fun cdv A outer s H vs Q E hr h => ?_)
  · obtain ⟨a, own, r, x, h, u, c, rfl, _⟩ := h
    rfl
  · obtain ⟨a, own, r, x, h, u, c, rfl, F, hh, q⟩ := h
    have nd := sc_add_to_holding.nd
    have hu := hu_of hr
    have e1 := z0; have e2 := z0; have e3 := z0; have e4 := z0; have e5 := z0; have e6 := z0
    refine ⟨_, (pss_cons (ps_if (pt_cmp (pc_dnotin hu (pv 1) (pe_fld (pv 0) rfl))) (pss_cons (ps_if (pt_cmp (pc_eqI (pv 2) pe_int)) (pss_one ps_retN) pss_nil)
      (pss_one (ps_dput hu (pe_fld (pv 0) rfl) (pv 1) (pe_mk0 O_Holding (hr.mono (by decide)) rfl) rfl))) pss_nil)
      (pss_cons (ps_set (i := 4) nd rfl (Or.inl rfl) (pe_dget hu (pe_fld (pv 0) rfl) (pv 1) (fun _ _ => rfl)))
      (pss_cons (ps_fldaug (pv 4) (pv 2) in_add)
      (pss_one (ps_fldaug (pv 4) (pv 3) in_add))))), ?_⟩
    have F0 := F
    obtain ⟨dx, d, E, F⟩ := F.open_
    walk_at "rd"
    simp only [F.at_]
    walk_at "rd"
    refine ⟨_, DGet.k (k := Sum.inl (h : Int)) F.hs.dic, ?_⟩
    rcases has_or (x := x) h with ⟨y, hy, rfl⟩ | hn
    · obtain ⟨p, hp, rfl, hv⟩ := F.get hy
      obtain ⟨dx', e⟩ := (F.hs.each p hp).at_
      rw [hv]
      simp only [Option.isSome_some, Bool.true_eq_false, if_false]
      refine ⟨_, by rw [← hv]; exact DGet.k (k := Sum.inl (p.2.holder : Int)) F.hs.dic, p.1, rfl, ?_⟩
      simp only [e]
      walk_at "rd"
      have F' := F.put hp (y := { p.2 with units := p.2.units + u, cost := p.2.cost + c }) (dp := dx') rfl (by have := F.sf.pos p.2 hy; show p.2.units + u ≠ 0; omega) (Int.natCast_add _ _).symm (Int.natCast_add _ _).symm rfl
      rw [more_mem F.sf hy] at q
      exact q own _ F'.close (Frm.upd (F.hs.each p hp).ow)
    · rw [F.none_ hn]
      simp only [Option.isSome_none, if_true]
      refine ite2 (fun hu0 => ?_) (fun hu0 => ?_)
      · have hu0' : u = 0 := by omega
        subst hu0'
        rw [more_zero hn] at q
        exact q own H F0 Frm.refl
      · intro z dz hz hdz nz
        have nE : ∀ p ∈ E, p.2.holder ≠ h := fun p hp => hn p.2 (mem_hold F.pm hp)
        have n1 := ne_of_none F.at_ hz
        have n2 := ne_of_none F.at_ hdz
        have n3 := ne_of_none F.hs.dic hz
        have n4 := ne_of_none F.hs.dic hdz
        refine ⟨z, dz, rfl, upd_same, rfl, ?_⟩
        simp only [upd_upd, upd_ne n1, upd_ne n2, F.at_]
        walk_at "rd"
        refine ⟨_, DPut.k (k := Sum.inl (h : Int)) (by rw [upd_ne n3, upd_ne n4]; exact F.hs.dic) (by rw [List.length_map]; exact small _ (by have := F.len; omega)), ?_⟩
        simp only [upd_ne F.ne_d, upd_ne n1, upd_ne n2, F.at_]
        walk_at "rd"
        refine ⟨_, by rw [← val_new (v := .ref z) nE]; exact DGet.k (k := Sum.inl (h : Int)) upd_same, z, rfl, ?_⟩
        simp only [upd_ne n3.symm]
        walk_at "rd"
        rw [more_out hn] at q
        refine q (give own z r) _ (FundIs.close (dx := dx) (d := d) (E := E ++ [(z, { holder := h, units := u, cost := c, got := 0 })]) ?_) ?_
        · refine F.new (y := { holder := h, units := u, cost := c, got := 0 }) (dq := dz) hn hh (by show u ≠ 0; omega) ?_ (fun b o e hb => ?_) ?_ hz ?_
          · exact (((F.good.upd (by intro _ z; cases z)).upd (by intro _ z; cases z)).upd (by intro _ z; cases z)).upd (by intro _ z; cases z)
          · rw [upd_ne (ne_of_none e hz), upd_ne hb, upd_ne (ne_of_none e hz), upd_ne (ne_of_none e hdz)]
            exact e
          · rw [upd_ne n3, upd_same, putK_out nE]
          · rw [upd_same, Int.zero_add, Int.zero_add]
            rfl
        · intro b o e hb
          have hbd : b ≠ d := fun z => hb (by rw [z]; exact F.hs.od)
          refine ⟨?_, give_ne (ne_of_none e hz)⟩
          rw [upd_ne (ne_of_none e hz), upd_ne hbd, upd_ne (ne_of_none e hz), upd_ne (ne_of_none e hdz)]
          exact e
theorem FundIs.other {own : Own} {H : Hp} {r : Nat} {a dx d b : Addr} {E : List (Addr × Holding)} {x : Fund} {o : HO} (F : FundIs C own H r a dx d E x) (g : ∀ kvs, o ≠ .dT kvs) (n1 : a ≠ b) (n2 : d ≠ b) (n3 : ∀ p ∈ E, p.1 ≠ b) : FundIs C own (upd H b o) r a dx d E x where
  good := F.good.upd g
  sf := F.sf
  at_ := by rw [upd_ne n1]; exact F.at_
  ow := F.ow
  hs := ⟨by rw [upd_ne n2]; exact F.hs.dic, F.hs.od, fun p hp => by
    obtain ⟨dx', e⟩ := (F.hs.each p hp).at_
    exact ⟨⟨dx', by rw [upd_ne (n3 p hp)]; exact e⟩, (F.hs.each p hp).ow⟩, F.hs.nd⟩
  pm := F.pm
theorem upd_comm {H : Hp} {a b : Addr} {o u : HO} (h : a ≠ b) : upd (upd H a o) b u = upd (upd H b u) a o := by
  funext c
  unfold upd
  by_cases h1 : c = a
  · rw [if_neg (fun z => h (h1.symm.trans z)), if_pos h1, if_pos h1]
  · rw [if_neg h1, if_neg h1]
theorem less_mem {x : Fund} (hs : Sf x.hold) {y : Holding} (hy : y ∈ x.hold) (u c : Nat) : less y.holder u c x = { x with hold := putHold { y with units := y.units - u, cost := y.cost - c } x.hold } := by
  unfold Vbfual.less
  dsimp only
  rw [holdingOf_mem hs.srt hy]
theorem cmul_r {i j : Int} (h1 : 0 ≤ j) (h2 : j ≤ 1000000000000000000) : CMul i j := .inr ⟨by omega, by omega⟩
theorem cmul_l {i j : Int} (h1 : 0 ≤ i) (h2 : i ≤ 1000000000000000000) : CMul i j := .inl ⟨by omega, by omega⟩
theorem cdiv_of {i j : Int} (h1 : 0 < j) (h2 : j ≤ 1000000000000000000) : CDivL i j := ⟨h1, Nat.lt_of_le_of_lt (show j.natAbs ≤ 1000000000000000000 by omega) (by decide)⟩
def spTake (C : Cs) : Sp := fun vs H Q _ => ∃ (a : Addr) (own : Own) (r : Nat) (x : Fund) (y : Holding) (u : Nat), vs = [.ref a, .int y.holder, .int u] ∧ FundAt C own H r a x ∧ y ∈ x.hold ∧ u ≤ y.units ∧ y.units ≤ 1000000000000000000 ∧
  ∀ H', FundAt C own H' r a (less y.holder u (Vbfual.costOf y u) x) → Frm r own H own H' → Q (.int (Vbfual.costOf y u)) H'
abbrev s_take_from_holding : Stmt := top 38
theorem sc_take_from_holding : FnScope ["fund", "holder", "units", "holding", "cost"] ["fund", "holder", "units"] (defScope s_take_from_holding) := by walk_at "sc"
theorem ok_take_from_holding {f : Addr} {fd : FuncData} (F : Fun K "take_from_holding" "take_from_holding" s_take_from_holding f fd) (T : Txt K mg C) : FnOk P w K mg base CX0 1 f fd ["fund", "holder", "units"] (spTake C) := by
  refine F.ok sc_take_from_holding (fun vs H Q E h => ?_) (fun cdv A outer s H vs Q E hr h => ?_)
  · obtain ⟨a, own, r, x, y, u, rfl, _⟩ := h
    rfl
  · obtain ⟨a, own, r, x, y, u, rfl, F, hy, hu1, hu2, q⟩ := h
    have nd := sc_take_from_holding.nd
    have hu := hu_of hr
    have e1 := z0; have e2 := z0; have e3 := z0; have e4 := z0; have e5 := z0; have e6 := z0
    refine ⟨_, (pss_cons (ps_set (i := 3) nd rfl (Or.inl rfl) (pe_dget hu (pe_fld (pv 0) rfl) (pv 1) (fun _ _ => rfl)))
      (pss_cons (ps_set (i := 4) nd rfl (Or.inl rfl) (pe_op op_fdivL (pe_op op_mul (pe_fld (pv 3) rfl) (pv 2)) (pe_fld (pv 3) rfl)))
      (pss_cons (ps_fldaug (pv 3) (pv 2) in_sub)
      (pss_cons (ps_fldaug (pv 3) (pv 4) in_sub)
      (pss_cons (ps_if (pt_cmp (pc_eqI (pe_fld (pv 3) rfl) pe_int)) (pss_one (ps_expr (pe_dpop1 (pe_fld (pv 0) rfl) (pv 1) ⟨rfl, rfl, rfl, rfl⟩))) pss_nil)
      (pss_one (ps_ret (pv 4)))))))), ?_⟩
    have F0 := F
    obtain ⟨dx, d, E, F⟩ := F.open_
    walk_at "rd"
    simp only [F.at_]
    walk_at "rd"
    obtain ⟨p, hp, rfl, hv⟩ := F.get hy
    obtain ⟨dx', e⟩ := (F.hs.each p hp).at_
    have hpos := F.sf.pos p.2 hy
    have n1 : p.1 ≠ d := ne_of e F.hs.dic (by intro z; cases z)
    refine ⟨_, by rw [← hv]; exact DGet.k (k := Sum.inl (p.2.holder : Int)) F.hs.dic, p.1, rfl, ?_⟩
    walk_at "rds"
    have hc : ((p.2.cost : Int) * u / p.2.units) = ((Vbfual.costOf p.2 u : Nat) : Int) := by
      unfold Vbfual.costOf
      rw [if_neg (by omega)]
      push_cast
      rfl
    have hcl : Vbfual.costOf p.2 u ≤ p.2.cost := by
      unfold Vbfual.costOf
      rw [if_neg (by omega)]
      exact Nat.div_le_of_le_mul (by rw [Nat.mul_comm]; exact Nat.mul_le_mul_right _ hu1)
    rw [hc]
    rw [less_mem F.sf hy] at q
    have n2 : a ≠ p.1 := F.ne_p hp
    refine ⟨cmul_r (by omega) (by omega), cdiv_of (by omega) (by omega), ite2 (fun h0 => ?_) (fun h0 => ?_)⟩
    · simp only [upd_ne n2, F.at_]
      walk_at "rd"
      have hd' : ∀ o, upd H p.1 o d = some (.dK (E.map kv)) := fun o => by rw [upd_ne n1.symm]; exact F.hs.dic
      refine ⟨.inl ⟨_, .inl (hd' _)⟩, _, hd' _, Sum.inl (p.2.holder : Int), rfl, _, hv, ?_⟩
      rw [upd_comm n1]
      refine q _ (FundIs.close (dx := dx) (d := d) (E := E.filter fun w => decide (w.2.holder ≠ p.2.holder)) ?_) ?_
      · refine (F.drop (y := { p.2 with units := p.2.units - u, cost := p.2.cost - Vbfual.costOf p.2 u }) rfl (by show p.2.units - u = 0; omega) (F.sf.rng p.2 hy)).other (by intro _ z; cases z) n2 n1.symm fun w hw => ?_
        intro z
        have hw' := List.mem_filter.mp hw
        have := fst_inj F.hs.nd hw'.1 hp z
        rw [this] at hw'
        simp at hw'
      · exact (Frm.upd F.hs.od).trans (Frm.upd (F.hs.each p hp).ow)
    · exact q _ (F.put hp (y := { p.2 with units := p.2.units - u, cost := p.2.cost - Vbfual.costOf p.2 u }) (dp := dx') rfl (by show p.2.units - u ≠ 0; omega) (by show _ = ((p.2.units - u : Nat) : Int); omega) (by show _ = ((p.2.cost - Vbfual.costOf p.2 u : Nat) : Int); omega) rfl).close (Frm.upd (F.hs.each p hp).ow)
end
section
variable {P : Program} {w : World} {K : PySem.W.Frag} {mg : Str → Option Value} {base : Heap} {C : Cs}
def Fresh0 (own : Own) (H : Hp) (p : Addr) : Prop := ∀ c o, H c = some o → own c = 0 → c ≠ p
theorem Fresh0.of {own : Own} {H : Hp} {p : Addr} (h : H p = none) : Fresh0 own H p := fun c o e _ => ne_of_none e h
theorem Fresh0.out {own own1 : Own} {H H1 : Hp} {p : Addr} (o : Out own H own1 H1) (h : H1 p = none) : Fresh0 own H p := fun c u e n => ne_of_none (o c u e n).1 h
def Done (C : Cs) (own : Own) (H : Hp) (b : Addr) (s : State) (c : Vbfual.Call) (Q : VK) : Prop :=
  ∀ L' own' H' p, BookAt C L' own' H' b (Vbfual.step s c).1 → H' p = some (.lst ((Vbfual.step s c).2.map V.int)) → Out own H own' H' → Fresh0 own H p → Q (.ref p) H'
theorem Done.fin {own own1 : Own} {H H1 : Hp} {b : Addr} {s s1 : State} {c : Vbfual.Call} {Q : VK} {L1 : Lo} {ans : List Int} (D : Done C own H b s c Q) (hs : Vbfual.step s c = (s1, ans)) (B : BookAt C L1 own1 H1 b s1) (o : Out own H own1 H1) :
    ∀ p, H1 p = none → Q (.ref p) (upd H1 p (.lst (ans.map V.int))) := fun p hp => by
  refine D L1 own1 _ p ?_ ?_ (o.trans (Out.lay hp)) (Fresh0.out o hp)
  · rw [hs]
    exact B.out (by intro _ z; cases z) (.inr hp)
  · rw [hs, upd_same]
theorem Done.no {own : Own} {H : Hp} {b : Addr} {s : State} {c : Vbfual.Call} {Q : VK} {L : Lo} {k : Int} (D : Done C own H b s c Q) (B : BookAt C L own H b s) (hs : Vbfual.step s c = (s, [k])) : ∀ p, H p = none → Q (.ref p) (upd H p (.lst [.int k])) := D.fin hs B Out.refl
theorem or2 {a b A R : Prop} [Decidable a] [Decidable b] (h1 : a ∨ b → A) (h2 : ¬ (a ∨ b) → R) : if a then A else if b then A else R := by
  by_cases ha : a
  · rw [if_pos ha]; exact h1 (.inl ha)
  · rw [if_neg ha]
    by_cases hb : b
    · rw [if_pos hb]; exact h1 (.inr hb)
    · rw [if_neg hb]; exact h2 fun z => z.elim ha hb
theorem or3 {a b c A R : Prop} [Decidable a] [Decidable b] [Decidable c] (h1 : a ∨ b ∨ c → A) (h2 : ¬ (a ∨ b ∨ c) → R) : if a then A else if b then A else if c then A else R := by
  by_cases ha : a
  · rw [if_pos ha]; exact h1 (.inl ha)
  · rw [if_neg ha]
    exact or2 (fun z => h1 (.inr z)) fun z => h2 fun y => y.elim ha z
theorem or4 {a b c d A R : Prop} [Decidable a] [Decidable b] [Decidable c] [Decidable d] (h1 : a ∨ b ∨ c ∨ d → A) (h2 : ¬ (a ∨ b ∨ c ∨ d) → R) : if a then A else if b then A else if c then A else if d then A else R := by
  by_cases ha : a
  · rw [if_pos ha]; exact h1 (.inl ha)
  · rw [if_neg ha]
    exact or3 (fun z => h1 (.inr z)) fun z => h2 fun y => y.elim ha z
theorem nat_of {z : Int} (h : 0 ≤ z) : ∃ n : Nat, z = (n : Int) := ⟨z.toNat, by omega⟩
theorem isFund_of {f : Int} (h : ¬ Vbfual.isFund f = false) : ∃ n : Nat, f = (n : Int) ∧ 1 ≤ n ∧ n ≤ 6 := by
  have := fund_rng h
  exact ⟨f.toNat, by omega, this⟩
theorem isHolder_of {f : Int} (h : ¬ Vbfual.isHolder f = false) : ∃ n : Nat, f = (n : Int) ∧ 1 ≤ n ∧ n ≤ 20 := by
  have := holder_rng h
  exact ⟨f.toNat, by omega, this⟩
theorem inside_of {f lo hi : Int} (h : ¬ Vbfual.inside f lo hi = false) (h0 : 0 ≤ lo) : ∃ n : Nat, f = (n : Int) ∧ lo ≤ n ∧ (n : Int) ≤ hi := by
  rw [in_not] at h
  exact ⟨f.toNat, by omega, by omega, by omega⟩
theorem dget {H : Hp} {a : Addr} {kvs : List (Key × V)} {k : Int} {v : V} (h : H a = some (.dK kvs)) (e : valV kvs (Sum.inl k) = some v) : DGet H a (.int k) (some v) := by
  rw [← e]
  exact DGet.k (k := Sum.inl k) h
theorem len20 {g : Nat → V} : (T twenty g).length < sizeLine := small _ (by show 20 ≤ 100000; decide)
theorem Out.upd {own : Own} {H : Hp} {a : Addr} {u : HO} {n : Nat} (h : own a = n) (hn : n ≠ 0) : Out own H own (upd H a u) := fun b o e ob => ⟨by rw [upd_ne fun z => hn (by rw [← h, ← z]; exact ob)]; exact e, ob⟩
theorem seq_of {t u : TS} {D : Ends} {σ : L2.St} {H : Hp} (h : ∀ N : L2.St → Hp → Prop, (∀ σ H, u D σ H → N σ H) → t { D with nx := N } σ H) : tSeq t u D σ H := h _ fun _ _ z => z
def spUM (C : Cs) : Sp := fun vs H Q _ => ∃ (a : Addr) (own : Own) (r : Nat) (x : Fund) (m : Nat), vs = [.ref a, .int m] ∧ FundAt C own H r a x ∧ FOk x ∧ (0 < unitsOf x → x.value ≠ 0) ∧
  Q (.int ((if unitsOf x = 0 then m * Vbfual.MILLION else m * unitsOf x / x.value : Nat) : Int)) H
abbrev s_units_for_money : Stmt := top 75
theorem sc_units_for_money : FnScope ["fund", "money", "whole"] ["fund", "money"] (defScope s_units_for_money) := by walk_at "sc"
theorem ok_units_for_money {f : Addr} {fd : FuncData} (F : Fun K "units_for_money" "units_for_money" s_units_for_money f fd) (T : Txt K mg C) (O_all_units : Ok P w K mg base 1 "all_units" ["fund"] (spSum C unitsOf)) : FnOk P w K mg base CX0 2 f fd ["fund", "money"] (spUM C) := by
  refine F.ok sc_units_for_money (fun vs H Q E h => ?_) (fun cdv A outer s H vs Q E hr h => ?_)
  · obtain ⟨a, own, r, x, m, rfl, _⟩ := h
    rfl
  · obtain ⟨a, own, r, x, m, rfl, F, hx, hv, q⟩ := h
    have nd := sc_units_for_money.nd
    have hu := hu_of hr
    have e1 := z0; have e2 := z0; have e3 := z0; have e4 := z0; have e5 := z0; have e6 := z0
    refine ⟨_, (pss_cons (ps_set (i := 2) nd rfl (Or.inl rfl) (pe_ok O_all_units (hr.mono (by decide)) rfl (pa_cons (pv 0) pa_nil)))
      (pss_cons (ps_if (pt_cmp (pc_eqI (pv 2) pe_int)) (pss_one (ps_ret (pe_op op_mul (pv 1) (pe_gint rfl T.c_MILLION)))) pss_nil)
      (pss_one (ps_ret (pe_op op_fdivL (pe_op op_mul (pv 1) (pv 2)) (pe_fld (pv 0) rfl)))))), ?_⟩
    walk_at "rd"
    refine ⟨a, own, r, x, rfl, F, ?_⟩
    have F0 := F
    obtain ⟨dx, d, E, F⟩ := F.open_
    have e1 := F.at_
    have hm : unitsOf x ≤ 1000000000000000000 := hx.many
    have hg : x.value ≤ 1000000000000 := hx.great
    walk_at "rde"
    by_cases h0 : unitsOf x = 0
    · rw [if_pos (by omega)]
      rw [if_pos h0] at q
      refine ⟨cmul_r (by omega) (by omega), ?_⟩
      exact q
    · rw [if_neg (by omega)]
      rw [if_neg h0] at q
      refine ⟨cmul_r (by omega) (by omega), cdiv_of (by have := hv (by omega); omega) (by omega), ?_⟩
      exact q
def spBuy (C : Cs) : Sp := fun vs H Q _ => ∃ (b : Addr) (L : Lo) (own : Own) (s : State) (f h m : Int), vs = [.ref b, .int f, .int h, .int m] ∧ BookAt C L own H b s ∧ Done C own H b s (.buy f h m) Q
abbrev s_buy : Stmt := top 76
theorem sc_buy : FnScope ["book", "f", "h", "m", "fund", "units"] ["book", "f", "h", "m"] (defScope s_buy) := by walk_at "sc"
theorem ok_buy {f : Addr} {fd : FuncData} (F : Fun K "buy" "buy" s_buy f fd) (T : Txt K mg C) (O_is_worthless : Ok P w K mg base 2 "is_worthless" ["fund"] (spWorth C)) (O_units_for_money : Ok P w K mg base 2 "units_for_money" ["fund", "money"] (spUM C)) (O_add_to_holding : Ok P w K mg base 3 "add_to_holding" ["fund", "holder", "units", "cost"] (spAdd C)) (O_is_fund : Ok P w K mg base 2 "is_fund" ["number"] (spB1 Vbfual.isFund)) (O_is_holder : Ok P w K mg base 2 "is_holder" ["number"] (spB1 Vbfual.isHolder)) (O_within : Ok P w K mg base 1 "within" ["number", "lowest", "highest"] spWithin) (O_all_units : Ok P w K mg base 1 "all_units" ["fund"] (spSum C unitsOf)) : FnOk P w K mg base CX0 4 f fd ["book", "f", "h", "m"] (spBuy C) := by
  refine F.ok sc_buy (fun vs H Q E h => ?_) (fun cdv A outer s H vs Q E hr h => ?_)
  · obtain ⟨b, L, own, s, f, h, m, rfl, _⟩ := h
    rfl
  · obtain ⟨b, L, own, s, f, h, m, rfl, B, D⟩ := h
    have nd := sc_buy.nd
    have hu := hu_of hr
    have e1 := z0; have e2 := z0; have e3 := z0; have e4 := z0; have e5 := z0; have e6 := z0
    refine ⟨_, (pss_cons (ps_if (PW.pt (pw_or (pt_not (pt_val (pe_ok O_is_fund (hr.mono (by decide)) rfl (pa_cons (pv 1) pa_nil)))) (pw_or (pt_not (pt_val (pe_ok O_is_holder (hr.mono (by decide)) rfl (pa_cons (pv 2) pa_nil)))) (pw_or1 (pt_not (pt_val (pe_ok O_within (hr.mono (by decide)) rfl (pa_cons (pv 3) (pa_cons pe_int (pa_cons (pe_gint rfl T.c_MOST_BOUGHT_AT_ONCE) pa_nil)))))))))) (pss_one (ps_ret (pe_lst (pa_cons (pe_gint rfl T.c_OUT_OF_RANGE) pa_nil)))) pss_nil)
      (pss_cons (ps_set (i := 4) nd rfl (Or.inl rfl) (pe_dget hu (pe_fld (pv 0) rfl) (pv 1) (fun _ _ => rfl)))
      (pss_cons (ps_if (pt_val (pe_fld (pv 4) rfl)) (pss_one (ps_ret (pe_lst (pa_cons (pe_gint rfl T.c_NOT_ALLOWED) pa_nil)))) pss_nil)
      (pss_cons (ps_if (pt_val (pe_ok O_is_worthless (hr.mono (by decide)) rfl (pa_cons (pv 4) pa_nil))) (pss_one (ps_ret (pe_lst (pa_cons (pe_gint rfl T.c_NOTHING_TO_RECKON_BY) pa_nil)))) pss_nil)
      (pss_cons (ps_set (i := 5) nd rfl (Or.inl rfl) (pe_ok O_units_for_money (hr.mono (by decide)) rfl (pa_cons (pv 4) (pa_cons (pv 3) pa_nil))))
      (pss_cons (ps_if (pt_cmp (pc_eqI (pv 5) pe_int)) (pss_one (ps_ret (pe_lst (pa_cons (pe_gint rfl T.c_WRONG_AMOUNT) pa_nil)))) pss_nil)
      (pss_cons (ps_if (PW.pt (pw_or (pt_cmp (pc_gt (pe_op op_add (pe_fld (pv 4) rfl) (pv 3)) (pe_gint rfl T.c_MOST_VALUE))) (pw_or1 (pt_cmp (pc_gt (pe_op op_add (pe_ok O_all_units (hr.mono (by decide)) rfl (pa_cons (pv 4) pa_nil)) (pv 5)) (pe_gint rfl T.c_MOST_UNITS)))))) (pss_one (ps_ret (pe_lst (pa_cons (pe_gint rfl T.c_NO_ROOM) pa_nil)))) pss_nil)
      (pss_cons (ps_expr (pe_ok O_add_to_holding (hr.mono (by decide)) rfl (pa_cons (pv 4) (pa_cons (pv 2) (pa_cons (pv 5) (pa_cons (pv 3) pa_nil))))))
      (pss_cons (ps_fldaug (pv 4) (pv 3) in_add)
      (pss_cons (ps_daug hu (pe_fld (pv 0) rfl) (pv 2) (pv 3) in_sub (fun _ _ _ => rfl))
      (pss_one (ps_ret (pe_lst (pa_cons (pv 5) pa_nil)))))))))))))), ?_⟩
    refine seq_of fun N hN => ?_
    walk_at "rd"
    refine or3 (fun h1 => D.no B (if_pos h1)) fun h1 => hN _ _ ?_
    have hs : Vbfual.step s (.buy f h m) = Vbfual.doBuy s f.toNat h.toNat m.toNat := if_neg h1
    obtain ⟨f, rfl, hf⟩ := isFund_of fun z => h1 (.inl z)
    obtain ⟨h, rfl, hh⟩ := isHolder_of fun z => h1 (.inr (.inl z))
    obtain ⟨m, rfl, hm1, hm2⟩ := inside_of (fun z => h1 (.inr (.inr z))) (by decide)
    simp only [Int.toNat_natCast] at hs
    have F := B.fund f hf.1 hf.2
    have hx := B.ok.fok f hf.1 hf.2
    generalize hxe : fundAt s f = x at F hx
    unfold Vbfual.doBuy at hs
    rw [hxe] at hs
    dsimp only at hs
    have F0 := F
    obtain ⟨dx, d, E, F⟩ := F.open_
    obtain ⟨dxb, e2⟩ := B.bk
    have e1 := F.at_
    refine seq_of fun N hN => ?_
    walk_at "rde"
    refine ⟨_, dget B.fdic (B.fundGet hf), hN _ _ (seq_of fun N hN => ?_)⟩
    walk_at "rde"
    refine ite2 (fun h4 => D.no B (hs.trans (if_pos h4))) fun h4 => hN _ _ (seq_of fun N hN => ?_)
    walk_at "rde"
    rw [if_neg h4] at hs
    refine ⟨_, own, f, x, rfl, F0, ?_⟩
    walk_at "rde"
    refine ite2 (fun h5 => D.no B (hs.trans (if_pos ⟨h5.2, h5.1⟩))) fun h5 => hN _ _ (seq_of fun N hN => ?_)
    rw [if_neg (by omega)] at hs
    walk_at "rde"
    refine ⟨_, own, f, x, m, rfl, F0, hx, by omega, hN _ _ (seq_of fun N hN => ?_)⟩
    generalize (if unitsOf x = 0 then m * Vbfual.MILLION else m * unitsOf x / x.value) = n at hs
    walk_at "rde"
    refine ite2 (fun h6 => D.no B (hs.trans (if_pos (by omega)))) fun h6 => hN _ _ (seq_of fun N hN => ?_)
    walk_at "rde"
    rw [if_neg (by omega)] at hs
    have hmv : x.value + m ≤ 10 ^ 12 ∧ unitsOf x + n ≤ 10 ^ 18 ↔ ¬ (Vbfual.GREAT < x.value + m ∨ Vbfual.MANY < unitsOf x + n) := by
      show _ ↔ ¬ (10 ^ 12 < x.value + m ∨ 10 ^ 18 < unitsOf x + n)
      omega
    refine ite2 (fun h7 => D.no B (hs.trans (if_pos (Decidable.not_not.mp fun z => by have := hmv.mpr z; omega)))) fun h7 => ?_
    refine ⟨_, own, f, x, rfl, F0, ?_⟩
    walk_at "rde"
    refine ite2 (fun h8 => D.no B (hs.trans (if_pos (Decidable.not_not.mp fun z => by have := hmv.mpr z; omega)))) fun h8 => hN _ _ ?_
    walk_at "rde"
    have h7' := hmv.mp (by omega)
    rw [if_neg h7'] at hs
    refine ⟨_, own, f, x, h, n, m, rfl, F0, hh, fun own1 H1 F1 fr => ?_⟩
    obtain ⟨dx1, d1, E1, F1⟩ := F1.open_
    have e3 := F1.at_
    simp only [more_value, more_closing, more_declared] at e3
    walk_at "rde"
    have B2 := B.setFund hf (hx.buy (by simpa using h4) hh (by have := hmv.mpr h7'; exact this.1) (by have := hmv.mpr h7'; exact this.2)) (F1.write (vi := (x.value : Int) + m) (di := (x.declared : Int)) (v := x.value + m) (dn := x.declared) (c := x.closing) (Int.natCast_add _ _).symm rfl).close (fr.upd' F1.ow)
    have o2 := (fr.upd' (u := .ins C.f dx1 (fF (.int ((x.value : Int) + m)) (.ref d1) (.bl x.closing) (.int x.declared))) F1.ow).out (by omega)
    obtain ⟨dxb2, e4⟩ := B2.bk
    walk_at "rde"
    refine ⟨_, dget B2.cdic (T_val (mem_twenty hh)), ?_⟩
    walk_at "rde"
    refine ⟨_, DPut.k (k := Sum.inl (h : Int)) B2.cdic len20, ?_⟩
    rw [Int.sub_eq_add_neg]
    exact D.fin hs (B2.pays hh) (o2.trans (Out.upd B2.ocd (by decide)))
end
section
variable {P : Program} {w : World} {K : PySem.W.Frag} {mg : Str → Option Value} {base : Heap} {C : Cs}
def rp (x : Fund) (h u : Nat) : Int := if x.closing = true then -6 else if (holdingOf x h).units = 0 then -4 else if (holdingOf x h).units < u then -7 else 0
def spRP (C : Cs) : Sp := fun vs H Q _ => ∃ (a : Addr) (own : Own) (r : Nat) (x : Fund) (h u : Nat), vs = [.ref a, .int h, .int u] ∧ FundAt C own H r a x ∧ Q (.int (rp x h u)) H
abbrev s_refusal_to_part : Stmt := top 77
theorem sc_refusal_to_part : FnScope ["fund", "h", "u", "had"] ["fund", "h", "u"] (defScope s_refusal_to_part) := by walk_at "sc"
theorem ok_refusal_to_part {f : Addr} {fd : FuncData} (F : Fun K "refusal_to_part" "refusal_to_part" s_refusal_to_part f fd) (T : Txt K mg C) (O_units_of : Ok P w K mg base 1 "units_of" ["fund", "holder"] (spUnitsOf C)) : FnOk P w K mg base CX0 2 f fd ["fund", "h", "u"] (spRP C) := by
  refine F.ok sc_refusal_to_part (fun vs H Q E h => ?_) (fun cdv A outer s H vs Q E hr h => ?_)
  · obtain ⟨a, own, r, x, h, u, rfl, _⟩ := h
    rfl
  · obtain ⟨a, own, r, x, h, u, rfl, F, q⟩ := h
    have nd := sc_refusal_to_part.nd
    have hu := hu_of hr
    have e1 := z0; have e2 := z0; have e3 := z0; have e4 := z0; have e5 := z0; have e6 := z0
    refine ⟨_, (pss_cons (ps_if (pt_val (pe_fld (pv 0) rfl)) (pss_one (ps_ret (pe_gint rfl T.c_NOT_ALLOWED))) pss_nil)
      (pss_cons (ps_set (i := 3) nd rfl (Or.inl rfl) (pe_ok O_units_of (hr.mono (by decide)) rfl (pa_cons (pv 0) (pa_cons (pv 1) pa_nil))))
      (pss_cons (ps_if (pt_cmp (pc_eqI (pv 3) pe_int)) (pss_one (ps_ret (pe_gint rfl T.c_NOT_THERE))) pss_nil)
      (pss_cons (ps_if (pt_cmp (pc_lt (pv 3) (pv 2))) (pss_one (ps_ret (pe_gint rfl T.c_WRONG_AMOUNT))) pss_nil)
      (pss_one (ps_ret pe_int)))))), ?_⟩
    have F0 := F
    obtain ⟨dx, d, E, F⟩ := F.open_
    have e1 := F.at_
    walk_at "rde"
    unfold rp at q
    refine ite2 (fun h1 => by rw [if_pos h1] at q; exact q) fun h1 => ?_
    rw [if_neg h1] at q
    refine ⟨_, own, r, x, h, rfl, F0, ?_⟩
    walk_at "rde"
    refine ite2 (fun h2 => by rw [if_pos (by omega)] at q; exact q) fun h2 => ?_
    rw [if_neg (by omega)] at q
    refine ite2 (fun h3 => by rw [if_pos (by omega)] at q; exact q) fun h3 => ?_
    rw [if_neg (by omega)] at q
    exact q
theorem rp_zero {x : Fund} {h u : Nat} (e : rp x h u = 0) : x.closing = false ∧ (holdingOf x h).units ≠ 0 ∧ u ≤ (holdingOf x h).units := by
  unfold rp at e
  split at e
  · cases e
  · next h1 =>
    split at e
    · cases e
    · next h2 =>
      split at e
      · cases e
      · next h3 => exact ⟨by simpa using h1, h2, by omega⟩
theorem rp_sell {s : State} {f h u : Nat} (e : rp (fundAt s f) h u ≠ 0) : Vbfual.doSell s f h u = (s, [rp (fundAt s f) h u]) := by
  unfold Vbfual.doSell rp
  unfold rp at e
  dsimp only
  split
  · rfl
  · next h1 =>
    rw [if_neg h1] at e
    split
    · rfl
    · next h2 =>
      rw [if_neg h2] at e
      split
      · rfl
      · next h3 =>
        rw [if_neg h3] at e
        exact absurd rfl e
theorem rp_transfer {s : State} {f h g u : Nat} (e : rp (fundAt s f) h u ≠ 0) : Vbfual.doTransfer s f h g u = (s, [rp (fundAt s f) h u]) := by
  unfold Vbfual.doTransfer rp
  unfold rp at e
  dsimp only
  split
  · rfl
  · next h1 =>
    rw [if_neg h1] at e
    split
    · rfl
    · next h2 =>
      rw [if_neg h2] at e
      split
      · rfl
      · next h3 =>
        rw [if_neg h3] at e
        exact absurd rfl e
theorem less_value (h n c : Nat) (x : Fund) : (less h n c x).value = x.value := rfl
theorem less_closing (h n c : Nat) (x : Fund) : (less h n c x).closing = x.closing := rfl
theorem less_declared (h n c : Nat) (x : Fund) : (less h n c x).declared = x.declared := rfl
def spSell (C : Cs) : Sp := fun vs H Q _ => ∃ (b : Addr) (L : Lo) (own : Own) (s : State) (f h u : Int), vs = [.ref b, .int f, .int h, .int u] ∧ BookAt C L own H b s ∧ Done C own H b s (.sell f h u) Q
abbrev s_sell : Stmt := top 78
theorem sc_sell : FnScope ["book", "f", "h", "u", "fund", "refusal", "money", "cost"] ["book", "f", "h", "u"] (defScope s_sell) := by walk_at "sc"
theorem ok_sell {f : Addr} {fd : FuncData} (F : Fun K "sell" "sell" s_sell f fd) (T : Txt K mg C) (O_refusal_to_part : Ok P w K mg base 2 "refusal_to_part" ["fund", "h", "u"] (spRP C)) (O_take_from_holding : Ok P w K mg base 1 "take_from_holding" ["fund", "holder", "units"] (spTake C)) (O_all_units : Ok P w K mg base 1 "all_units" ["fund"] (spSum C unitsOf)) (O_is_fund : Ok P w K mg base 2 "is_fund" ["number"] (spB1 Vbfual.isFund)) (O_is_holder : Ok P w K mg base 2 "is_holder" ["number"] (spB1 Vbfual.isHolder)) (O_is_amount_of_units : Ok P w K mg base 2 "is_amount_of_units" ["number"] (spB1 fun n => Vbfual.inside n 1 (10 ^ 18))) : FnOk P w K mg base CX0 3 f fd ["book", "f", "h", "u"] (spSell C) := by
  refine F.ok sc_sell (fun vs H Q E h => ?_) (fun cdv A outer s H vs Q E hr h => ?_)
  · obtain ⟨b, L, own, s, f, h, m, rfl, _⟩ := h
    rfl
  · obtain ⟨b, L, own, s, f, h, u, rfl, B, D⟩ := h
    have nd := sc_sell.nd
    have hu := hu_of hr
    have e1 := z0; have e2 := z0; have e3 := z0; have e4 := z0; have e5 := z0; have e6 := z0
    refine ⟨_, (pss_cons (ps_if (PW.pt (pw_or (pt_not (pt_val (pe_ok O_is_fund (hr.mono (by decide)) rfl (pa_cons (pv 1) pa_nil)))) (pw_or (pt_not (pt_val (pe_ok O_is_holder (hr.mono (by decide)) rfl (pa_cons (pv 2) pa_nil)))) (pw_or1 (pt_not (pt_val (pe_ok O_is_amount_of_units (hr.mono (by decide)) rfl (pa_cons (pv 3) pa_nil)))))))) (pss_one (ps_ret (pe_lst (pa_cons (pe_gint rfl T.c_OUT_OF_RANGE) pa_nil)))) pss_nil)
      (pss_cons (ps_set (i := 4) nd rfl (Or.inl rfl) (pe_dget hu (pe_fld (pv 0) rfl) (pv 1) (fun _ _ => rfl)))
      (pss_cons (ps_set (i := 5) nd rfl (Or.inl rfl) (pe_ok O_refusal_to_part (hr.mono (by decide)) rfl (pa_cons (pv 4) (pa_cons (pv 2) (pa_cons (pv 3) pa_nil)))))
      (pss_cons (ps_if (pt_cmp (pc_neI (pv 5) pe_int)) (pss_one (ps_ret (pe_lst (pa_cons (pv 5) pa_nil)))) pss_nil)
      (pss_cons (ps_set (i := 6) nd rfl (Or.inl rfl) (pe_op op_fdivL (pe_op op_mul (pe_fld (pv 4) rfl) (pv 3)) (pe_ok O_all_units (hr.mono (by decide)) rfl (pa_cons (pv 4) pa_nil))))
      (pss_cons (ps_set (i := 7) nd rfl (Or.inl rfl) (pe_ok O_take_from_holding (hr.mono (by decide)) rfl (pa_cons (pv 4) (pa_cons (pv 2) (pa_cons (pv 3) pa_nil)))))
      (pss_cons (ps_fldaug (pv 4) (pv 6) in_sub)
      (pss_cons (ps_daug hu (pe_fld (pv 0) rfl) (pv 2) (pv 6) in_add (fun _ _ _ => rfl))
      (pss_one (ps_ret (pe_lst (pa_cons (pv 6) (pa_cons (pv 7) pa_nil))))))))))))), ?_⟩
    refine seq_of fun N hN => ?_
    walk_at "rd"
    refine or3 (fun h1 => D.no B (if_pos h1)) fun h1 => hN _ _ ?_
    have hs : Vbfual.step s (.sell f h u) = Vbfual.doSell s f.toNat h.toNat u.toNat := if_neg h1
    obtain ⟨f, rfl, hf⟩ := isFund_of fun z => h1 (.inl z)
    obtain ⟨h, rfl, hh⟩ := isHolder_of fun z => h1 (.inr (.inl z))
    obtain ⟨u, rfl, hm1, hm2⟩ := inside_of (fun z => h1 (.inr (.inr z))) (by decide)
    simp only [Int.toNat_natCast] at hs
    have F0 := B.fund f hf.1 hf.2
    have hx := B.ok.fok f hf.1 hf.2
    obtain ⟨dx, d, E, F⟩ := F0.open_
    obtain ⟨dxb, e2⟩ := B.bk
    have e1 := F.at_
    refine seq_of fun N hN => ?_
    walk_at "rde"
    refine ⟨_, dget B.fdic (B.fundGet hf), hN _ _ (seq_of fun N hN => ?_)⟩
    walk_at "rde"
    refine ⟨_, own, f, _, h, u, rfl, F0, hN _ _ (seq_of fun N hN => ?_)⟩
    walk_at "rde"
    refine ite2 (fun h2 => D.no B (hs.trans (rp_sell h2))) fun h2 => hN _ _ ?_
    obtain ⟨hc, hu0, hul⟩ := rp_zero (Decidable.not_not.mp h2)
    obtain ⟨y, hy, rfl, hye⟩ := holding_rng F0.sf hu0
    have hl : u ≤ (holdingOf (fundAt s f) y.holder).units := hul
    rw [hye] at hul hu0
    generalize hxe : fundAt s f = x at *
    have hU : y.units ≤ unitsOf x := le_sum (f := fun y : Holding => y.units) hy
    have hM : unitsOf x ≤ 1000000000000000000 := hx.many
    have hmon : ((x.value : Int) * u / unitsOf x) = ((x.value * u / unitsOf x : Nat) : Int) := by
      push_cast
      rfl
    have hml : x.value * u / unitsOf x ≤ x.value := Nat.div_le_of_le_mul (by rw [Nat.mul_comm]; exact Nat.mul_le_mul_right _ (by omega))
    unfold Vbfual.doSell at hs
    rw [hxe] at hs
    dsimp only at hs
    rw [hye, if_neg (by simp [hc]), if_neg hu0, if_neg (by omega)] at hs
    refine seq_of fun N hN => ?_
    walk_at "rde"
    refine ⟨cmul_r (by omega) (by omega), _, own, f, x, rfl, F0, ?_⟩
    walk_at "rde"
    refine ⟨cdiv_of (by omega) (by omega), hN _ _ ?_⟩
    rw [hmon]
    generalize x.value * u / unitsOf x = m at hs hml
    walk_at "rde"
    refine ⟨_, own, f, x, y, u, rfl, F0, hy, hul, by omega, fun H1 F1 fr => ?_⟩
    obtain ⟨dx1, d1, E1, F1⟩ := F1.open_
    have e3 := F1.at_
    simp only [less_value, less_closing, less_declared] at e3
    walk_at "rde"
    have B2 := B.setFund hf (hx.sell (m := m) (c := Vbfual.costOf y u) hc hh hl) (F1.write (vi := (x.value : Int) - m) (di := (x.declared : Int)) (v := x.value - m) (dn := x.declared) (c := x.closing) (by omega) rfl).close (fr.upd' F1.ow)
    have o2 := (fr.upd' (u := .ins C.f dx1 (fF (.int ((x.value : Int) - m)) (.ref d1) (.bl x.closing) (.int x.declared))) F1.ow).out (by omega)
    obtain ⟨dxb2, e4⟩ := B2.bk
    walk_at "rde"
    refine ⟨_, dget B2.cdic (T_val (mem_twenty hh)), ?_⟩
    walk_at "rde"
    refine ⟨_, DPut.k (k := Sum.inl (y.holder : Int)) B2.cdic len20, ?_⟩
    exact D.fin hs (B2.pays hh) (o2.trans (Out.upd B2.ocd (by decide)))
def spTransfer (C : Cs) : Sp := fun vs H Q _ => ∃ (b : Addr) (L : Lo) (own : Own) (s : State) (f h g u : Int), vs = [.ref b, .int f, .int h, .int g, .int u] ∧ BookAt C L own H b s ∧ Done C own H b s (.transfer f h g u) Q
abbrev s_transfer : Stmt := top 79
theorem sc_transfer : FnScope ["book", "f", "h", "g", "u", "fund", "refusal", "cost"] ["book", "f", "h", "g", "u"] (defScope s_transfer) := by walk_at "sc"
theorem ok_transfer {f : Addr} {fd : FuncData} (F : Fun K "transfer" "transfer" s_transfer f fd) (T : Txt K mg C) (O_refusal_to_part : Ok P w K mg base 2 "refusal_to_part" ["fund", "h", "u"] (spRP C)) (O_take_from_holding : Ok P w K mg base 1 "take_from_holding" ["fund", "holder", "units"] (spTake C)) (O_add_to_holding : Ok P w K mg base 3 "add_to_holding" ["fund", "holder", "units", "cost"] (spAdd C)) (O_is_fund : Ok P w K mg base 2 "is_fund" ["number"] (spB1 Vbfual.isFund)) (O_is_holder : Ok P w K mg base 2 "is_holder" ["number"] (spB1 Vbfual.isHolder)) (O_is_amount_of_units : Ok P w K mg base 2 "is_amount_of_units" ["number"] (spB1 fun n => Vbfual.inside n 1 (10 ^ 18))) : FnOk P w K mg base CX0 4 f fd ["book", "f", "h", "g", "u"] (spTransfer C) := by
  refine F.ok sc_transfer (fun vs H Q E h => ?_) (fun cdv A outer s H vs Q E hr h => ?_)
  · obtain ⟨b, L, own, s, f, h, g, m, rfl, _⟩ := h
    rfl
  · obtain ⟨b, L, own, s, f, h, g, u, rfl, B, D⟩ := h
    have nd := sc_transfer.nd
    have hu := hu_of hr
    have e1 := z0; have e2 := z0; have e3 := z0; have e4 := z0; have e5 := z0; have e6 := z0
    refine ⟨_, (pss_cons (ps_if (PW.pt (pw_or (pt_not (pt_val (pe_ok O_is_fund (hr.mono (by decide)) rfl (pa_cons (pv 1) pa_nil)))) (pw_or (pt_not (pt_val (pe_ok O_is_holder (hr.mono (by decide)) rfl (pa_cons (pv 2) pa_nil)))) (pw_or (pt_not (pt_val (pe_ok O_is_holder (hr.mono (by decide)) rfl (pa_cons (pv 3) pa_nil)))) (pw_or1 (pt_not (pt_val (pe_ok O_is_amount_of_units (hr.mono (by decide)) rfl (pa_cons (pv 4) pa_nil))))))))) (pss_one (ps_ret (pe_lst (pa_cons (pe_gint rfl T.c_OUT_OF_RANGE) pa_nil)))) pss_nil)
      (pss_cons (ps_set (i := 5) nd rfl (Or.inl rfl) (pe_dget hu (pe_fld (pv 0) rfl) (pv 1) (fun _ _ => rfl)))
      (pss_cons (ps_set (i := 6) nd rfl (Or.inl rfl) (pe_ok O_refusal_to_part (hr.mono (by decide)) rfl (pa_cons (pv 5) (pa_cons (pv 2) (pa_cons (pv 4) pa_nil)))))
      (pss_cons (ps_if (pt_cmp (pc_neI (pv 6) pe_int)) (pss_one (ps_ret (pe_lst (pa_cons (pv 6) pa_nil)))) pss_nil)
      (pss_cons (ps_if (pt_cmp (pc_eqI (pv 2) (pv 3))) (pss_one (ps_ret (pe_lst (pa_cons (pe_gint rfl T.c_NOT_ALLOWED) pa_nil)))) pss_nil)
      (pss_cons (ps_set (i := 7) nd rfl (Or.inl rfl) (pe_ok O_take_from_holding (hr.mono (by decide)) rfl (pa_cons (pv 5) (pa_cons (pv 2) (pa_cons (pv 4) pa_nil)))))
      (pss_cons (ps_expr (pe_ok O_add_to_holding (hr.mono (by decide)) rfl (pa_cons (pv 5) (pa_cons (pv 3) (pa_cons (pv 4) (pa_cons (pv 7) pa_nil))))))
      (pss_one (ps_ret (pe_lst (pa_cons (pv 7) pa_nil))))))))))), ?_⟩
    refine seq_of fun N hN => ?_
    walk_at "rd"
    refine or4 (fun h1 => D.no B (if_pos h1)) fun h1 => hN _ _ ?_
    have hs : Vbfual.step s (.transfer f h g u) = Vbfual.doTransfer s f.toNat h.toNat g.toNat u.toNat := if_neg h1
    obtain ⟨f, rfl, hf⟩ := isFund_of fun z => h1 (.inl z)
    obtain ⟨h, rfl, hh⟩ := isHolder_of fun z => h1 (.inr (.inl z))
    obtain ⟨g, rfl, hg⟩ := isHolder_of fun z => h1 (.inr (.inr (.inl z)))
    obtain ⟨u, rfl, hm1, hm2⟩ := inside_of (fun z => h1 (.inr (.inr (.inr z)))) (by decide)
    simp only [Int.toNat_natCast] at hs
    have F0 := B.fund f hf.1 hf.2
    have hx := B.ok.fok f hf.1 hf.2
    obtain ⟨dxb, e2⟩ := B.bk
    refine seq_of fun N hN => ?_
    walk_at "rde"
    refine ⟨_, dget B.fdic (B.fundGet hf), hN _ _ (seq_of fun N hN => ?_)⟩
    walk_at "rde"
    refine ⟨_, own, f, _, h, u, rfl, F0, hN _ _ (seq_of fun N hN => ?_)⟩
    walk_at "rde"
    refine ite2 (fun h2 => D.no B (hs.trans (rp_transfer h2))) fun h2 => hN _ _ ?_
    obtain ⟨hc, hu0, hul⟩ := rp_zero (Decidable.not_not.mp h2)
    obtain ⟨y, hy, rfl, hye⟩ := holding_rng F0.sf hu0
    have hl : u ≤ (holdingOf (fundAt s f) y.holder).units := hul
    rw [hye] at hul hu0
    generalize hxe : fundAt s f = x at *
    have hU : y.units ≤ unitsOf x := le_sum (f := fun y : Holding => y.units) hy
    have hM : unitsOf x ≤ 1000000000000000000 := hx.many
    unfold Vbfual.doTransfer at hs
    rw [hxe] at hs
    dsimp only at hs
    rw [hye, if_neg (by simp [hc]), if_neg hu0, if_neg (by omega)] at hs
    walk_at "rde"
    refine ite2 (fun h3 => D.no B (hs.trans (if_pos (by omega)))) fun h3 => ?_
    rw [if_neg (by omega)] at hs
    refine ⟨_, own, f, x, y, u, rfl, F0, hy, hul, by omega, fun H1 F1 fr => ?_⟩
    refine ⟨_, own, f, _, g, u, _, rfl, F1, hg, fun own2 H2 F2 fr2 => ?_⟩
    walk_at "rde"
    have B2 := B.setFund hf (hx.transfer (c := Vbfual.costOf y u) hc hh hg hl) F2 (fr.trans fr2)
    exact D.fin hs B2 ((fr.trans fr2).out (by omega))
def spResult (C : Cs) : Sp := fun vs H Q _ => ∃ (b : Addr) (L : Lo) (own : Own) (s : State) (f d : Int), vs = [.ref b, .int f, .int d] ∧ BookAt C L own H b s ∧ Done C own H b s (.result f d) Q
abbrev s_result : Stmt := top 80
theorem sc_result : FnScope ["book", "f", "d", "fund", "value"] ["book", "f", "d"] (defScope s_result) := by walk_at "sc"
theorem ok_result {f : Addr} {fd : FuncData} (F : Fun K "result" "result" s_result f fd) (T : Txt K mg C) (O_all_units : Ok P w K mg base 1 "all_units" ["fund"] (spSum C unitsOf)) (O_is_fund : Ok P w K mg base 2 "is_fund" ["number"] (spB1 Vbfual.isFund)) (O_within : Ok P w K mg base 1 "within" ["number", "lowest", "highest"] spWithin) (O_all_paid : Ok P w K mg base 1 "all_paid" ["fund"] (spSum C gotIn)) : FnOk P w K mg base CX0 3 f fd ["book", "f", "d"] (spResult C) := by
  refine F.ok sc_result (fun vs H Q E h => ?_) (fun cdv A outer s H vs Q E hr h => ?_)
  · obtain ⟨b, L, own, s, f, d, rfl, _⟩ := h
    rfl
  · obtain ⟨b, L, own, s, f, d, rfl, B, D⟩ := h
    have nd := sc_result.nd
    have hu := hu_of hr
    have e1 := z0; have e2 := z0; have e3 := z0; have e4 := z0; have e5 := z0; have e6 := z0
    refine ⟨_, (pss_cons (ps_if (PW.pt (pw_or (pt_not (pt_val (pe_ok O_is_fund (hr.mono (by decide)) rfl (pa_cons (pv 1) pa_nil)))) (pw_or1 (pt_not (pt_val (pe_ok O_within (hr.mono (by decide)) rfl (pa_cons (pv 2) (pa_cons (pe_un un_neg (pe_gint rfl T.c_MOST_VALUE)) (pa_cons (pe_gint rfl T.c_MOST_VALUE) pa_nil))))))))) (pss_one (ps_ret (pe_lst (pa_cons (pe_gint rfl T.c_OUT_OF_RANGE) pa_nil)))) pss_nil)
      (pss_cons (ps_set (i := 3) nd rfl (Or.inl rfl) (pe_dget hu (pe_fld (pv 0) rfl) (pv 1) (fun _ _ => rfl)))
      (pss_cons (ps_if (pt_cmp (pc_eqI (pe_ok O_all_units (hr.mono (by decide)) rfl (pa_cons (pv 3) pa_nil)) pe_int)) (pss_one (ps_ret (pe_lst (pa_cons (pe_gint rfl T.c_NOTHING_TO_RECKON_BY) pa_nil)))) pss_nil)
      (pss_cons (ps_set (i := 4) nd rfl (Or.inl rfl) (pe_op op_add (pe_fld (pv 3) rfl) (pv 2)))
      (pss_cons (ps_if (pt_cmp (pc_lt (pv 4) pe_int)) (pss_one (ps_ret (pe_lst (pa_cons (pe_gint rfl T.c_WRONG_AMOUNT) pa_nil)))) pss_nil)
      (pss_cons (ps_if (PW.pt (pw_and (pt_val (pe_fld (pv 3) rfl)) (pw_and1 (pt_cmp (pc_lt (pv 4) (pe_op op_sub (pe_fld (pv 3) rfl) (pe_ok O_all_paid (hr.mono (by decide)) rfl (pa_cons (pv 3) pa_nil)))))))) (pss_one (ps_ret (pe_lst (pa_cons (pe_gint rfl T.c_WRONG_AMOUNT) pa_nil)))) pss_nil)
      (pss_cons (ps_if (pt_cmp (pc_gt (pv 4) (pe_gint rfl T.c_MOST_VALUE))) (pss_one (ps_ret (pe_lst (pa_cons (pe_gint rfl T.c_NO_ROOM) pa_nil)))) pss_nil)
      (pss_cons (ps_fld (pv 3) (pv 4) rfl)
      (pss_one (ps_ret (pe_lst (pa_cons (pv 4) pa_nil)))))))))))), ?_⟩
    refine seq_of fun N hN => ?_
    walk_at "rd"
    refine or2 (fun h1 => D.no B (if_pos h1)) fun h1 => hN _ _ ?_
    have hs := show Vbfual.step s (.result f d) = _ from if_neg h1
    obtain ⟨f, rfl, hf⟩ := isFund_of fun z => h1 (.inl z)
    have hd := fun z => h1 (.inr z)
    rw [in_not] at hd
    simp only [Int.toNat_natCast] at hs
    have F0 := B.fund f hf.1 hf.2
    have hx := B.ok.fok f hf.1 hf.2
    generalize hxe : fundAt s f = x at *
    obtain ⟨dx, d', E, F⟩ := F0.open_
    obtain ⟨dxb, e2⟩ := B.bk
    have e1 := F.at_
    refine seq_of fun N hN => ?_
    walk_at "rde"
    refine ⟨_, dget B.fdic (B.fundGet hf), hN _ _ (seq_of fun N hN => ?_)⟩
    walk_at "rde"
    refine ⟨_, own, f, x, rfl, F0, ?_⟩
    walk_at "rde"
    refine ite2 (fun h2 => D.no B (hs.trans (if_pos (by omega)))) fun h2 => hN _ _ ?_
    rw [if_neg (by omega)] at hs
    generalize hB : (if x.closing = true then ((x.declared - gotIn x : Nat) : Int) else 0) = bd at hs
    have hb0 : 0 ≤ bd := by
      rw [← hB]
      split <;> omega
    walk_at "rde"
    refine ite2 (fun h3 => D.no B (hs.trans (if_pos (by omega)))) fun h3 => ?_
    have fin : ¬ ((x.value : Int) + d < bd) → if (1000000000000 : Int) < x.value + d then (∀ p, H p = none → Q (.ref p) (upd H p (.lst [.int (-8)]))) else
        ∀ p, upd H (L.fa f) (.ins C.f dx (fF (.int (x.value + d)) (.ref d') (.bl x.closing) (.int x.declared))) p = none →
          Q (.ref p) (upd (upd H (L.fa f) (.ins C.f dx (fF (.int (x.value + d)) (.ref d') (.bl x.closing) (.int x.declared)))) p (.lst [.int (x.value + d)])) := fun h4 => by
      rw [if_neg h4] at hs
      refine ite2 (fun h5 => D.no B (hs.trans (if_pos h5))) fun h5 => ?_
      have h5' : ¬ ((Vbfual.GREAT : Nat) : Int) < x.value + d := h5
      rw [if_neg h5'] at hs
      have B2 := B.setFund hf (hx.result (v := ((x.value : Int) + d).toNat) (by show _ ≤ 10 ^ 12; omega) fun hc => by rw [if_pos hc] at hB; omega) (F.write (vi := (x.value : Int) + d) (di := (x.declared : Int)) (dn := x.declared) (c := x.closing) (by omega) rfl).close (Frm.upd F.ow)
      have q := D.fin hs B2 ((Frm.upd F.ow).out (by omega))
      have e9 : [(((((x.value : Int) + d).toNat : Nat)) : Int)].map V.int = [.int ((x.value : Int) + d)] := by
        rw [List.map_cons, List.map_nil, Int.toNat_of_nonneg (by omega)]
      intro p hp
      have q2 := q p hp
      exact e9 ▸ q2
    refine ite2 (fun hc => ?_) fun hc => ?_
    · refine ⟨_, own, f, x, rfl, F0, ?_⟩
      walk_at "rde"
      rw [if_pos hc] at hB
      refine ite2 (fun h6 => D.no B (hs.trans (if_pos (by omega)))) fun h6 => fin (by omega)
    · rw [if_neg hc] at hB
      exact fin (by omega)
end
section
variable {P : Program} {w : World} {K : PySem.W.Frag} {mg : Str → Option Value} {base : Heap} {C : Cs}
def spScheme (C : Cs) : Sp := fun vs H Q _ => ∃ (p dx : Addr) (k a b pt q n : Int), vs = [.ref p, .int k, .int a, .int b, .int pt, .int q, .int n] ∧ Good H ∧ H p = some (.ins C.s dx []) ∧
  ∀ (H' : Hp) (vd pd : Addr), Good H' → H' p = some (.ins C.s dx (fS (.int k) (.int a) (.int b) (.int pt) (.int q) (.int n) (.ref vd) (.ref pd) (.int 0))) → H' vd = some (.dK []) → H' pd = some (.dK []) → vd ≠ pd → H vd = none → H pd = none →
    (∀ b o, H b = some o → b ≠ p → H' b = some o) → Q .non H'
abbrev s_Scheme_init : Stmt := inClass (top 31) 0
theorem sc_Scheme_init : FnScope ["self", "kind", "fund_number", "other_number", "part", "quorum", "need"] ["self", "kind", "fund_number", "other_number", "part", "quorum", "need"] (defScope s_Scheme_init) := by walk_at "sc"
theorem ok_Scheme_init {f : Addr} {fd : FuncData} (F : Fun K "__init__" "Scheme.__init__" s_Scheme_init f fd) (T : Txt K mg C) : FnOk P w K mg base CX0 1 f fd ["self", "kind", "fund_number", "other_number", "part", "quorum", "need"] (spScheme C) := by
  refine F.ok sc_Scheme_init (fun vs H Q E h => ?_) (fun cdv A outer s H vs Q E hr h => ?_)
  · obtain ⟨p, dx, k, a, b, pt, q, n, rfl, _⟩ := h
    rfl
  · obtain ⟨p, dx, k, a, b, pt, q, n, rfl, g, hp, w⟩ := h
    have nd := sc_Scheme_init.nd
    have hu := hu_of hr
    have e1 := z0; have e2 := z0; have e3 := z0; have e4 := z0; have e5 := z0; have e6 := z0
    refine ⟨_, (pss_cons (ps_fld (pv 0) (pv 1) rfl)
      (pss_cons (ps_fld (pv 0) (pv 2) rfl)
      (pss_cons (ps_fld (pv 0) (pv 3) rfl)
      (pss_cons (ps_fld (pv 0) (pv 4) rfl)
      (pss_cons (ps_fld (pv 0) (pv 5) rfl)
      (pss_cons (ps_fld (pv 0) (pv 6) rfl)
      (pss_cons (ps_fld (pv 0) pe_dnewK rfl)
      (pss_cons (ps_fld (pv 0) pe_dnewK rfl)
      (pss_one (ps_fld (pv 0) (pe_gint rfl T.c_STATE_OPEN) rfl)))))))))), ?_⟩
    have e1 := hp
    walk_at "rde"
    intro vd hvd
    have n1 : vd ≠ p := fun e => by rw [e, upd_same] at hvd; cases hvd
    have n2 : H vd = none := by rw [upd_ne n1] at hvd; exact hvd
    have e2 := fun (G : Hp) (o : HO) => upd_ne (H := G) (o := o) n1.symm
    walk_at "rde"
    intro pd hpd
    have n3 : pd ≠ p := fun e => by rw [e, upd_same] at hpd; cases hpd
    have n4 : pd ≠ vd := fun e => by rw [upd_ne n3, e, upd_same] at hpd; cases hpd
    have n5 : H pd = none := by rw [upd_ne n3, upd_ne n4, upd_ne n3] at hpd; exact hpd
    have e3 := fun (G : Hp) (o : HO) => upd_ne (H := G) (o := o) n3.symm
    walk_at "rde"
    refine w _ vd pd ?_ upd_same ?_ ?_ n4.symm n2 n5 fun b o e hb => ?_
    · exact ((((g.upd (by intro _ z; cases z)).upd (by intro _ z; cases z)).upd (by intro _ z; cases z)).upd (by intro _ z; cases z)).upd (by intro _ z; cases z)
    · rw [upd_ne n1, upd_ne n4.symm, upd_ne n1, upd_same]
    · rw [upd_ne n3, upd_same]
    · rw [upd_ne hb, upd_ne (ne_of_none e n5), upd_ne hb, upd_ne (ne_of_none e n2), upd_ne hb]
      exact e
def fits (k a b : Int) : Bool := if k = 3 then decide (b = 0) else decide (b ≠ 0) && decide (b ≠ a)
theorem fits_iff {k a b : Int} : fits k a b = false ↔ (if k = 3 then decide (b ≠ 0) else decide (b = 0 ∨ b = a)) = true := by
  unfold fits
  split
  · simp
  · simp
    omega
def spFits : Sp := fun vs H Q _ => ∃ k a b : Int, vs = [.int k, .int a, .int b] ∧ Q (.bl (fits k a b)) H
abbrev s_fits_kind : Stmt := top 40
theorem sc_fits_kind : FnScope ["kind", "a", "b"] ["kind", "a", "b"] (defScope s_fits_kind) := by walk_at "sc"
theorem ok_fits_kind {f : Addr} {fd : FuncData} (F : Fun K "fits_kind" "fits_kind" s_fits_kind f fd) (T : Txt K mg C) : FnOk P w K mg base CX0 1 f fd ["kind", "a", "b"] spFits := by
  refine F.ok sc_fits_kind (fun vs H Q E h => ?_) (fun cdv A outer s H vs Q E hr h => ?_)
  · obtain ⟨k, a, b, rfl, _⟩ := h
    rfl
  · obtain ⟨k, a, b, rfl, q⟩ := h
    have nd := sc_fits_kind.nd
    have hu := hu_of hr
    have e1 := z0; have e2 := z0; have e3 := z0; have e4 := z0; have e5 := z0; have e6 := z0
    refine ⟨_, (pss_cons (ps_if (pt_cmp (pc_eqI (pv 0) (pe_gint rfl T.c_CLOSE))) (pss_one (ps_ret (pe_cmp (pc_eqI (pv 2) pe_int)))) pss_nil)
      (pss_one (ps_ret (pe_and (pe_cmp (pc_neI (pv 2) pe_int)) (pe_one (pe_cmp (pc_neI (pv 2) (pv 1)))))))), ?_⟩
    walk_at "rd"
    unfold fits at q
    refine ite2 (fun h => by rw [if_pos h] at q; exact q) fun h => ?_
    rw [if_neg h] at q
    split
    · next h2 => simpa [h2] using q
    · next h2 =>
      have h2' : b = 0 := by simpa using h2
      simpa [h2'] using q
def rn (s : State) (n : Int) : Int := if Vbfual.inside n 1 1000000 = false then -1 else match s.schemes.find? (fun x => (x.num : Int) == n) with
  | none => -4
  | some _ => 0
def spRN (C : Cs) : Sp := fun vs H Q _ => ∃ (b : Addr) (L : Lo) (own : Own) (s : State) (n : Int), vs = [.ref b, .int n] ∧ BookAt C L own H b s ∧ Q (.int (rn s n)) H
abbrev s_refusal_of_number : Stmt := top 42
theorem sc_refusal_of_number : FnScope ["book", "n"] ["book", "n"] (defScope s_refusal_of_number) := by walk_at "sc"
theorem ok_refusal_of_number {f : Addr} {fd : FuncData} (F : Fun K "refusal_of_number" "refusal_of_number" s_refusal_of_number f fd) (T : Txt K mg C) (O_within : Ok P w K mg base 1 "within" ["number", "lowest", "highest"] spWithin) : FnOk P w K mg base CX0 2 f fd ["book", "n"] (spRN C) := by
  refine F.ok sc_refusal_of_number (fun vs H Q E h => ?_) (fun cdv A outer s H vs Q E hr h => ?_)
  · obtain ⟨b, L, own, s, n, rfl, _⟩ := h
    rfl
  · obtain ⟨b, L, own, s, n, rfl, B, q⟩ := h
    have nd := sc_refusal_of_number.nd
    have hu := hu_of hr
    have e1 := z0; have e2 := z0; have e3 := z0; have e4 := z0; have e5 := z0; have e6 := z0
    refine ⟨_, (pss_cons (ps_if (pt_not (pt_val (pe_ok O_within (hr.mono (by decide)) rfl (pa_cons (pv 1) (pa_cons pe_int (pa_cons (pe_gint rfl T.c_HIGHEST_SCHEME_NUMBER) pa_nil)))))) (pss_one (ps_ret (pe_gint rfl T.c_OUT_OF_RANGE))) pss_nil)
      (pss_cons (ps_if (pt_cmp (pc_dnotin hu (pv 1) (pe_fld (pv 0) rfl))) (pss_one (ps_ret (pe_gint rfl T.c_NOT_THERE))) pss_nil)
      (pss_one (ps_ret pe_int)))), ?_⟩
    obtain ⟨dxb, e2⟩ := B.bk
    walk_at "rde"
    unfold rn at q
    refine ite2 (fun h => by rw [if_pos h] at q; exact q) fun h => ?_
    rw [if_neg h] at q
    refine ⟨_, DGet.k (k := Sum.inl n) B.sdic, ?_⟩
    rcases B.find n with ⟨z, hz, hn, hfz, hv⟩ | ⟨hfz, hv⟩
    · rw [hv]
      rw [hfz] at q
      exact q
    · rw [hv]
      rw [hfz] at q
      exact q
def rs (s : State) (n st : Int) : Int := if Vbfual.inside n 1 1000000 = false then -1 else match s.schemes.find? (fun x => (x.num : Int) == n) with
  | none => -4
  | some z => if (z.status : Int) ≠ st then -5 else 0
def spRS (C : Cs) : Sp := fun vs H Q _ => ∃ (b : Addr) (L : Lo) (own : Own) (s : State) (n st : Int), vs = [.ref b, .int n, .int st] ∧ BookAt C L own H b s ∧ Q (.int (rs s n st)) H
abbrev s_refusal_of_state : Stmt := top 43
theorem sc_refusal_of_state : FnScope ["book", "n", "state", "refusal"] ["book", "n", "state"] (defScope s_refusal_of_state) := by walk_at "sc"
theorem ok_refusal_of_state {f : Addr} {fd : FuncData} (F : Fun K "refusal_of_state" "refusal_of_state" s_refusal_of_state f fd) (T : Txt K mg C) (O_refusal_of_number : Ok P w K mg base 2 "refusal_of_number" ["book", "n"] (spRN C)) : FnOk P w K mg base CX0 3 f fd ["book", "n", "state"] (spRS C) := by
  refine F.ok sc_refusal_of_state (fun vs H Q E h => ?_) (fun cdv A outer s H vs Q E hr h => ?_)
  · obtain ⟨b, L, own, s, n, st, rfl, _⟩ := h
    rfl
  · obtain ⟨b, L, own, s, n, st, rfl, B, q⟩ := h
    have nd := sc_refusal_of_state.nd
    have hu := hu_of hr
    have e1 := z0; have e2 := z0; have e3 := z0; have e4 := z0; have e5 := z0; have e6 := z0
    refine ⟨_, (pss_cons (ps_set (i := 3) nd rfl (Or.inl rfl) (pe_ok O_refusal_of_number (hr.mono (by decide)) rfl (pa_cons (pv 0) (pa_cons (pv 1) pa_nil))))
      (pss_cons (ps_if (PW.pt (pw_and (pt_cmp (pc_eqI (pv 3) pe_int)) (pw_and1 (pt_cmp (pc_neI (pe_fld (pe_dget hu (pe_fld (pv 0) rfl) (pv 1) (fun _ _ => rfl)) rfl) (pv 2)))))) (pss_one (ps_ret (pe_gint rfl T.c_WRONG_STATE))) pss_nil)
      (pss_one (ps_ret (pv 3))))), ?_⟩
    obtain ⟨dxb, e2⟩ := B.bk
    walk_at "rde"
    refine ⟨_, L, own, s, n, rfl, B, ?_⟩
    walk_at "rde"
    unfold rs at q
    unfold rn
    by_cases h : Vbfual.inside n 1 1000000 = false
    · rw [if_pos h] at q
      simp only [if_pos h]
      rw [if_neg (by decide)]
      exact q
    · rw [if_neg h] at q
      simp only [if_neg h]
      rcases B.find n with ⟨z, hz, hn, hfz, hv⟩ | ⟨hfz, hv⟩
      · simp only [hfz] at q ⊢
        rw [if_pos trivial]
        obtain ⟨dz, vd, pd, kvs, kps, Z⟩ := (B.sch z hz).open_
        have e1 := Z.at_
        refine ⟨_, dget B.sdic hv, L.za z.num, rfl, ?_⟩
        walk_at "rde"
        refine ite2 (fun h2 => ?_) fun h2 => ?_
        · rw [if_pos h2] at q
          exact q
        · rw [if_neg h2] at q
          exact q
      · simp only [hfz] at q ⊢
        rw [if_neg (by decide)]
        exact q
end
section
variable {P : Program} {w : World} {K : PySem.W.Frag} {mg : Str → Option Value} {base : Heap} {C : Cs}
theorem T_len {l : List Nat} {g : Nat → V} : (T l g).length = l.length := List.length_map _
def spPropose (C : Cs) : Sp := fun vs H Q _ => ∃ (b : Addr) (L : Lo) (own : Own) (s : State) (k a o p q n : Int), vs = [.ref b, .int k, .int a, .int o, .int p, .int q, .int n] ∧ BookAt C L own H b s ∧ Done C own H b s (.propose k a o p q n) Q
theorem o6 {a b c R : Prop} : (a ∨ b ∨ c) ∨ R → a ∨ b ∨ c ∨ R := fun h => by rw [or_assoc, or_assoc] at h; exact h
theorem n6 {a b c R : Prop} (h : ¬ (a ∨ b ∨ c)) (k : ¬ R) : ¬ (a ∨ b ∨ c ∨ R) := fun z => z.elim (fun z => h (.inl z)) fun z => z.elim (fun z => h (.inr (.inl z))) fun z => z.elim (fun z => h (.inr (.inr z))) k
abbrev s_propose : Stmt := top 41
theorem sc_propose : FnScope ["book", "kind", "a", "b", "part", "quorum", "need", "number"] ["book", "kind", "a", "b", "part", "quorum", "need"] (defScope s_propose) := by walk_at "sc"
theorem ok_propose {f : Addr} {fd : FuncData} (F : Fun K "propose" "propose" s_propose f fd) (T : Txt K mg C) (O_Scheme : OkC P w K mg base 1 "Scheme" C.s ["self", "kind", "fund_number", "other_number", "part", "quorum", "need"] (spScheme C)) (O_fits_kind : Ok P w K mg base 1 "fits_kind" ["kind", "a", "b"] spFits) (O_within : Ok P w K mg base 1 "within" ["number", "lowest", "highest"] spWithin) (O_is_fund : Ok P w K mg base 2 "is_fund" ["number"] (spB1 Vbfual.isFund)) (O_is_millionths : Ok P w K mg base 2 "is_millionths" ["number"] (spB1 fun n => Vbfual.inside n 0 1000000)) : FnOk P w K mg base CX0 3 f fd ["book", "kind", "a", "b", "part", "quorum", "need"] (spPropose C) := by
  refine F.ok sc_propose (fun vs H Q E h => ?_) (fun cdv A outer s H vs Q E hr h => ?_)
  · obtain ⟨b, L, own, s, k, a, o, p, q, n, rfl, _⟩ := h
    rfl
  · obtain ⟨b, L, own, s, k, a, o, p, q, n, rfl, B, D⟩ := h
    have nd := sc_propose.nd
    have hu := hu_of hr
    have e1 := z0; have e2 := z0; have e3 := z0; have e4 := z0; have e5 := z0; have e6 := z0
    refine ⟨_, (pss_cons (ps_if (PW.pt (pw_or (pt_not (pt_val (pe_ok O_within (hr.mono (by decide)) rfl (pa_cons (pv 1) (pa_cons pe_int (pa_cons (pe_gint rfl T.c_CLOSE) pa_nil)))))) (pw_or (pt_not (pt_val (pe_ok O_is_fund (hr.mono (by decide)) rfl (pa_cons (pv 2) pa_nil)))) (pw_or1 (pt_not (pt_val (pe_ok O_within (hr.mono (by decide)) rfl (pa_cons (pv 3) (pa_cons pe_int (pa_cons (pe_gint rfl T.c_FUNDS) pa_nil)))))))))) (pss_one (ps_ret (pe_lst (pa_cons (pe_gint rfl T.c_OUT_OF_RANGE) pa_nil)))) pss_nil)
      (pss_cons (ps_if (PW.pt (pw_or (pt_not (pt_val (pe_ok O_is_millionths (hr.mono (by decide)) rfl (pa_cons (pv 4) pa_nil)))) (pw_or (pt_not (pt_val (pe_ok O_is_millionths (hr.mono (by decide)) rfl (pa_cons (pv 5) pa_nil)))) (pw_or1 (pt_not (pt_val (pe_ok O_is_millionths (hr.mono (by decide)) rfl (pa_cons (pv 6) pa_nil)))))))) (pss_one (ps_ret (pe_lst (pa_cons (pe_gint rfl T.c_OUT_OF_RANGE) pa_nil)))) pss_nil)
      (pss_cons (ps_if (pt_not (pt_val (pe_ok O_fits_kind (hr.mono (by decide)) rfl (pa_cons (pv 1) (pa_cons (pv 2) (pa_cons (pv 3) pa_nil)))))) (pss_one (ps_ret (pe_lst (pa_cons (pe_gint rfl T.c_NOT_ALLOWED) pa_nil)))) pss_nil)
      (pss_cons (ps_if (pt_cmp (pc_eqI (pe_callB call_lenD (by rfl) T.b_len PySem.boot_len (pa_cons (pe_fld (pv 0) rfl) pa_nil)) (pe_gint rfl T.c_MOST_SCHEMES))) (pss_one (ps_ret (pe_lst (pa_cons (pe_gint rfl T.c_NO_ROOM) pa_nil)))) pss_nil)
      (pss_cons (ps_set (i := 7) nd rfl (Or.inl rfl) (pe_op op_add (pe_callB call_lenD (by rfl) T.b_len PySem.boot_len (pa_cons (pe_fld (pv 0) rfl) pa_nil)) pe_int))
      (pss_cons (ps_dput hu (pe_fld (pv 0) rfl) (pv 7) (pe_mk O_Scheme (hr.mono (by decide)) rfl (pa_cons (pv 1) (pa_cons (pv 2) (pa_cons (pv 3) (pa_cons (pv 4) (pa_cons (pv 5) (pa_cons (pv 6) pa_nil))))))) rfl)
      (pss_one (ps_ret (pe_lst (pa_cons (pv 7) pa_nil)))))))))), ?_⟩
    obtain ⟨dxb, e2⟩ := B.bk
    refine seq_of fun N hN => ?_
    walk_at "rd"
    refine or3 (fun h1 => D.no B (if_pos (o6 (.inl h1)))) fun h0 => hN _ _ (seq_of fun N hN => ?_)
    walk_at "rd"
    refine or3 (fun h1 => D.no B (if_pos (o6 (.inr h1)))) fun h00 => hN _ _ (seq_of fun N hN => ?_)
    have h1 := n6 h0 h00
    have hs := show Vbfual.step s (.propose k a o p q n) = _ from if_neg h1
    walk_at "rde"
    refine ⟨_, _, _, rfl, ?_⟩
    walk_at "rde"
    refine ite2 (fun h2 => D.no B (hs.trans (if_pos (fits_iff.mp h2)))) fun h2 => hN _ _ (seq_of fun N hN => ?_)
    walk_at "rde"
    rw [if_neg (fun z => h2 (fits_iff.mpr z))] at hs
    refine ⟨_, B.sdic, ?_⟩
    have hlen : (R.T (s.schemes.map fun z => z.num) fun i => V.ref (L.za i)).length = s.schemes.length := by rw [T_len, List.length_map]
    rw [hlen]
    have hle := B.ok.ns
    refine ite2 (fun h3 => D.no B (hs.trans (if_pos (by show 20 ≤ _; omega)))) fun h3 => hN _ _ (seq_of fun N hN => ?_)
    walk_at "rde"
    rw [if_neg (by show ¬ 20 ≤ _; omega)] at hs
    refine ⟨_, B.sdic, hN _ _ ?_⟩
    rw [hlen]
    walk_at "rde"
    have hok := B.ok.step (.propose k a o p q n)
    rw [hs] at hok
    obtain ⟨k, rfl, hk⟩ := inside_of (fun z => h1 (.inl z)) (by decide)
    obtain ⟨a, rfl, ha⟩ := isFund_of (fun z => h1 (.inr (.inl z)))
    obtain ⟨o, rfl, ho⟩ := inside_of (fun z => h1 (.inr (.inr (.inl z)))) (by decide)
    obtain ⟨p, rfl, hp⟩ := inside_of (fun z => h1 (.inr (.inr (.inr (.inl z))))) (by decide)
    obtain ⟨q, rfl, hq⟩ := inside_of (fun z => h1 (.inr (.inr (.inr (.inr (.inl z)))))) (by decide)
    obtain ⟨n, rfl, hn⟩ := inside_of (fun z => h1 (.inr (.inr (.inr (.inr (.inr z)))))) (by decide)
    simp only [Int.toNat_natCast] at hs hok
    have hnum : (s.schemes.length : Int) + 1 = ((s.next : Nat) : Int) := by
      rw [B.ok.next]
      push_cast
      rfl
    rw [hnum]
    intro z dz hz hdz nz
    refine ⟨z, dz, k, a, o, p, q, n, rfl, (B.good.upd (by intro _ z; cases z)).upd (by intro _ z; cases z), upd_same, fun H2 vd pd G2 hz2 hvd hpd nvp nv np k2 => ⟨rfl, ?_⟩⟩
    have kk : ∀ c oo, H c = some oo → H2 c = some oo := fun c oo e => k2 c oo (by rw [upd_ne (ne_of_none e hz), upd_ne (ne_of_none e hdz)]; exact e) (ne_of_none e hz)
    have nn : ∀ c, upd (upd H dz (.own z)) z (.ins C.s dz []) c = none → c ≠ z ∧ H c = none := fun c e => by
      have c1 : c ≠ z := fun y => by rw [y, upd_same] at e; cases e
      have c2 : c ≠ dz := fun y => by rw [upd_ne c1, y, upd_same] at e; cases e
      rw [upd_ne c1, upd_ne c2] at e
      exact ⟨c1, e⟩
    obtain ⟨v1, v2⟩ := nn vd nv
    obtain ⟨p1, p2⟩ := nn pd np
    have e4 := kk _ _ e2
    walk_at "rde"
    refine ⟨_, DPut.k (k := Sum.inl ((s.next : Nat) : Int)) (kk _ _ B.sdic) (by rw [hlen]; exact small _ (by omega)), ?_⟩
    have own' : ∀ c oo, H c = some oo → give (give (give own z (9 + s.next)) vd (9 + s.next)) pd (9 + s.next) c = own c := fun c oo e => by
      rw [give_ne (ne_of_none e p2), give_ne (ne_of_none e v2), give_ne (ne_of_none e hz)]
    have s1 : z ≠ L.sd := (ne_of_none B.sdic hz).symm
    have s2 : vd ≠ L.sd := (ne_of_none B.sdic v2).symm
    have s3 : pd ≠ L.sd := (ne_of_none B.sdic p2).symm
    have B2 := B.addScheme (own' := give (give (give own z (9 + s.next)) vd (9 + s.next)) pd (9 + s.next)) (H' := upd H2 L.sd (.dK (putK (R.T (s.schemes.map fun z => z.num) fun i => V.ref (L.za i)) (Sum.inl ((s.next : Nat) : Int)) (.ref z)))) (a := z) rfl hok
      (fun c oo e c1 c2 => ⟨by rw [upd_ne fun y => c1 (by rw [y]; exact B.osd)]; exact kk c oo e, own' c oo e⟩) (G2.upd (by intro _ z; cases z)) upd_same (by rw [own' _ _ B.sdic]; exact B.osd)
      (SchIs.close (dx := dz) (vd := vd) (pd := pd) (kvs := []) (kps := []) ⟨G2.upd (by intro _ z; cases z), by rw [upd_ne s1]; exact hz2, by rw [give_ne p1.symm, give_ne v1.symm, give_same],
        by rw [upd_ne s2]; exact hvd, by rw [give_ne nvp, give_same], by rw [upd_ne s3]; exact hpd, give_same, nvp, List.Perm.refl _, List.Perm.refl _⟩)
    refine D.fin hs B2 fun c oo e c0 => ⟨?_, by rw [own' c oo e]; exact c0⟩
    rw [upd_ne fun y => by rw [y, B.osd] at c0; cases c0]
    exact kk c oo e
theorem rs_zero {L : Lo} {own : Own} {H : Hp} {b : Addr} {s : State} (B : BookAt C L own H b s) {n st : Int} (h : rs s n st = 0) : ∃ z ∈ s.schemes, (z.num : Int) = n ∧ (z.status : Int) = st ∧ valV (T (s.schemes.map fun z => z.num) fun i => V.ref (L.za i)) (Sum.inl n) = some (.ref (L.za z.num)) ∧
    ∀ g, Vbfual.onScheme s n g = g z := by
  unfold rs at h
  split at h
  · cases h
  · next h1 =>
    rcases B.find n with ⟨z, hz, hn, hfz, hv⟩ | ⟨hfz, hv⟩
    · rw [hfz] at h
      dsimp only at h
      split at h
      · cases h
      · next h2 =>
        refine ⟨z, hz, hn, by omega, hv, fun g => ?_⟩
        unfold Vbfual.onScheme
        rw [if_neg h1, hfz]
    · rw [hfz] at h
      cases h
theorem rs_no {s : State} {n : Int} {st : Nat} {g : Scheme → State × Vbfual.Ans} (hg : ∀ z, z.status ≠ st → g z = Vbfual.no s 5) (h : rs s n st ≠ 0) : Vbfual.onScheme s n g = (s, [rs s n st]) := by
  unfold rs at h ⊢
  unfold Vbfual.onScheme
  by_cases h1 : Vbfual.inside n 1 1000000 = false
  · rw [if_pos h1, if_pos h1]; rfl
  · rw [if_neg h1] at h ⊢
    rw [if_neg h1]
    cases e : s.schemes.find? (fun x => (x.num : Int) == n) with
    | none => rfl
    | some z =>
      rw [e] at h
      dsimp only at h ⊢
      by_cases h2 : (z.status : Int) ≠ st
      · rw [if_pos h2]; exact hg z (by omega)
      · rw [if_neg h2] at h; exact absurd rfl h
def spVote (C : Cs) : Sp := fun vs H Q _ => ∃ (b : Addr) (L : Lo) (own : Own) (s : State) (n h y : Int), vs = [.ref b, .int n, .int h, .int y] ∧ BookAt C L own H b s ∧ Done C own H b s (.vote n h y) Q
abbrev s_vote : Stmt := top 44
theorem sc_vote : FnScope ["book", "n", "h", "pro", "refusal", "scheme"] ["book", "n", "h", "pro"] (defScope s_vote) := by walk_at "sc"
theorem ok_vote {f : Addr} {fd : FuncData} (F : Fun K "vote" "vote" s_vote f fd) (T : Txt K mg C) (O_refusal_of_state : Ok P w K mg base 3 "refusal_of_state" ["book", "n", "state"] (spRS C)) (O_units_of : Ok P w K mg base 1 "units_of" ["fund", "holder"] (spUnitsOf C)) (O_is_holder : Ok P w K mg base 2 "is_holder" ["number"] (spB1 Vbfual.isHolder)) (O_within : Ok P w K mg base 1 "within" ["number", "lowest", "highest"] spWithin) : FnOk P w K mg base CX0 4 f fd ["book", "n", "h", "pro"] (spVote C) := by
  refine F.ok sc_vote (fun vs H Q E h => ?_) (fun cdv A outer s H vs Q E hr h => ?_)
  · obtain ⟨b, L, own, s, n, h, y, rfl, _⟩ := h
    rfl
  · obtain ⟨b, L, own, s, n, h, y, rfl, B, D⟩ := h
    have nd := sc_vote.nd
    have hu := hu_of hr
    have e1 := z0; have e2 := z0; have e3 := z0; have e4 := z0; have e5 := z0; have e6 := z0
    refine ⟨_, (pss_cons (ps_if (PW.pt (pw_or (pt_not (pt_val (pe_ok O_is_holder (hr.mono (by decide)) rfl (pa_cons (pv 2) pa_nil)))) (pw_or1 (pt_not (pt_val (pe_ok O_within (hr.mono (by decide)) rfl (pa_cons (pv 3) (pa_cons pe_int (pa_cons pe_int pa_nil))))))))) (pss_one (ps_ret (pe_lst (pa_cons (pe_gint rfl T.c_OUT_OF_RANGE) pa_nil)))) pss_nil)
      (pss_cons (ps_set (i := 4) nd rfl (Or.inl rfl) (pe_ok O_refusal_of_state (hr.mono (by decide)) rfl (pa_cons (pv 0) (pa_cons (pv 1) (pa_cons (pe_gint rfl T.c_STATE_OPEN) pa_nil)))))
      (pss_cons (ps_if (pt_cmp (pc_neI (pv 4) pe_int)) (pss_one (ps_ret (pe_lst (pa_cons (pv 4) pa_nil)))) pss_nil)
      (pss_cons (ps_set (i := 5) nd rfl (Or.inl rfl) (pe_dget hu (pe_fld (pv 0) rfl) (pv 1) (fun _ _ => rfl)))
      (pss_cons (ps_dput hu (pe_fld (pv 5) rfl) (pv 2) (pv 3) rfl)
      (pss_one (ps_ret (pe_lst (pa_cons (pe_ok O_units_of (hr.mono (by decide)) rfl (pa_cons (pe_dget hu (pe_fld (pv 0) rfl) (pe_fld (pv 5) rfl) (fun _ _ => rfl)) (pa_cons (pv 2) pa_nil))) pa_nil))))))))), ?_⟩
    obtain ⟨dxb, e2⟩ := B.bk
    walk_at "rde"
    refine or2 (fun h1 => D.no B (if_pos h1)) fun h1 => ?_
    have hs := show Vbfual.step s (.vote n h y) = _ from if_neg h1
    obtain ⟨h, rfl, hh⟩ := isHolder_of fun z => h1 (.inl z)
    obtain ⟨y, rfl, hy1, hy2⟩ := inside_of (fun z => h1 (.inr z)) (by decide)
    simp only [Int.toNat_natCast] at hs
    refine ⟨_, L, own, s, n, 0, rfl, B, ?_⟩
    walk_at "rde"
    refine ite2 (fun h2 => D.no B (hs.trans (rs_no (st := 0) (fun z hz => if_pos hz) h2))) fun h2 => ?_
    obtain ⟨z, hz, rfl, hst, hv, hon⟩ := rs_zero B (Decidable.not_not.mp h2)
    rw [hon, if_neg (by omega)] at hs
    refine ⟨_, dget B.sdic hv, ?_⟩
    have hzk := B.ok.zok z hz
    obtain ⟨dz, vd, pd, kvs, kps, Z⟩ := (B.sch z hz).open_
    have e1 := Z.at_
    walk_at "rde"
    have hyb : ((y : Nat) : Int) = if (((y : Nat) : Int) == 1) = true then 1 else 0 := by
      have : y = 0 ∨ y = 1 := by omega
      rcases this with e | e <;> subst e <;> rfl
    refine ⟨_, DPut.k (k := Sum.inl (h : Int)) Z.vat (by rw [Z.vlen]; exact small _ (by have := nodup20 hzk.vn hzk.vr; omega)), ?_⟩
    generalize hbe : (((y : Nat) : Int) == 1) = yb at hs hyb
    rw [hyb]
    have Z2 := Z.vote hzk h yb
    have B2 := B.setScheme (z' := { z with votes := (z.votes.filter fun v => v.1 != h) ++ [(h, yb)] }) hz rfl (hzk.vote hh yb) Z2 (Frm.upd Z.vow)
    obtain ⟨dxb2, e3⟩ := B2.bk
    have e4 := (upd_ne (H := H) (o := .dK (putK kvs (Sum.inl (h : Int)) (.int (if yb = true then 1 else 0)))) Z.ne_v).trans Z.at_
    walk_at "rde"
    refine ⟨_, dget B2.fdic (B2.fundGet hzk.a), ?_⟩
    refine ⟨_, own, z.a, _, h, rfl, B2.fund z.a hzk.a.1 hzk.a.2, ?_⟩
    exact D.fin hs B2 ((Frm.upd Z.vow).out (by omega))
def spProxy (C : Cs) : Sp := fun vs H Q _ => ∃ (b : Addr) (L : Lo) (own : Own) (s : State) (n h g : Int), vs = [.ref b, .int n, .int h, .int g] ∧ BookAt C L own H b s ∧ Done C own H b s (.proxy n h g) Q
abbrev s_proxy : Stmt := top 45
theorem sc_proxy : FnScope ["book", "n", "h", "g", "refusal", "scheme"] ["book", "n", "h", "g"] (defScope s_proxy) := by walk_at "sc"
theorem ok_proxy {f : Addr} {fd : FuncData} (F : Fun K "proxy" "proxy" s_proxy f fd) (T : Txt K mg C) (O_refusal_of_state : Ok P w K mg base 3 "refusal_of_state" ["book", "n", "state"] (spRS C)) (O_is_holder : Ok P w K mg base 2 "is_holder" ["number"] (spB1 Vbfual.isHolder)) : FnOk P w K mg base CX0 4 f fd ["book", "n", "h", "g"] (spProxy C) := by
  refine F.ok sc_proxy (fun vs H Q E h => ?_) (fun cdv A outer s H vs Q E hr h => ?_)
  · obtain ⟨b, L, own, s, n, h, y, rfl, _⟩ := h
    rfl
  · obtain ⟨b, L, own, s, n, h, g, rfl, B, D⟩ := h
    have nd := sc_proxy.nd
    have hu := hu_of hr
    have e1 := z0; have e2 := z0; have e3 := z0; have e4 := z0; have e5 := z0; have e6 := z0
    refine ⟨_, (pss_cons (ps_if (PW.pt (pw_or (pt_not (pt_val (pe_ok O_is_holder (hr.mono (by decide)) rfl (pa_cons (pv 2) pa_nil)))) (pw_or1 (pt_not (pt_val (pe_ok O_is_holder (hr.mono (by decide)) rfl (pa_cons (pv 3) pa_nil))))))) (pss_one (ps_ret (pe_lst (pa_cons (pe_gint rfl T.c_OUT_OF_RANGE) pa_nil)))) pss_nil)
      (pss_cons (ps_set (i := 4) nd rfl (Or.inl rfl) (pe_ok O_refusal_of_state (hr.mono (by decide)) rfl (pa_cons (pv 0) (pa_cons (pv 1) (pa_cons (pe_gint rfl T.c_STATE_OPEN) pa_nil)))))
      (pss_cons (ps_if (pt_cmp (pc_neI (pv 4) pe_int)) (pss_one (ps_ret (pe_lst (pa_cons (pv 4) pa_nil)))) pss_nil)
      (pss_cons (ps_if (pt_cmp (pc_eqI (pv 2) (pv 3))) (pss_one (ps_ret (pe_lst (pa_cons (pe_gint rfl T.c_NOT_ALLOWED) pa_nil)))) pss_nil)
      (pss_cons (ps_set (i := 5) nd rfl (Or.inl rfl) (pe_dget hu (pe_fld (pv 0) rfl) (pv 1) (fun _ _ => rfl)))
      (pss_cons (ps_dput hu (pe_fld (pv 5) rfl) (pv 2) (pv 3) rfl)
      (pss_one (ps_ret (pe_lst (pa_cons pe_int pa_nil)))))))))), ?_⟩
    obtain ⟨dxb, e2⟩ := B.bk
    walk_at "rde"
    refine or2 (fun h1 => D.no B (if_pos h1)) fun h1 => ?_
    have hs := show Vbfual.step s (.proxy n h g) = _ from if_neg h1
    obtain ⟨h, rfl, hh⟩ := isHolder_of fun z => h1 (.inl z)
    obtain ⟨g, rfl, hg⟩ := isHolder_of fun z => h1 (.inr z)
    simp only [Int.toNat_natCast] at hs
    refine ⟨_, L, own, s, n, 0, rfl, B, ?_⟩
    walk_at "rde"
    refine ite2 (fun h2 => D.no B (hs.trans (rs_no (st := 0) (fun z hz => if_pos hz) h2))) fun h2 => ?_
    obtain ⟨z, hz, rfl, hst, hv, hon⟩ := rs_zero B (Decidable.not_not.mp h2)
    rw [hon, if_neg (by omega)] at hs
    refine ite2 (fun h3 => D.no B (hs.trans (if_pos h3))) fun h3 => ?_
    rw [if_neg h3] at hs
    refine ⟨_, dget B.sdic hv, ?_⟩
    have hzk := B.ok.zok z hz
    obtain ⟨dz, vd, pd, kvs, kps, Z⟩ := (B.sch z hz).open_
    have e1 := Z.at_
    walk_at "rde"
    refine ⟨_, DPut.k (k := Sum.inl (h : Int)) Z.pat (by rw [Z.plen]; exact small _ (by have := nodup20 hzk.pn fun p hp => (hzk.pr p hp).1; omega)), ?_⟩
    have B2 := B.setScheme (z' := { z with proxies := (z.proxies.filter fun v => v.1 != h) ++ [(h, g)] }) hz rfl (hzk.proxy hh hg) (Z.proxy hzk h g) (Frm.upd Z.pow)
    exact D.fin hs B2 ((Frm.upd Z.pow).out (by omega))
end
section
variable {P : Program} {w : World} {K : PySem.W.Frag} {mg : Str → Option Value} {base : Heap} {C : Cs}
def spSpeaker (C : Cs) : Sp := fun vs H Q _ => ∃ (a : Addr) (own : Own) (r : Nat) (z : Scheme) (h : Nat), vs = [.ref a, .int h] ∧ SchAt C own H r a z ∧ ZOk z ∧ (1 ≤ h ∧ h ≤ 20) ∧ Q (.int ((Vbfual.speaks z 20 h).getD 0 : Nat)) H
abbrev s_speaker_for : Stmt := top 46
theorem sc_speaker_for : FnScope ["scheme", "h", "speaker", "step"] ["scheme", "h"] (defScope s_speaker_for) := by walk_at "sc"
theorem ok_speaker_for {f : Addr} {fd : FuncData} (F : Fun K "speaker_for" "speaker_for" s_speaker_for f fd) (T : Txt K mg C) : FnOk P w K mg base CX0 1 f fd ["scheme", "h"] (spSpeaker C) := by
  refine F.ok sc_speaker_for (fun vs H Q E h => ?_) (fun cdv A outer s H vs Q E hr h => ?_)
  · obtain ⟨a, own, r, z, h, rfl, _⟩ := h
    rfl
  · obtain ⟨a, own, r, z, h, rfl, Z, hzk, hh, q⟩ := h
    have nd := sc_speaker_for.nd
    have hu := hu_of hr
    have e1 := z0; have e2 := z0; have e3 := z0; have e4 := z0; have e5 := z0; have e6 := z0
    refine ⟨_, (pss_cons (ps_set (i := 2) nd rfl (Or.inl rfl) (pv 1))
      (pss_cons (ps_for PassesOwn.never rfl (pi_range1 rfl T.b_range (pa_cons (pe_gint rfl T.c_HOLDERS_limits) pa_nil)) (pg_name (i := 3) nd rfl (Or.inl rfl)) (pss_cons (ps_if (pt_cmp (pc_din hu (pv 2) (pe_fld (pv 0) rfl))) (pss_one (ps_ret (pv 2))) pss_nil)
      (pss_cons (ps_if (pt_cmp (pc_dnotin hu (pv 2) (pe_fld (pv 0) rfl))) (pss_one (ps_ret pe_int)) pss_nil)
      (pss_one (ps_set (i := 2) nd rfl (Or.inl rfl) (pe_dget hu (pe_fld (pv 0) rfl) (pv 2) (fun _ _ => rfl)))))))
      (pss_one (ps_ret pe_int)))), ?_⟩
    obtain ⟨dz, vd, pd, kvs, kps, Z⟩ := Z.open_
    have e1 := Z.at_
    obtain ⟨S0, hS0⟩ : ∃ S0, Vbfual.speaks z 20 h = S0 := ⟨_, rfl⟩
    rw [hS0] at q
    refine ⟨_, rfl, 20, rfl, by decide, by decide, for_range (n := 20) (fun i σ H' => H' = H ∧ ∃ (g : Nat) (v : Option V), σ = [some (.ref a), some (.int h), some (.int g), v] ∧ (1 ≤ g ∧ g ≤ 20) ∧ S0 = Vbfual.speaks z (20 - i) g) ⟨rfl, h, none, rfl, hh, hS0.symm⟩ ?_ ?_⟩
    · rintro i σ H' hi ⟨rfl, g, v, rfl, hg, hsp⟩
      have h20 : 20 - i = (19 - i) + 1 := by omega
      rw [h20] at hsp
      unfold Vbfual.speaks at hsp
      walk_at "rde"
      refine ⟨_, DGet.k (k := Sum.inl (g : Int)) Z.vat, ?_⟩
      rw [Z.vote_ hzk]
      cases hv : voteOf z g with
      | some y =>
        rw [hv] at hsp
        rw [hsp] at q
        simp only [Option.map_some, Option.isSome_some, if_true]
        exact q
      | none =>
        rw [hv] at hsp
        simp only [Option.map_none, Option.isSome_none, Bool.false_eq_true, if_false]
        refine ⟨_, DGet.k (k := Sum.inl (g : Int)) Z.pat, ?_⟩
        rw [Z.proxy_ hzk]
        cases hp : proxyOf z g with
        | none =>
          rw [hp] at hsp
          rw [hsp] at q
          simp only [Option.map_none, Option.isSome_none, if_true]
          exact q
        | some k =>
          rw [hp] at hsp
          simp only [Option.map_some, Option.isSome_some, Bool.true_eq_false, if_false]
          refine ⟨_, dget Z.pat ((Z.proxy_ hzk g).trans (by rw [hp]; rfl)), ?_⟩
          exact ⟨k, rfl, (proxy_rng hzk hp).1, (proxy_rng hzk hp).2, by rw [hsp]; exact congrArg (fun n => Vbfual.speaks z n k) (by omega)⟩
    · rintro σ H' ⟨rfl, g, v, rfl, hg, hsp⟩
      walk_at "rde"
      rw [hsp] at q
      exact q
theorem le_cast (a b c m : Nat) : ((a : Int) * b ≤ (c : Int) * (m : Int)) ↔ a * b ≤ c * m := by
  have := Int.ofNat_le (m := a * b) (n := c * m)
  rw [Int.natCast_mul, Int.natCast_mul] at this
  exact this
def tallyAns (z : Scheme) (x : Fund) : List Int := [if Vbfual.passes z x = true then 1 else 2, (Vbfual.castIn z x : Nat), (Vbfual.forIn z x : Nat), (unitsOf x : Nat)]
def spTally (C : Cs) : Sp := fun vs H Q _ => ∃ (za a : Addr) (own : Own) (r r' : Nat) (z : Scheme) (x : Fund), vs = [.ref za, .ref a] ∧ SchAt C own H r za z ∧ ZOk z ∧ FundAt C own H r' a x ∧ FOk x ∧
  ∀ H' p, Same H H' → Good H' → H p = none → H' p = some (.lst ((tallyAns z x).map V.int)) → Q (.ref p) H'
abbrev s_tally_of : Stmt := top 47
theorem sc_tally_of : FnScope ["scheme", "fund", "cast", "pro", "holder", "speaker", "units", "whole", "enough_cast", "enough_pro"] ["scheme", "fund"] (defScope s_tally_of) := by walk_at "sc"
theorem ok_tally_of {f : Addr} {fd : FuncData} (F : Fun K "tally_of" "tally_of" s_tally_of f fd) (T : Txt K mg C) (O_all_units : Ok P w K mg base 1 "all_units" ["fund"] (spSum C unitsOf)) (O_speaker_for : Ok P w K mg base 1 "speaker_for" ["scheme", "h"] (spSpeaker C)) (O_units_of : Ok P w K mg base 1 "units_of" ["fund", "holder"] (spUnitsOf C)) : FnOk P w K mg base CX0 2 f fd ["scheme", "fund"] (spTally C) := by
  refine F.ok sc_tally_of (fun vs H Q E h => ?_) (fun cdv A outer s H vs Q E hr h => ?_)
  · obtain ⟨za, a, own, r, r', z, x, rfl, _⟩ := h
    rfl
  · obtain ⟨za, a, own, r, r', z, x, rfl, Z0, hzk, F0, hx, q⟩ := h
    have nd := sc_tally_of.nd
    have hu := hu_of hr
    have e1 := z0; have e2 := z0; have e3 := z0; have e4 := z0; have e5 := z0; have e6 := z0
    refine ⟨_, (pss_cons (ps_set (i := 2) nd rfl (Or.inl rfl) pe_int)
      (pss_cons (ps_set (i := 3) nd rfl (Or.inl rfl) pe_int)
      (pss_cons (ps_for PassesOwn.never rfl (pi_list (pe_callB (cr_sortedD rfl) (by rfl) T.b_sorted boot_sorted (pa_cons (pe_fld (pv 1) rfl) pa_nil))) (pg_name (i := 4) nd rfl (Or.inl rfl)) (pss_cons (ps_set (i := 5) nd rfl (Or.inl rfl) (pe_ok O_speaker_for (hr.mono (by decide)) rfl (pa_cons (pv 0) (pa_cons (pv 4) pa_nil))))
      (pss_one (ps_if (pt_cmp (pc_neI (pv 5) pe_int)) (pss_cons (ps_set (i := 6) nd rfl (Or.inl rfl) (pe_ok O_units_of (hr.mono (by decide)) rfl (pa_cons (pv 1) (pa_cons (pv 4) pa_nil))))
      (pss_cons (ps_aug (i := 2) nd rfl (Or.inl rfl) (pv 6) ip_add)
      (pss_one (ps_aug (i := 3) nd rfl (Or.inl rfl) (pe_op op_mul (pv 6) (pe_dget hu (pe_fld (pv 0) rfl) (pv 5) (fun _ _ => rfl))) ip_add)))) pss_nil))))
      (pss_cons (ps_set (i := 7) nd rfl (Or.inl rfl) (pe_ok O_all_units (hr.mono (by decide)) rfl (pa_cons (pv 1) pa_nil)))
      (pss_cons (ps_set (i := 8) nd rfl (Or.inl rfl) (pe_cmp (pc_ge (pe_op op_mul (pv 2) (pe_gint rfl T.c_MILLION)) (pe_op op_mul (pe_fld (pv 0) rfl) (pv 7)))))
      (pss_cons (ps_set (i := 9) nd rfl (Or.inl rfl) (pe_cmp (pc_ge (pe_op op_mul (pv 3) (pe_gint rfl T.c_MILLION)) (pe_op op_mul (pe_fld (pv 0) rfl) (pv 2)))))
      (pss_cons (ps_if (PW.pt (pw_and (pt_cmp (pc_gt (pv 3) pe_int)) (pw_and (pt_val (pv 8)) (pw_and1 (pt_val (pv 9)))))) (pss_one (ps_ret (pe_lst (pa_cons (pe_gint rfl T.c_STATE_PASSED) (pa_cons (pv 2) (pa_cons (pv 3) (pa_cons (pv 7) pa_nil))))))) pss_nil)
      (pss_one (ps_ret (pe_lst (pa_cons (pe_gint rfl T.c_STATE_FAILED) (pa_cons (pv 2) (pa_cons (pv 3) (pa_cons (pv 7) pa_nil)))))))))))))), ?_⟩
    obtain ⟨dz, vd, pd, kvs, kps, Z⟩ := Z0.open_
    obtain ⟨dx, d, E, F⟩ := F0.open_
    have e1 := F.at_
    refine ⟨_, rfl, a, C.f, dx, _, _, rfl, F.at_, T.clF, T.nF_holdings, fF_holdings _ _ _ _, d, E.map kv, E.map (fun p => (p.2.holder : Int)), rfl, .inl F.hs.dic, F.keys, by rw [List.length_map]; have := F.len; omega, fun ns p hperm hsort hp => ?_⟩
    have hns := F.sorted hperm hsort
    subst hns
    have hS : Same H (upd H p (.lst ((x.hold.map fun y => (y.holder : Int)).map V.int))) := fun b o e => by rw [upd_ne (ne_of_none e hp)]; exact e
    have G1 : Good (upd H p (.lst ((x.hold.map fun y => (y.holder : Int)).map V.int))) := F.good.upd (by intro _ z; cases z)
    have Z1 := Z0.keep G1 fun b o e ob => ⟨hS b o e, ob⟩
    have F1 := F0.same G1 hS
    refine ⟨p, rfl, ⟨_, SqL.of upd_same⟩, for_list (K := K) (a := p) (xs := (x.hold.map fun y => (y.holder : Int)).map V.int) (fun i σ H' => H' = upd H p (.lst ((x.hold.map fun y => (y.holder : Int)).map V.int)) ∧
      ∃ v4 v5 v6 : Option V, σ = [some (.ref za), some (.ref a), some (.int (Vbfual.sum ((x.hold.take i).map (castBy z)) : Nat)), some (.int (Vbfual.sum ((x.hold.take i).map (forBy z)) : Nat)), v4, v5, v6, none, none, none]) ⟨rfl, none, none, none, rfl⟩ (fun i σ H' _ h => by rw [h.1]; exact SqL.of upd_same) ?_ ?_⟩
    · rintro i xv σ H' hi ⟨rfl, v4, v5, v6, rfl⟩
      obtain ⟨y, hy, rfl⟩ : ∃ y, x.hold[i]? = some y ∧ xv = V.int (y.holder : Int) := by
        rw [List.getElem?_map, List.getElem?_map] at hi
        cases e : x.hold[i]? with
        | none => rw [e] at hi; cases hi
        | some y =>
          rw [e] at hi
          exact ⟨y, rfl, (Option.some.inj hi).symm⟩
      have hym := List.mem_of_getElem? hy
      have hyr := F.sf.rng y hym
      rw [sum_take (castBy z) hy, sum_take (forBy z) hy]
      generalize Vbfual.sum ((x.hold.take i).map (castBy z)) = cst
      generalize Vbfual.sum ((x.hold.take i).map (forBy z)) = fr
      generalize upd H p (.lst ((x.hold.map fun y => (y.holder : Int)).map V.int)) = H1 at *
      walk_at "rde"
      refine ⟨za, own, r, z, y.holder, rfl, Z1, hzk, hyr, ?_⟩
      have hch : Vbfual.choiceOf z y.holder = (Vbfual.speaks z 20 y.holder).bind fun g => voteOf z g := by
        unfold Vbfual.choiceOf
        rw [speaks_20 hzk hyr]
      obtain ⟨dz1, vd1, pd1, kvs1, kps1, Z2⟩ := Z1.open_
      have e3 := Z2.at_
      cases hsp : Vbfual.speaks z 20 y.holder with
      | none =>
        rw [hsp] at hch
        have c1 : castBy z y = 0 := by unfold castBy; rw [hch]; rfl
        have c2 : forBy z y = 0 := by unfold forBy; rw [hch]; rfl
        rw [c1, c2]
        exact ⟨0, rfl, by rw [if_neg (by simp)]; exact ⟨rfl, rfl, rfl, _, rfl⟩⟩
      | some g =>
        rw [hsp] at hch
        have hvs := speaks_voted hsp
        have hgr := voteOf_rng hzk hvs
        obtain ⟨vb, hvb⟩ := Option.isSome_iff_exists.mp hvs
        have hch' : Vbfual.choiceOf z y.holder = some vb := hch.trans hvb
        have c1 : castBy z y = y.units := by unfold castBy; rw [hch']; rfl
        have c2 : forBy z y = if vb then y.units else 0 := by
          unfold forBy
          rw [hch']
          cases vb <;> rfl
        refine ⟨(g : Int), rfl, ?_⟩
        rw [if_pos (by omega)]
        refine ⟨a, own, r', x, y.holder, rfl, F1, ?_⟩
        rw [holdingOf_mem F.sf.srt hym]
        walk_at "rde"
        refine ⟨_, dget Z2.vat ((Z2.vote_ hzk g).trans (by rw [hvb]; rfl)), _, rfl, ?_, ?_, ?_, _, rfl⟩
        · cases vb
          · exact cmul_r (by decide) (by decide)
          · exact cmul_r (by decide) (by decide)
        · rw [c1]
          push_cast
          rfl
        · rw [c2]
          cases vb
          · simp
          · simp
    · rintro σ H' ⟨rfl, v4, v5, v6, rfl⟩
      rw [List.length_map, List.length_map, List.take_length, ← M.cast_eq, ← M.for_eq]
      generalize upd H p (.lst ((x.hold.map fun y => (y.holder : Int)).map V.int)) = H1 at *
      obtain ⟨dz1, vd1, pd1, kvs1, kps1, Z2⟩ := Z1.open_
      have e3 := Z2.at_
      walk_at "rde"
      refine ⟨a, own, r', x, rfl, F1, ?_⟩
      walk_at "rde"
      have hM : unitsOf x ≤ 1000000000000000000 := hx.many
      have hq1 := hzk.need
      have fin : ∀ k : Int, (if Vbfual.passes z x = true then 1 else 2) = k → ∀ p2, H1 p2 = none → Q (.ref p2) (upd H1 p2 (.lst [.int k, .int (Vbfual.castIn z x : Nat), .int (Vbfual.forIn z x : Nat), .int (unitsOf x : Nat)])) := fun k hk p2 hp2 => by
        refine q _ p2 (hS.trans fun b o e => ?_) (G1.upd (by intro _ z; cases z)) (hS.free hp2) ?_
        · rw [upd_ne (ne_of_none e hp2)]; exact e
        · rw [upd_same]
          unfold tallyAns
          rw [hk]
          rfl
      have c1 : ((z.quorum : Int) * unitsOf x ≤ (Vbfual.castIn z x : Nat) * 1000000) ↔ z.quorum * unitsOf x ≤ Vbfual.castIn z x * Vbfual.MILLION := le_cast _ _ _ 1000000
      have c2 : ((z.need : Int) * (Vbfual.castIn z x : Nat) ≤ (Vbfual.forIn z x : Nat) * 1000000) ↔ z.need * Vbfual.castIn z x ≤ Vbfual.forIn z x * Vbfual.MILLION := le_cast _ _ _ 1000000
      have hpass : Vbfual.passes z x = true ↔ 0 < Vbfual.forIn z x ∧ z.quorum * unitsOf x ≤ Vbfual.castIn z x * Vbfual.MILLION ∧ z.need * Vbfual.castIn z x ≤ Vbfual.forIn z x * Vbfual.MILLION := by
        unfold Vbfual.passes
        rw [Bool.and_eq_true, Bool.and_eq_true, decide_eq_true_iff, decide_eq_true_iff, decide_eq_true_iff]
      refine ⟨cmul_r (by decide) (by decide), cmul_r (by omega) (by omega), cmul_r (by decide) (by decide), cmul_l (by omega) (by omega), ite2 (fun g1 => ite2 (fun g2 => ite2 (fun g3 => ?_) fun g3 => ?_) fun g2 => ?_) fun g1 => ?_⟩
      · exact fin 1 (if_pos (hpass.mpr ⟨by omega, c1.mp g2, c2.mp g3⟩))
      · exact fin 2 (if_neg fun h => g3 (c2.mpr (hpass.mp h).2.2))
      · exact fin 2 (if_neg fun h => g2 (c1.mpr (hpass.mp h).2.1))
      · exact fin 2 (if_neg fun h => g1 (by have := (hpass.mp h).1; omega))
def spCount (C : Cs) : Sp := fun vs H Q _ => ∃ (b : Addr) (L : Lo) (own : Own) (s : State) (n : Int), vs = [.ref b, .int n] ∧ BookAt C L own H b s ∧ Done C own H b s (.count n) Q
theorem BookAt.same {L : Lo} {own : Own} {H H' : Hp} {b : Addr} {s : State} (B : BookAt C L own H b s) (g : Good H') (f : Same H H') : BookAt C L own H' b s := by
  obtain ⟨dx, hb⟩ := B.bk
  exact ⟨g, B.ok, ⟨dx, f _ _ hb⟩, B.ob, f _ _ B.fdic, B.ofd, f _ _ B.cdic, B.ocd, f _ _ B.sdic, B.osd, fun k h1 h2 => (B.fund k h1 h2).same g f, fun z hz => (B.sch z hz).keep g fun c o e oc => ⟨f c o e, oc⟩⟩
theorem Same.out {own : Own} {H H' : Hp} (f : Same H H') : Out own H own H' := fun b o e n => ⟨f b o e, n⟩
abbrev s_count_votes : Stmt := top 48
theorem sc_count_votes : FnScope ["book", "n", "refusal", "scheme", "tally"] ["book", "n"] (defScope s_count_votes) := by walk_at "sc"
theorem ok_count_votes {f : Addr} {fd : FuncData} (F : Fun K "count_votes" "count_votes" s_count_votes f fd) (T : Txt K mg C) (O_refusal_of_state : Ok P w K mg base 3 "refusal_of_state" ["book", "n", "state"] (spRS C)) (O_tally_of : Ok P w K mg base 2 "tally_of" ["scheme", "fund"] (spTally C)) : FnOk P w K mg base CX0 4 f fd ["book", "n"] (spCount C) := by
  refine F.ok sc_count_votes (fun vs H Q E h => ?_) (fun cdv A outer s H vs Q E hr h => ?_)
  · obtain ⟨b, L, own, s, n, rfl, _⟩ := h
    rfl
  · obtain ⟨b, L, own, s, n, rfl, B, D⟩ := h
    have nd := sc_count_votes.nd
    have hu := hu_of hr
    have e1 := z0; have e2 := z0; have e3 := z0; have e4 := z0; have e5 := z0; have e6 := z0
    refine ⟨_, (pss_cons (ps_set (i := 2) nd rfl (Or.inl rfl) (pe_ok O_refusal_of_state (hr.mono (by decide)) rfl (pa_cons (pv 0) (pa_cons (pv 1) (pa_cons (pe_gint rfl T.c_STATE_OPEN) pa_nil)))))
      (pss_cons (ps_if (pt_cmp (pc_neI (pv 2) pe_int)) (pss_one (ps_ret (pe_lst (pa_cons (pv 2) pa_nil)))) pss_nil)
      (pss_cons (ps_set (i := 3) nd rfl (Or.inl rfl) (pe_dget hu (pe_fld (pv 0) rfl) (pv 1) (fun _ _ => rfl)))
      (pss_cons (ps_set (i := 4) nd rfl (Or.inl rfl) (pe_ok O_tally_of (hr.mono (by decide)) rfl (pa_cons (pv 3) (pa_cons (pe_dget hu (pe_fld (pv 0) rfl) (pe_fld (pv 3) rfl) (fun _ _ => rfl)) pa_nil))))
      (pss_cons (ps_fld (pv 3) (pe_ix ix_list (pv 4) pe_int (fun _ _ => rfl)) rfl)
      (pss_one (ps_ret (pv 4)))))))), ?_⟩
    obtain ⟨dxb, e2⟩ := B.bk
    have hs : Vbfual.step s (.count n) = Vbfual.onScheme s n _ := rfl
    walk_at "rde"
    refine ⟨_, L, own, s, n, 0, rfl, B, ?_⟩
    walk_at "rde"
    refine ite2 (fun h2 => D.no B (hs.trans (rs_no (st := 0) (fun z hz => if_pos hz) h2))) fun h2 => ?_
    obtain ⟨z, hz, rfl, hst, hv, hon⟩ := rs_zero B (Decidable.not_not.mp h2)
    rw [hon, if_neg (by omega)] at hs
    refine ⟨_, dget B.sdic hv, ?_⟩
    have hzk := B.ok.zok z hz
    obtain ⟨dz, vd, pd, kvs, kps, Z⟩ := (B.sch z hz).open_
    have e1 := Z.at_
    walk_at "rde"
    refine ⟨_, dget B.fdic (B.fundGet hzk.a), ?_⟩
    refine ⟨_, _, own, _, _, z, _, rfl, B.sch z hz, hzk, B.fund z.a hzk.a.1 hzk.a.2, B.ok.fok z.a hzk.a.1 hzk.a.2, fun H1 p hS G1 hp hl => ?_⟩
    have B1 := B.same G1 hS
    obtain ⟨dz1, vd1, pd1, kvs1, kps1, Z1⟩ := (B1.sch z hz).open_
    have e3 := Z1.at_
    walk_at "rde"
    dsimp only at hs
    generalize hk : (if Vbfual.passes z (fundAt s z.a) = true then 1 else 2 : Nat) = k at hs
    have hk3 : k ≤ 3 := by rw [← hk]; split <;> omega
    have hki : (if Vbfual.passes z (fundAt s z.a) = true then (1 : Int) else 2) = ((k : Nat) : Int) := by rw [← hk]; split <;> rfl
    refine ⟨_, SqL.of hl, .int ((k : Nat) : Int), at_of (j := 0) rfl (by unfold tallyAns; rw [hki]; rfl), ?_⟩
    have B2 := B1.setScheme (z' := { z with status := k }) hz rfl (hzk.state hk3) (Z1.state (st := ((k : Nat) : Int)) rfl) (Frm.upd Z1.ow)
    refine D L own _ p (by rw [hs]; exact B2) ?_ (Out.trans (R.Same.out hS) ((Frm.upd Z1.ow).out (by omega))) (Fresh0.of hp)
    rw [upd_ne (ne_of_none Z.at_ hp).symm, hl, hs]
    unfold tallyAns
    rw [hki]
    rfl
end
section
variable {P : Program} {w : World} {K : PySem.W.Frag} {mg : Str → Option Value} {base : Heap} {C : Cs}
theorem cdiv_mul {i : Int} {a b : Nat} (ha : 0 < a) (hb : 0 < b) (ha' : a ≤ 1000000000000000000) (hb' : b ≤ 1000000000000000000) : CDivL i ((a : Int) * b) := by
  have h1 : 0 < a * b := Nat.mul_pos ha hb
  have h2 : a * b ≤ 1000000000000000000 * 1000000000000000000 := mb ha' hb'
  have e : ((a : Int) * b) = ((a * b : Nat) : Int) := (Int.natCast_mul _ _).symm
  rw [e]
  exact ⟨by omega, Nat.lt_of_le_of_lt (by omega : ((a * b : Nat) : Int).natAbs ≤ 1000000000000000000 * 1000000000000000000) (by decide)⟩
def spBrought (C : Cs) : Sp := fun vs H Q _ => ∃ (u : Nat) (a b : Addr) (own : Own) (r r' : Nat) (x y : Fund), vs = [.int u, .ref a, .ref b] ∧ FundAt C own H r a x ∧ FundAt C own H r' b y ∧ FOk x ∧ FOk y ∧ u ≤ 1000000000000000000 ∧ 0 < unitsOf x ∧ (0 < unitsOf y → y.value ≠ 0) ∧
  ∀ p, H p = none → Q (.ref p) (upd H p (.tup [.int (newUnits x y u : Nat), .int (restOf x y u : Nat)]))
abbrev s_brought_by : Stmt := top 50
theorem sc_brought_by : FnScope ["units", "fund", "other", "fund_units", "other_units", "worth", "new_units", "rest"] ["units", "fund", "other"] (defScope s_brought_by) := by walk_at "sc"
theorem ok_brought_by {f : Addr} {fd : FuncData} (F : Fun K "brought_by" "brought_by" s_brought_by f fd) (T : Txt K mg C) (O_all_units : Ok P w K mg base 1 "all_units" ["fund"] (spSum C unitsOf)) : FnOk P w K mg base CX0 2 f fd ["units", "fund", "other"] (spBrought C) := by
  refine F.ok sc_brought_by (fun vs H Q E h => ?_) (fun cdv A outer s H vs Q E hr h => ?_)
  · obtain ⟨u, a, b, own, r, r', x, y, rfl, _⟩ := h
    rfl
  · obtain ⟨u, a, b, own, r, r', x, y, rfl, A0, B0, hx, hy, hu1, hux, huy, q⟩ := h
    have nd := sc_brought_by.nd
    have hu := hu_of hr
    have e1 := z0; have e2 := z0; have e3 := z0; have e4 := z0; have e5 := z0; have e6 := z0
    refine ⟨_, (pss_cons (ps_set (i := 3) nd rfl (Or.inl rfl) (pe_ok O_all_units (hr.mono (by decide)) rfl (pa_cons (pv 1) pa_nil)))
      (pss_cons (ps_set (i := 4) nd rfl (Or.inl rfl) (pe_ok O_all_units (hr.mono (by decide)) rfl (pa_cons (pv 2) pa_nil)))
      (pss_cons (ps_if (pt_cmp (pc_eqI (pv 4) pe_int)) (pss_one (ps_ret (pe_tup (pa_cons (pv 0) (pa_cons pe_int pa_nil))))) pss_nil)
      (pss_cons (ps_set (i := 5) nd rfl (Or.inl rfl) (pe_op op_mul (pe_op op_mul (pv 0) (pe_fld (pv 1) rfl)) (pv 4)))
      (pss_cons (ps_set (i := 6) nd rfl (Or.inl rfl) (pe_op op_fdivL (pv 5) (pe_op op_mul (pv 3) (pe_fld (pv 2) rfl))))
      (pss_cons (ps_set (i := 7) nd rfl (Or.inl rfl) (pe_op op_sub (pv 5) (pe_op op_mul (pe_op op_mul (pv 6) (pe_fld (pv 2) rfl)) (pv 3))))
      (pss_one (ps_ret (pe_tup (pa_cons (pv 6) (pa_cons (pe_op op_fdivL (pv 7) (pe_op op_mul (pv 3) (pv 4))) pa_nil))))))))))), ?_⟩
    obtain ⟨dx, d, E, A⟩ := A0.open_
    obtain ⟨dy, d', E', B⟩ := B0.open_
    have e1 := A.at_
    have e2 := B.at_
    have m1 : unitsOf x ≤ 1000000000000000000 := hx.many
    have m2 : unitsOf y ≤ 1000000000000000000 := hy.many
    have g1 : x.value ≤ 1000000000000 := hx.great
    have g2 : y.value ≤ 1000000000000 := hy.great
    walk_at "rde"
    refine ⟨a, own, r, x, rfl, A0, ?_⟩
    refine ⟨b, own, r', y, rfl, B0, ?_⟩
    walk_at "rde"
    refine ite2 (fun h0 => ?_) fun h0 => ?_
    · have h0' : unitsOf y = 0 := by omega
      have c1 : newUnits x y u = u := by unfold Vbfual.newUnits; rw [if_pos h0']
      have c2 : restOf x y u = 0 := by unfold Vbfual.restOf; rw [if_pos h0']
      rw [c1, c2] at q
      exact q
    · have h0' : unitsOf y ≠ 0 := by omega
      have hyv := huy (by omega)
      have c1 := new_int (a := x) (b := y) (u := u) h0'
      have c2 := rest_int (a := x) (b := y) (u := u) h0'
      rw [← c1, ← c2]
      exact ⟨cmul_r (by omega) (by omega), cmul_r (by omega) (by omega), cmul_l (by omega) (by omega), cdiv_mul hux (by omega) m1 (by omega), cmul_r (by omega) (by omega), cmul_r (by omega) (by omega), cmul_l (by omega) (by omega), cdiv_mul hux (by omega) m1 m2, q⟩
structure Shares (H : Hp) (x y : Fund) (ts : List Addr) (l : List Holding) : Prop where
  len : ts.length = l.length
  at_ : ∀ (i : Nat) (t : Addr) (h : Holding), ts[i]? = some t → l[i]? = some h → H t = some (.tup [.int h.holder, .int (newUnits x y h.units : Nat), .int (restOf x y h.units : Nat)])
theorem Shares.same {H H' : Hp} {x y : Fund} {ts : List Addr} {l : List Holding} (S : Shares H x y ts l) (f : ∀ t ∈ ts, ∀ o, H t = some o → H' t = some o) : Shares H' x y ts l :=
  ⟨S.len, fun i t h e1 e2 => f t (List.mem_of_getElem? e1) _ (S.at_ i t h e1 e2)⟩
def spBroughtAll (C : Cs) : Sp := fun vs H Q _ => ∃ (a b : Addr) (own : Own) (r r' : Nat) (x y : Fund), vs = [.ref a, .ref b] ∧ FundAt C own H r a x ∧ FundAt C own H r' b y ∧ FOk x ∧ FOk y ∧ 0 < unitsOf x ∧ (0 < unitsOf y → y.value ≠ 0) ∧
  ∀ H' p ts, Same H H' → Good H' → H p = none → H' p = some (.lst (ts.map V.ref)) → (∀ t ∈ ts, H t = none) → Shares H' x y ts x.hold → Q (.ref p) H'
abbrev s_brought_to_all : Stmt := top 51
theorem sc_brought_to_all : FnScope ["fund", "other", "brought", "holder", "share"] ["fund", "other"] (defScope s_brought_to_all) := by walk_at "sc"
theorem ok_brought_to_all {f : Addr} {fd : FuncData} (F : Fun K "brought_to_all" "brought_to_all" s_brought_to_all f fd) (T : Txt K mg C) (O_brought_by : Ok P w K mg base 2 "brought_by" ["units", "fund", "other"] (spBrought C)) : FnOk P w K mg base CX0 3 f fd ["fund", "other"] (spBroughtAll C) := by
  refine F.ok sc_brought_to_all (fun vs H Q E h => ?_) (fun cdv A outer s H vs Q E hr h => ?_)
  · obtain ⟨a, b, own, r, r', x, y, rfl, _⟩ := h
    rfl
  · obtain ⟨a, b, own, r, r', x, y, rfl, A0, B0, hx, hy, hux, huy, q⟩ := h
    have nd := sc_brought_to_all.nd
    have hu := hu_of hr
    have e1 := z0; have e2 := z0; have e3 := z0; have e4 := z0; have e5 := z0; have e6 := z0
    refine ⟨_, (pss_cons (ps_set (i := 2) nd rfl (Or.inl rfl) (pe_lst pa_nil))
      (pss_cons (ps_for PassesOwn.never rfl (pi_list (pe_callB (cr_sortedD rfl) (by rfl) T.b_sorted boot_sorted (pa_cons (pe_fld (pv 0) rfl) pa_nil))) (pg_name (i := 3) nd rfl (Or.inl rfl)) (pss_cons (ps_set (i := 4) nd rfl (Or.inl rfl) (pe_ok O_brought_by (hr.mono (by decide)) rfl (pa_cons (pe_fld (pe_dget hu (pe_fld (pv 0) rfl) (pv 3) (fun _ _ => rfl)) rfl) (pa_cons (pv 0) (pa_cons (pv 1) pa_nil)))))
      (pss_one (ps_expr (pe_bm PySem.F.plainAttrs_list PySem.F.slot_list_append PySem.F.type_list_append mt_append (pv 2) (pa_cons (pe_tup (pa_cons (pv 3) (pa_cons (pe_ix ix_tup (pv 4) pe_int (fun _ _ => rfl)) (pa_cons (pe_ix ix_tup (pv 4) pe_int (fun _ _ => rfl)) pa_nil)))) pa_nil))))))
      (pss_one (ps_ret (pv 2))))), ?_⟩
    obtain ⟨dx, d, E, A⟩ := A0.open_
    refine ⟨Nat.zero_le _, fun pb hpb => ?_⟩
    have S1 : Same H (upd H pb (.lst [])) := fun b o e => by rw [upd_ne (ne_of_none e hpb)]; exact e
    refine ⟨_, rfl, a, C.f, dx, _, _, rfl, S1 _ _ A.at_, T.clF, T.nF_holdings, fF_holdings _ _ _ _, d, E.map kv, E.map (fun p => (p.2.holder : Int)), rfl, .inl (S1 _ _ A.hs.dic), A.keys, by rw [List.length_map]; have := A.len; omega, fun ns p hperm hsort hp => ?_⟩
    have hns := A.sorted hperm hsort
    subst hns
    have hpH : H p = none := S1.free hp
    have npb : p ≠ pb := fun e => by rw [e, upd_same] at hp; cases hp
    have m1 : unitsOf x ≤ 1000000000000000000 := hx.many
    refine ⟨p, rfl, ⟨_, SqL.of upd_same⟩, for_list (K := K) (a := p) (xs := (x.hold.map fun y => (y.holder : Int)).map V.int) (fun i σ H' => Same H H' ∧ Good H' ∧ H' p = some (.lst ((x.hold.map fun y => (y.holder : Int)).map V.int)) ∧
      (∃ ts : List Addr, H' pb = some (.lst (ts.map V.ref)) ∧ (∀ t ∈ ts, H t = none ∧ t ≠ pb ∧ t ≠ p) ∧ Shares H' x y ts (x.hold.take i)) ∧ ∃ v3 v4 : Option V, σ = [some (.ref a), some (.ref b), some (.ref pb), v3, v4])
      ⟨?_, ?_, upd_same, ⟨[], ?_, by simp, rfl, by simp⟩, none, none, rfl⟩ (fun i σ H' _ h => SqL.of h.2.2.1) ?_ ?_⟩
    · intro c o e
      rw [upd_ne (ne_of_none e hpH)]
      exact S1 c o e
    · exact (A.good.upd (by intro _ z; cases z)).upd (by intro _ z; cases z)
    · rw [upd_ne npb.symm, upd_same]
      rfl
    · rintro i xv σ H' hi ⟨hS, hG, hl, ⟨ts, htl, hts, hsh⟩, v3, v4, rfl⟩
      obtain ⟨h, hh, rfl⟩ : ∃ h, x.hold[i]? = some h ∧ xv = V.int (h.holder : Int) := by
        rw [List.getElem?_map, List.getElem?_map] at hi
        cases e : x.hold[i]? with
        | none => rw [e] at hi; cases hi
        | some h =>
          rw [e] at hi
          exact ⟨h, rfl, (Option.some.inj hi).symm⟩
      have hm := List.mem_of_getElem? hh
      obtain ⟨w, hw, rfl, hv⟩ := A.get hm
      obtain ⟨dw, hwa⟩ := (A.hs.each w hw).at_
      have e1 := hS _ _ A.at_
      have e3 := hS _ _ hwa
      walk_at "rde"
      refine ⟨_, dget (hS _ _ A.hs.dic) hv, w.1, rfl, ?_⟩
      walk_at "rde"
      have hule := le_sum (f := fun y : Holding => y.units) hm
      refine ⟨w.2.units, a, b, own, r, r', x, y, rfl, A0.same hG hS, B0.same hG hS, hx, hy, by have : unitsOf x = Vbfual.sum (x.hold.map fun y => y.units) := rfl; omega, hux, huy, fun t ht => ?_⟩
      have n1 : pb ≠ t := ne_of_none htl ht
      have n2 : p ≠ t := ne_of_none hl ht
      refine ⟨.inl ⟨rfl, _, SqL.of (by rw [upd_ne n1]; exact htl)⟩, t, rfl, _, SqT.of upd_same, _, at_of (j := 0) rfl rfl, t, rfl, _, SqT.of upd_same, _, at_of (j := 1) rfl rfl, fun t2 ht2 => ?_⟩
      have n3 : t2 ≠ t := fun e => by rw [e, upd_same] at ht2; cases ht2
      have ht2' : H' t2 = none := by rw [upd_ne n3] at ht2; exact ht2
      have n4 : pb ≠ t2 := ne_of_none htl ht2'
      have n5 : p ≠ t2 := ne_of_none hl ht2'
      have hlen : ts.length = i := by
        rw [hsh.len, List.length_take]
        have := (List.getElem?_eq_some_iff.mp hh).1
        omega
      refine ⟨pb, _, _, rfl, rfl, by rw [upd_ne n4, upd_ne n1]; exact htl, by rw [List.length_map, hlen]; exact small _ (by have := (List.getElem?_eq_some_iff.mp hh).1; have := A.sf.le20; omega), ?_⟩
      have keep : ∀ c o, H' c = some o → c ≠ pb → upd (upd (upd H' t (.tup [.int (newUnits x y w.2.units : Nat), .int (restOf x y w.2.units : Nat)])) t2 (.tup [.int w.2.holder, .int (newUnits x y w.2.units : Nat), .int (restOf x y w.2.units : Nat)])) pb (.lst (ts.map V.ref ++ [.ref t2])) c = some o := fun c o e hc => by
        rw [upd_ne hc, upd_ne (ne_of_none e ht2'), upd_ne (ne_of_none e ht)]
        exact e
      refine ⟨fun c o e => keep c o (hS c o e) (ne_of_none e hpb), ((hG.upd (by intro _ z; cases z)).upd (by intro _ z; cases z)).upd (by intro _ z; cases z), keep p _ hl npb, ⟨ts ++ [t2], ?_, ?_, ?_, ?_⟩, _, rfl⟩
      · rw [upd_same, List.map_append]
        rfl
      · intro c hc
        rcases List.mem_append.mp hc with hc | hc
        · exact hts c hc
        · rw [List.mem_singleton.mp hc]
          exact ⟨hS.free ht2', n4.symm, n5.symm⟩
      · rw [List.length_append, hlen, List.length_take]
        have := (List.getElem?_eq_some_iff.mp hh).1
        simp
        omega
      · intro j c k hc hk
        rw [List.getElem?_append] at hc
        split at hc
        · next hj =>
          have hk' : (x.hold.take i)[j]? = some k := by
            rw [List.getElem?_take_of_lt (by omega)] at hk ⊢
            exact hk
          have := hsh.at_ j c k hc hk'
          exact keep c _ this (hts c (List.mem_of_getElem? hc)).2.1
        · next hj =>
          have hj0 : j - ts.length = 0 := by
            have := (List.getElem?_eq_some_iff.mp hc).1
            simpa using this
          rw [hj0] at hc
          have hc' : t2 = c := Option.some.inj hc
          have hji : j = i := by omega
          rw [hji, List.getElem?_take_of_lt (by omega), hh] at hk
          have hk' : w.2 = k := Option.some.inj hk
          rw [← hc', ← hk', upd_ne n4.symm, upd_same]
    · rintro σ H' ⟨hS, hG, hl, ⟨ts, htl, hts, hsh⟩, v3, v4, rfl⟩
      rw [List.length_map, List.length_map, List.take_length] at hsh
      exact ⟨_, rfl, q H' pb ts hS hG hpb htl (fun t ht => (hts t ht).1) hsh⟩
end
section
variable {P : Program} {w : World} {K : PySem.W.Frag} {mg : Str → Option Value} {base : Heap} {C : Cs}
theorem BookAt.keep {L : Lo} {own own' : Own} {H H' : Hp} {b : Addr} {s : State} (B : BookAt C L own H b s) (g : Good H') (k : ∀ c o, H c = some o → own c ≠ 0 → H' c = some o ∧ own' c = own c) : BookAt C L own' H' b s := by
  obtain ⟨dx, hb⟩ := B.bk
  have k' : ∀ {c o n}, H c = some o → own c = n → n ≠ 0 → H' c = some o ∧ own' c = n := fun {c o n} e oc h1 => by
    obtain ⟨e1, n1⟩ := k c o e (by rw [oc]; exact h1)
    exact ⟨e1, n1.trans oc⟩
  exact ⟨g, B.ok, ⟨dx, (k' hb B.ob (by decide)).1⟩, (k' hb B.ob (by decide)).2, (k' B.fdic B.ofd (by decide)).1, (k' B.fdic B.ofd (by decide)).2, (k' B.cdic B.ocd (by decide)).1, (k' B.cdic B.ocd (by decide)).2,
    (k' B.sdic B.osd (by decide)).1, (k' B.sdic B.osd (by decide)).2, fun f h1 h2 => (B.fund f h1 h2).keep g fun c o e oc => k' e oc (by omega), fun z hz => (B.sch z hz).keep g fun c o e oc => k' e oc (by omega)⟩
def own0 (H : Hp) (own : Own) : Own := fun b => if (H b).isSome = true then own b else 0
theorem own0_in {H : Hp} {own : Own} {b : Addr} {o : HO} (e : H b = some o) : own0 H own b = own b := by unfold own0; rw [e]; rfl
theorem own0_out {H : Hp} {own : Own} {b : Addr} (e : H b = none) : own0 H own b = 0 := by unfold own0; rw [e]; rfl
def stJ (s : State) (B : Nat) (x y : Fund) (l : List Holding) : State := { s with funds := s.funds.set (B - 1) (part1 x y l), cash := (Vbfual.paysAll s (paid1 x y l)).cash }
theorem stJ_B {s : State} (h : s.funds.length = 6) {B : Nat} (hB : 1 ≤ B ∧ B ≤ 6) (x y : Fund) (l : List Holding) : fundAt (stJ s B x y l) B = part1 x y l := fundAt_same (s := s) h (part1 x y l) hB
theorem stJ_A {s : State} (h : s.funds.length = 6) {A B : Nat} (hB : 1 ≤ B ∧ B ≤ 6) (hA : 1 ≤ A) (n : A ≠ B) (x y : Fund) (l : List Holding) : fundAt (stJ s B x y l) A = fundAt s A := fundAt_ne (s := s) h (part1 x y l) hB hA n
theorem stJ_nil {s : State} (h : s.funds.length = 6) {B : Nat} (hB : 1 ≤ B ∧ B ≤ 6) (x : Fund) : stJ s B x (fundAt s B) [] = s := by
  refine state_ext ?_ rfl rfl rfl
  show s.funds.set (B - 1) (fundAt s B) = s.funds
  refine List.ext_getElem? fun i => ?_
  rw [List.getElem?_set]
  split
  · next e =>
    subst e
    unfold Vbfual.fundAt
    rw [if_pos (by omega), List.getD_eq_getElem?_getD, List.getElem?_eq_getElem (by omega)]
    rfl
  · rfl
theorem stJ_step {s : State} {B : Nat} {x y : Fund} {l : List Holding} {i : Nat} {h : Holding} (hh : l[i]? = some h) :
    Vbfual.pays (Vbfual.setFund (stJ s B x y (l.take i)) B (part1 x y (l.take (i + 1)))) h.holder (restOf x y h.units : Nat) = stJ s B x y (l.take (i + 1)) := by
  refine state_ext ?_ ?_ rfl rfl
  · show (s.funds.set (B - 1) (part1 x y (l.take i))).set (B - 1) (part1 x y (l.take (i + 1))) = s.funds.set (B - 1) (part1 x y (l.take (i + 1)))
    rw [List.set_set]
  · show _ = (Vbfual.paysAll s (paid1 x y (l.take (i + 1)))).cash
    have e : paid1 x y (l.take (i + 1)) = (paid1 x y l).take (i + 1) := by unfold paid1; rw [List.map_take]
    have e0 : paid1 x y (l.take i) = (paid1 x y l).take i := by unfold paid1; rw [List.map_take]
    rw [e, paysAll_take (p := (h.holder, restOf x y h.units)) (by unfold paid1; rw [List.getElem?_map, hh]; rfl), ← e0]
    rfl
def spHand (C : Cs) : Sp := fun vs H Q _ => ∃ (b : Addr) (L : Lo) (own : Own) (s : State) (A B : Nat) (p : Addr) (ts : List Addr), vs = [.ref b, .ref (L.fa A), .ref (L.fa B), .ref p] ∧ BookAt C L own H b s ∧ (1 ≤ A ∧ A ≤ 6) ∧ (1 ≤ B ∧ B ≤ 6) ∧ A ≠ B ∧
  H p = some (.lst (ts.map V.ref)) ∧ own p = 0 ∧ (∀ t ∈ ts, own t = 0) ∧ Shares H (fundAt s A) (fundAt s B) ts (fundAt s A).hold ∧ (fundAt s B).closing = false ∧ unitsOf (Vbfual.joined (fundAt s A) (fundAt s B)).2 ≤ Vbfual.MANY ∧
  ∀ own' H', BookAt C L own' H' b (stJ s B (fundAt s A) (fundAt s B) (fundAt s A).hold) → Out own H own' H' → Q .non H'
abbrev s_hand_out : Stmt := top 52
theorem sc_hand_out : FnScope ["book", "fund", "other", "brought", "share", "holder", "cash", "cost"] ["book", "fund", "other", "brought"] (defScope s_hand_out) := by walk_at "sc"
theorem ok_hand_out {f : Addr} {fd : FuncData} (F : Fun K "hand_out" "hand_out" s_hand_out f fd) (T : Txt K mg C) (O_add_to_holding : Ok P w K mg base 3 "add_to_holding" ["fund", "holder", "units", "cost"] (spAdd C)) : FnOk P w K mg base CX0 4 f fd ["book", "fund", "other", "brought"] (spHand C) := by
  refine F.ok sc_hand_out (fun vs H Q E h => ?_) (fun cdv A outer s H vs Q E hr h => ?_)
  · obtain ⟨b, L, own, s, A, B, p, ts, rfl, _⟩ := h
    rfl
  · obtain ⟨b, L, own, s, A, B, p, ts, rfl, Bk, hA, hB, nAB, hp, op, ot, hsh, hc, hu0, q⟩ := h
    have nd := sc_hand_out.nd
    have hu := hu_of hr
    have e1 := z0; have e2 := z0; have e3 := z0; have e4 := z0; have e5 := z0; have e6 := z0
    refine ⟨_, (pss_one (ps_for PassesOwn.never rfl (pi_list (pv 3)) (pg_name (i := 4) nd rfl (Or.inl rfl)) (pss_cons (ps_set (i := 5) nd rfl (Or.inl rfl) (pe_ix ix_tup (pv 4) pe_int (fun _ _ => rfl)))
      (pss_cons (ps_set (i := 6) nd rfl (Or.inl rfl) (pe_ix ix_tup (pv 4) pe_int (fun _ _ => rfl)))
      (pss_cons (ps_set (i := 7) nd rfl (Or.inl rfl) (pe_callB (call_max2 rfl) (by rfl) T.b_max boot_max (pa_cons pe_int (pa_cons (pe_op op_sub (pe_fld (pe_dget hu (pe_fld (pv 1) rfl) (pv 5) (fun _ _ => rfl)) rfl) (pv 6)) pa_nil))))
      (pss_cons (ps_expr (pe_ok O_add_to_holding (hr.mono (by decide)) rfl (pa_cons (pv 2) (pa_cons (pv 5) (pa_cons (pe_ix ix_tup (pv 4) pe_int (fun _ _ => rfl)) (pa_cons (pv 7) pa_nil))))))
      (pss_one (ps_daug hu (pe_fld (pv 0) rfl) (pv 5) (pv 6) in_add (fun _ _ _ => rfl))))))))), ?_⟩
    have hxA := Bk.ok.fok A hA.1 hA.2
    have hxB := Bk.ok.fok B hB.1 hB.2
    have hlen := hsh.len
    generalize hxe : fundAt s A = x at *
    generalize hye : fundAt s B = y at *
    refine ⟨_, rfl, p, rfl, ⟨_, SqL.of hp⟩, for_list (K := K) (a := p) (xs := ts.map V.ref) (fun i σ H' => ∃ own', BookAt C L own' H' b (stJ s B x y (x.hold.take i)) ∧ Out own H own' H' ∧ ∃ v4 v5 v6 v7 : Option V, σ = [some (.ref b), some (.ref (L.fa A)), some (.ref (L.fa B)), some (.ref p), v4, v5, v6, v7])
      ⟨own, by rw [List.take_zero, ← hye, stJ_nil Bk.ok.nf hB]; exact Bk, Out.refl, none, none, none, none, rfl⟩ (fun i σ H' _ ⟨_, _, o, _⟩ => SqL.of (o _ _ hp op).1) ?_ ?_⟩
    · rintro i xv σ H' hi ⟨own', Bi, o, v4, v5, v6, v7, rfl⟩
      obtain ⟨t, ht, rfl⟩ : ∃ t, ts[i]? = some t ∧ xv = V.ref t := by
        rw [List.getElem?_map] at hi
        cases e : ts[i]? with
        | none => rw [e] at hi; cases hi
        | some t =>
          rw [e] at hi
          exact ⟨t, rfl, (Option.some.inj hi).symm⟩
      obtain ⟨h, hh⟩ : ∃ h, x.hold[i]? = some h := by
        have := (List.getElem?_eq_some_iff.mp ht).1
        exact ⟨_, List.getElem?_eq_getElem (by omega)⟩
      have hm := List.mem_of_getElem? hh
      have htup := (o _ _ (hsh.at_ i t h ht hh) (ot t (List.mem_of_getElem? ht))).1
      have FA := Bi.fund A hA.1 hA.2
      rw [stJ_A Bk.ok.nf hB hA.1 nAB, hxe] at FA
      have FB := Bi.fund B hB.1 hB.2
      rw [stJ_B Bk.ok.nf hB] at FB
      obtain ⟨dx, d, E, FA⟩ := FA.open_
      obtain ⟨w, hw, rfl, hv⟩ := FA.get hm
      obtain ⟨dw, hwa⟩ := (FA.hs.each w hw).at_
      have hr := FA.sf.rng w.2 hm
      have e1 := FA.at_
      have e3 := hwa
      walk_at "rde"
      refine ⟨_, SqT.of htup, _, at_of (j := 0) rfl rfl, _, SqT.of htup, _, at_of (j := 2) rfl rfl, _, dget FA.hs.dic hv, w.1, rfl, ?_⟩
      walk_at "rde"
      refine ⟨_, SqT.of htup, _, at_of (j := 1) rfl rfl, ?_⟩
      have hcost : (if (w.2.cost : Int) - (restOf x y w.2.units : Nat) > 0 then (w.2.cost : Int) - (restOf x y w.2.units : Nat) else 0) = ((w.2.cost - restOf x y w.2.units : Nat) : Int) := by
        split <;> omega
      rw [hcost]
      refine ⟨_, own', B, _, w.2.holder, _, _, rfl, FB, hr, fun own2 H2 F2 fr => ?_⟩
      rw [← part1_take hh] at F2
      have B2 := Bi.setFund hB (part1_ok hxA.sf hxB hc hu0 (i + 1)) F2 fr
      obtain ⟨dxb, e4⟩ := B2.bk
      walk_at "rde"
      refine ⟨_, dget B2.cdic (T_val (mem_twenty hr)), ?_⟩
      walk_at "rde"
      refine ⟨_, DPut.k (k := Sum.inl (w.2.holder : Int)) B2.cdic len20, ?_⟩
      have B3 := B2.pays (m := ((restOf x y w.2.units : Nat) : Int)) hr
      rw [stJ_step hh] at B3
      exact ⟨own2, B3, (o.trans (fr.out (by omega))).trans (Out.upd B2.ocd (by decide)), _, rfl⟩
    · rintro σ H' ⟨own', Bi, o, v4, v5, v6, v7, rfl⟩
      rw [List.length_map, hlen, List.take_length] at Bi
      exact q own' H' Bi o
theorem rd_sumT {H : Hp} {p : Addr} {ts : List Addr} {v0 v1 v2 v4 v5 v6 v7 : Option V} {val : Nat → Int} {k : Int} (hl : H p = some (.lst (ts.map V.ref))) (hn : ts.length ≤ 20) (ht : ∀ (i : Nat) (t : Addr), ts[i]? = some t → ∃ xs, H t = some (.tup xs) ∧ atI xs k = some (.int (val i))) {Q : VK}
    (q : ∀ H', Same H H' → Good H → Good H' → Q (.int ((List.range ts.length).map val).sum) H') (g : Good H) :
    tCB (rSum K) (tCons (tLc (iList K (tVar 3)) (gName 5) tYes (tOp (rIxT K) (tVar 5) (tC (.int k))) [5]) tNil) [v0, v1, v2, some (.ref p), v4, v5, v6, v7] H Q := by
  refine ⟨_, rfl, p, rfl, ⟨_, SqL.of hl⟩, fun D hD => ?_⟩
  refine lc_list (K := K) (a := p) (xs := ts.map V.ref) (fun i H' => H' = upd H D (.lst ((List.range i).map fun j => V.int (val j)))) rfl (fun i H' _ e => ?_) (fun i x H' hi e => ?_) fun H' e => ?_
  · rw [e]
    exact SqL.of (by rw [upd_ne (ne_of_none hl hD)]; exact hl)
  · subst e
    obtain ⟨t, hti, rfl⟩ : ∃ t, ts[i]? = some t ∧ x = V.ref t := by
      rw [List.getElem?_map] at hi
      cases e : ts[i]? with
      | none => rw [e] at hi; cases hi
      | some t =>
        rw [e] at hi
        exact ⟨t, rfl, (Option.some.inj hi).symm⟩
    obtain ⟨xs, hx, ha⟩ := ht i t hti
    refine ⟨rfl, ?_⟩
    simp only [tYes, if_true]
    refine ⟨_, rfl, t, xs, k, _, rfl, rfl, SqT.of (by rw [upd_ne (ne_of_none hx hD)]; exact hx), ha, _, upd_same, ?_, ?_⟩
    · rw [List.length_map, List.length_range]
      exact small _ (by have := (List.getElem?_eq_some_iff.mp hti).1; omega)
    · rw [upd_upd, List.range_succ, List.map_append]
      rfl
  · subst e
    refine ⟨D, (List.range ts.length).map val, rfl, SqL.of ?_, q _ (fun b o e => ?_) g (g.upd (by intro _ z; cases z))⟩
    · rw [upd_same, List.length_map, List.map_map]
      rfl
    · rw [upd_ne (ne_of_none e hD)]
      exact e
theorem range_sum {l : List Holding} {f : Holding → Nat} {val : Nat → Int} (h : ∀ i y, l[i]? = some y → val i = (f y : Nat)) : ((List.range l.length).map val).sum = ((Vbfual.sum (l.map f) : Nat) : Int) := by
  rw [← isum_cast]
  refine congrArg List.sum (List.ext_getElem? fun i => ?_)
  rw [List.getElem?_map, List.getElem?_map]
  by_cases hi : i < l.length
  · rw [List.getElem?_range hi, List.getElem?_eq_getElem hi]
    exact congrArg some (h i _ (List.getElem?_eq_getElem hi))
  · rw [List.getElem?_eq_none (by rw [List.length_range]; omega), List.getElem?_eq_none (by omega)]
    rfl
def vN (x y : Fund) (i : Nat) : Int := ((x.hold[i]?).map fun h => ((newUnits x y h.units : Nat) : Int)).getD 0
def vR (x y : Fund) (i : Nat) : Int := ((x.hold[i]?).map fun h => ((restOf x y h.units : Nat) : Int)).getD 0
theorem vN_sum (x y : Fund) : ((List.range x.hold.length).map (vN x y)).sum = ((Vbfual.sum (x.hold.map fun h => newUnits x y h.units) : Nat) : Int) := range_sum fun i h e => by unfold vN; rw [e]; rfl
theorem vR_sum (x y : Fund) : ((List.range x.hold.length).map (vR x y)).sum = ((Vbfual.sum (x.hold.map fun h => restOf x y h.units) : Nat) : Int) := range_sum fun i h e => by unfold vR; rw [e]; rfl
theorem Shares.nth {H : Hp} {x y : Fund} {ts : List Addr} (S : Shares H x y ts x.hold) {i : Nat} {t : Addr} (hi : ts[i]? = some t) : (∃ xs, H t = some (.tup xs) ∧ atI xs 1 = some (.int (vN x y i))) ∧ ∃ xs, H t = some (.tup xs) ∧ atI xs 2 = some (.int (vR x y i)) := by
  have hl := S.len
  have hi' := (List.getElem?_eq_some_iff.mp hi).1
  obtain ⟨h, hh⟩ : ∃ h, x.hold[i]? = some h := ⟨_, List.getElem?_eq_getElem (by omega)⟩
  have e := S.at_ i t h hi hh
  exact ⟨⟨_, e, at_of (j := 1) rfl (by unfold vN; rw [hh]; rfl)⟩, ⟨_, e, at_of (j := 2) rfl (by unfold vR; rw [hh]; rfl)⟩⟩
def joinOf (s : State) (A B : Nat) : State × List Int :=
  if 0 < unitsOf (fundAt s B) ∧ (fundAt s B).value = 0 then (s, [-9])
  else if Vbfual.GREAT < (Vbfual.joined (fundAt s A) (fundAt s B)).2.value ∨ Vbfual.MANY < unitsOf (Vbfual.joined (fundAt s A) (fundAt s B)).2 then (s, [-8])
  else (Vbfual.paysAll (Vbfual.setFund (Vbfual.setFund s A Vbfual.noFund) B (Vbfual.joined (fundAt s A) (fundAt s B)).2) (Vbfual.joined (fundAt s A) (fundAt s B)).1,
    [1, (Vbfual.sum ((fundAt s A).hold.map fun h => restOf (fundAt s A) (fundAt s B) h.units) : Nat), (Vbfual.sum ((fundAt s A).hold.map fun h => newUnits (fundAt s A) (fundAt s B) h.units) : Nat)])
def Ret (C : Cs) (L : Lo) (own : Own) (H : Hp) (b : Addr) (r : State × List Int) (Q : VK) : Prop := ∀ own' H' p, BookAt C L own' H' b r.1 → H' p = some (.lst (r.2.map V.int)) → Out own H own' H' → Fresh0 own H p → Q (.ref p) H'
theorem Ret.fin {L : Lo} {own own1 : Own} {H H1 : Hp} {b : Addr} {s : State} {Q : VK} {ans : List Int} {r : State × List Int} (D : Ret C L own H b r Q) (hs : r = (s, ans)) (B : BookAt C L own1 H1 b s) (o : Out own H own1 H1) : ∀ p, H1 p = none → Q (.ref p) (upd H1 p (.lst (ans.map V.int))) := fun p hp => by
  subst hs
  exact D own1 _ p (B.out (by intro _ z; cases z) (.inr hp)) upd_same (o.trans (Out.lay hp)) (Fresh0.out o hp)
theorem Ret.no {L : Lo} {own : Own} {H : Hp} {b : Addr} {s : State} {Q : VK} {k : Int} {r : State × List Int} (D : Ret C L own H b r Q) (B : BookAt C L own H b s) (hs : r = (s, [k])) : ∀ p, H p = none → Q (.ref p) (upd H p (.lst [.int k])) := D.fin hs B Out.refl
theorem joined_eq (x y : Fund) : ({ part1 x y x.hold with value := (Vbfual.joined x y).2.value, closing := y.closing, declared := y.declared } : Fund) = (Vbfual.joined x y).2 := by
  obtain ⟨f1, f2, f3⟩ := part1_flds x y x.hold
  rw [← f2, ← f3]
  rfl
theorem join_state {s : State} {A B : Nat} (hA : 1 ≤ A) (hB : 1 ≤ B) (n : A ≠ B) (x y : Fund) : Vbfual.setFund (Vbfual.setFund (stJ s B x y x.hold) B (Vbfual.joined x y).2) A Vbfual.noFund = Vbfual.paysAll (Vbfual.setFund (Vbfual.setFund s A Vbfual.noFund) B (Vbfual.joined x y).2) (Vbfual.joined x y).1 := by
  have k := paysAll_keep (Vbfual.joined x y).1 (Vbfual.setFund (Vbfual.setFund s A Vbfual.noFund) B (Vbfual.joined x y).2)
  refine state_ext ?_ ?_ ?_ ?_
  · rw [k.1]
    show ((s.funds.set (B - 1) _).set (B - 1) _).set (A - 1) _ = (s.funds.set (A - 1) _).set (B - 1) _
    rw [List.set_set, List.set_comm _ _ (by omega)]
  · exact paysAll_cash _ rfl
  · rw [k.2.1]; rfl
  · rw [k.2.2.1]; rfl
def spJoin (C : Cs) : Sp := fun vs H Q _ => ∃ (b : Addr) (L : Lo) (own : Own) (s : State) (A B : Nat), vs = [.ref b, .ref (L.fa A), .ref (L.fa B)] ∧ BookAt C L own H b s ∧ (1 ≤ A ∧ A ≤ 6) ∧ (1 ≤ B ∧ B ≤ 6) ∧ A ≠ B ∧ (fundAt s A).closing = false ∧ (fundAt s B).closing = false ∧ 0 < unitsOf (fundAt s A) ∧
  Ret C L own H b (joinOf s A B) Q
abbrev s_join_into : Stmt := top 53
theorem sc_join_into : FnScope ["book", "fund", "other", "brought", "new_units", "share", "cash", "value"] ["book", "fund", "other"] (defScope s_join_into) := by walk_at "sc"
theorem ok_join_into {f : Addr} {fd : FuncData} (F : Fun K "join_into" "join_into" s_join_into f fd) (T : Txt K mg C) (O_is_worthless : Ok P w K mg base 2 "is_worthless" ["fund"] (spWorth C)) (O_brought_to_all : Ok P w K mg base 3 "brought_to_all" ["fund", "other"] (spBroughtAll C)) (O_hand_out : Ok P w K mg base 4 "hand_out" ["book", "fund", "other", "brought"] (spHand C)) (O_all_units : Ok P w K mg base 1 "all_units" ["fund"] (spSum C unitsOf)) : FnOk P w K mg base CX0 5 f fd ["book", "fund", "other"] (spJoin C) := by
  refine F.ok sc_join_into (fun vs H Q E h => ?_) (fun cdv A outer s H vs Q E hr h => ?_)
  · obtain ⟨b, L, own, s, A, B, rfl, _⟩ := h
    rfl
  · obtain ⟨b, L, own, s, A, B, rfl, Bk, hA, hB, nAB, hcA, hcB, hux, D⟩ := h
    have nd := sc_join_into.nd
    have hu := hu_of hr
    have e1 := z0; have e2 := z0; have e3 := z0; have e4 := z0; have e5 := z0; have e6 := z0
    refine ⟨_, (pss_cons (ps_if (pt_val (pe_ok O_is_worthless (hr.mono (by decide)) rfl (pa_cons (pv 2) pa_nil))) (pss_one (ps_ret (pe_lst (pa_cons (pe_gint rfl T.c_NOTHING_TO_RECKON_BY) pa_nil)))) pss_nil)
      (pss_cons (ps_set (i := 3) nd rfl (Or.inl rfl) (pe_ok O_brought_to_all (hr.mono (by decide)) rfl (pa_cons (pv 1) (pa_cons (pv 2) pa_nil))))
      (pss_cons (ps_set (i := 4) nd rfl (Or.inl rfl) (pe_callB (cr_sum rfl) (by rfl) T.b_sum boot_sum (pa_cons (pe_lc (te := (tOp (rIxT K) (tVar 5) (tC (.int 1)))) rfl nd (pi_list (pv 3)) (blkOk_by (N := ["book", "fund", "other", "brought", "new_units", "share", "cash", "value"]) (sc := defScope s_join_into) (own := [("share", 5)]) (by decide +kernel)) (fun _ _ _ _ _ => pg_name (i := 5) nd rfl (Or.inl rfl)) (fun _ _ _ _ _ => pts_nil) (fun _ _ _ _ _ => (pe_ix ix_tup (pv 5) pe_int (fun _ _ => rfl)))) pa_nil)))
      (pss_cons (ps_set (i := 6) nd rfl (Or.inl rfl) (pe_callB (cr_sum rfl) (by rfl) T.b_sum boot_sum (pa_cons (pe_lc (te := (tOp (rIxT K) (tVar 5) (tC (.int 2)))) rfl nd (pi_list (pv 3)) (blkOk_by (N := ["book", "fund", "other", "brought", "new_units", "share", "cash", "value"]) (sc := defScope s_join_into) (own := [("share", 5)]) (by decide +kernel)) (fun _ _ _ _ _ => pg_name (i := 5) nd rfl (Or.inl rfl)) (fun _ _ _ _ _ => pts_nil) (fun _ _ _ _ _ => (pe_ix ix_tup (pv 5) pe_int (fun _ _ => rfl)))) pa_nil)))
      (pss_cons (ps_set (i := 7) nd rfl (Or.inl rfl) (pe_op op_sub (pe_op op_add (pe_fld (pv 2) rfl) (pe_fld (pv 1) rfl)) (pv 6)))
      (pss_cons (ps_if (PW.pt (pw_or (pt_cmp (pc_gt (pv 7) (pe_gint rfl T.c_MOST_VALUE))) (pw_or1 (pt_cmp (pc_gt (pe_op op_add (pe_ok O_all_units (hr.mono (by decide)) rfl (pa_cons (pv 2) pa_nil)) (pv 4)) (pe_gint rfl T.c_MOST_UNITS)))))) (pss_one (ps_ret (pe_lst (pa_cons (pe_gint rfl T.c_NO_ROOM) pa_nil)))) pss_nil)
      (pss_cons (ps_expr (pe_ok O_hand_out (hr.mono (by decide)) rfl (pa_cons (pv 0) (pa_cons (pv 1) (pa_cons (pv 2) (pa_cons (pv 3) pa_nil))))))
      (pss_cons (ps_fld (pv 2) (pv 7) rfl)
      (pss_cons (ps_fld (pv 1) pe_int rfl)
      (pss_cons (ps_fld (pv 1) pe_dnewK rfl)
      (pss_one (ps_ret (pe_lst (pa_cons (pe_gint rfl T.c_JOIN) (pa_cons (pv 6) (pa_cons (pv 4) pa_nil)))))))))))))))), ?_⟩
    have hx := Bk.ok.fok A hA.1 hA.2
    have hy := Bk.ok.fok B hB.1 hB.2
    have FA0 := Bk.fund A hA.1 hA.2
    have FB0 := Bk.fund B hB.1 hB.2
    obtain ⟨dx, d, E, FA⟩ := FA0.open_
    obtain ⟨dy, d', E', FB⟩ := FB0.open_
    have e1 := FA.at_
    have e2 := FB.at_
    refine ⟨_, rfl, _, own, B, _, rfl, FB0, _, rfl, ?_⟩
    refine ite2 (fun h9 => ?_) fun h9 => ?_
    · walk_at "rde"
      have h9' := of_decide_eq_true h9
      exact D.no Bk (if_pos ⟨h9'.2, h9'.1⟩)
    have h9 : ¬ ((fundAt s B).value = 0 ∧ 0 < unitsOf (fundAt s B)) := fun z => h9 (decide_eq_true z)
    have hj : joinOf s A B = _ := if_neg (fun z => h9 ⟨z.2, z.1⟩)
    refine ⟨_, rfl, _, rfl, L.fa A, L.fa B, own, A, B, _, _, rfl, FA0, FB0, hx, hy, hux, fun z1 z2 => h9 ⟨z2, z1⟩, fun H1 p ts hS hG hp hl hts hsh => ?_⟩
    have hlen := hsh.len
    have hle := FA.sf.le20
    have jv := joined_value (fundAt s A) (fundAt s B)
    have ju := joined_units FA.sf FB.sf
    have jc := joined_is (fundAt s A) (fundAt s B)
    have jok := fun h1 h2 => hx.join hy hcB (hv := h1) (hu := h2)
    have p1ok := fun h => part1_ok FA.sf hy hcB h (fundAt s A).hold.length
    rw [List.take_length] at p1ok
    generalize hxe : fundAt s A = x at *
    generalize hye : fundAt s B = y at *
    refine rd_sumT (K := K) (p := p) (ts := ts) (k := 1) (val := vN x y) hl (by omega) (fun i t hi => (hsh.nth hi).1) (fun H2 hS2 _ hG2 => ?_) hG
    have hsh2 := hsh.same fun t _ o e => hS2 t o e
    refine rd_sumT (K := K) (p := p) (ts := ts) (k := 2) (val := vR x y) (hS2 _ _ hl) (by omega) (fun i t hi => (hsh2.nth hi).2) (fun H3 hS3 _ hG3 => ?_) hG2
    rw [hlen, vN_sum, vR_sum]
    have hSS : Same H H3 := (hS.trans hS2).trans hS3
    have e1 := hSS _ _ FA.at_
    have e2 := hSS _ _ FB.at_
    have B3s := Bk.same hG3 hSS
    generalize hnu : Vbfual.sum (x.hold.map fun h => newUnits x y h.units) = nu at *
    generalize hca : Vbfual.sum (x.hold.map fun h => restOf x y h.units) = ca at *
    walk_at "rde"
    refine ite2 (fun h8 => D.fin (hj.trans (if_pos (.inl (by show 10 ^ 12 < _; omega)))) B3s (R.Same.out hSS)) fun h8 => ?_
    refine ⟨_, own, B, y, rfl, FB0.same hG3 hSS, ?_⟩
    walk_at "rde"
    refine ite2 (fun h8' => D.fin (hj.trans (if_pos (.inr (by show 10 ^ 18 < _; omega)))) B3s (R.Same.out hSS)) fun h8' => ?_
    have hv8 : (Vbfual.joined x y).2.value ≤ Vbfual.GREAT := by show _ ≤ 10 ^ 12; omega
    have hu8 : unitsOf (Vbfual.joined x y).2 ≤ Vbfual.MANY := by show _ ≤ 10 ^ 18; omega
    rw [if_neg (by omega)] at hj
    have B3 : BookAt C L (own0 H own) H3 b s := Bk.keep hG3 fun c o e _ => ⟨hSS c o e, own0_in e⟩
    have hsh3 := hsh2.same fun t _ o e => hS3 t o e
    have o3 : Out own H (own0 H own) H3 := fun c o e n => ⟨hSS c o e, (own0_in e).trans n⟩
    refine ⟨b, L, own0 H own, s, A, B, p, ts, rfl, B3, hA, hB, nAB, (hS2.trans hS3) _ _ hl, own0_out hp, fun t ht => own0_out (hts t ht), by rw [hxe, hye]; exact hsh3, by rw [hye]; exact hcB, by rw [hxe, hye]; exact hu8, fun own4 H4 B4 o4 => ?_⟩
    rw [hxe, hye] at B4
    have FB4 := B4.fund B hB.1 hB.2
    rw [stJ_B Bk.ok.nf hB] at FB4
    obtain ⟨dy4, d4, E4, FB4⟩ := FB4.open_
    obtain ⟨f1, f2, f3⟩ := part1_flds x y x.hold
    have e3 := FB4.at_
    rw [f1, f2, f3] at e3
    walk_at "rde"
    have FB5 := (FB4.write (vi := (y.value : Int) + x.value - ca) (v := (Vbfual.joined x y).2.value) (c := y.closing) (di := (y.declared : Int)) (dn := y.declared) jv.symm rfl).close
    rw [joined_eq] at FB5
    have B5 := B4.setFund hB (jok hv8 hu8) FB5 (Frm.upd FB4.ow)
    have o5 : Out own4 H4 own4 _ := (Frm.upd (H := H4) (u := .ins C.f dy4 (fF (.int ((y.value : Int) + x.value - ca)) (.ref d4) (.bl y.closing) (.int y.declared))) FB4.ow).out (by omega)
    have FA5 := B5.fund A hA.1 hA.2
    rw [fundAt_ne B4.ok.nf _ hB hA.1 nAB, stJ_A Bk.ok.nf hB hA.1 nAB, hxe] at FA5
    generalize upd H4 (L.fa B) (.ins C.f dy4 (fF (.int ((y.value : Int) + x.value - ca)) (.ref d4) (.bl y.closing) (.int y.declared))) = H5 at *
    obtain ⟨dx5, d5, E5, FA5⟩ := FA5.open_
    have e4 := FA5.at_
    walk_at "rde"
    intro d2 hd2
    have n1 : d2 ≠ L.fa A := fun e => by rw [e, upd_same] at hd2; cases hd2
    have n2 : H5 d2 = none := by rw [upd_ne n1] at hd2; exact hd2
    have e5 := fun (G : Hp) (o : HO) => upd_ne (H := G) (o := o) n1.symm
    walk_at "rde"
    have hxd := (hx.idle hcA).1
    rw [hcA, hxd]
    have F6 : FundAt C (give own4 d2 A) (upd (upd (upd H5 (L.fa A) (.ins C.f dx5 (fF (.int 0) (.ref d5) (.bl false) (.int ((0 : Nat) : Int))))) d2 (.dK [])) (L.fa A) (.ins C.f dx5 (fF (.int 0) (.ref d2) (.bl false) (.int ((0 : Nat) : Int))))) A (L.fa A) Vbfual.noFund :=
      FundIs.close (dx := dx5) (d := d2) (E := []) ⟨((B5.good.upd (by intro _ z; cases z)).upd (by intro _ z; cases z)).upd (by intro _ z; cases z), Sf.nil, upd_same, by rw [give_ne n1.symm]; exact FA5.ow,
        ⟨by rw [upd_ne n1, upd_same]; rfl, give_same, by simp, by simp⟩, List.Perm.refl _⟩
    have B6 := B5.setFund hA FOk.no F6 fun c o e oc => by
      have c1 : c ≠ L.fa A := fun z => oc (by rw [z]; exact FA5.ow)
      have c2 : c ≠ d2 := ne_of_none e n2
      exact ⟨by rw [upd_ne c1, upd_ne c2, upd_ne c1]; exact e, give_ne c2⟩
    have o6 : Out own4 H5 (give own4 d2 A) (upd (upd (upd H5 (L.fa A) (.ins C.f dx5 (fF (.int 0) (.ref d5) (.bl false) (.int ((0 : Nat) : Int))))) d2 (.dK [])) (L.fa A) (.ins C.f dx5 (fF (.int 0) (.ref d2) (.bl false) (.int ((0 : Nat) : Int))))) := fun c o e oc => by
      have c1 : c ≠ L.fa A := fun z => by rw [z, FA5.ow] at oc; omega
      have c2 : c ≠ d2 := ne_of_none e n2
      exact ⟨by rw [upd_ne c1, upd_ne c2, upd_ne c1]; exact e, by rw [give_ne c2]; exact oc⟩
    rw [join_state hA.1 hB.1 nAB] at B6
    exact D.fin hj B6 ((o3.trans o4).trans (o5.trans o6))
end
section
variable {P : Program} {w : World} {K : PySem.W.Frag} {mg : Str → Option Value} {base : Heap} {C : Cs}
def Frm2 (r1 r2 : Nat) (own : Own) (H : Hp) (own' : Own) (H' : Hp) : Prop := ∀ c o, H c = some o → own c ≠ r1 → own c ≠ r2 → H' c = some o ∧ own' c = own c
theorem Frm.two1 {r1 r2 : Nat} {own own' : Own} {H H' : Hp} (f : Frm r1 own H own' H') : Frm2 r1 r2 own H own' H' := fun c o e n1 _ => f c o e n1
theorem Frm.two2 {r1 r2 : Nat} {own own' : Own} {H H' : Hp} (f : Frm r2 own H own' H') : Frm2 r1 r2 own H own' H' := fun c o e _ n2 => f c o e n2
theorem Frm2.trans {r1 r2 : Nat} {o1 o2 o3 : Own} {H1 H2 H3 : Hp} (a : Frm2 r1 r2 o1 H1 o2 H2) (b : Frm2 r1 r2 o2 H2 o3 H3) : Frm2 r1 r2 o1 H1 o3 H3 := fun c o e n1 n2 => by
  obtain ⟨e1, m1⟩ := a c o e n1 n2
  obtain ⟨e2, m2⟩ := b c o e1 (by rw [m1]; exact n1) (by rw [m1]; exact n2)
  exact ⟨e2, m2.trans m1⟩
theorem Frm2.out {r1 r2 : Nat} {own own' : Own} {H H' : Hp} (f : Frm2 r1 r2 own H own' H') (h1 : r1 ≠ 0) (h2 : r2 ≠ 0) : Out own H own' H' := fun b o e n => by
  obtain ⟨e1, n1⟩ := f b o e (by rw [n]; exact h1.symm) (by rw [n]; exact h2.symm)
  exact ⟨e1, n1.trans n⟩
theorem FundAt.ne {own : Own} {H : Hp} {A B : Nat} {a b : Addr} {x y : Fund} (F : FundAt C own H A a x) (G : FundAt C own H B b y) (n : A ≠ B) : a ≠ b := fun e => by
  obtain ⟨_, _, _, _, h1, _⟩ := F.ex
  obtain ⟨_, _, _, _, h2, _⟩ := G.ex
  rw [e, h2] at h1
  exact n h1.symm
theorem div_cast (a b m : Nat) : ((a : Int) * b / (m : Int)) = ((a * b / m : Nat) : Int) := by
  push_cast
  rfl
def spDivide (C : Cs) : Sp := fun vs H Q _ => ∃ (a b : Addr) (own : Own) (A B : Nat) (x y : Fund) (part : Nat), vs = [.ref a, .ref b, .int part] ∧ FundAt C own H A a x ∧ FundAt C own H B b y ∧ A ≠ B ∧ A ≠ 0 ∧ B ≠ 0 ∧ FOk x ∧ x.closing = false ∧ part ≤ 1000000 ∧
  (0 < unitsOf y → ∀ p, H p = none → Q (.ref p) (upd H p (.lst [.int (-6)]))) ∧
  (unitsOf y = 0 → ∀ own' H' p, FundAt C own' H' A a { x with value := x.value - x.value * part / Vbfual.MILLION, hold := x.hold.map (cut1 part) } → FundAt C own' H' B b { y with value := x.value * part / Vbfual.MILLION, hold := x.hold.map (cut2 part) } →
    Frm2 A B own H own' H' → H' p = some (.lst [.int 2, .int (x.value * part / Vbfual.MILLION : Nat)]) → Fresh0 own H p → Q (.ref p) H')
abbrev s_divide_into : Stmt := top 54
theorem sc_divide_into : FnScope ["fund", "other", "part", "holder", "holding", "cost"] ["fund", "other", "part"] (defScope s_divide_into) := by walk_at "sc"
theorem ok_divide_into {f : Addr} {fd : FuncData} (F : Fun K "divide_into" "divide_into" s_divide_into f fd) (T : Txt K mg C) (O_all_units : Ok P w K mg base 1 "all_units" ["fund"] (spSum C unitsOf)) (O_add_to_holding : Ok P w K mg base 3 "add_to_holding" ["fund", "holder", "units", "cost"] (spAdd C)) : FnOk P w K mg base CX0 4 f fd ["fund", "other", "part"] (spDivide C) := by
  refine F.ok sc_divide_into (fun vs H Q E h => ?_) (fun cdv A outer s H vs Q E hr h => ?_)
  · obtain ⟨a, b, own, A, B, x, y, part, rfl, _⟩ := h
    rfl
  · obtain ⟨a, b, own, A, B, x, y, part, rfl, FA0, FB0, nAB, nA, nB, hx, hc, hpt, q1, q2⟩ := h
    have nd := sc_divide_into.nd
    have hu := hu_of hr
    have e1 := z0; have e2 := z0; have e3 := z0; have e4 := z0; have e5 := z0; have e6 := z0
    refine ⟨_, (pss_cons (ps_if (pt_cmp (pc_gt (pe_ok O_all_units (hr.mono (by decide)) rfl (pa_cons (pv 1) pa_nil)) pe_int)) (pss_one (ps_ret (pe_lst (pa_cons (pe_gint rfl T.c_NOT_ALLOWED) pa_nil)))) pss_nil)
      (pss_cons (ps_fld (pv 1) (pe_op op_fdivL (pe_op op_mul (pe_fld (pv 0) rfl) (pv 2)) (pe_gint rfl T.c_MILLION)) rfl)
      (pss_cons (ps_fldaug (pv 0) (pe_fld (pv 1) rfl) in_sub)
      (pss_cons (ps_for PassesOwn.never rfl (pi_list (pe_callB (cr_sortedD rfl) (by rfl) T.b_sorted boot_sorted (pa_cons (pe_fld (pv 0) rfl) pa_nil))) (pg_name (i := 3) nd rfl (Or.inl rfl)) (pss_cons (ps_set (i := 4) nd rfl (Or.inl rfl) (pe_dget hu (pe_fld (pv 0) rfl) (pv 3) (fun _ _ => rfl)))
      (pss_cons (ps_set (i := 5) nd rfl (Or.inl rfl) (pe_op op_fdivL (pe_op op_mul (pe_fld (pv 4) rfl) (pv 2)) (pe_gint rfl T.c_MILLION)))
      (pss_cons (ps_fldaug (pv 4) (pv 5) in_sub)
      (pss_one (ps_expr (pe_ok O_add_to_holding (hr.mono (by decide)) rfl (pa_cons (pv 1) (pa_cons (pv 3) (pa_cons (pe_fld (pv 4) rfl) (pa_cons (pv 5) pa_nil)))))))))))
      (pss_one (ps_ret (pe_lst (pa_cons (pe_gint rfl T.c_DIVIDE) (pa_cons (pe_fld (pv 1) rfl) pa_nil))))))))), ?_⟩
    have nab := FA0.ne FB0 nAB
    obtain ⟨dx, d, E, FA⟩ := FA0.open_
    obtain ⟨dy, d', E', FB⟩ := FB0.open_
    have hyh := FB.sf.empty
    have hxg := (hx.idle hc).2
    have hv : ((x.value : Int) * part / 1000000) = ((x.value * part / Vbfual.MILLION : Nat) : Int) := div_cast _ _ 1000000
    have hvl : x.value * part / Vbfual.MILLION ≤ x.value := Nat.div_le_of_le_mul (by rw [Nat.mul_comm]; exact Nat.mul_le_mul_right _ hpt)
    refine ⟨_, rfl, b, own, B, y, rfl, FB0, ?_⟩
    refine ⟨_, _, rfl, rfl, _, rfl, ite2 (fun h1 => ?_) fun h1 => ?_⟩
    · have h1' := of_decide_eq_true h1
      walk_at "rde"
      exact q1 (by omega)
    have h1' : ¬ (0 : Int) < (unitsOf y : Nat) := fun z => h1 (decide_eq_true z)
    have hy0 := hyh (by omega)
    have q := q2 (by omega)
    refine ⟨_, rfl, a, C.f, dx, _, _, rfl, FA.at_, T.clF, T.nF_value, fF_value _ _ _ _, _, rfl, _, _, rfl, rfl, cmul_r (by omega) (by omega), _, _, rfl, rfl, cdiv_of (by decide) (by decide), _, rfl, b, C.f, dy, _, rfl, FB.at_, T.clF, T.nF_value, (by rw [fF_len]; decide), ?_⟩
    dsimp only
    rw [fF_put_value, hv]
    have hA1 : ∀ o, upd H b o a = some (.ins C.f dx (fF (.int x.value) (.ref d) (.bl x.closing) (.int x.declared))) := fun o => by rw [upd_ne nab]; exact FA.at_
    refine ⟨_, rfl, a, C.f, dx, _, _, rfl, hA1 _, T.clF, T.nF_value, fF_value _ _ _ _, _, rfl, b, C.f, dy, _, _, rfl, upd_same, T.clF, T.nF_value, fF_value _ _ _ _, _, _, rfl, rfl, dx, _, hA1 _, (by rw [fF_len]; decide), ?_⟩
    dsimp only
    rw [fF_put_value]
    generalize hvv : x.value * part / Vbfual.MILLION = v at *
    have FB1 := FB.write (vi := (v : Int)) (di := (y.declared : Int)) (v := v) (dn := y.declared) (c := y.closing) rfl rfl
    have fr1 : Frm B own H own (upd H b (.ins C.f dy (fF (.int v) (.ref d') (.bl y.closing) (.int y.declared)))) := Frm.upd FB.ow
    have FA1 := FA0.frame FB1.good fr1 nAB
    obtain ⟨dx1, d1, E1, FA1⟩ := FA1.open_
    have hat := FA1.at_.symm.trans (hA1 _)
    obtain ⟨rfl, hfs⟩ : dx1 = dx ∧ d1 = d := by
      injection hat with h; injection h with _ h1 h2
      unfold fF at h2
      injection h2 with _ h2; injection h2 with h3 _; injection h3 with _ h3; injection h3 with h3
      exact ⟨h1, h3⟩
    subst hfs
    have FA2 := FA1.write (vi := (x.value : Int) - v) (di := (x.declared : Int)) (v := x.value - v) (dn := x.declared) (c := x.closing) (by omega) rfl
    have fr2 : Frm A own (upd H b (.ins C.f dy (fF (.int v) (.ref d') (.bl y.closing) (.int y.declared)))) own _ := Frm.upd (u := .ins C.f dx1 (fF (.int ((x.value : Int) - v)) (.ref d1) (.bl x.closing) (.int x.declared))) FA1.ow
    have FB2 := FB1.close.frame FA2.good fr2 nAB.symm
    have fr12 : Frm2 A B own H own _ := (Frm.two2 fr1).trans (Frm.two1 fr2)
    generalize upd (upd H b (.ins C.f dy (fF (.int v) (.ref d') (.bl y.closing) (.int y.declared)))) a (.ins C.f dx1 (fF (.int ((x.value : Int) - v)) (.ref d1) (.bl x.closing) (.int x.declared))) = H2 at *
    refine ⟨_, rfl, a, C.f, dx1, _, _, rfl, FA2.at_, T.clF, T.nF_holdings, fF_holdings _ _ _ _, d1, E1.map kv, E1.map (fun p => (p.2.holder : Int)), rfl, .inl FA2.hs.dic, FA2.keys, by rw [List.length_map]; have := FA2.len; omega, fun ns p hperm hsort hp => ?_⟩
    have hns := FA2.sorted hperm hsort
    subst hns
    have G3 : Good (upd H2 p (.lst ((x.hold.map fun y => (y.holder : Int)).map V.int))) := FA2.good.upd (by intro _ z; cases z)
    have k3 : ∀ c o, H2 c = some o → upd H2 p (.lst ((x.hold.map fun y => (y.holder : Int)).map V.int)) c = some o ∧ give own p 0 c = own c := fun c o e => ⟨by rw [upd_ne (ne_of_none e hp)]; exact e, give_ne (ne_of_none e hp)⟩
    refine ⟨p, rfl, ⟨_, SqL.of upd_same⟩, for_list (K := K) (a := p) (xs := (x.hold.map fun y => (y.holder : Int)).map V.int) (fun i σ H' => ∃ own', FundAt C own' H' A a { x with value := x.value - v, hold := cutTo part i x.hold } ∧
      FundAt C own' H' B b { y with value := v, hold := (x.hold.take i).map (cut2 part) } ∧ Frm2 A B own H own' H' ∧ H' p = some (.lst ((x.hold.map fun y => (y.holder : Int)).map V.int)) ∧ own' p = 0 ∧ ∃ v3 v4 v5 : Option V, σ = [some (.ref a), some (.ref b), some (.int part), v3, v4, v5])
      ⟨give own p 0, ?_, ?_, ?_, upd_same, give_same, none, none, none, rfl⟩ (fun i σ H' _ ⟨_, _, _, _, h, _⟩ => SqL.of h) ?_ ?_⟩
    · rw [cutTo_zero]
      exact FA2.close.keep G3 fun c o e oc => ⟨(k3 c o e).1, (k3 c o e).2.trans oc⟩
    · rw [List.take_zero, List.map_nil]
      have FB3 := FB2.keep (own' := give own p 0) G3 fun c o e oc => ⟨(k3 c o e).1, (k3 c o e).2.trans oc⟩
      rw [hy0] at FB3
      exact FB3
    · exact fr12.trans fun c o e _ _ => k3 c o e
    · rintro i xv σ H' hi ⟨own', GA0, GB0, fr, hl, op, v3, v4, v5, rfl⟩
      obtain ⟨h, hh, rfl⟩ : ∃ h, x.hold[i]? = some h ∧ xv = V.int (h.holder : Int) := by
        rw [List.getElem?_map, List.getElem?_map] at hi
        cases e : x.hold[i]? with
        | none => rw [e] at hi; cases hi
        | some h =>
          rw [e] at hi
          exact ⟨h, rfl, (Option.some.inj hi).symm⟩
      have hm := List.mem_of_getElem? hh
      have hr := FA.sf.rng h hm
      obtain ⟨c1, c2⟩ := cutTo_step (part := part) FA.sf hh
      obtain ⟨dxa, da, Ea, GA⟩ := GA0.open_
      obtain ⟨w, hw, rfl, hwv⟩ := GA.get c1
      obtain ⟨dw, hwa⟩ := (GA.hs.each w hw).at_
      have e1 := GA.at_
      have e2 := hwa
      have e3 := fun (G : Hp) (o : HO) => upd_ne (H := G) (o := o) (GA.ne_p hw)
      walk_at "rde"
      refine ⟨_, dget GA.hs.dic hwv, w.1, rfl, ?_⟩
      walk_at "rde"
      have hcv : ((w.2.cost : Int) * part / 1000000) = ((w.2.cost * part / Vbfual.MILLION : Nat) : Int) := div_cast _ _ 1000000
      have hcl : w.2.cost * part / Vbfual.MILLION ≤ w.2.cost := Nat.div_le_of_le_mul (by rw [Nat.mul_comm]; exact Nat.mul_le_mul_right _ hpt)
      refine ⟨cmul_r (by omega) (by omega), cdiv_of (by decide) (by decide), ?_⟩
      rw [hcv]
      have GA2 := (GA.put hw (y := cut1 part w.2) (ci := (w.2.cost : Int) - (w.2.cost * part / Vbfual.MILLION : Nat)) (dp := dw) rfl (by show w.2.units ≠ 0; have := FA.sf.pos w.2 hm; omega) rfl (by show _ = ((w.2.cost - w.2.cost * part / Vbfual.MILLION : Nat) : Int); omega) rfl).close
      have frA : Frm A own' H' own' _ := Frm.upd (u := .ins C.h dw (fH (.int (cut1 part w.2).units) (.int ((w.2.cost : Int) - (w.2.cost * part / Vbfual.MILLION : Nat))) (.int (cut1 part w.2).got))) (GA.hs.each w hw).ow
      have GB2 := GB0.frame GA2.good frA nAB.symm
      refine ⟨b, own', B, _, w.2.holder, w.2.units, _, rfl, GB2, hr, fun own2 H3 F2 fr2' => ?_⟩
      have e9 := div_take (part := part) (b := ⟨v, y.hold, y.closing, y.declared⟩) hy0 FA.sf hxg hh
      dsimp only at e9 GA2
      rw [e9] at F2
      rw [c2] at GA2
      have p1 := frA p _ hl (by rw [op]; exact nA.symm)
      have p2 := fr2' p _ p1.1 (by rw [p1.2, op]; exact nB.symm)
      exact ⟨own2, GA2.frame F2.good fr2' nAB, F2, (fr.trans (Frm.two1 frA)).trans (Frm.two2 fr2'), p2.1, by rw [p2.2, p1.2]; exact op, _, rfl⟩
    · rintro σ H' ⟨own', GA0, GB0, fr, hl, op, v3, v4, v5, rfl⟩
      rw [List.length_map, List.length_map, cutTo_all] at GA0
      rw [List.length_map, List.length_map, List.take_length] at GB0
      obtain ⟨dyb, db, Eb, GB⟩ := GB0.open_
      have e1 := GB.at_
      walk_at "rde"
      exact fun p2 hp2 => q own' _ p2 (GA0.upd (by intro _ z; cases z) (.inr hp2)) (GB0.upd (by intro _ z; cases z) (.inr hp2)) (fr.trans fun c o e _ _ => ⟨by rw [upd_ne (ne_of_none e hp2)]; exact e, rfl⟩) upd_same (Fresh0.out (fr.out nA nB) hp2)
theorem upd_self {H : Hp} {a : Addr} {o : HO} (h : H a = some o) : upd H a o = H := by
  funext c
  by_cases e : c = a
  · rw [e, upd_same, h]
  · rw [upd_ne e]
def spClose (C : Cs) : Sp := fun vs H Q _ => ∃ (a : Addr) (own : Own) (A : Nat) (x : Fund), vs = [.ref a] ∧ FundAt C own H A a x ∧ FOk x ∧ x.closing = false ∧
  ∀ H' p, FundAt C own H' A a { x with closing := true, declared := 0 } → Frm A own H own H' → H' p = some (.lst [.int 3]) → (A ≠ 0 → Fresh0 own H p) → Q (.ref p) H'
abbrev s_set_closing : Stmt := top 55
theorem sc_set_closing : FnScope ["fund", "holder", "holding"] ["fund"] (defScope s_set_closing) := by walk_at "sc"
theorem ok_set_closing {f : Addr} {fd : FuncData} (F : Fun K "set_closing" "set_closing" s_set_closing f fd) (T : Txt K mg C) : FnOk P w K mg base CX0 1 f fd ["fund"] (spClose C) := by
  refine F.ok sc_set_closing (fun vs H Q E h => ?_) (fun cdv A outer s H vs Q E hr h => ?_)
  · obtain ⟨a, own, A, x, rfl, _⟩ := h
    rfl
  · obtain ⟨a, own, A, x, rfl, F0, hx, hc, q⟩ := h
    have nd := sc_set_closing.nd
    have hu := hu_of hr
    have e1 := z0; have e2 := z0; have e3 := z0; have e4 := z0; have e5 := z0; have e6 := z0
    refine ⟨_, (pss_cons (ps_fld (pv 0) pe_bl rfl)
      (pss_cons (ps_fld (pv 0) pe_int rfl)
      (pss_cons (ps_for PassesOwn.never rfl (pi_list (pe_callB (cr_sortedD rfl) (by rfl) T.b_sorted boot_sorted (pa_cons (pe_fld (pv 0) rfl) pa_nil))) (pg_name (i := 1) nd rfl (Or.inl rfl)) (pss_cons (ps_set (i := 2) nd rfl (Or.inl rfl) (pe_dget hu (pe_fld (pv 0) rfl) (pv 1) (fun _ _ => rfl)))
      (pss_one (ps_fld (pv 2) pe_int rfl))))
      (pss_one (ps_ret (pe_lst (pa_cons (pe_gint rfl T.c_CLOSE) pa_nil))))))), ?_⟩
    obtain ⟨dx, d, E, F⟩ := F0.open_
    have hxg := (hx.idle hc).2
    refine ⟨_, rfl, a, C.f, dx, _, rfl, F.at_, T.clF, T.nF_closing, (by rw [fF_len]; decide), ?_⟩
    dsimp only
    rw [fF_put_closing]
    refine ⟨_, rfl, a, C.f, dx, _, rfl, upd_same, T.clF, T.nF_declared, (by rw [fF_len]; decide), ?_⟩
    dsimp only
    rw [fF_put_declared, upd_upd]
    have F2 := F.write (vi := (x.value : Int)) (di := 0) (v := x.value) (dn := 0) (c := true) rfl rfl
    have fr2 : Frm A own H own (upd H a (.ins C.f dx (fF (.int x.value) (.ref d) (.bl true) (.int 0)))) := Frm.upd F.ow
    generalize upd H a (.ins C.f dx (fF (.int x.value) (.ref d) (.bl true) (.int 0))) = H2 at *
    refine ⟨_, rfl, a, C.f, dx, _, _, rfl, F2.at_, T.clF, T.nF_holdings, fF_holdings _ _ _ _, d, E.map kv, E.map (fun p => (p.2.holder : Int)), rfl, .inl F2.hs.dic, F2.keys, by rw [List.length_map]; have := F2.len; omega, fun ns p hperm hsort hp => ?_⟩
    have hns := F2.sorted hperm hsort
    subst hns
    refine ⟨p, rfl, ⟨_, SqL.of upd_same⟩, for_list (K := K) (a := p) (xs := (x.hold.map fun y => (y.holder : Int)).map V.int) (fun i σ H' => H' = upd H2 p (.lst ((x.hold.map fun y => (y.holder : Int)).map V.int)) ∧ ∃ v1 v2 : Option V, σ = [some (.ref a), v1, v2])
      ⟨rfl, none, none, rfl⟩ (fun i σ H' _ h => by rw [h.1]; exact SqL.of upd_same) ?_ ?_⟩
    · rintro i xv σ H' hi ⟨rfl, v1, v2, rfl⟩
      obtain ⟨h, hh, rfl⟩ : ∃ h, x.hold[i]? = some h ∧ xv = V.int (h.holder : Int) := by
        rw [List.getElem?_map, List.getElem?_map] at hi
        cases e : x.hold[i]? with
        | none => rw [e] at hi; cases hi
        | some h =>
          rw [e] at hi
          exact ⟨h, rfl, (Option.some.inj hi).symm⟩
      have hm := List.mem_of_getElem? hh
      obtain ⟨w, hw, rfl, hwv⟩ := F2.get hm
      obtain ⟨dw, hwa⟩ := (F2.hs.each w hw).at_
      have k : ∀ c o, H2 c = some o → upd H2 p (.lst ((x.hold.map fun y => (y.holder : Int)).map V.int)) c = some o := fun c o e => by rw [upd_ne (ne_of_none e hp)]; exact e
      have e1 := k _ _ F2.at_
      have e2 := k _ _ hwa
      walk_at "rde"
      refine ⟨_, dget (k _ _ F2.hs.dic) hwv, w.1, rfl, ?_⟩
      walk_at "rde"
      rw [hxg w.2 hm] at e2
      exact ⟨upd_self e2, _, rfl⟩
    · rintro σ H' ⟨rfl, v1, v2, rfl⟩
      walk_at "rde"
      refine fun p2 hp2 => q _ p2 ((F2.close.upd (by intro _ z; cases z) (.inr hp)).upd (by intro _ z; cases z) (.inr hp2)) ?_ upd_same fun nA => Fresh0.out ((fr2.trans (Frm.lay hp)).out nA) hp2
      exact (fr2.trans (Frm.lay hp)).trans (Frm.lay hp2)
def carryOf (s : State) (z : Scheme) : State × List Int :=
  if (fundAt s z.a).closing = true ∨ unitsOf (fundAt s z.a) = 0 then (s, [-6])
  else if z.kind = 3 then (Vbfual.setFund s z.a { fundAt s z.a with closing := true, declared := 0 }, [3])
  else if (fundAt s z.b).closing = true then (s, [-6])
  else if z.kind = 2 then
    (if 0 < unitsOf (fundAt s z.b) then (s, [-6])
    else (Vbfual.setFund (Vbfual.setFund s z.a { fundAt s z.a with value := (fundAt s z.a).value - (fundAt s z.a).value * z.part / Vbfual.MILLION, hold := (fundAt s z.a).hold.map (cut1 z.part) }) z.b
        { fundAt s z.b with value := (fundAt s z.a).value * z.part / Vbfual.MILLION, hold := (fundAt s z.a).hold.map (cut2 z.part) }, [2, ((fundAt s z.a).value * z.part / Vbfual.MILLION : Nat)]))
  else joinOf s z.a z.b
theorem BookAt.setFund2 {L : Lo} {own own' : Own} {H H' : Hp} {b : Addr} {s : State} (B : BookAt C L own H b s) {f g : Nat} {x y : Fund} (hf : 1 ≤ f ∧ f ≤ 6) (hg : 1 ≤ g ∧ g ≤ 6) (n : f ≠ g) (hx : FOk x) (hy : FOk y) (F : FundAt C own' H' f (L.fa f) x) (G : FundAt C own' H' g (L.fa g) y) (fr : Frm2 f g own H own' H') :
    BookAt C L own' H' b (Vbfual.setFund (Vbfual.setFund s f x) g y) := by
  obtain ⟨dx, hb⟩ := B.bk
  have k : ∀ {c o m}, H c = some o → own c = m → m ≠ f → m ≠ g → H' c = some o ∧ own' c = m := fun {c o m} e oc h1 h2 => by
    obtain ⟨e1, n1⟩ := fr c o e (by rw [oc]; exact h1) (by rw [oc]; exact h2)
    exact ⟨e1, n1.trans oc⟩
  refine ⟨F.good, (B.ok.setFund hf hx).setFund hg hy, ⟨dx, (k hb B.ob (by omega) (by omega)).1⟩, (k hb B.ob (by omega) (by omega)).2, (k B.fdic B.ofd (by omega) (by omega)).1, (k B.fdic B.ofd (by omega) (by omega)).2, (k B.cdic B.ocd (by omega) (by omega)).1, (k B.cdic B.ocd (by omega) (by omega)).2,
    (k B.sdic B.osd (by omega) (by omega)).1, (k B.sdic B.osd (by omega) (by omega)).2, fun h h1 h2 => ?_, fun z hz => ?_⟩
  · rw [fundAt_set (B.ok.setFund hf hx).nf y hg h1]
    split
    · next e => rw [e]; exact G
    · next e =>
      rw [fundAt_set B.ok.nf x hf h1]
      split
      · next e' => rw [e']; exact F
      · next e' => exact (B.fund h h1 h2).keep F.good fun c o e1 oc => k e1 oc e' e
  · exact (B.sch z hz).keep F.good fun c o e1 oc => k e1 oc (by omega) (by omega)
def spCarry (C : Cs) : Sp := fun vs H Q _ => ∃ (b : Addr) (L : Lo) (own : Own) (s : State) (z : Scheme), vs = [.ref b, .ref (L.za z.num)] ∧ BookAt C L own H b s ∧ z ∈ s.schemes ∧ Ret C L own H b (carryOf s z) Q
abbrev s_carry_out : Stmt := top 56
theorem sc_carry_out : FnScope ["book", "scheme", "fund", "other"] ["book", "scheme"] (defScope s_carry_out) := by walk_at "sc"
theorem ok_carry_out {f : Addr} {fd : FuncData} (F : Fun K "carry_out" "carry_out" s_carry_out f fd) (T : Txt K mg C) (O_join_into : Ok P w K mg base 5 "join_into" ["book", "fund", "other"] (spJoin C)) (O_set_closing : Ok P w K mg base 1 "set_closing" ["fund"] (spClose C)) (O_divide_into : Ok P w K mg base 4 "divide_into" ["fund", "other", "part"] (spDivide C)) (O_all_units : Ok P w K mg base 1 "all_units" ["fund"] (spSum C unitsOf)) : FnOk P w K mg base CX0 6 f fd ["book", "scheme"] (spCarry C) := by
  refine F.ok sc_carry_out (fun vs H Q E h => ?_) (fun cdv A outer s H vs Q E hr h => ?_)
  · obtain ⟨b, L, own, s, z, rfl, _⟩ := h
    rfl
  · obtain ⟨b, L, own, s, z, rfl, B, hz, D⟩ := h
    have nd := sc_carry_out.nd
    have hu := hu_of hr
    have e1 := z0; have e2 := z0; have e3 := z0; have e4 := z0; have e5 := z0; have e6 := z0
    refine ⟨_, (pss_cons (ps_set (i := 2) nd rfl (Or.inl rfl) (pe_dget hu (pe_fld (pv 0) rfl) (pe_fld (pv 1) rfl) (fun _ _ => rfl)))
      (pss_cons (ps_if (PW.pt (pw_or (pt_val (pe_fld (pv 2) rfl)) (pw_or1 (pt_cmp (pc_eqI (pe_ok O_all_units (hr.mono (by decide)) rfl (pa_cons (pv 2) pa_nil)) pe_int))))) (pss_one (ps_ret (pe_lst (pa_cons (pe_gint rfl T.c_NOT_ALLOWED) pa_nil)))) pss_nil)
      (pss_cons (ps_if (pt_cmp (pc_eqI (pe_fld (pv 1) rfl) (pe_gint rfl T.c_CLOSE))) (pss_one (ps_ret (pe_ok O_set_closing (hr.mono (by decide)) rfl (pa_cons (pv 2) pa_nil)))) pss_nil)
      (pss_cons (ps_set (i := 3) nd rfl (Or.inl rfl) (pe_dget hu (pe_fld (pv 0) rfl) (pe_fld (pv 1) rfl) (fun _ _ => rfl)))
      (pss_cons (ps_if (pt_val (pe_fld (pv 3) rfl)) (pss_one (ps_ret (pe_lst (pa_cons (pe_gint rfl T.c_NOT_ALLOWED) pa_nil)))) pss_nil)
      (pss_cons (ps_if (pt_cmp (pc_eqI (pe_fld (pv 1) rfl) (pe_gint rfl T.c_DIVIDE))) (pss_one (ps_ret (pe_ok O_divide_into (hr.mono (by decide)) rfl (pa_cons (pv 2) (pa_cons (pv 3) (pa_cons (pe_fld (pv 1) rfl) pa_nil)))))) pss_nil)
      (pss_one (ps_ret (pe_ok O_join_into (hr.mono (by decide)) rfl (pa_cons (pv 0) (pa_cons (pv 2) (pa_cons (pv 3) pa_nil)))))))))))), ?_⟩
    have hzk := B.ok.zok z hz
    obtain ⟨dz, vd, pd, kvs, kps, Z⟩ := (B.sch z hz).open_
    obtain ⟨dxb, e2⟩ := B.bk
    have e1 := Z.at_
    have FA0 := B.fund z.a hzk.a.1 hzk.a.2
    have hx := B.ok.fok z.a hzk.a.1 hzk.a.2
    obtain ⟨dx, d, E, FA⟩ := FA0.open_
    have e3 := FA.at_
    have ha1 := hzk.a.1
    generalize hs : carryOf s z = r at D
    unfold carryOf at hs
    refine seq_of fun N hN => ?_
    walk_at "rde"
    refine ⟨_, dget B.fdic (B.fundGet hzk.a), hN _ _ (seq_of fun N hN => ?_)⟩
    walk_at "rde"
    refine ite2 (fun h1 => D.no B (hs.symm.trans (if_pos (.inl h1)))) fun h1 => ?_
    refine ⟨_, own, z.a, _, rfl, FA0, ?_⟩
    walk_at "rde"
    refine ite2 (fun h2 => D.no B (hs.symm.trans (if_pos (.inr (by omega))))) fun h2 => hN _ _ (seq_of fun N hN => ?_)
    walk_at "rde"
    have hcA : (fundAt s z.a).closing = false := by simpa using h1
    rw [if_neg (fun y => y.elim h1 (by omega))] at hs
    refine ite2 (fun h3 => ?_) fun h3 => hN _ _ (seq_of fun N hN => ?_)
    · rw [if_pos (by omega)] at hs
      refine ⟨_, own, z.a, _, rfl, FA0, hx, hcA, fun H' p F' fr hl fp => ?_⟩
      have B2 := B.setFund hzk.a (hx.close hcA (by omega)) F' fr
      exact D own H' p (by rw [← hs]; exact B2) (by rw [← hs]; exact hl) (fr.out (by omega)) (fp (by omega))
    have hk3 : z.kind ≠ 3 := by omega
    rw [if_neg hk3] at hs
    have hzb : 1 ≤ z.b ∧ z.b ≤ 6 := ⟨(hzk.b12 hk3).1, hzk.b⟩
    have hb1 := hzb.1
    have nab : z.a ≠ z.b := (hzk.b12 hk3).2.symm
    have FB0 := B.fund z.b hzb.1 hzb.2
    have hy := B.ok.fok z.b hzb.1 hzb.2
    obtain ⟨dy, d', E', FB⟩ := FB0.open_
    have e4 := FB.at_
    walk_at "rde"
    refine ⟨_, dget B.fdic (B.fundGet hzb), hN _ _ (seq_of fun N hN => ?_)⟩
    walk_at "rde"
    refine ite2 (fun h4 => D.no B (hs.symm.trans (if_pos h4))) fun h4 => hN _ _ (seq_of fun N hN => ?_)
    walk_at "rde"
    have hcB : (fundAt s z.b).closing = false := by simpa using h4
    rw [if_neg h4] at hs
    refine ite2 (fun h5 => ?_) fun h5 => hN _ _ ?_
    · rw [if_pos (by omega)] at hs
      refine ⟨_, _, own, z.a, z.b, _, _, z.part, rfl, FA0, FB0, nab, by omega, by omega, hx, hcA, hzk.part, fun hu0 => D.no B (hs.symm.trans (if_pos hu0)), fun hu0 own' H' p GA GB fr hl fp => ?_⟩
      rw [if_neg (by omega)] at hs
      have hv : (fundAt s z.a).value * z.part / Vbfual.MILLION ≤ (fundAt s z.a).value := Nat.div_le_of_le_mul (by rw [Nat.mul_comm]; exact Nat.mul_le_mul_right _ hzk.part)
      have B2 := B.setFund2 hzk.a hzb nab (hx.cut hcA (Nat.sub_le _ _) (cut1 z.part) (fun _ => ⟨rfl, rfl⟩) (fun _ => rfl) (fundAt s z.a) hcA (hx.idle hcA).1) (hx.cut hcA hv (cut2 z.part) (fun _ => ⟨rfl, rfl⟩) (fun _ => rfl) (fundAt s z.b) hcB (hy.idle hcB).1) GA GB fr
      exact D own' H' p (by rw [← hs]; exact B2) (by rw [← hs]; exact hl) (fr.out (by omega) (by omega)) fp
    · walk_at "rde"
      rw [if_neg (by omega)] at hs
      rw [← hs] at D
      exact ⟨b, L, own, s, z.a, z.b, rfl, B, hzk.a, hzb, nab, hcA, hcB, by omega, D⟩
theorem effect_no {s : State} {z : Scheme} (hz : z.status = 1) {k : Int} (hk : k ≤ 0) {t : State} {l : List Int} (h : carryOf s z = (t, k :: l)) : Vbfual.doEffect s z = (s, k :: l) ∧ t = s := by
  unfold carryOf at h
  unfold Vbfual.doEffect
  dsimp only
  rw [if_neg (by omega)]
  by_cases h1 : (fundAt s z.a).closing = true ∨ unitsOf (fundAt s z.a) = 0
  · rw [if_pos h1] at h ⊢
    cases h
    exact ⟨rfl, rfl⟩
  · rw [if_neg h1] at h ⊢
    by_cases h2 : z.kind = 3
    · rw [if_pos h2] at h
      cases h
      omega
    · rw [if_neg h2] at h ⊢
      by_cases h3 : (fundAt s z.b).closing = true
      · rw [if_pos h3] at h ⊢
        cases h
        exact ⟨rfl, rfl⟩
      · rw [if_neg h3] at h ⊢
        by_cases h4 : z.kind = 2
        · rw [if_pos h4] at h ⊢
          by_cases h5 : 0 < unitsOf (fundAt s z.b)
          · rw [if_pos h5] at h ⊢
            cases h
            exact ⟨rfl, rfl⟩
          · rw [if_neg h5] at h
            cases h
            omega
        · rw [if_neg h4] at h ⊢
          unfold joinOf at h
          by_cases h6 : 0 < unitsOf (fundAt s z.b) ∧ (fundAt s z.b).value = 0
          · rw [if_pos h6] at h ⊢
            cases h
            exact ⟨rfl, rfl⟩
          · rw [if_neg h6] at h ⊢
            by_cases h7 : Vbfual.GREAT < (Vbfual.joined (fundAt s z.a) (fundAt s z.b)).2.value ∨ Vbfual.MANY < unitsOf (Vbfual.joined (fundAt s z.a) (fundAt s z.b)).2
            · rw [if_pos h7] at h ⊢
              cases h
              exact ⟨rfl, rfl⟩
            · rw [if_neg h7] at h
              cases h
              omega
theorem effect_yes {s : State} (hok : SOk s) {z : Scheme} (hzk : ZOk z) (hz : z.status = 1) {k : Int} (hk : 0 < k) {t : State} {l : List Int} (h : carryOf s z = (t, k :: l)) : Vbfual.doEffect s z = (Vbfual.setScheme t { z with status := 3 }, k :: l) ∧ t.schemes = s.schemes := by
  unfold carryOf at h
  unfold Vbfual.doEffect
  dsimp only
  rw [if_neg (by omega)]
  by_cases h1 : (fundAt s z.a).closing = true ∨ unitsOf (fundAt s z.a) = 0
  · rw [if_pos h1] at h
    cases h
    omega
  · rw [if_neg h1] at h ⊢
    by_cases h2 : z.kind = 3
    · rw [if_pos h2] at h ⊢
      cases h
      exact ⟨rfl, rfl⟩
    · rw [if_neg h2] at h ⊢
      by_cases h3 : (fundAt s z.b).closing = true
      · rw [if_pos h3] at h
        cases h
        omega
      · rw [if_neg h3] at h ⊢
        by_cases h4 : z.kind = 2
        · rw [if_pos h4] at h ⊢
          by_cases h5 : 0 < unitsOf (fundAt s z.b)
          · rw [if_pos h5] at h
            cases h
            omega
          · rw [if_neg h5] at h ⊢
            cases h
            exact ⟨rfl, rfl⟩
        · rw [if_neg h4] at h ⊢
          unfold joinOf at h
          by_cases h6 : 0 < unitsOf (fundAt s z.b) ∧ (fundAt s z.b).value = 0
          · rw [if_pos h6] at h
            cases h
            omega
          · rw [if_neg h6] at h ⊢
            by_cases h7 : Vbfual.GREAT < (Vbfual.joined (fundAt s z.a) (fundAt s z.b)).2.value ∨ Vbfual.MANY < unitsOf (Vbfual.joined (fundAt s z.a) (fundAt s z.b)).2
            · rw [if_pos h7] at h
              cases h
              omega
            · rw [if_neg h7] at h ⊢
              have hzb : 1 ≤ z.b ∧ z.b ≤ 6 := ⟨(hzk.b12 h2).1, hzk.b⟩
              have ju := joined_units (hok.fok z.a hzk.a.1 hzk.a.2).sf (hok.fok z.b hzb.1 hzb.2).sf
              have jc := joined_cash (fundAt s z.a) (fundAt s z.b)
              have kp := paysAll_keep (Vbfual.joined (fundAt s z.a) (fundAt s z.b)).1
              cases h
              refine ⟨?_, (kp _).2.1⟩
              unfold Vbfual.yes Vbfual.ints
              refine Prod.ext (state_ext ?_ ?_ ?_ ?_) ?_
              · show (Vbfual.paysAll _ _).funds = (Vbfual.paysAll _ _).funds
                rw [(kp _).1, (kp _).1]
                rfl
              · exact paysAll_cash _ rfl
              · show (Vbfual.paysAll _ _).schemes = (Vbfual.paysAll _ _).schemes.map _
                rw [(kp _).2.1, (kp _).2.1]
                rfl
              · show (Vbfual.paysAll _ _).next = (Vbfual.paysAll _ _).next
                rw [(kp _).2.2.1, (kp _).2.2.1]
                rfl
              · show [((1 : Nat) : Int), ((Vbfual.sum _ : Nat) : Int), _] = [1, _, _]
                rw [jc, ju, Nat.add_sub_cancel_left]
                rfl
def spEffect (C : Cs) : Sp := fun vs H Q _ => ∃ (b : Addr) (L : Lo) (own : Own) (s : State) (n : Int), vs = [.ref b, .int n] ∧ BookAt C L own H b s ∧ Done C own H b s (.effect n) Q
theorem carry_ne {s : State} {z : Scheme} : ∃ t k l, carryOf s z = (t, k :: l) := by
  unfold carryOf joinOf
  repeat' split
  all_goals exact ⟨_, _, _, rfl⟩
abbrev s_take_effect : Stmt := top 57
theorem sc_take_effect : FnScope ["book", "n", "refusal", "scheme", "answer"] ["book", "n"] (defScope s_take_effect) := by walk_at "sc"
theorem ok_take_effect {f : Addr} {fd : FuncData} (F : Fun K "take_effect" "take_effect" s_take_effect f fd) (T : Txt K mg C) (O_refusal_of_state : Ok P w K mg base 3 "refusal_of_state" ["book", "n", "state"] (spRS C)) (O_carry_out : Ok P w K mg base 6 "carry_out" ["book", "scheme"] (spCarry C)) : FnOk P w K mg base CX0 7 f fd ["book", "n"] (spEffect C) := by
  refine F.ok sc_take_effect (fun vs H Q E h => ?_) (fun cdv A outer s H vs Q E hr h => ?_)
  · obtain ⟨b, L, own, s, n, rfl, _⟩ := h
    rfl
  · obtain ⟨b, L, own, s, n, rfl, B, D⟩ := h
    have nd := sc_take_effect.nd
    have hu := hu_of hr
    have e1 := z0; have e2 := z0; have e3 := z0; have e4 := z0; have e5 := z0; have e6 := z0
    refine ⟨_, (pss_cons (ps_set (i := 2) nd rfl (Or.inl rfl) (pe_ok O_refusal_of_state (hr.mono (by decide)) rfl (pa_cons (pv 0) (pa_cons (pv 1) (pa_cons (pe_gint rfl T.c_STATE_PASSED) pa_nil)))))
      (pss_cons (ps_if (pt_cmp (pc_neI (pv 2) pe_int)) (pss_one (ps_ret (pe_lst (pa_cons (pv 2) pa_nil)))) pss_nil)
      (pss_cons (ps_set (i := 3) nd rfl (Or.inl rfl) (pe_dget hu (pe_fld (pv 0) rfl) (pv 1) (fun _ _ => rfl)))
      (pss_cons (ps_set (i := 4) nd rfl (Or.inl rfl) (pe_ok O_carry_out (hr.mono (by decide)) rfl (pa_cons (pv 0) (pa_cons (pv 3) pa_nil))))
      (pss_cons (ps_if (pt_cmp (pc_gt (pe_ix ix_list (pv 4) pe_int (fun _ _ => rfl)) pe_int)) (pss_one (ps_fld (pv 3) (pe_gint rfl T.c_STATE_DONE) rfl)) pss_nil)
      (pss_one (ps_ret (pv 4)))))))), ?_⟩
    obtain ⟨dxb, e2⟩ := B.bk
    have hs : Vbfual.step s (.effect n) = Vbfual.onScheme s n (Vbfual.doEffect s) := rfl
    walk_at "rde"
    refine ⟨_, L, own, s, n, 1, rfl, B, ?_⟩
    walk_at "rde"
    refine ite2 (fun h2 => D.no B (hs.trans (rs_no (st := 1) (fun z hz => if_pos hz) h2))) fun h2 => ?_
    obtain ⟨z, hz, rfl, hst, hv, hon⟩ := rs_zero B (Decidable.not_not.mp h2)
    rw [hon] at hs
    have hzk := B.ok.zok z hz
    refine ⟨_, dget B.sdic hv, ?_⟩
    refine ⟨b, L, own, s, z, rfl, B, hz, fun own' H' p B1 hl o1 fp => ?_⟩
    obtain ⟨t, k, l, hc⟩ := carry_ne (s := s) (z := z)
    rw [hc] at B1 hl
    walk_at "rde"
    refine ⟨_, SqL.of hl, _, at_of (j := 0) rfl rfl, ?_⟩
    walk_at "rde"
    refine ite2 (fun hk => ?_) fun hk => ?_
    · obtain ⟨he, hsch⟩ := effect_yes B.ok hzk (by omega) hk hc
      rw [he] at hs
      have hz1 : z ∈ t.schemes := by rw [hsch]; exact hz
      obtain ⟨dz, vd, pd, kvs, kps, Z⟩ := (B1.sch z hz1).open_
      have e3 := Z.at_
      walk_at "rde"
      have B2 := B1.setScheme (z' := { z with status := 3 }) hz1 rfl (hzk.state (by omega)) (Z.state (st := 3) (n := 3) rfl) (Frm.upd Z.ow)
      refine D L own' _ p (by rw [hs]; exact B2) ?_ (o1.trans ((Frm.upd Z.ow).out (by omega))) fp
      rw [upd_ne (ne_of hl Z.at_ (by intro z; cases z)), hs]
      exact hl
    · obtain ⟨he, hts⟩ := effect_no (by omega) (by omega) hc
      rw [he] at hs
      rw [hts] at B1
      exact D L own' H' p (by rw [hs]; exact B1) (by rw [hs]; exact hl) o1 fp
end
section
variable {P : Program} {w : World} {K : PySem.W.Frag} {mg : Str → Option Value} {base : Heap} {C : Cs}
def upto (n : Nat) : List Nat := (List.range n).map (· + 1)
theorem upto_succ (n : Nat) : upto (n + 1) = upto n ++ [n + 1] := by unfold upto; rw [List.range_succ, List.map_append]; rfl
theorem not_upto (n : Nat) : n + 1 ∉ upto n := fun h => by
  obtain ⟨i, hi, e⟩ := List.mem_map.mp h
  have := List.mem_range.mp hi
  omega
theorem upto_6 : upto 6 = six := rfl
theorem upto_20 : upto 20 = twenty := rfl
theorem upto_len (n : Nat) : (upto n).length = n := by unfold upto; rw [List.length_map, List.length_range]
theorem in_upto {n f : Nat} (h : f ∈ upto n) : 1 ≤ f ∧ f ≤ n := by
  obtain ⟨i, hi, e⟩ := List.mem_map.mp h
  have := List.mem_range.mp hi
  omega
theorem start_fund (f : Nat) : fundAt Vbfual.start f = Vbfual.noFund := by
  unfold Vbfual.fundAt Vbfual.start Vbfual.FUNDS
  rw [List.getD_eq_getElem?_getD, List.getElem?_replicate]
  split <;> rfl
theorem start_cash (h : Nat) : cashAt Vbfual.start h = 0 := by
  unfold Vbfual.cashAt Vbfual.start Vbfual.HOLDERS
  rw [List.getD_eq_getElem?_getD, List.getElem?_replicate]
  split <;> rfl
def spBook (C : Cs) : Sp := fun vs H Q _ => ∃ (p dx : Addr) (own : Own), vs = [.ref p] ∧ Good H ∧ H p = some (.ins C.b dx []) ∧
  ∀ L own' H', BookAt C L own' H' p Vbfual.start → (∀ c o, H c = some o → c ≠ p → H' c = some o ∧ own' c = own c) → Q .non H'
abbrev s_Book_init : Stmt := inClass (top 32) 0
theorem sc_Book_init : FnScope ["self", "number"] ["self"] (defScope s_Book_init) := by walk_at "sc"
theorem ok_Book_init {f : Addr} {fd : FuncData} (F : Fun K "__init__" "Book.__init__" s_Book_init f fd) (T : Txt K mg C) (O_Fund : OkC P w K mg base 1 "Fund" C.f ["self"] (spFund C)) : FnOk P w K mg base CX0 3 f fd ["self"] (spBook C) := by
  refine F.ok sc_Book_init (fun vs H Q E h => ?_) (fun cdv A outer s H vs Q E hr h => ?_)
  · obtain ⟨p, dx, own, rfl, _⟩ := h
    rfl
  · obtain ⟨p, dx, own, rfl, g, hp, q⟩ := h
    have nd := sc_Book_init.nd
    have hu := hu_of hr
    have e1 := z0; have e2 := z0; have e3 := z0; have e4 := z0; have e5 := z0; have e6 := z0
    refine ⟨_, (pss_cons (ps_fld (pv 0) pe_dnewK rfl)
      (pss_cons (ps_for PassesOwn.never rfl (pi_range2 rfl T.b_range (pa_cons pe_int (pa_cons (pe_op op_add (pe_gint rfl T.c_FUNDS) pe_int) pa_nil))) (pg_name (i := 1) nd rfl (Or.inl rfl)) (pss_one (ps_dput hu (pe_fld (pv 0) rfl) (pv 1) (pe_mk0 O_Fund (hr.mono (by decide)) rfl) rfl)))
      (pss_cons (ps_fld (pv 0) pe_dnewK rfl)
      (pss_cons (ps_for PassesOwn.never rfl (pi_range2 rfl T.b_range (pa_cons pe_int (pa_cons (pe_op op_add (pe_gint rfl T.c_HOLDERS_limits) pe_int) pa_nil))) (pg_name (i := 1) nd rfl (Or.inl rfl)) (pss_one (ps_dput hu (pe_fld (pv 0) rfl) (pv 1) pe_int rfl)))
      (pss_one (ps_fld (pv 0) pe_dnewK rfl)))))), ?_⟩
    intro fd hfd
    refine ⟨_, rfl, p, C.b, dx, [], rfl, by rw [upd_ne (ne_of_none hp hfd)]; exact hp, T.clB, T.nB_funds, by decide, ?_⟩
    have npf := ne_of_none hp hfd
    refine ⟨_, _, rfl, rfl, 1, 7, rfl, ⟨by decide, by decide, by decide, by decide⟩, ?_⟩
    refine for_range (n := 6) (lo := 1) (fun i σ H' => ∃ (own' : Own) (fa : Nat → Addr), H' p = some (.ins C.b dx (putF "funds" (.ref fd) [])) ∧ own' p = 7 ∧ H' fd = some (.dK (R.T (upto i) fun k => .ref (fa k))) ∧ own' fd = 7 ∧ Good H' ∧
      (∀ f, 1 ≤ f → f ≤ i → FundAt C own' H' f (fa f) Vbfual.noFund) ∧ (∀ c o, H c = some o → c ≠ p → H' c = some o ∧ own' c = own c) ∧ ∃ v : Option V, σ = [some (.ref p), v]) ?_ ?_ ?_
    · refine ⟨give (give own p 7) fd 7, fun _ => 0, upd_same, by rw [give_ne npf, give_same], by rw [upd_ne npf.symm, upd_same]; rfl, give_same, (g.upd (by intro _ z; cases z)).upd (by intro _ z; cases z), fun f h1 h2 => by omega, fun c o e hc => ?_, none, rfl⟩
      have c1 := ne_of_none e hfd
      exact ⟨by rw [upd_ne hc, upd_ne c1]; exact e, by rw [give_ne c1, give_ne hc]⟩
    · rintro i σ H' hi ⟨own', fa, h1, h2, h3, h4, h5, h6, h7, v, rfl⟩
      walk_at "rde"
      intro x dx' hx hdx nx
      refine ⟨x, dx', rfl, (h5.upd (by intro _ z; cases z)).upd (by intro _ z; cases z), upd_same, fun H2 d G2 hx2 hd2 hdn k2 => ⟨rfl, ?_⟩⟩
      have kk : ∀ c o, H' c = some o → H2 c = some o := fun c o e => k2 c o (by rw [upd_ne (ne_of_none e hx), upd_ne (ne_of_none e hdx)]; exact e) (ne_of_none e hx)
      have d1 : d ≠ x := fun y => by rw [y, upd_same] at hdn; cases hdn
      have d2 : H' d = none := by
        have d3 : d ≠ dx' := fun y => by rw [upd_ne d1, y, upd_same] at hdn; cases hdn
        rw [upd_ne d1, upd_ne d3] at hdn
        exact hdn
      have n1 : x ≠ fd := (ne_of_none h3 hx).symm
      have n2 : d ≠ fd := (ne_of_none h3 d2).symm
      have hi1 : 1 + (i : Int) = ((i + 1 : Nat) : Int) := by omega
      have gv : ∀ c o, H' c = some o → give (give own' x (i + 1)) d (i + 1) c = own' c := fun c o e => by rw [give_ne (ne_of_none e d2), give_ne (ne_of_none e hx)]
      refine ⟨_, _, _, kk _ _ h1, T.clB, T.nB_funds, _, (lookup_putF "funds" "funds" _ []).trans (if_pos rfl), fd, rfl, _, DPut.k (k := Sum.inl (1 + (i : Int))) (kk _ _ h3) (by rw [T_len, upto_len]; exact small _ (by omega)), ?_⟩
      rw [hi1, T_snoc (not_upto i), ← upto_succ]
      refine ⟨by rw [upd_ne npf]; exact kk _ _ h1, give (give own' x (i + 1)) d (i + 1), by rw [gv _ _ h1]; exact h2, fun k => if k = i + 1 then x else fa k, ?_, by rw [gv _ _ h3]; exact h4, G2.upd (by intro _ z; cases z), fun f f1 f2 => ?_, fun c o e hc => ?_, _, rfl⟩
      · rw [upd_same]
        refine congrArg (fun q => some (HO.dK q)) (T_congr fun k _ => ?_)
        show (if k = i + 1 then V.ref x else V.ref (fa k)) = V.ref (if k = i + 1 then x else fa k)
        split <;> rfl
      · dsimp only
        by_cases hf : f = i + 1
        · subst hf
          rw [if_pos rfl]
          exact FundIs.close (dx := dx') (d := d) (E := []) ⟨G2.upd (by intro _ z; cases z), Sf.nil, by rw [upd_ne n1]; exact hx2, by rw [give_ne d1.symm, give_same], ⟨by rw [upd_ne n2]; exact hd2, give_same, by simp, by simp⟩, List.Perm.refl _⟩
        · rw [if_neg hf]
          refine (h6 f f1 (by omega)).keep (G2.upd (by intro _ z; cases z)) fun c o e oc => ⟨?_, by rw [gv c o e]; exact oc⟩
          rw [upd_ne fun y => by rw [y, h4] at oc; omega]
          exact kk c o e
      · obtain ⟨a1, a2⟩ := h7 c o e hc
        exact ⟨by rw [upd_ne (ne_of_none e hfd)]; exact kk c o a1, by rw [gv c o a1]; exact a2⟩
    · rintro σ H' ⟨own', fa, h1, h2, h3, h4, h5, h6, h7, v, rfl⟩
      rw [upto_6] at h3
      intro cd hcd
      have npc := ne_of_none h1 hcd
      refine ⟨_, rfl, p, C.b, dx, _, rfl, by rw [upd_ne npc]; exact h1, T.clB, T.nB_cash, (by rw [pl0]; trivial), ?_⟩
      refine ⟨_, _, rfl, rfl, 1, 21, rfl, ⟨by decide, by decide, by decide, by decide⟩, ?_⟩
      refine for_range (n := 20) (lo := 1) (fun i σ H'' => ∃ (own'' : Own), H'' p = some (.ins C.b dx (putF "cash" (.ref cd) (putF "funds" (.ref fd) []))) ∧ own'' p = 7 ∧ H'' fd = some (.dK (R.T six fun k => .ref (fa k))) ∧ own'' fd = 7 ∧
        H'' cd = some (.dK (R.T (upto i) fun _ => .int 0)) ∧ own'' cd = 8 ∧ Good H'' ∧ (∀ f, 1 ≤ f → f ≤ 6 → FundAt C own'' H'' f (fa f) Vbfual.noFund) ∧ (∀ c o, H c = some o → c ≠ p → H'' c = some o ∧ own'' c = own c) ∧ ∃ v : Option V, σ = [some (.ref p), v]) ?_ ?_ ?_
      · have ncf := ne_of_none h3 hcd
        have npf' := npf
        refine ⟨give own' cd 8, upd_same, by rw [give_ne npc]; exact h2, by rw [upd_ne npf.symm, upd_ne ncf]; exact h3, by rw [give_ne ncf]; exact h4, by rw [upd_ne npc.symm, upd_same]; rfl, give_same, (h5.upd (by intro _ z; cases z)).upd (by intro _ z; cases z), fun f f1 f2 => ?_, fun c o e hc => ?_, v, rfl⟩
        · refine (h6 f f1 f2).keep ((h5.upd (by intro _ z; cases z)).upd (by intro _ z; cases z)) fun c o e oc => ⟨?_, by rw [give_ne (ne_of_none e hcd)]; exact oc⟩
          rw [upd_ne fun y => by rw [y, h2] at oc; omega, upd_ne (ne_of_none e hcd)]
          exact e
        · obtain ⟨a1, a2⟩ := h7 c o e hc
          have c1 := ne_of_none a1 hcd
          exact ⟨by rw [upd_ne hc, upd_ne c1]; exact a1, by rw [give_ne c1]; exact a2⟩
      · rintro i σ H'' hi ⟨own'', k1, k2, k3, k4, k5, k6, k7, k8, k9, v', rfl⟩
        have hi1 : 1 + (i : Int) = ((i + 1 : Nat) : Int) := by omega
        have hcp : p ≠ cd := npc
        have hcf : fd ≠ cd := fun e => by rw [e, k6] at k4; cases k4
        have hcdH : ∀ c o, H c = some o → c ≠ cd := fun c o e y => by
          by_cases hc : c = p
          · exact hcp (hc.symm.trans y)
          · have := h7 c o e hc
            rw [y, hcd] at this
            cases this.1
        refine ⟨_, rfl, p, C.b, dx, _, _, rfl, k1, T.clB, T.nB_cash, (lookup_putF "cash" "cash" _ _).trans (if_pos rfl), _, rfl, cd, _, rfl, DPut.k (k := Sum.inl (1 + (i : Int))) k5 (by rw [T_len, upto_len]; exact small _ (by omega)), ?_⟩
        rw [hi1, T_snoc (not_upto i), ← upto_succ]
        have G : Good (upd H'' cd (.dK (R.T (upto (i + 1)) fun k => if k = i + 1 then V.int 0 else V.int 0))) := k7.upd (by intro _ z; cases z)
        refine ⟨own'', by rw [upd_ne hcp]; exact k1, k2, by rw [upd_ne hcf]; exact k3, k4, ?_, k6, G, fun f f1 f2 => ?_, fun c o e hc => ?_, _, rfl⟩
        · rw [upd_same]
          refine congrArg (fun q => some (HO.dK q)) (T_congr fun k _ => ?_)
          split <;> rfl
        · refine (k8 f f1 f2).keep G fun c o e oc => ⟨?_, oc⟩
          rw [upd_ne fun y => by rw [y, k6] at oc; omega]
          exact e
        · obtain ⟨a1, a2⟩ := k9 c o e hc
          exact ⟨by rw [upd_ne (hcdH c o e)]; exact a1, a2⟩
      · rintro σ H'' ⟨own'', k1, k2, k3, k4, k5, k6, k7, k8, k9, v', rfl⟩
        rw [upto_20] at k5
        intro sd hsd
        have nps := ne_of_none k1 hsd
        refine ⟨_, rfl, p, C.b, dx, _, rfl, by rw [upd_ne nps]; exact k1, T.clB, T.nB_schemes, (by rw [pl1]; trivial), ?_⟩
        rw [fB_init]
        have G : Good (upd (upd H'' sd (.dK [])) p (.ins C.b dx (fB (.ref fd) (.ref cd) (.ref sd)))) := (k7.upd (by intro _ z; cases z)).upd (by intro _ z; cases z)
        have kk : ∀ c o, H'' c = some o → own'' c ≠ 7 ∨ c ≠ p → upd (upd H'' sd (.dK [])) p (.ins C.b dx (fB (.ref fd) (.ref cd) (.ref sd))) c = some o ∧ give own'' sd 9 c = own'' c := fun c o e h => by
          have c1 : c ≠ p := h.elim (fun h y => h (by rw [y]; exact k2)) fun h => h
          have c2 := ne_of_none e hsd
          exact ⟨by rw [upd_ne c1, upd_ne c2]; exact e, give_ne c2⟩
        have hcp : p ≠ cd := npc
        refine q ⟨fd, cd, sd, fa, fun _ => 0⟩ (give own'' sd 9) _ ⟨G, SOk.start, ⟨dx, upd_same⟩, by rw [give_ne nps]; exact k2, (kk _ _ k3 (.inr npf.symm)).1, (kk _ _ k3 (.inr npf.symm)).2.trans k4, ?_, (kk _ _ k5 (.inr hcp.symm)).2.trans k6, ?_, give_same, fun f f1 f2 => ?_, fun z hz => by cases hz⟩ fun c o e hc => ?_
        · rw [(kk _ _ k5 (.inr hcp.symm)).1]
          exact congrArg (fun q => some (HO.dK q)) (T_congr fun k _ => by rw [start_cash])
        · rw [upd_ne nps.symm, upd_same]
          rfl
        · rw [start_fund]
          exact (k8 f f1 f2).keep G fun c o e oc => ⟨(kk c o e (.inl (by rw [oc]; omega))).1, (kk c o e (.inl (by rw [oc]; omega))).2.trans oc⟩
        · obtain ⟨a1, a2⟩ := k9 c o e hc
          obtain ⟨b1, b2⟩ := kk c o a1 (.inr hc)
          exact ⟨b1, b2.trans a2⟩
end
section
variable {P : Program} {w : World} {K : PySem.W.Frag} {mg : Str → Option Value} {base : Heap} {C : Cs}
def spAsk1 (C : Cs) (c : Int → Vbfual.Call) : Sp := fun vs H Q _ => ∃ (b : Addr) (L : Lo) (own : Own) (s : State) (f : Int), vs = [.ref b, .int f] ∧ BookAt C L own H b s ∧ Done C own H b s (c f) Q
def spAsk2 (C : Cs) (c : Int → Int → Vbfual.Call) : Sp := fun vs H Q _ => ∃ (b : Addr) (L : Lo) (own : Own) (s : State) (f h : Int), vs = [.ref b, .int f, .int h] ∧ BookAt C L own H b s ∧ Done C own H b s (c f h) Q
def spAsk3 (C : Cs) (c : Int → Int → Int → Vbfual.Call) : Sp := fun vs H Q _ => ∃ (b : Addr) (L : Lo) (own : Own) (s : State) (f g h : Int), vs = [.ref b, .int f, .int g, .int h] ∧ BookAt C L own H b s ∧ Done C own H b s (c f g h) Q
abbrev s_tell_fund : Stmt := top 59
theorem sc_tell_fund : FnScope ["book", "f", "fund", "closing"] ["book", "f"] (defScope s_tell_fund) := by walk_at "sc"
theorem ok_tell_fund {f : Addr} {fd : FuncData} (F : Fun K "tell_fund" "tell_fund" s_tell_fund f fd) (T : Txt K mg C) (O_is_fund : Ok P w K mg base 2 "is_fund" ["number"] (spB1 Vbfual.isFund)) (O_all_units : Ok P w K mg base 1 "all_units" ["fund"] (spSum C unitsOf)) (O_all_paid : Ok P w K mg base 1 "all_paid" ["fund"] (spSum C gotIn)) : FnOk P w K mg base CX0 3 f fd ["book", "f"] (spAsk1 C Vbfual.Call.fund) := by
  refine F.ok sc_tell_fund (fun vs H Q E h => ?_) (fun cdv A outer s H vs Q E hr h => ?_)
  · obtain ⟨b, L, own, s, f, rfl, _⟩ := h
    rfl
  · obtain ⟨b, L, own, s, f, rfl, B, D⟩ := h
    have nd := sc_tell_fund.nd
    have hu := hu_of hr
    have e1 := z0; have e2 := z0; have e3 := z0; have e4 := z0; have e5 := z0; have e6 := z0
    refine ⟨_, (pss_cons (ps_if (pt_not (pt_val (pe_ok O_is_fund (hr.mono (by decide)) rfl (pa_cons (pv 1) pa_nil)))) (pss_one (ps_ret (pe_lst (pa_cons (pe_gint rfl T.c_OUT_OF_RANGE) pa_nil)))) pss_nil)
      (pss_cons (ps_set (i := 2) nd rfl (Or.inl rfl) (pe_dget hu (pe_fld (pv 0) rfl) (pv 1) (fun _ _ => rfl)))
      (pss_cons (ps_set (i := 3) nd rfl (Or.inl rfl) (pe_ifExp (pt_val (pe_fld (pv 2) rfl)) pe_int pe_int))
      (pss_one (ps_ret (pe_lst (pa_cons (pe_fld (pv 2) rfl) (pa_cons (pe_ok O_all_units (hr.mono (by decide)) rfl (pa_cons (pv 2) pa_nil)) (pa_cons (pe_callB call_lenD (by rfl) T.b_len PySem.boot_len (pa_cons (pe_fld (pv 2) rfl) pa_nil)) (pa_cons (pv 3) (pa_cons (pe_fld (pv 2) rfl) (pa_cons (pe_ok O_all_paid (hr.mono (by decide)) rfl (pa_cons (pv 2) pa_nil)) pa_nil)))))))))))), ?_⟩
    refine seq_of fun N hN => ?_
    walk_at "rd"
    refine ite2 (fun h1 => D.no B (if_pos h1)) fun h1 => hN _ _ ?_
    have hs := show Vbfual.step s (.fund f) = _ from if_neg h1
    obtain ⟨f, rfl, hf⟩ := isFund_of h1
    simp only [Int.toNat_natCast] at hs
    have F0 := B.fund f hf.1 hf.2
    obtain ⟨dxb, e2⟩ := B.bk
    generalize hxe : fundAt s f = x at *
    obtain ⟨dx, d, E, F⟩ := F0.open_
    have e1 := F.at_
    have hlen : (E.map kv).length = x.hold.length := by rw [List.length_map, ← F.pm.length_eq, List.length_map]
    refine seq_of fun N hN => ?_
    walk_at "rde"
    refine ⟨_, dget B.fdic (B.fundGet hf), hN _ _ ?_⟩
    walk_at "rde"
    refine ite2 (fun hc => ?_) fun hc => ?_
    · have hcn : x.closing.toNat = 1 := by rw [hc]; rfl
      rw [hcn] at hs
      refine ⟨_, own, f, x, rfl, F0, ?_⟩
      walk_at "rde"
      refine ⟨_, F.hs.dic, _, own, f, x, rfl, F0, ?_⟩
      walk_at "rde"
      rw [hlen]
      exact D.fin hs B Out.refl
    · have hcn : x.closing.toNat = 0 := by rw [show x.closing = false by simpa using hc]; rfl
      rw [hcn] at hs
      refine ⟨_, own, f, x, rfl, F0, ?_⟩
      walk_at "rde"
      refine ⟨_, F.hs.dic, _, own, f, x, rfl, F0, ?_⟩
      walk_at "rde"
      rw [hlen]
      exact D.fin hs B Out.refl
abbrev s_tell_holding : Stmt := top 60
theorem sc_tell_holding : FnScope ["book", "f", "h", "fund", "holding", "worth"] ["book", "f", "h"] (defScope s_tell_holding) := by walk_at "sc"
theorem ok_tell_holding {f : Addr} {fd : FuncData} (F : Fun K "tell_holding" "tell_holding" s_tell_holding f fd) (T : Txt K mg C) (O_all_units : Ok P w K mg base 1 "all_units" ["fund"] (spSum C unitsOf)) (O_is_fund : Ok P w K mg base 2 "is_fund" ["number"] (spB1 Vbfual.isFund)) (O_is_holder : Ok P w K mg base 2 "is_holder" ["number"] (spB1 Vbfual.isHolder)) : FnOk P w K mg base CX0 3 f fd ["book", "f", "h"] (spAsk2 C Vbfual.Call.holding) := by
  refine F.ok sc_tell_holding (fun vs H Q E h => ?_) (fun cdv A outer s H vs Q E hr h => ?_)
  · obtain ⟨b, L, own, s, f, h, rfl, _⟩ := h
    rfl
  · obtain ⟨b, L, own, s, f, h, rfl, B, D⟩ := h
    have nd := sc_tell_holding.nd
    have hu := hu_of hr
    have e1 := z0; have e2 := z0; have e3 := z0; have e4 := z0; have e5 := z0; have e6 := z0
    refine ⟨_, (pss_cons (ps_if (PW.pt (pw_or (pt_not (pt_val (pe_ok O_is_fund (hr.mono (by decide)) rfl (pa_cons (pv 1) pa_nil)))) (pw_or1 (pt_not (pt_val (pe_ok O_is_holder (hr.mono (by decide)) rfl (pa_cons (pv 2) pa_nil))))))) (pss_one (ps_ret (pe_lst (pa_cons (pe_gint rfl T.c_OUT_OF_RANGE) pa_nil)))) pss_nil)
      (pss_cons (ps_set (i := 3) nd rfl (Or.inl rfl) (pe_dget hu (pe_fld (pv 0) rfl) (pv 1) (fun _ _ => rfl)))
      (pss_cons (ps_if (pt_cmp (pc_dnotin hu (pv 2) (pe_fld (pv 3) rfl))) (pss_one (ps_ret (pe_lst (pa_cons pe_int (pa_cons pe_int (pa_cons pe_int (pa_cons pe_int pa_nil))))))) pss_nil)
      (pss_cons (ps_set (i := 4) nd rfl (Or.inl rfl) (pe_dget hu (pe_fld (pv 3) rfl) (pv 2) (fun _ _ => rfl)))
      (pss_cons (ps_set (i := 5) nd rfl (Or.inl rfl) (pe_op op_fdivL (pe_op op_mul (pe_fld (pv 3) rfl) (pe_fld (pv 4) rfl)) (pe_ok O_all_units (hr.mono (by decide)) rfl (pa_cons (pv 3) pa_nil))))
      (pss_one (ps_ret (pe_lst (pa_cons (pe_fld (pv 4) rfl) (pa_cons (pe_fld (pv 4) rfl) (pa_cons (pe_fld (pv 4) rfl) (pa_cons (pv 5) pa_nil)))))))))))), ?_⟩
    refine seq_of fun N hN => ?_
    walk_at "rd"
    refine or2 (fun h1 => D.no B (if_pos h1)) fun h1 => hN _ _ ?_
    have hs := show Vbfual.step s (.holding f h) = _ from if_neg h1
    obtain ⟨f, rfl, hf⟩ := isFund_of fun z => h1 (.inl z)
    obtain ⟨h, rfl, hh⟩ := isHolder_of fun z => h1 (.inr z)
    simp only [Int.toNat_natCast] at hs
    have F0 := B.fund f hf.1 hf.2
    have hx := B.ok.fok f hf.1 hf.2
    obtain ⟨dxb, e2⟩ := B.bk
    generalize hxe : fundAt s f = x at *
    obtain ⟨dx, d, E, F⟩ := F0.open_
    have e1 := F.at_
    refine seq_of fun N hN => ?_
    walk_at "rde"
    refine ⟨_, dget B.fdic (B.fundGet hf), hN _ _ ?_⟩
    refine seq_of fun N hN => ?_
    walk_at "rde"
    refine ⟨_, DGet.k (k := Sum.inl (h : Int)) F.hs.dic, ?_⟩
    rcases has_or (x := x) h with ⟨y, hy, rfl⟩ | hn
    · obtain ⟨p, hp, rfl, hv⟩ := F.get hy
      obtain ⟨dx', e3⟩ := (F.hs.each p hp).at_
      have hpos := F.sf.pos p.2 hy
      have hU : p.2.units ≤ unitsOf x := le_sum (f := fun y : Holding => y.units) hy
      have hM : unitsOf x ≤ 1000000000000000000 := hx.many
      rw [holdingOf_mem F.sf.srt hy, if_neg (by omega)] at hs
      rw [hv]
      simp only [Option.isSome_some, Bool.true_eq_false, if_false]
      refine hN _ _ (seq_of fun N hN => ?_)
      walk_at "rde"
      refine ⟨_, dget F.hs.dic hv, hN _ _ (seq_of fun N hN => ?_)⟩
      walk_at "rde"
      have hmon : ((x.value : Int) * p.2.units / unitsOf x) = ((x.value * p.2.units / unitsOf x : Nat) : Int) := by
        push_cast
        rfl
      refine ⟨cmul_r (by omega) (by omega), _, own, f, x, rfl, F0, ?_⟩
      walk_at "rde"
      refine ⟨cdiv_of (by omega) (by omega), hN _ _ ?_⟩
      rw [hmon]
      walk_at "rde"
      exact D.fin hs B Out.refl
    · rw [holdingOf_none hn] at hs
      rw [F.none_ hn]
      simp only [Option.isSome_none, if_true]
      exact D.fin hs B Out.refl
abbrev s_tell_cash : Stmt := top 61
theorem sc_tell_cash : FnScope ["book", "h"] ["book", "h"] (defScope s_tell_cash) := by walk_at "sc"
theorem ok_tell_cash {f : Addr} {fd : FuncData} (F : Fun K "tell_cash" "tell_cash" s_tell_cash f fd) (T : Txt K mg C) (O_is_holder : Ok P w K mg base 2 "is_holder" ["number"] (spB1 Vbfual.isHolder)) : FnOk P w K mg base CX0 3 f fd ["book", "h"] (spAsk1 C Vbfual.Call.cash) := by
  refine F.ok sc_tell_cash (fun vs H Q E h => ?_) (fun cdv A outer s H vs Q E hr h => ?_)
  · obtain ⟨b, L, own, s, f, rfl, _⟩ := h
    rfl
  · obtain ⟨b, L, own, s, h, rfl, B, D⟩ := h
    have nd := sc_tell_cash.nd
    have hu := hu_of hr
    have e1 := z0; have e2 := z0; have e3 := z0; have e4 := z0; have e5 := z0; have e6 := z0
    refine ⟨_, (pss_cons (ps_if (pt_not (pt_val (pe_ok O_is_holder (hr.mono (by decide)) rfl (pa_cons (pv 1) pa_nil)))) (pss_one (ps_ret (pe_lst (pa_cons (pe_gint rfl T.c_OUT_OF_RANGE) pa_nil)))) pss_nil)
      (pss_one (ps_ret (pe_lst (pa_cons pe_int (pa_cons (pe_dget hu (pe_fld (pv 0) rfl) (pv 1) (fun _ _ => rfl)) pa_nil)))))), ?_⟩
    walk_at "rd"
    refine ite2 (fun h1 => D.no B (if_pos h1)) fun h1 => ?_
    have hs := show Vbfual.step s (.cash h) = _ from if_neg h1
    obtain ⟨h, rfl, hh⟩ := isHolder_of h1
    simp only [Int.toNat_natCast] at hs
    obtain ⟨dxb, e2⟩ := B.bk
    walk_at "rde"
    refine ⟨_, dget B.cdic (T_val (mem_twenty hh)), ?_⟩
    exact D.fin hs B Out.refl
theorem ints_flat (l : List Holding) : (Vbfual.ints (l.flatMap fun y => [y.holder, y.units])).map V.int = l.flatMap fun y => [V.int (y.holder : Nat), V.int (y.units : Nat)] := by
  induction l with
  | nil => rfl
  | cons y l ih =>
    rw [List.flatMap_cons, List.flatMap_cons, ← ih]
    rfl
theorem flatV_len (l : List Holding) : (l.flatMap fun y => [V.int (y.holder : Nat), V.int (y.units : Nat)]).length = 2 * l.length := by
  induction l with
  | nil => rfl
  | cons y l ih =>
    rw [List.flatMap_cons, List.length_append, ih, List.length_cons]
    simp
    omega
abbrev s_tell_holders : Stmt := top 62
theorem sc_tell_holders : FnScope ["book", "f", "fund", "answer", "holder"] ["book", "f"] (defScope s_tell_holders) := by walk_at "sc"
theorem ok_tell_holders {f : Addr} {fd : FuncData} (F : Fun K "tell_holders" "tell_holders" s_tell_holders f fd) (T : Txt K mg C) (O_is_fund : Ok P w K mg base 2 "is_fund" ["number"] (spB1 Vbfual.isFund)) (O_units_of : Ok P w K mg base 1 "units_of" ["fund", "holder"] (spUnitsOf C)) : FnOk P w K mg base CX0 3 f fd ["book", "f"] (spAsk1 C Vbfual.Call.holders) := by
  refine F.ok sc_tell_holders (fun vs H Q E h => ?_) (fun cdv A outer s H vs Q E hr h => ?_)
  · obtain ⟨b, L, own, s, f, rfl, _⟩ := h
    rfl
  · obtain ⟨b, L, own, s, f, rfl, B, D⟩ := h
    have nd := sc_tell_holders.nd
    have hu := hu_of hr
    have e1 := z0; have e2 := z0; have e3 := z0; have e4 := z0; have e5 := z0; have e6 := z0
    refine ⟨_, (pss_cons (ps_if (pt_not (pt_val (pe_ok O_is_fund (hr.mono (by decide)) rfl (pa_cons (pv 1) pa_nil)))) (pss_one (ps_ret (pe_lst (pa_cons (pe_gint rfl T.c_OUT_OF_RANGE) pa_nil)))) pss_nil)
      (pss_cons (ps_set (i := 2) nd rfl (Or.inl rfl) (pe_dget hu (pe_fld (pv 0) rfl) (pv 1) (fun _ _ => rfl)))
      (pss_cons (ps_set (i := 3) nd rfl (Or.inl rfl) (pe_lst (pa_cons (pe_callB call_lenD (by rfl) T.b_len PySem.boot_len (pa_cons (pe_fld (pv 2) rfl) pa_nil)) pa_nil)))
      (pss_cons (ps_for PassesOwn.never rfl (pi_list (pe_callB (cr_sortedD rfl) (by rfl) T.b_sorted boot_sorted (pa_cons (pe_fld (pv 2) rfl) pa_nil))) (pg_name (i := 4) nd rfl (Or.inl rfl)) (pss_one (ps_expr (pe_bm PySem.F.plainAttrs_list PySem.F.slot_list_extend PySem.F.type_list_extend mt_extend (pv 3) (pa_cons (pe_lst (pa_cons (pv 4) (pa_cons (pe_ok O_units_of (hr.mono (by decide)) rfl (pa_cons (pv 2) (pa_cons (pv 4) pa_nil))) pa_nil))) pa_nil)))))
      (pss_one (ps_ret (pv 3))))))), ?_⟩
    refine ⟨_, rfl, f, rfl, _, rfl, ite2 (fun h1 => ?_) fun h1 => ?_⟩
    · walk_at "rd"
      exact D.no B (if_pos (by simpa using h1))
    have h1 : ¬ Vbfual.isFund f = false := fun z => h1 (by rw [z]; rfl)
    have hs := show Vbfual.step s (.holders f) = _ from if_neg h1
    obtain ⟨f, rfl, hf⟩ := isFund_of h1
    simp only [Int.toNat_natCast] at hs
    have F0 := B.fund f hf.1 hf.2
    obtain ⟨dxb, e2⟩ := B.bk
    generalize hxe : fundAt s f = x at *
    obtain ⟨dx, d, E, F⟩ := F0.open_
    have hlen : (E.map kv).length = x.hold.length := by rw [List.length_map, ← F.pm.length_eq, List.length_map]
    have h20 := F.sf.le20
    refine ⟨_, rfl, b, C.b, dxb, _, _, rfl, e2, T.clB, T.nB_funds, fB_funds _ _ _, _, rfl, L.fd, _, rfl, dget B.fdic (B.fundGet hf), ?_⟩
    refine ⟨_, rfl, L.fa f, C.f, dx, _, _, rfl, F.at_, T.clF, T.nF_holdings, fF_holdings _ _ _ _, d, _, rfl, F.hs.dic, by show 1 ≤ sizeLine; rw [fits_1]; trivial, fun pa hpa => ?_⟩
    rw [hlen]
    have S1 : Same H (upd H pa (.lst [.int (x.hold.length : Nat)])) := fun c o e => by rw [upd_ne (ne_of_none e hpa)]; exact e
    refine ⟨_, rfl, L.fa f, C.f, dx, _, _, rfl, S1 _ _ F.at_, T.clF, T.nF_holdings, fF_holdings _ _ _ _, d, E.map kv, E.map (fun p => (p.2.holder : Int)), rfl, .inl (S1 _ _ F.hs.dic), F.keys, by rw [List.length_map]; have := F.len; omega, fun ns p hperm hsort hp => ?_⟩
    have hns := F.sorted hperm hsort
    subst hns
    have hpH : H p = none := S1.free hp
    have npa : p ≠ pa := fun e => by rw [e, upd_same] at hp; cases hp
    refine ⟨p, rfl, ⟨_, SqL.of upd_same⟩, for_list (K := K) (a := p) (xs := (x.hold.map fun y => (y.holder : Int)).map V.int) (fun i σ H' => Same H H' ∧ Good H' ∧ H' p = some (.lst ((x.hold.map fun y => (y.holder : Int)).map V.int)) ∧
      H' pa = some (.lst (.int (x.hold.length : Nat) :: (x.hold.take i).flatMap fun y => [V.int (y.holder : Nat), V.int (y.units : Nat)])) ∧ ∃ v4 : Option V, σ = [some (.ref b), some (.int f), some (.ref (L.fa f)), some (.ref pa), v4])
      ⟨?_, ?_, upd_same, ?_, none, rfl⟩ (fun i σ H' _ h => SqL.of h.2.2.1) ?_ ?_⟩
    · intro c o e
      rw [upd_ne (ne_of_none e hpH)]
      exact S1 c o e
    · exact (F.good.upd (by intro _ z; cases z)).upd (by intro _ z; cases z)
    · rw [upd_ne npa.symm, upd_same]
      rfl
    · rintro i xv σ H' hi ⟨hS, hG, hl, ha, v4, rfl⟩
      obtain ⟨h, hh, rfl⟩ : ∃ h, x.hold[i]? = some h ∧ xv = V.int (h.holder : Int) := by
        rw [List.getElem?_map, List.getElem?_map] at hi
        cases e : x.hold[i]? with
        | none => rw [e] at hi; cases hi
        | some h =>
          rw [e] at hi
          exact ⟨h, rfl, (Option.some.inj hi).symm⟩
      have hm := List.mem_of_getElem? hh
      have hil := (List.getElem?_eq_some_iff.mp hh).1
      walk_at "rde"
      refine ⟨.inl ⟨rfl, _, SqL.of ha⟩, L.fa f, own, f, x, h.holder, rfl, F0.same hG hS, ?_⟩
      walk_at "rde"
      intro t ht
      rw [holdingOf_mem F.sf.srt hm]
      have n1 : pa ≠ t := ne_of_none ha ht
      have n2 : p ≠ t := ne_of_none hl ht
      refine ⟨pa, t, _, _, rfl, rfl, by rw [upd_ne n1]; exact ha, upd_same, ?_, ?_⟩
      · rw [List.length_cons, flatV_len, List.length_take]
        exact Nat.le_of_lt (small _ (by simp; omega))
      · refine ⟨fun c o e => ?_, (hG.upd (by intro _ z; cases z)).upd (by intro _ z; cases z), ?_, ?_, _, rfl⟩
        · rw [upd_ne (ne_of_none e hpa), upd_ne (ne_of_none (hS c o e) ht)]
          exact hS c o e
        · rw [upd_ne npa, upd_ne n2]
          exact hl
        · rw [upd_same, List.take_add_one, hh, List.flatMap_append]
          rfl
    · rintro σ H' ⟨hS, hG, hl, ha, v4, rfl⟩
      rw [List.length_map, List.length_map, List.take_length, ← ints_flat] at ha
      exact ⟨_, rfl, D L own H' pa (by rw [hs]; exact B.same hG hS) (by rw [hs]; exact ha) (R.Same.out hS) (Fresh0.of hpa)⟩
theorem rn_no {s : State} {n : Int} {f : Scheme → State × List Int} (h : rn s n ≠ 0) : Vbfual.onScheme s n f = (s, [rn s n]) := by
  unfold rn at h ⊢
  unfold Vbfual.onScheme
  by_cases hi : Vbfual.inside n 1 1000000 = false
  · rw [if_pos hi, if_pos hi]
    rfl
  · rw [if_neg hi] at h
    rw [if_neg hi, if_neg hi]
    cases e : s.schemes.find? (fun x => (x.num : Int) == n) with
    | none => rfl
    | some z =>
      rw [e] at h
      exact absurd rfl h
theorem rn_zero {L : Lo} {own : Own} {H : Hp} {b : Addr} {s : State} (B : BookAt C L own H b s) {n : Int} (h : rn s n = 0) :
    ∃ z ∈ s.schemes, (z.num : Int) = n ∧ valV (T (s.schemes.map fun z => z.num) fun i => .ref (L.za i)) (Sum.inl n) = some (.ref (L.za z.num)) ∧ ∀ f, Vbfual.onScheme s n f = f z := by
  unfold rn at h
  by_cases hi : Vbfual.inside n 1 1000000 = false
  · rw [if_pos hi] at h
    cases h
  · rw [if_neg hi] at h
    rcases B.find n with ⟨z, hz, hn, hfz, hv⟩ | ⟨hfz, hv⟩
    · refine ⟨z, hz, hn, hv, fun f => ?_⟩
      unfold Vbfual.onScheme
      rw [if_neg hi, hfz]
    · rw [hfz] at h
      cases h
abbrev s_tell_scheme : Stmt := top 63
theorem sc_tell_scheme : FnScope ["book", "n", "refusal", "scheme", "proposed"] ["book", "n"] (defScope s_tell_scheme) := by walk_at "sc"
theorem ok_tell_scheme {f : Addr} {fd : FuncData} (F : Fun K "tell_scheme" "tell_scheme" s_tell_scheme f fd) (T : Txt K mg C) (O_refusal_of_number : Ok P w K mg base 2 "refusal_of_number" ["book", "n"] (spRN C)) : FnOk P w K mg base CX0 3 f fd ["book", "n"] (spAsk1 C Vbfual.Call.scheme) := by
  refine F.ok sc_tell_scheme (fun vs H Q E h => ?_) (fun cdv A outer s H vs Q E hr h => ?_)
  · obtain ⟨b, L, own, s, f, rfl, _⟩ := h
    rfl
  · obtain ⟨b, L, own, s, n, rfl, B, D⟩ := h
    have nd := sc_tell_scheme.nd
    have hu := hu_of hr
    have e1 := z0; have e2 := z0; have e3 := z0; have e4 := z0; have e5 := z0; have e6 := z0
    refine ⟨_, (pss_cons (ps_set (i := 2) nd rfl (Or.inl rfl) (pe_ok O_refusal_of_number (hr.mono (by decide)) rfl (pa_cons (pv 0) (pa_cons (pv 1) pa_nil))))
      (pss_cons (ps_if (pt_cmp (pc_neI (pv 2) pe_int)) (pss_one (ps_ret (pe_lst (pa_cons (pv 2) pa_nil)))) pss_nil)
      (pss_cons (ps_set (i := 3) nd rfl (Or.inl rfl) (pe_dget hu (pe_fld (pv 0) rfl) (pv 1) (fun _ _ => rfl)))
      (pss_cons (ps_set (i := 4) nd rfl (Or.inl rfl) (pe_lst (pa_cons (pe_fld (pv 3) rfl) (pa_cons (pe_fld (pv 3) rfl) (pa_cons (pe_fld (pv 3) rfl) (pa_cons (pe_fld (pv 3) rfl) (pa_cons (pe_fld (pv 3) rfl) (pa_cons (pe_fld (pv 3) rfl) pa_nil))))))))
      (pss_one (ps_ret (pe_op op_cat (pv 4) (pe_lst (pa_cons (pe_fld (pv 3) rfl) (pa_cons (pe_callB call_lenD (by rfl) T.b_len PySem.boot_len (pa_cons (pe_fld (pv 3) rfl) pa_nil)) (pa_cons (pe_callB call_lenD (by rfl) T.b_len PySem.boot_len (pa_cons (pe_fld (pv 3) rfl) pa_nil)) pa_nil))))))))))), ?_⟩
    obtain ⟨dxb, e2⟩ := B.bk
    have hs : Vbfual.step s (.scheme n) = Vbfual.onScheme s n _ := rfl
    walk_at "rde"
    refine ⟨_, L, own, s, n, rfl, B, ?_⟩
    walk_at "rde"
    refine ite2 (fun h2 => D.no B (hs.trans (rn_no h2))) fun h2 => ?_
    obtain ⟨z, hz, rfl, hv, hon⟩ := rn_zero B (Decidable.not_not.mp h2)
    rw [hon] at hs
    obtain ⟨dz, vd, pd, kvs, kps, Z⟩ := (B.sch z hz).open_
    have e1 := Z.at_
    refine ⟨_, dget B.sdic hv, L.za z.num, rfl, ?_⟩
    walk_at "rde"
    intro p1 hp1
    have e3 := fun (G : Hp) (o : HO) => upd_ne (H := G) (o := o) (ne_of_none Z.at_ hp1)
    have hvd : ∀ o, upd H p1 o vd = some (.dK kvs) := fun o => by rw [upd_ne (ne_of_none Z.vat hp1)]; exact Z.vat
    have hpd : ∀ o, upd H p1 o pd = some (.dK kps) := fun o => by rw [upd_ne (ne_of_none Z.pat hp1)]; exact Z.pat
    walk_at "rde"
    refine ⟨_, hvd _, _, hpd _, fun p2 hp2 => ?_⟩
    rw [Z.vlen, Z.plen]
    have n12 : p1 ≠ p2 := fun e => by rw [← e, upd_same] at hp2; cases hp2
    refine ⟨p1, p2, _, _, rfl, rfl, by rw [upd_ne n12]; exact upd_same, upd_same, Nat.le_of_lt (small _ (by show 6 + 3 ≤ 100000; decide)), fun p3 hp3 => ?_⟩
    have hp1' := hp1
    have S2 : Same H (upd (upd H p1 (.lst [.int z.kind, .int z.a, .int z.b, .int z.part, .int z.quorum, .int z.need])) p2 (.lst [.int z.status, .int (z.votes.length : Nat), .int (z.proxies.length : Nat)])) := fun c o e => by
      have c1 := ne_of_none e hp1
      have c2 : c ≠ p2 := ne_of_none (show upd H p1 _ c = some o by rw [upd_ne c1]; exact e) hp2
      rw [upd_ne c2, upd_ne c1]
      exact e
    exact D.fin hs (B.same ((B.good.upd (by intro _ z; cases z)).upd (by intro _ z; cases z)) S2) (R.Same.out S2) p3 hp3
abbrev s_tell_tally : Stmt := top 64
theorem sc_tell_tally : FnScope ["book", "n", "refusal", "scheme"] ["book", "n"] (defScope s_tell_tally) := by walk_at "sc"
theorem ok_tell_tally {f : Addr} {fd : FuncData} (F : Fun K "tell_tally" "tell_tally" s_tell_tally f fd) (T : Txt K mg C) (O_refusal_of_number : Ok P w K mg base 2 "refusal_of_number" ["book", "n"] (spRN C)) (O_tally_of : Ok P w K mg base 2 "tally_of" ["scheme", "fund"] (spTally C)) : FnOk P w K mg base CX0 3 f fd ["book", "n"] (spAsk1 C Vbfual.Call.tally) := by
  refine F.ok sc_tell_tally (fun vs H Q E h => ?_) (fun cdv A outer s H vs Q E hr h => ?_)
  · obtain ⟨b, L, own, s, f, rfl, _⟩ := h
    rfl
  · obtain ⟨b, L, own, s, n, rfl, B, D⟩ := h
    have nd := sc_tell_tally.nd
    have hu := hu_of hr
    have e1 := z0; have e2 := z0; have e3 := z0; have e4 := z0; have e5 := z0; have e6 := z0
    refine ⟨_, (pss_cons (ps_set (i := 2) nd rfl (Or.inl rfl) (pe_ok O_refusal_of_number (hr.mono (by decide)) rfl (pa_cons (pv 0) (pa_cons (pv 1) pa_nil))))
      (pss_cons (ps_if (pt_cmp (pc_neI (pv 2) pe_int)) (pss_one (ps_ret (pe_lst (pa_cons (pv 2) pa_nil)))) pss_nil)
      (pss_cons (ps_set (i := 3) nd rfl (Or.inl rfl) (pe_dget hu (pe_fld (pv 0) rfl) (pv 1) (fun _ _ => rfl)))
      (pss_one (ps_ret (pe_ok O_tally_of (hr.mono (by decide)) rfl (pa_cons (pv 3) (pa_cons (pe_dget hu (pe_fld (pv 0) rfl) (pe_fld (pv 3) rfl) (fun _ _ => rfl)) pa_nil)))))))), ?_⟩
    obtain ⟨dxb, e2⟩ := B.bk
    have hs : Vbfual.step s (.tally n) = Vbfual.onScheme s n _ := rfl
    walk_at "rde"
    refine ⟨_, L, own, s, n, rfl, B, ?_⟩
    walk_at "rde"
    refine ite2 (fun h2 => D.no B (hs.trans (rn_no h2))) fun h2 => ?_
    obtain ⟨z, hz, rfl, hv, hon⟩ := rn_zero B (Decidable.not_not.mp h2)
    rw [hon] at hs
    have hzk := B.ok.zok z hz
    obtain ⟨dz, vd, pd, kvs, kps, Z⟩ := (B.sch z hz).open_
    have e1 := Z.at_
    refine ⟨_, dget B.sdic hv, L.za z.num, rfl, ?_⟩
    walk_at "rde"
    refine ⟨_, dget B.fdic (B.fundGet hzk.a), ?_⟩
    refine ⟨_, _, own, _, _, z, _, rfl, B.sch z hz, hzk, B.fund z.a hzk.a.1 hzk.a.2, B.ok.fok z.a hzk.a.1 hzk.a.2, fun H1 p hS G1 hp hl => ?_⟩
    refine D L own H1 p (by rw [hs]; exact B.same G1 hS) ?_ (R.Same.out hS) (Fresh0.of hp)
    rw [hs, hl]
    unfold tallyAns
    have hki : (if Vbfual.passes z (fundAt s z.a) = true then (1 : Int) else 2) = ((if Vbfual.passes z (fundAt s z.a) = true then 1 else 2 : Nat) : Int) := by split <;> rfl
    rw [hki]
    rfl
abbrev s_tell_speaker : Stmt := top 65
theorem sc_tell_speaker : FnScope ["book", "n", "h", "refusal"] ["book", "n", "h"] (defScope s_tell_speaker) := by walk_at "sc"
theorem ok_tell_speaker {f : Addr} {fd : FuncData} (F : Fun K "tell_speaker" "tell_speaker" s_tell_speaker f fd) (T : Txt K mg C) (O_refusal_of_number : Ok P w K mg base 2 "refusal_of_number" ["book", "n"] (spRN C)) (O_is_holder : Ok P w K mg base 2 "is_holder" ["number"] (spB1 Vbfual.isHolder)) (O_speaker_for : Ok P w K mg base 1 "speaker_for" ["scheme", "h"] (spSpeaker C)) : FnOk P w K mg base CX0 3 f fd ["book", "n", "h"] (spAsk2 C Vbfual.Call.speaker) := by
  refine F.ok sc_tell_speaker (fun vs H Q E h => ?_) (fun cdv A outer s H vs Q E hr h => ?_)
  · obtain ⟨b, L, own, s, f, h, rfl, _⟩ := h
    rfl
  · obtain ⟨b, L, own, s, n, h, rfl, B, D⟩ := h
    have nd := sc_tell_speaker.nd
    have hu := hu_of hr
    have e1 := z0; have e2 := z0; have e3 := z0; have e4 := z0; have e5 := z0; have e6 := z0
    refine ⟨_, (pss_cons (ps_if (pt_not (pt_val (pe_ok O_is_holder (hr.mono (by decide)) rfl (pa_cons (pv 2) pa_nil)))) (pss_one (ps_ret (pe_lst (pa_cons (pe_gint rfl T.c_OUT_OF_RANGE) pa_nil)))) pss_nil)
      (pss_cons (ps_set (i := 3) nd rfl (Or.inl rfl) (pe_ok O_refusal_of_number (hr.mono (by decide)) rfl (pa_cons (pv 0) (pa_cons (pv 1) pa_nil))))
      (pss_cons (ps_if (pt_cmp (pc_neI (pv 3) pe_int)) (pss_one (ps_ret (pe_lst (pa_cons (pv 3) pa_nil)))) pss_nil)
      (pss_one (ps_ret (pe_lst (pa_cons (pe_ok O_speaker_for (hr.mono (by decide)) rfl (pa_cons (pe_dget hu (pe_fld (pv 0) rfl) (pv 1) (fun _ _ => rfl)) (pa_cons (pv 2) pa_nil))) pa_nil))))))), ?_⟩
    obtain ⟨dxb, e2⟩ := B.bk
    walk_at "rde"
    refine ite2 (fun h1 => D.no B (if_pos h1)) fun h1 => ?_
    have hs := show Vbfual.step s (.speaker n h) = _ from if_neg h1
    obtain ⟨h, rfl, hh⟩ := isHolder_of h1
    simp only [Int.toNat_natCast] at hs
    refine ⟨_, L, own, s, n, rfl, B, ?_⟩
    walk_at "rde"
    refine ite2 (fun h2 => D.no B (hs.trans (rn_no h2))) fun h2 => ?_
    obtain ⟨z, hz, rfl, hv, hon⟩ := rn_zero B (Decidable.not_not.mp h2)
    have hzk := B.ok.zok z hz
    rw [hon, speaks_20 hzk hh] at hs
    refine ⟨_, dget B.sdic hv, ?_⟩
    refine ⟨L.za z.num, own, _, z, h, rfl, B.sch z hz, hzk, hh, ?_⟩
    walk_at "rde"
    exact D.fin hs B Out.refl
abbrev s_tell_offer : Stmt := top 66
theorem sc_tell_offer : FnScope ["book", "a", "b", "h", "fund", "other"] ["book", "a", "b", "h"] (defScope s_tell_offer) := by walk_at "sc"
theorem ok_tell_offer {f : Addr} {fd : FuncData} (F : Fun K "tell_offer" "tell_offer" s_tell_offer f fd) (T : Txt K mg C) (O_is_worthless : Ok P w K mg base 2 "is_worthless" ["fund"] (spWorth C)) (O_brought_by : Ok P w K mg base 2 "brought_by" ["units", "fund", "other"] (spBrought C)) (O_is_fund : Ok P w K mg base 2 "is_fund" ["number"] (spB1 Vbfual.isFund)) (O_is_holder : Ok P w K mg base 2 "is_holder" ["number"] (spB1 Vbfual.isHolder)) (O_all_units : Ok P w K mg base 1 "all_units" ["fund"] (spSum C unitsOf)) (O_units_of : Ok P w K mg base 1 "units_of" ["fund", "holder"] (spUnitsOf C)) : FnOk P w K mg base CX0 3 f fd ["book", "a", "b", "h"] (spAsk3 C Vbfual.Call.offer) := by
  refine F.ok sc_tell_offer (fun vs H Q E h => ?_) (fun cdv A outer s H vs Q E hr h => ?_)
  · obtain ⟨b, L, own, s, f, g, h, rfl, _⟩ := h
    rfl
  · obtain ⟨b, L, own, s, f, g, h, rfl, B, D⟩ := h
    have nd := sc_tell_offer.nd
    have hu := hu_of hr
    have e1 := z0; have e2 := z0; have e3 := z0; have e4 := z0; have e5 := z0; have e6 := z0
    refine ⟨_, (pss_cons (ps_if (PW.pt (pw_or (pt_not (pt_val (pe_ok O_is_fund (hr.mono (by decide)) rfl (pa_cons (pv 1) pa_nil)))) (pw_or (pt_not (pt_val (pe_ok O_is_fund (hr.mono (by decide)) rfl (pa_cons (pv 2) pa_nil)))) (pw_or1 (pt_not (pt_val (pe_ok O_is_holder (hr.mono (by decide)) rfl (pa_cons (pv 3) pa_nil)))))))) (pss_one (ps_ret (pe_lst (pa_cons (pe_gint rfl T.c_OUT_OF_RANGE) pa_nil)))) pss_nil)
      (pss_cons (ps_if (pt_cmp (pc_eqI (pv 1) (pv 2))) (pss_one (ps_ret (pe_lst (pa_cons (pe_gint rfl T.c_NOT_ALLOWED) pa_nil)))) pss_nil)
      (pss_cons (ps_set (i := 4) nd rfl (Or.inl rfl) (pe_dget hu (pe_fld (pv 0) rfl) (pv 1) (fun _ _ => rfl)))
      (pss_cons (ps_set (i := 5) nd rfl (Or.inl rfl) (pe_dget hu (pe_fld (pv 0) rfl) (pv 2) (fun _ _ => rfl)))
      (pss_cons (ps_if (PW.pt (pw_or (pt_cmp (pc_eqI (pe_ok O_all_units (hr.mono (by decide)) rfl (pa_cons (pv 4) pa_nil)) pe_int)) (pw_or1 (pt_val (pe_ok O_is_worthless (hr.mono (by decide)) rfl (pa_cons (pv 5) pa_nil)))))) (pss_one (ps_ret (pe_lst (pa_cons (pe_gint rfl T.c_NOTHING_TO_RECKON_BY) pa_nil)))) pss_nil)
      (pss_one (ps_ret (pe_callTy call_list_of (by rfl) T.b_list boot_list (pa_cons (pe_ok O_brought_by (hr.mono (by decide)) rfl (pa_cons (pe_ok O_units_of (hr.mono (by decide)) rfl (pa_cons (pv 4) (pa_cons (pv 3) pa_nil))) (pa_cons (pv 4) (pa_cons (pv 5) pa_nil)))) pa_nil))))))))), ?_⟩
    refine seq_of fun N hN => ?_
    walk_at "rd"
    refine or3 (fun h1 => D.no B (if_pos h1)) fun h1 => hN _ _ ?_
    have hs := show Vbfual.step s (.offer f g h) = _ from if_neg h1
    refine seq_of fun N hN => ?_
    walk_at "rd"
    refine ite2 (fun h2 => D.no B (hs.trans (if_pos h2))) fun h2 => hN _ _ ?_
    rw [if_neg h2] at hs
    obtain ⟨f, rfl, hf⟩ := isFund_of fun z => h1 (.inl z)
    obtain ⟨g, rfl, hg⟩ := isFund_of fun z => h1 (.inr (.inl z))
    obtain ⟨h, rfl, hh⟩ := isHolder_of fun z => h1 (.inr (.inr z))
    simp only [Int.toNat_natCast] at hs
    have FA0 := B.fund f hf.1 hf.2
    have FB0 := B.fund g hg.1 hg.2
    have hx := B.ok.fok f hf.1 hf.2
    have hy := B.ok.fok g hg.1 hg.2
    obtain ⟨dxb, e2⟩ := B.bk
    generalize hxe : fundAt s f = x at *
    generalize hye : fundAt s g = y at *
    refine seq_of fun N hN => ?_
    walk_at "rde"
    refine ⟨_, dget B.fdic (B.fundGet hf), hN _ _ (seq_of fun N hN => ?_)⟩
    walk_at "rde"
    refine ⟨_, dget B.fdic (B.fundGet hg), hN _ _ (seq_of fun N hN => ?_)⟩
    walk_at "rde"
    refine ⟨_, own, f, x, rfl, FA0, ?_⟩
    walk_at "rde"
    refine ite2 (fun h3 => D.no B (hs.trans (if_pos (.inl (by omega))))) fun h3 => ?_
    refine ⟨_, own, g, y, rfl, FB0, ?_⟩
    walk_at "rde"
    refine ite2 (fun h4 => D.no B (hs.trans (if_pos (.inr ⟨h4.2, h4.1⟩)))) fun h4 => hN _ _ ?_
    rw [if_neg (by omega)] at hs
    have hM : unitsOf x ≤ 1000000000000000000 := hx.many
    have hule := holding_le hx.sf h
    walk_at "rde"
    refine ⟨_, own, f, x, h, rfl, FA0, ?_⟩
    refine ⟨_, _, _, own, f, g, x, y, rfl, FA0, FB0, hx, hy, by omega, by omega, by omega, fun t ht => ?_⟩
    refine ⟨t, rfl, _, .inr (SqT.of upd_same), fun l hl => ?_⟩
    have S2 : Same H (upd H t (.tup [.int (newUnits x y (holdingOf x h).units : Nat), .int (restOf x y (holdingOf x h).units : Nat)])) := fun c o e => by rw [upd_ne (ne_of_none e ht)]; exact e
    exact D.fin hs (B.same (B.good.upd (by intro _ z; cases z)) S2) (R.Same.out S2) l hl
end
section
variable {P : Program} {w : World} {K : PySem.W.Frag} {mg : Str → Option Value} {base : Heap} {C : Cs}
def hs (x : Fund) : List Nat := x.hold.map fun y => y.holder
def dV (g : Nat → Nat) (h : Nat) : V := .int (g h : Nat)
theorem T_next {l : List Holding} (hs : Srt l) {g : Nat → V} {i : Nat} {y : Holding} (hy : l[i]? = some y) {v : V} (hv : v = g y.holder) : putK (T ((l.take i).map fun y => y.holder) g) (Sum.inl (y.holder : Int)) v = T ((l.take (i + 1)).map fun y => y.holder) g := by
  rw [T_snoc (take_holder hs hy), List.take_add_one, hy, List.map_append]
  refine T_congr fun k _ => ?_
  split
  · next e => rw [e, hv]
  · rfl
def spDown (C : Cs) : Sp := fun vs H Q _ => ∃ (a : Addr) (own : Own) (r : Nat) (x : Fund) (k : Nat), vs = [.ref a, .int k] ∧ FundAt C own H r a x ∧ 0 < unitsOf x ∧ unitsOf x ≤ 1000000000000000000 ∧
  ∀ H' p, Same H H' → Good H' → H p = none → H' p = some (.dK (T (hs x) (dV (downOf x k)))) → Q (.ref p) H'
abbrev s_shares_rounded_down : Stmt := top 68
theorem sc_shares_rounded_down : FnScope ["fund", "coins", "whole", "shares", "holder"] ["fund", "coins"] (defScope s_shares_rounded_down) := by walk_at "sc"
theorem ok_shares_rounded_down {f : Addr} {fd : FuncData} (F : Fun K "shares_rounded_down" "shares_rounded_down" s_shares_rounded_down f fd) (T : Txt K mg C) (O_all_units : Ok P w K mg base 1 "all_units" ["fund"] (spSum C unitsOf)) : FnOk P w K mg base CX0 2 f fd ["fund", "coins"] (spDown C) := by
  refine F.ok sc_shares_rounded_down (fun vs H Q E h => ?_) (fun cdv A outer s H vs Q E hr h => ?_)
  · obtain ⟨a, own, r, x, k, rfl, _⟩ := h
    rfl
  · obtain ⟨a, own, r, x, k, rfl, A0, hux, m1, q⟩ := h
    have nd := sc_shares_rounded_down.nd
    have hu := hu_of hr
    have e1 := z0; have e2 := z0; have e3 := z0; have e4 := z0; have e5 := z0; have e6 := z0
    refine ⟨_, (pss_cons (ps_set (i := 2) nd rfl (Or.inl rfl) (pe_ok O_all_units (hr.mono (by decide)) rfl (pa_cons (pv 0) pa_nil)))
      (pss_cons (ps_set (i := 3) nd rfl (Or.inl rfl) pe_dnewK)
      (pss_cons (ps_for PassesOwn.never rfl (pi_list (pe_callB (cr_sortedD rfl) (by rfl) T.b_sorted boot_sorted (pa_cons (pe_fld (pv 0) rfl) pa_nil))) (pg_name (i := 4) nd rfl (Or.inl rfl)) (pss_one (ps_dput hu (pv 3) (pv 4) (pe_op op_fdivL (pe_op op_mul (pv 1) (pe_fld (pe_dget hu (pe_fld (pv 0) rfl) (pv 4) (fun _ _ => rfl)) rfl)) (pv 2)) rfl)))
      (pss_one (ps_ret (pv 3)))))), ?_⟩
    obtain ⟨dx, d, E, A⟩ := A0.open_
    refine ⟨_, rfl, a, own, r, x, rfl, A0, fun pb hpb => ?_⟩
    have S1 : Same H (upd H pb (.dK [])) := fun b o e => by rw [upd_ne (ne_of_none e hpb)]; exact e
    refine ⟨_, rfl, a, C.f, dx, _, _, rfl, S1 _ _ A.at_, T.clF, T.nF_holdings, fF_holdings _ _ _ _, d, E.map kv, E.map (fun p => (p.2.holder : Int)), rfl, .inl (S1 _ _ A.hs.dic), A.keys, by rw [List.length_map]; have := A.len; omega, fun ns p hperm hsort hp => ?_⟩
    have hns := A.sorted hperm hsort
    subst hns
    have hpH : H p = none := S1.free hp
    have npb : p ≠ pb := fun e => by rw [e, upd_same] at hp; cases hp
    refine ⟨p, rfl, ⟨_, SqL.of upd_same⟩, for_list (K := K) (a := p) (xs := (x.hold.map fun y => (y.holder : Int)).map V.int) (fun i σ H' => Same H H' ∧ Good H' ∧ H' p = some (.lst ((x.hold.map fun y => (y.holder : Int)).map V.int)) ∧
      H' pb = some (.dK (R.T ((x.hold.take i).map fun y => y.holder) (dV (downOf x k)))) ∧ ∃ v4 : Option V, σ = [some (.ref a), some (.int k), some (.int (unitsOf x : Nat)), some (.ref pb), v4])
      ⟨?_, ?_, upd_same, ?_, none, rfl⟩ (fun i σ H' _ h => SqL.of h.2.2.1) ?_ ?_⟩
    · intro c o e
      rw [upd_ne (ne_of_none e hpH)]
      exact S1 c o e
    · exact (A.good.upd (by intro _ z; cases z)).upd (by intro _ z; cases z)
    · rw [upd_ne npb.symm, upd_same]
      rfl
    · rintro i xv σ H' hi ⟨hS, hG, hl, hd, v4, rfl⟩
      obtain ⟨h, hh, rfl⟩ : ∃ h, x.hold[i]? = some h ∧ xv = V.int (h.holder : Int) := by
        rw [List.getElem?_map, List.getElem?_map] at hi
        cases e : x.hold[i]? with
        | none => rw [e] at hi; cases hi
        | some h =>
          rw [e] at hi
          exact ⟨h, rfl, (Option.some.inj hi).symm⟩
      have hm := List.mem_of_getElem? hh
      have hil := (List.getElem?_eq_some_iff.mp hh).1
      have h20 := A.sf.le20
      obtain ⟨w, hw, rfl, hv⟩ := A.get hm
      obtain ⟨dw, hwa⟩ := (A.hs.each w hw).at_
      have e1 := hS _ _ A.at_
      have e3 := hS _ _ hwa
      have hU : w.2.units ≤ unitsOf x := le_sum (f := fun y : Holding => y.units) hm
      walk_at "rde"
      refine ⟨_, dget (hS _ _ A.hs.dic) hv, w.1, rfl, ?_⟩
      walk_at "rde"
      have hdv : ((k : Int) * w.2.units / (unitsOf x : Nat)) = ((k * w.2.units / unitsOf x : Nat) : Int) := div_cast _ _ _
      refine ⟨cmul_r (by omega) (by omega), cdiv_of (by omega) (by omega), _, DPut.k (k := Sum.inl (w.2.holder : Int)) hd (by rw [T_len, List.length_map, List.length_take]; exact small _ (by omega)), ?_⟩
      rw [hdv, T_next A.sf.srt hh (by unfold dV; rw [down_mem A.sf.srt k hm])]
      refine ⟨fun c o e => ?_, hG.upd (by intro _ z; cases z), ?_, upd_same, _, rfl⟩
      · rw [upd_ne (ne_of_none e hpb)]
        exact hS c o e
      · rw [upd_ne npb]
        exact hl
    · rintro σ H' ⟨hS, hG, hl, hd, v4, rfl⟩
      rw [List.length_map, List.length_map, List.take_length] at hd
      exact ⟨_, rfl, q H' pb hS hG hpb hd⟩
def key (k : Nat) (x : Fund) (y : Holding) : List Int := [-((remOf k (unitsOf x) y : Nat) : Int), (y.holder : Nat)]
def rk2 (l : List Int) : Int := l.getD 0 0 * 32 + l.getD 1 0
theorem lex2 {a b c d : Int} (hb : 0 ≤ b ∧ b < 32) (hd : 0 ≤ d ∧ d < 32) : HT.lexLt [a, b] [c, d] = decide (rk2 [a, b] < rk2 [c, d]) := by
  rw [HT.lexLt_cons, HT.lexLt_cons, HT.lexLt_nil_nil]
  show _ = decide (a * 32 + b < c * 32 + d)
  by_cases h1 : a = c
  · rw [if_pos h1]
    by_cases h2 : b = d
    · rw [if_pos h2]
      exact (decide_eq_false (by omega)).symm
    · rw [if_neg h2]
      exact decide_eq_decide.mpr (by omega)
  · rw [if_neg h1]
    exact decide_eq_decide.mpr (by omega)
def spRank (C : Cs) : Sp := fun vs H Q _ => ∃ (a : Addr) (own : Own) (r : Nat) (x : Fund) (k : Nat), vs = [.ref a, .int k] ∧ FundAt C own H r a x ∧ 0 < unitsOf x ∧ unitsOf x ≤ 1000000000000000000 ∧
  ∀ H' p, Same H H' → Good H' → H p = none → H' p = some (.lst ((rankS k (unitsOf x) x.hold).map fun y => V.int (y.holder : Nat))) → Q (.ref p) H'
structure Gath (H H' : Hp) (pr : Addr) (k : Nat) (x : Fund) (l : List Holding) (ts : List (Addr × List Int)) : Prop where
  lst : H' pr = some (.lst (ts.map fun t => V.ref t.1))
  keys : ts.map (fun t => t.2) = l.map (key k x)
  at_ : ∀ t ∈ ts, H' t.1 = some (.tup (t.2.map V.int)) ∧ t.1 ≠ pr
abbrev s_holders_by_remainder : Stmt := top 69
theorem sc_holders_by_remainder : FnScope ["fund", "coins", "whole", "ranks", "holder", "remainder", "rank"] ["fund", "coins"] (defScope s_holders_by_remainder) := by walk_at "sc"
theorem ok_holders_by_remainder {f : Addr} {fd : FuncData} (F : Fun K "holders_by_remainder" "holders_by_remainder" s_holders_by_remainder f fd) (T : Txt K mg C) (O_all_units : Ok P w K mg base 1 "all_units" ["fund"] (spSum C unitsOf)) : FnOk P w K mg base CX0 2 f fd ["fund", "coins"] (spRank C) := by
  refine F.ok sc_holders_by_remainder (fun vs H Q E h => ?_) (fun cdv A outer s H vs Q E hr h => ?_)
  · obtain ⟨a, own, r, x, k, rfl, _⟩ := h
    rfl
  · obtain ⟨a, own, r, x, k, rfl, A0, hux, m1, q⟩ := h
    have nd := sc_holders_by_remainder.nd
    have hu := hu_of hr
    have e1 := z0; have e2 := z0; have e3 := z0; have e4 := z0; have e5 := z0; have e6 := z0
    refine ⟨_, (pss_cons (ps_set (i := 2) nd rfl (Or.inl rfl) (pe_ok O_all_units (hr.mono (by decide)) rfl (pa_cons (pv 0) pa_nil)))
      (pss_cons (ps_set (i := 3) nd rfl (Or.inl rfl) (pe_lst pa_nil))
      (pss_cons (ps_lock (ps_for PassesOwn.never rfl (pi_keys (pe_fld (pv 0) rfl)) (pg_name (i := 4) nd rfl (Or.inl rfl)) (pss_cons (ps_set (i := 5) nd rfl (Or.inl rfl) (pe_op op_mod (pe_op op_mul (pv 1) (pe_fld (pe_dget hu (pe_fld (pv 0) rfl) (pv 4) (fun _ _ => rfl)) rfl)) (pv 2)))
      (pss_one (ps_expr (pe_bm PySem.F.plainAttrs_list PySem.F.slot_list_append PySem.F.type_list_append mt_append (pv 3) (pa_cons (pe_tup (pa_cons (pe_un un_neg (pv 5)) (pa_cons (pv 4) pa_nil))) pa_nil)))))))
      (pss_one (ps_ret (pe_lc (te := (tOp (rIxT K) (tVar 6) (tC (.int 1)))) rfl nd (pi_list (pe_callB cr_sortedT (by rfl) T.b_sorted boot_sorted (pa_cons (pv 3) pa_nil))) (blkOk_by (N := ["fund", "coins", "whole", "ranks", "holder", "remainder", "rank"]) (sc := defScope s_holders_by_remainder) (own := [("rank", 6)]) (by decide +kernel)) (fun _ _ _ _ _ => pg_name (i := 6) nd rfl (Or.inl rfl)) (fun _ _ _ _ _ => pts_nil) (fun _ _ _ _ _ => (pe_ix ix_tup (pv 6) pe_int (fun _ _ => rfl))))))))), ?_⟩
    obtain ⟨dx, d, E, A⟩ := A0.open_
    have h20 := A.len
    refine ⟨_, rfl, a, own, r, x, rfl, A0, Nat.zero_le _, fun pr hpr => ?_⟩
    have S1 : Same H (upd H pr (.lst [])) := fun b o e => by rw [upd_ne (ne_of_none e hpr)]; exact e
    refine ⟨d, _, S1 _ _ A.hs.dic, True.intro, fun od => ?_⟩
    have ndp : d ≠ pr := ne_of_none A.hs.dic hpr
    refine ⟨_, rfl, a, C.f, dx, _, _, rfl, by rw [upd_ne A.ne_d]; exact S1 _ _ A.at_, T.clF, T.nF_holdings, fF_holdings _ _ _ _, d, od, rfl, .inl ⟨_, upd_same, for_keys (fun i σ H' => (∀ c o, H c = some o → c ≠ d → H' c = some o) ∧ Good H' ∧ H' d = some (.frz od (.dK (E.map kv))) ∧ (∃ ts, Gath H H' pr k x ((E.take i).map (·.2)) ts) ∧
      ∃ v4 v5 : Option V, σ = [some (.ref a), some (.int k), some (.int (unitsOf x : Nat)), some (.ref pr), v4, v5, none]) ⟨?_, ?_, upd_same, ⟨[], ?_, rfl, by simp⟩, none, none, rfl⟩ (fun i σ H' _ h => h.2.2.1) ?_ ?_⟩⟩
    · intro c o e hc
      rw [upd_ne hc]
      exact S1 c o e
    · exact (A.good.upd (by intro _ z; cases z)).upd (by intro _ z; cases z)
    · rw [upd_ne ndp.symm, upd_same]
      rfl
    · rintro i kk vv σ H' hi ⟨hS, hG, hd, ⟨ts, hts⟩, v4, v5, rfl⟩
      obtain ⟨w, hw, rfl, rfl⟩ : ∃ w, E[i]? = some w ∧ kk = Sum.inl (w.2.holder : Int) ∧ vv = V.ref w.1 := by
        rw [List.getElem?_map] at hi
        cases e : E[i]? with
        | none => rw [e] at hi; cases hi
        | some w =>
          rw [e] at hi
          have := Option.some.inj hi
          exact ⟨w, rfl, (congrArg Prod.fst this).symm, (congrArg Prod.snd this).symm⟩
      have hil := (List.getElem?_eq_some_iff.mp hw).1
      have hwm := List.mem_of_getElem? hw
      have hm := mem_hold A.pm hwm
      obtain ⟨dw, hwa⟩ := (A.hs.each w hwm).at_
      have hwd : w.1 ≠ d := ne_of hwa A.hs.dic (by intro z; cases z)
      have e1 := hS _ _ A.at_ A.ne_d
      have e3 := hS _ _ hwa hwd
      have hU : w.2.units ≤ unitsOf x := le_sum (f := fun y : Holding => y.units) hm
      have hv := val_in (nd_holders A.sf A.pm) hwm
      have hlen : ts.length = i := by
        have := congrArg List.length hts.keys
        rw [List.length_map, List.length_map, List.length_map, List.length_take] at this
        omega
      show gName 4 (.int (w.2.holder : Int)) _ _ _
      walk_at "rde"
      refine ⟨_, .inl ⟨_, Sum.inl (w.2.holder : Int), .inr ⟨_, hd⟩, rfl, hv.symm⟩, w.1, rfl, ?_⟩
      walk_at "rde"
      have hmod : ((k : Int) * w.2.units % (unitsOf x : Nat)) = ((remOf k (unitsOf x) w.2 : Nat) : Int) := by
        unfold remOf
        push_cast
        rfl
      refine ⟨cmul_r (by omega) (by omega), by omega, ?_⟩
      rw [hmod]
      refine ⟨.inl ⟨rfl, _, SqL.of hts.lst⟩, fun t ht => ?_⟩
      have n1 : pr ≠ t := ne_of_none hts.lst ht
      refine ⟨pr, _, _, rfl, rfl, by rw [upd_ne n1]; exact hts.lst, by rw [List.length_map, hlen]; exact small _ (by omega), ?_⟩
      refine ⟨fun c o e hc => ?_, (hG.upd (by intro _ z; cases z)).upd (by intro _ z; cases z), ?_, ⟨ts ++ [(t, key k x w.2)], ?_, ?_, ?_⟩, _, rfl⟩
      · have := hS c o e hc
        rw [upd_ne (ne_of_none e hpr), upd_ne (ne_of_none this ht)]
        exact this
      · rw [upd_ne ndp, upd_ne (ne_of_none hd ht)]
        exact hd
      · rw [upd_same, List.map_append]
        rfl
      · rw [List.map_append, hts.keys, List.take_add_one, hw, List.map_append, List.map_append]
        rfl
      · intro u hu
        rcases List.mem_append.mp hu with hu | hu
        · obtain ⟨h1, h2⟩ := hts.at_ u hu
          exact ⟨by rw [upd_ne h2, upd_ne (ne_of_none h1 ht)]; exact h1, h2⟩
        · rw [List.mem_singleton.mp hu]
          exact ⟨by rw [upd_ne n1.symm, upd_same]; rfl, n1.symm⟩
    · rintro σ H' ⟨hS, hG, hd, ⟨ts, hts⟩, v4, v5, rfl⟩
      rw [List.length_map, List.take_length] at hts
      refine ⟨hd, ?_⟩
      have hp := A.pm
      have htl : ts.length = E.length := by
        have := congrArg List.length hts.keys
        rwa [List.length_map, List.length_map, List.length_map] at this
      have S2 : Same H (upd H' d (.dK (E.map kv))) := fun c o e => by
        by_cases hc : c = d
        · rw [hc, upd_same]
          rw [hc, A.hs.dic] at e
          exact e
        · rw [upd_ne hc]
          exact hS c o e hc
      have keyOf : ∀ t ∈ ts, ∃ y ∈ x.hold, t.2 = key k x y := fun t ht => by
        have : t.2 ∈ (E.map (·.2)).map (key k x) := by rw [← hts.keys]; exact List.mem_map.mpr ⟨t, ht, rfl⟩
        obtain ⟨y, hy, e⟩ := List.mem_map.mp this
        exact ⟨y, hp.mem_iff.mp hy, e.symm⟩
      have tne : ∀ t ∈ ts, t.1 ≠ d := fun t ht e => by
        have := (hts.at_ t ht).1
        rw [e, hd] at this
        cases this
      refine ⟨_, rfl, pr, ts, rk2, 2, rfl, SqL.of (by rw [upd_ne ndp.symm]; exact hts.lst), by omega, fun t ht => ⟨by rw [upd_ne (tne t ht)]; exact (hts.at_ t ht).1, ?_⟩, fun t ht u hu => ?_, fun ts' p2 hperm hpw hp2 => ?_⟩
      · obtain ⟨y, _, e⟩ := keyOf t ht
        rw [e]
        exact ⟨by unfold key; simp, rfl⟩
      · obtain ⟨y, hy, e⟩ := keyOf t ht
        obtain ⟨z, hz, e'⟩ := keyOf u hu
        have ry := A.sf.rng y hy
        have rz := A.sf.rng z hz
        rw [e, e']
        exact lex2 (by omega) (by omega)
      refine ⟨p2, rfl, ⟨_, SqL.of upd_same⟩, fun D hD => ?_⟩
      have hr : (ts'.map fun t => rk2 t.2).map (fun z => z % 32) = (rankS k (unitsOf x) x.hold).map fun y => (y.holder : Int) := by
        refine rank_holders A.sf k (unitsOf x) ?_ (List.pairwise_map.mpr hpw)
        refine (hperm.map _).trans ?_
        have e : ts.map (fun t => rk2 t.2) = ((E.map (·.2)).map (key k x)).map rk2 := by rw [← hts.keys, List.map_map]; rfl
        rw [e, List.map_map]
        exact hp.map _
      have k2 : ∀ t ∈ ts', (upd H' d (.dK (E.map kv))) t.1 = some (.tup (t.2.map V.int)) := fun t ht => by
        have ht' := hperm.mem_iff.mp ht
        rw [upd_ne (tne t ht')]
        exact (hts.at_ t ht').1
      have k3 : ∀ t ∈ ts', rk2 t.2 % 32 = t.2.getD 1 0 ∧ atI (t.2.map V.int) 1 = some (.int (t.2.getD 1 0)) := fun t ht => by
        obtain ⟨y, hy, e⟩ := keyOf t (hperm.mem_iff.mp ht)
        have ry := A.sf.rng y hy
        rw [e]
        refine ⟨?_, at_of (j := 1) rfl rfl⟩
        show (-((remOf k (unitsOf x) y : Nat) : Int) * 32 + ((y.holder : Nat) : Int)) % 32 = ((y.holder : Nat) : Int)
        omega
      have hfin : (ts'.map fun t => V.int (t.2.getD 1 0)) = (rankS k (unitsOf x) x.hold).map fun y => V.int (y.holder : Nat) := by
        have e1 : ts'.map (fun t => t.2.getD 1 0) = (ts'.map fun t => rk2 t.2).map fun z => z % 32 := by
          rw [List.map_map]
          exact List.map_congr_left fun t ht => (k3 t ht).1.symm
        have := congrArg (List.map V.int) (e1.trans hr)
        rw [List.map_map, List.map_map] at this
        exact this
      have hl' : ts'.length = E.length := by rw [hperm.length_eq, htl]
      generalize hH2 : upd H' d (.dK (E.map kv)) = H2 at *
      have hG2 : Good H2 := by rw [← hH2]; exact hG.upd (by intro _ z; cases z)
      refine lc_list (K := K) (a := p2) (xs := ts'.map fun t => V.ref t.1) (fun i H3 => H3 = upd (upd H2 p2 (.lst (ts'.map fun t => V.ref t.1))) D (.lst ((ts'.take i).map fun t => V.int (t.2.getD 1 0)))) rfl (fun i H3 _ e => ?_) (fun i xv H3 hi e => ?_) fun H3 e => ?_
      · rw [e]
        exact SqL.of (by rw [upd_ne (fun z => by rw [← z, upd_same] at hD; cases hD)]; exact upd_same)
      · subst e
        obtain ⟨t, hti, rfl⟩ : ∃ t, ts'[i]? = some t ∧ xv = V.ref t.1 := by
          rw [List.getElem?_map] at hi
          cases e : ts'[i]? with
          | none => rw [e] at hi; cases hi
          | some t =>
            rw [e] at hi
            exact ⟨t, rfl, (Option.some.inj hi).symm⟩
        have htm := List.mem_of_getElem? hti
        have hil := (List.getElem?_eq_some_iff.mp hti).1
        have h2 := k2 t htm
        have n2 : t.1 ≠ p2 := ne_of_none h2 hp2
        have n3 : t.1 ≠ D := ne_of_none (show upd H2 p2 _ t.1 = _ by rw [upd_ne n2]; exact h2) hD
        refine ⟨rfl, ?_⟩
        simp only [tYes, if_true]
        refine ⟨_, rfl, t.1, _, 1, _, rfl, rfl, SqT.of (by rw [upd_ne n3, upd_ne n2]; exact h2), (k3 t htm).2, _, upd_same, ?_, ?_⟩
        · rw [List.length_map, List.length_take]
          exact small _ (by omega)
        · rw [upd_upd, List.take_add_one, hti, List.map_append]
          rfl
      · subst e
        rw [List.length_map, List.take_length, hfin]
        have hDH : H2 D = none := by
          have n : D ≠ p2 := fun z => by rw [z, upd_same] at hD; cases hD
          rw [upd_ne n] at hD
          exact hD
        refine q _ D (fun c o e => ?_) ((hG2.upd (by intro _ z; cases z)).upd (by intro _ z; cases z)) (S2.free hDH) upd_same
        have e2 := S2 c o e
        rw [upd_ne (ne_of_none e2 hDH), upd_ne (ne_of_none e2 hp2)]
        exact e2
theorem lucky_nodup {l : List Holding} (hs : Srt l) (a all : Nat) : (luckyOf a all l).Nodup := by
  have hn : ((rankS a all l).map fun y => y.holder).Nodup := ((rankS_perm a all l).map _).nodup_iff.mpr hs.nodup
  exact hn.sublist ((List.take_sublist _ _).map _)
theorem lucky_mem {x : Fund} {a all h : Nat} (hm : h ∈ luckyOf a all x.hold) : h ∈ hs x := by
  obtain ⟨y, hy, e⟩ := List.mem_map.mp hm
  exact List.mem_map.mpr ⟨y, (rankS_perm a all x.hold).mem_iff.mp (List.mem_of_mem_take hy), e⟩
theorem cut_left (l : List Holding) (n : Nat) : cutV (l.map fun y => V.int (y.holder : Nat)) none (some (n : Int)) = ((l.take n).map fun y => y.holder).map fun (h : Nat) => V.int (h : Int) := by
  unfold cutV
  rw [show HT.sIx (l.map fun y => V.int (y.holder : Nat)).length 0 none = 0 from rfl, HT.sIx_nat, List.drop_zero, Nat.sub_zero, List.length_map, List.map_map, ← List.map_take]
  show _ = (l.take n).map fun y => V.int (y.holder : Nat)
  refine congrArg (List.map _) ?_
  rcases Nat.le_total n l.length with h | h
  · rw [Nat.min_eq_left h]
  · rw [Nat.min_eq_right h, List.take_of_length_le h, List.take_length]
def upTo (x : Fund) (k i h : Nat) : Nat := downOf x k h + if h ∈ (luckyOf k (unitsOf x) x.hold).take i then 1 else 0
def spAllS (C : Cs) : Sp := fun vs H Q _ => ∃ (a : Addr) (own : Own) (r : Nat) (x : Fund) (k : Nat), vs = [.ref a, .int k] ∧ FundAt C own H r a x ∧ 0 < unitsOf x ∧ unitsOf x ≤ 1000000000000000000 ∧
  ∀ H' p, Same H H' → Good H' → H p = none → H' p = some (.dK (T (hs x) (dV (shareAt x k)))) → Q (.ref p) H'
abbrev s_shares_of_all : Stmt := top 70
theorem sc_shares_of_all : FnScope ["fund", "coins", "shares", "left", "holder"] ["fund", "coins"] (defScope s_shares_of_all) := by walk_at "sc"
theorem ok_shares_of_all {f : Addr} {fd : FuncData} (F : Fun K "shares_of_all" "shares_of_all" s_shares_of_all f fd) (T : Txt K mg C) (O_shares_rounded_down : Ok P w K mg base 2 "shares_rounded_down" ["fund", "coins"] (spDown C)) (O_holders_by_remainder : Ok P w K mg base 2 "holders_by_remainder" ["fund", "coins"] (spRank C)) : FnOk P w K mg base CX0 3 f fd ["fund", "coins"] (spAllS C) := by
  refine F.ok sc_shares_of_all (fun vs H Q E h => ?_) (fun cdv A outer s H vs Q E hr h => ?_)
  · obtain ⟨a, own, r, x, k, rfl, _⟩ := h
    rfl
  · obtain ⟨a, own, r, x, k, rfl, A0, hux, m1, q⟩ := h
    have nd := sc_shares_of_all.nd
    have hu := hu_of hr
    have e1 := z0; have e2 := z0; have e3 := z0; have e4 := z0; have e5 := z0; have e6 := z0
    refine ⟨_, (pss_cons (ps_set (i := 2) nd rfl (Or.inl rfl) (pe_ok O_shares_rounded_down (hr.mono (by decide)) rfl (pa_cons (pv 0) (pa_cons (pv 1) pa_nil))))
      (pss_cons (ps_set (i := 3) nd rfl (Or.inl rfl) (pe_op op_sub (pv 1) (pe_sumV rfl (pv 2) (by rfl) T.b_sum)))
      (pss_cons (ps_for PassesOwn.never rfl (pi_list (pe_slice sl_list (pe_ok O_holders_by_remainder (hr.mono (by decide)) rfl (pa_cons (pv 0) (pa_cons (pv 1) pa_nil))) po_none (po_some (pv 3)))) (pg_name (i := 4) nd rfl (Or.inl rfl)) (pss_one (ps_daug hu (pv 2) (pv 4) pe_int in_add (fun _ _ _ => rfl))))
      (pss_one (ps_ret (pv 2)))))), ?_⟩
    refine ⟨_, rfl, _, rfl, a, own, r, x, k, rfl, A0, hux, m1, fun H1 p S1 G1 hp hd => ?_⟩
    refine ⟨_, rfl, _, rfl, p, _, x.hold.map fun y => ((downOf x k y.holder : Nat) : Int), rfl, .inl hd, ?_, _, _, rfl, rfl, ?_⟩
    · unfold R.T hs dV
      rw [List.map_map, List.map_map, List.map_map]
      rfl
    rw [isum_cast]
    dsimp only
    rw [left_eq A0.sf.srt]
    refine ⟨_, rfl, _, rfl, a, own, r, x, k, rfl, A0.same G1 S1, hux, m1, fun H2 p2 S2 G2 hp2 hl2 => ?_⟩
    refine ⟨_, rfl, _, rfl, p2, _, rfl, SqL.of hl2, fun p3 hp3 => ?_⟩
    rw [cut_left]
    have hd2 := S2 _ _ hd
    have np : p ≠ p3 := ne_of_none hd2 hp3
    have hnd := lucky_nodup A0.sf.srt k (unitsOf x)
    refine ⟨p3, rfl, ⟨_, SqL.of upd_same⟩, for_list (K := K) (a := p3) (xs := (luckyOf k (unitsOf x) x.hold).map fun (h : Nat) => V.int (h : Int)) (fun i σ H' => Same H H' ∧ Good H' ∧ H' p3 = some (.lst ((luckyOf k (unitsOf x) x.hold).map fun (h : Nat) => V.int (h : Int))) ∧
      H' p = some (.dK (R.T (hs x) (dV (upTo x k i)))) ∧ ∃ v4 : Option V, σ = [some (.ref a), some (.int k), some (.ref p), some (.int (leftOf k (unitsOf x) x.hold : Nat)), v4])
      ⟨?_, G2.upd (by intro _ z; cases z), upd_same, ?_, none, rfl⟩ (fun i σ H' _ h => SqL.of h.2.2.1) ?_ ?_⟩
    · intro c o e
      have := S2 _ _ (S1 c o e)
      rw [upd_ne (ne_of_none this hp3)]
      exact this
    · rw [upd_ne np, hd2]
      refine congrArg (fun z => some (HO.dK z)) (T_congr fun h _ => ?_)
      unfold dV upTo
      rw [List.take_zero, if_neg (by simp)]
      rfl
    · rintro i xv σ H' hi ⟨hS, hG, hl, hd', v4, rfl⟩
      obtain ⟨h, hh, rfl⟩ : ∃ h, (luckyOf k (unitsOf x) x.hold)[i]? = some h ∧ xv = V.int (h : Int) := by
        rw [List.getElem?_map] at hi
        cases e : (luckyOf k (unitsOf x) x.hold)[i]? with
        | none => rw [e] at hi; cases hi
        | some h =>
          rw [e] at hi
          exact ⟨h, rfl, (Option.some.inj hi).symm⟩
      have hm := lucky_mem (List.mem_of_getElem? hh)
      have h20 := A0.sf.le20
      have hnot : h ∉ (luckyOf k (unitsOf x) x.hold).take i := fun hc => by
        have e2 : luckyOf k (unitsOf x) x.hold = (luckyOf k (unitsOf x) x.hold).take i ++ h :: (luckyOf k (unitsOf x) x.hold).drop (i + 1) := by
          conv => lhs; rw [← List.take_append_drop i (luckyOf k (unitsOf x) x.hold), take_drop_split hh]
        rw [e2] at hnd
        exact (List.nodup_append.mp hnd).2.2 h hc h List.mem_cons_self rfl
      walk_at "rde"
      refine ⟨_, dget hd' (T_val hm), ?_⟩
      unfold dV
      walk_at "rde"
      refine ⟨_, DPut.k (k := Sum.inl (h : Int)) hd' (by rw [T_len]; unfold hs; rw [List.length_map]; exact small _ (by omega)), ?_⟩
      rw [T_put hm]
      refine ⟨fun c o e => ?_, hG.upd (by intro _ z; cases z), ?_, ?_, _, rfl⟩
      · rw [upd_ne (ne_of_none e hp)]
        exact hS c o e
      · rw [upd_ne np.symm]
        exact hl
      · rw [upd_same]
        refine congrArg (fun z => some (HO.dK z)) (T_congr fun j _ => ?_)
        unfold dV upTo
        rw [List.take_add_one, hh]
        by_cases hj : j = h
        · rw [if_pos hj, hj, if_neg hnot, if_pos (by simp)]
          rfl
        · rw [if_neg hj]
          refine congrArg (fun n => V.int ((downOf x k j + n : Nat) : Int)) ?_
          by_cases hc : j ∈ (luckyOf k (unitsOf x) x.hold).take i
          · rw [if_pos hc, if_pos (List.mem_append_left _ hc)]
          · rw [if_neg hc, if_neg (by simp [hc, hj])]
    · rintro σ H' ⟨hS, hG, hl, hd', v4, rfl⟩
      rw [List.length_map] at hd'
      refine ⟨_, rfl, q H' p hS hG hp ?_⟩
      rw [hd']
      refine congrArg (fun z => some (HO.dK z)) (T_congr fun j _ => ?_)
      unfold dV upTo shareAt
      rw [List.take_length]
end
section
variable {P : Program} {w : World} {K : PySem.W.Frag} {mg : Str → Option Value} {base : Heap} {C : Cs}
theorem BookAt.paid {L : Lo} {own own' : Own} {H H' : Hp} {b : Addr} {s : State} (B : BookAt C L own H b s) {f : Nat} {x : Fund} {l : List (Nat × Nat)} (hf : 1 ≤ f ∧ f ≤ 6) (hx : FOk x) (F : FundAt C own' H' f (L.fa f) x)
    (hc : H' L.cd = some (.dK (T twenty fun i => .int (cashAt (Vbfual.paysAll s l) i)))) (oc : own' L.cd = 8) (fr : Frm2 f 8 own H own' H') : BookAt C L own' H' b (Vbfual.paysAll (Vbfual.setFund s f x) l) := by
  obtain ⟨dx, hb⟩ := B.bk
  have kp := paysAll_keep l (Vbfual.setFund s f x)
  have k : ∀ {c o m}, H c = some o → own c = m → m ≠ f → m ≠ 8 → H' c = some o ∧ own' c = m := fun {c o m} e oc h1 h2 => by
    obtain ⟨e1, n1⟩ := fr c o e (by rw [oc]; exact h1) (by rw [oc]; exact h2)
    exact ⟨e1, n1.trans oc⟩
  have hfu : ∀ g, fundAt (Vbfual.paysAll (Vbfual.setFund s f x) l) g = fundAt (Vbfual.setFund s f x) g := fun g => by unfold Vbfual.fundAt; rw [kp.1]
  refine ⟨F.good, (B.ok.setFund hf hx).paysAll l, ⟨dx, (k hb B.ob (by omega) (by omega)).1⟩, (k hb B.ob (by omega) (by omega)).2, (k B.fdic B.ofd (by omega) (by omega)).1, (k B.fdic B.ofd (by omega) (by omega)).2, ?_, oc,
    ?_, (k B.sdic B.osd (by omega) (by omega)).2, fun g h1 h2 => ?_, fun z hz => ?_⟩
  · rw [hc]
    refine congrArg (fun q => some (HO.dK q)) (T_congr fun i _ => ?_)
    unfold Vbfual.cashAt
    rw [paysAll_cash l (s := s) (t := Vbfual.setFund s f x) rfl]
  · rw [kp.2.1]
    exact (k B.sdic B.osd (by omega) (by omega)).1
  · rw [hfu, fundAt_set B.ok.nf x hf h1]
    split
    · next e => rw [e]; exact F
    · next e => exact (B.fund g h1 h2).keep F.good fun c o e1 oc => k e1 oc e (by omega)
  · rw [kp.2.1] at hz
    exact (B.sch z hz).keep F.good fun c o e1 oc => k e1 oc (by omega) (by omega)
def inAll (sh : Nat → Nat) (l : List Holding) : Nat := Vbfual.sum ((payL sh l).map fun q => q.2)
theorem payL_take (sh : Nat → Nat) (l : List Holding) (i : Nat) : (payL sh l).take i = payL sh (l.take i) := by unfold payL; rw [List.map_take]
theorem inAll_take (sh : Nat → Nat) {l : List Holding} {i : Nat} {y : Holding} (h : l[i]? = some y) : inAll sh (l.take (i + 1)) = inAll sh (l.take i) + (sh y.holder - y.got) := by
  have e : ∀ k : List Holding, inAll sh k = Vbfual.sum (k.map fun y => sh y.holder - y.got) := fun k => by unfold inAll payL; rw [List.map_map]; rfl
  rw [e, e]
  exact sum_take (fun y : Holding => sh y.holder - y.got) h
def spUp (C : Cs) : Sp := fun vs H Q _ => ∃ (b a p fd cd sd dxb : Addr) (own : Own) (f : Nat) (x : Fund) (s : State) (sh : Nat → Nat), vs = [.ref b, .ref a, .ref p] ∧ H b = some (.ins C.b dxb (fB (.ref fd) (.ref cd) (.ref sd))) ∧ own b = 7 ∧
  H cd = some (.dK (T twenty fun i => .int (cashAt s i))) ∧ own cd = 8 ∧ s.cash.length = 20 ∧ FundAt C own H f a x ∧ (1 ≤ f ∧ f ≤ 6) ∧ H p = some (.dK (T (hs x) (dV sh))) ∧ own p = 0 ∧ (∀ y ∈ x.hold, y.got ≤ sh y.holder) ∧ inAll sh x.hold ≤ x.value ∧
  ∀ own' H', FundAt C own' H' f a { x with value := x.value - inAll sh x.hold, hold := x.hold.map (setGot sh) } → H' cd = some (.dK (T twenty fun i => .int (cashAt (Vbfual.paysAll s (payL sh x.hold)) i))) → own' cd = 8 → Frm2 f 8 own H own' H' → Q (.int (inAll sh x.hold : Nat)) H'
abbrev s_pay_up_to : Stmt := top 71
theorem sc_pay_up_to : FnScope ["book", "fund", "shares", "in_all", "holder", "holding", "coins"] ["book", "fund", "shares"] (defScope s_pay_up_to) := by walk_at "sc"
theorem ok_pay_up_to {f : Addr} {fd : FuncData} (F : Fun K "pay_up_to" "pay_up_to" s_pay_up_to f fd) (T : Txt K mg C) : FnOk P w K mg base CX0 1 f fd ["book", "fund", "shares"] (spUp C) := by
  refine F.ok sc_pay_up_to (fun vs H Q E h => ?_) (fun cdv A outer s H vs Q E hr h => ?_)
  · obtain ⟨b, a, p, fd, cd, sd, dxb, own, f, x, s, sh, rfl, _⟩ := h
    rfl
  · obtain ⟨b, a, p, fd, cd, sd, dxb, own, f, x, s, sh, rfl, hb, ob, hcd, ocd, hcl, F0, hf, hp, op, hgs, hva, q⟩ := h
    have nd := sc_pay_up_to.nd
    have hu := hu_of hr
    have e1 := z0; have e2 := z0; have e3 := z0; have e4 := z0; have e5 := z0; have e6 := z0
    refine ⟨_, (pss_cons (ps_set (i := 3) nd rfl (Or.inl rfl) pe_int)
      (pss_cons (ps_for PassesOwn.never rfl (pi_list (pe_callB (cr_sortedD rfl) (by rfl) T.b_sorted boot_sorted (pa_cons (pv 2) pa_nil))) (pg_name (i := 4) nd rfl (Or.inl rfl)) (pss_cons (ps_set (i := 5) nd rfl (Or.inl rfl) (pe_dget hu (pe_fld (pv 1) rfl) (pv 4) (fun _ _ => rfl)))
      (pss_cons (ps_set (i := 6) nd rfl (Or.inl rfl) (pe_op op_sub (pe_dget hu (pv 2) (pv 4) (fun _ _ => rfl)) (pe_fld (pv 5) rfl)))
      (pss_cons (ps_fldaug (pv 5) (pv 6) in_add)
      (pss_cons (ps_daug hu (pe_fld (pv 0) rfl) (pv 4) (pv 6) in_add (fun _ _ _ => rfl))
      (pss_one (ps_aug (i := 3) nd rfl (Or.inl rfl) (pv 6) ip_add)))))))
      (pss_cons (ps_fldaug (pv 1) (pv 3) in_sub)
      (pss_one (ps_ret (pv 3)))))), ?_⟩
    have hsf := F0.sf
    have h20 := hsf.le20
    refine ⟨_, rfl, p, _, x.hold.map (fun y => (y.holder : Int)), rfl, .inl hp, ?_, by rw [List.length_map]; omega, fun ns pl hperm hsort hpl => ?_⟩
    · unfold R.T hs
      rw [List.map_map, List.map_map, List.map_map]
      rfl
    have hns := sorted_same hperm hsort hsf.srt.ints
    subst hns
    have G1 : Good (upd H pl (.lst ((x.hold.map fun y => (y.holder : Int)).map V.int))) := F0.good.upd (by intro _ z; cases z)
    have k1 : ∀ c o, H c = some o → upd H pl (.lst ((x.hold.map fun y => (y.holder : Int)).map V.int)) c = some o ∧ give own pl 0 c = own c := fun c o e => ⟨by rw [upd_ne (ne_of_none e hpl)]; exact e, give_ne (ne_of_none e hpl)⟩
    refine ⟨pl, rfl, ⟨_, SqL.of upd_same⟩, for_list (K := K) (a := pl) (xs := (x.hold.map fun y => (y.holder : Int)).map V.int) (fun i σ H' => ∃ own', FundAt C own' H' f a { x with hold := mapTo (setGot sh) i x.hold } ∧
      H' cd = some (.dK (R.T twenty fun j => .int (cashAt (Vbfual.paysAll s (payL sh (x.hold.take i))) j))) ∧ own' cd = 8 ∧ Frm2 f 8 own H own' H' ∧ H' pl = some (.lst ((x.hold.map fun y => (y.holder : Int)).map V.int)) ∧ own' pl = 0 ∧
      ∃ v4 v5 v6 : Option V, σ = [some (.ref b), some (.ref a), some (.ref p), some (.int (inAll sh (x.hold.take i) : Nat)), v4, v5, v6])
      ⟨give own pl 0, ?_, ?_, ?_, ?_, upd_same, give_same, none, none, none, rfl⟩ (fun i σ H' _ ⟨_, _, _, _, _, h, _⟩ => SqL.of h) ?_ ?_⟩
    · rw [mapTo_zero]
      exact F0.keep G1 fun c o e oc => ⟨(k1 c o e).1, (k1 c o e).2.trans oc⟩
    · exact (k1 _ _ hcd).1
    · exact (k1 _ _ hcd).2.trans ocd
    · exact fun c o e _ _ => k1 c o e
    · rintro i xv σ H' hi ⟨own', GA0, hcd', ocd', fr, hl, opl, v4, v5, v6, rfl⟩
      obtain ⟨h, hh, rfl⟩ : ∃ h, x.hold[i]? = some h ∧ xv = V.int (h.holder : Int) := by
        rw [List.getElem?_map, List.getElem?_map] at hi
        cases e : x.hold[i]? with
        | none => rw [e] at hi; cases hi
        | some h =>
          rw [e] at hi
          exact ⟨h, rfl, (Option.some.inj hi).symm⟩
      have hm := List.mem_of_getElem? hh
      have hr := hsf.rng h hm
      have hg := hgs h hm
      have hmh : h.holder ∈ hs x := List.mem_map.mpr ⟨h, hm, rfl⟩
      obtain ⟨c1, c2⟩ := mapTo_step (setGot_ok sh) hsf hh
      obtain ⟨dxa, da, Ea, GA⟩ := GA0.open_
      obtain ⟨w, hw, rfl, hwv⟩ := GA.get c1
      obtain ⟨dw, hwa⟩ := (GA.hs.each w hw).at_
      have ow := (GA.hs.each w hw).ow
      have hb' := (fr b _ hb (by rw [ob]; omega) (by rw [ob]; decide)).1
      have hp' := (fr p _ hp (by rw [op]; omega) (by rw [op]; decide)).1
      have e1 := GA.at_
      have e2 := hwa
      have e3 := hb'
      have nbw : b ≠ w.1 := fun z => by
        have := (fr b _ hb (by rw [ob]; omega) (by rw [ob]; decide)).2
        rw [z, ow, ← z, ob] at this
        omega
      have ncw : cd ≠ w.1 := fun z => by rw [z, ow] at ocd'; omega
      have e4 := fun (G : Hp) (o : HO) => upd_ne (H := G) (o := o) nbw
      walk_at "rde"
      refine ⟨_, dget GA.hs.dic hwv, _, dget hp' (T_val hmh), ?_⟩
      unfold dV
      walk_at "rde"
      have hcd2 : ∀ o, upd H' w.1 o cd = some (.dK (R.T twenty fun j => .int (cashAt (Vbfual.paysAll s (payL sh (x.hold.take i))) j))) := fun o => by rw [upd_ne ncw]; exact hcd'
      refine ⟨_, dget (hcd2 _) (T_val (mem_twenty hr)), ?_⟩
      walk_at "rde"
      refine ⟨_, DPut.k (k := Sum.inl (w.2.holder : Int)) (hcd2 _) len20, ?_⟩
      have GA2 := (GA.put hw (y := setGot sh w.2) (gi := (w.2.got : Int) + (((sh w.2.holder : Nat) : Int) - w.2.got)) (dp := dw) rfl (by show w.2.units ≠ 0; have := hsf.pos w.2 hm; omega) rfl rfl (by show _ = ((sh w.2.holder : Nat) : Int); omega)).close
      rw [show putHold (setGot sh w.2) _ = mapTo (setGot sh) (i + 1) x.hold from c2] at GA2
      have fr1 : Frm f own' H' own' _ := Frm.upd (u := .ins C.h dw (fH (.int (setGot sh w.2).units) (.int (setGot sh w.2).cost) (.int ((w.2.got : Int) + (((sh w.2.holder : Nat) : Int) - w.2.got))))) ow
      have kc := (paysAll_keep (payL sh (x.hold.take i)) s).2.2.2
      refine ⟨own', GA2.upd (by intro _ z; cases z) (.inl (by rw [ocd']; omega)), ?_, ocd', ?_, ?_, opl, ?_⟩
      · rw [upd_same, T_put (mem_twenty hr)]
        refine congrArg (fun q => some (HO.dK q)) (T_congr fun j hj => ?_)
        rw [← payL_take, ← payL_take, paysAll_take (p := (w.2.holder, sh w.2.holder - w.2.got)) (by unfold payL; rw [List.getElem?_map, hh]; rfl), cashAt_pays (by rw [payL_take, kc]; exact hcl) _ hr (of_twenty hj).1]
        split
        · rw [Int.ofNat_sub hg]
        · rfl
      · exact fr.trans ((Frm.two1 fr1).trans (Frm.two2 (Frm.upd ocd')))
      · have n1 : pl ≠ w.1 := fun z => by rw [z, ow] at opl; omega
        have n2 : pl ≠ cd := fun z => by rw [z, ocd'] at opl; cases opl
        rw [upd_ne n2, upd_ne n1]
        exact hl
      · refine ⟨?_, _, rfl⟩
        rw [inAll_take sh hh, Int.natCast_add, Int.ofNat_sub hg]
    · rintro σ H' ⟨own', GA0, hcd', ocd', fr, hl, opl, v4, v5, v6, rfl⟩
      rw [List.length_map, List.length_map, mapTo_all] at GA0
      rw [List.length_map, List.length_map, List.take_length] at hcd'
      rw [List.length_map, List.length_map, List.take_length]
      obtain ⟨dxa, da, Ea, GA⟩ := GA0.open_
      have e1 := GA.at_
      walk_at "rde"
      have nac : cd ≠ a := fun z => by
        have := GA.ow
        rw [← z, ocd'] at this
        omega
      refine q own' _ (GA.write (vi := (x.value : Int) - (inAll sh x.hold : Nat)) (di := (x.declared : Int)) (v := x.value - inAll sh x.hold) (dn := x.declared) (c := x.closing) (by omega) rfl).close ?_ ocd' (fr.trans (Frm.two1 (Frm.upd GA.ow)))
      rw [upd_ne nac]
      exact hcd'
abbrev s_pay : Stmt := top 72
theorem sc_pay : FnScope ["book", "f", "m", "fund"] ["book", "f", "m"] (defScope s_pay) := by walk_at "sc"
theorem ok_pay {f : Addr} {fd : FuncData} (F : Fun K "pay" "pay" s_pay f fd) (T : Txt K mg C) (O_pay_up_to : Ok P w K mg base 1 "pay_up_to" ["book", "fund", "shares"] (spUp C)) (O_is_fund : Ok P w K mg base 2 "is_fund" ["number"] (spB1 Vbfual.isFund)) (O_within : Ok P w K mg base 1 "within" ["number", "lowest", "highest"] spWithin) (O_all_paid : Ok P w K mg base 1 "all_paid" ["fund"] (spSum C gotIn)) (O_shares_rounded_down : Ok P w K mg base 2 "shares_rounded_down" ["fund", "coins"] (spDown C)) : FnOk P w K mg base CX0 3 f fd ["book", "f", "m"] (spAsk2 C Vbfual.Call.pay) := by
  refine F.ok sc_pay (fun vs H Q E h => ?_) (fun cdv A outer s H vs Q E hr h => ?_)
  · obtain ⟨b, L, own, s, f, h, rfl, _⟩ := h
    rfl
  · obtain ⟨b, L, own, s, f, m, rfl, B, D⟩ := h
    have nd := sc_pay.nd
    have hu := hu_of hr
    have e1 := z0; have e2 := z0; have e3 := z0; have e4 := z0; have e5 := z0; have e6 := z0
    refine ⟨_, (pss_cons (ps_if (PW.pt (pw_or (pt_not (pt_val (pe_ok O_is_fund (hr.mono (by decide)) rfl (pa_cons (pv 1) pa_nil)))) (pw_or1 (pt_not (pt_val (pe_ok O_within (hr.mono (by decide)) rfl (pa_cons (pv 2) (pa_cons pe_int (pa_cons (pe_gint rfl T.c_MOST_VALUE) pa_nil))))))))) (pss_one (ps_ret (pe_lst (pa_cons (pe_gint rfl T.c_OUT_OF_RANGE) pa_nil)))) pss_nil)
      (pss_cons (ps_set (i := 3) nd rfl (Or.inl rfl) (pe_dget hu (pe_fld (pv 0) rfl) (pv 1) (fun _ _ => rfl)))
      (pss_cons (ps_if (pt_not (pt_val (pe_fld (pv 3) rfl))) (pss_one (ps_ret (pe_lst (pa_cons (pe_gint rfl T.c_NOT_ALLOWED) pa_nil)))) pss_nil)
      (pss_cons (ps_if (pt_cmp (pc_gt (pe_op op_add (pe_fld (pv 3) rfl) (pv 2)) (pe_op op_add (pe_fld (pv 3) rfl) (pe_ok O_all_paid (hr.mono (by decide)) rfl (pa_cons (pv 3) pa_nil))))) (pss_one (ps_ret (pe_lst (pa_cons (pe_gint rfl T.c_WRONG_AMOUNT) pa_nil)))) pss_nil)
      (pss_cons (ps_fldaug (pv 3) (pv 2) in_add)
      (pss_one (ps_ret (pe_lst (pa_cons (pe_ok O_pay_up_to (hr.mono (by decide)) rfl (pa_cons (pv 0) (pa_cons (pv 3) (pa_cons (pe_ok O_shares_rounded_down (hr.mono (by decide)) rfl (pa_cons (pv 3) (pa_cons (pe_fld (pv 3) rfl) pa_nil))) pa_nil)))) pa_nil))))))))), ?_⟩
    refine seq_of fun N hN => ?_
    walk_at "rd"
    refine or2 (fun h1 => D.no B (if_pos h1)) fun h1 => hN _ _ (seq_of fun N hN => ?_)
    have hs1 := show Vbfual.step s (.pay f m) = _ from if_neg h1
    obtain ⟨f, rfl, hf⟩ := isFund_of fun z => h1 (.inl z)
    obtain ⟨m, rfl, hm1, hm2⟩ := inside_of (fun z => h1 (.inr z)) (by decide)
    simp only [Int.toNat_natCast] at hs1
    have F0 := B.fund f hf.1 hf.2
    have hx := B.ok.fok f hf.1 hf.2
    obtain ⟨dxb, e2⟩ := B.bk
    generalize hxe : fundAt s f = x at *
    obtain ⟨dx, d, E, F⟩ := F0.open_
    have e1 := F.at_
    walk_at "rde"
    refine ⟨_, dget B.fdic (B.fundGet hf), hN _ _ (seq_of fun N hN => ?_)⟩
    walk_at "rde"
    refine ite2 (fun h2 => D.no B (hs1.trans (if_pos h2))) fun h2 => hN _ _ (seq_of fun N hN => ?_)
    walk_at "rde"
    rw [if_neg h2] at hs1
    have hcl : x.closing = true := by simpa using h2
    refine ⟨_, own, f, x, rfl, F0, ?_⟩
    walk_at "rde"
    refine ite2 (fun h3 => D.no B (hs1.trans (if_pos (by omega)))) fun h3 => hN _ _ ?_
    walk_at "rde"
    rw [if_neg (by omega)] at hs1
    have hda : x.declared + m ≤ gotIn x + x.value := by omega
    obtain ⟨p1, p2, p3, p4⟩ := pay_sum hx hcl (Nat.le_add_right x.declared m) hda
    have hok := hx.pay hcl (Nat.le_add_right x.declared m) hda
    have hdm : (x.declared : Int) + m = ((x.declared + m : Nat) : Int) := (Int.natCast_add _ _).symm
    rw [hdm]
    have F1 := F.write (vi := (x.value : Int)) (di := ((x.declared + m : Nat) : Int)) (v := x.value) (dn := x.declared + m) (c := x.closing) rfl rfl
    have fr1 : Frm f own H own (upd H (L.fa f) (.ins C.f dx (fF (.int x.value) (.ref d) (.bl x.closing) (.int (x.declared + m : Nat))))) := Frm.upd F.ow
    have b1 := (fr1 b _ e2 (by rw [B.ob]; omega)).1
    have c1 := (fr1 L.cd _ B.cdic (by rw [B.ocd]; omega)).1
    generalize upd H (L.fa f) (.ins C.f dx (fF (.int x.value) (.ref d) (.bl x.closing) (.int (x.declared + m : Nat)))) = H1 at *
    generalize hk : x.declared + m = k at *
    refine ⟨L.fa f, own, f, _, k, rfl, F1.close, (hx.due hcl).1, hx.many, fun H2 p S2 G2 hp hd => ?_⟩
    have hin : inAll (downOf x k) x.hold = Vbfual.sum ((Vbfual.turn x k).map fun q => q.2) := by unfold inAll; rw [payL_turn hx.sf.srt]
    refine ⟨b, L.fa f, p, L.fd, L.cd, L.sd, dxb, own0 H1 own, f, _, s, downOf x k, rfl, S2 _ _ b1, (own0_in b1).trans B.ob, S2 _ _ c1, (own0_in c1).trans B.ocd, B.ok.nc, F1.close.keep G2 fun c o e oc => ⟨S2 c o e, (own0_in e).trans oc⟩, hf, hd, own0_out hp, fun y hy => ?_, ?_, fun own' H' F' hc' oc' fr' => ?_⟩
    · rw [down_mem hx.sf.srt k hy]
      exact p1 y hy
    · show inAll (downOf x k) x.hold ≤ x.value
      rw [hin, p2]
      omega
    have frA : Frm2 f 8 own H own' H' := ((Frm.two1 fr1).trans fun c o e _ _ => ⟨S2 c o e, own0_in e⟩).trans fr'
    have F2 : FundAt C own' H' f (L.fa f) { x with value := x.value - Vbfual.sum ((Vbfual.turn x k).map fun q => q.2), declared := k, hold := x.hold.map fun y => { y with got := k * y.units / unitsOf x } } := by
      rw [← hin, ← setGot_turn hx.sf.srt]
      exact F'
    have hc2 : H' L.cd = some (.dK (R.T twenty fun i => .int (cashAt (Vbfual.paysAll s (Vbfual.turn x k)) i))) := by
      rw [← payL_turn hx.sf.srt]
      exact hc'
    have B2 := B.paid hf hok F2 hc2 oc' frA
    walk_at "rde"
    show ∀ p, H' p = none → Q (.ref p) (upd H' p (.lst [.int (inAll (downOf x k) x.hold : Nat)]))
    rw [hin]
    exact D.fin hs1 B2 (frA.out (by omega) (by decide))
abbrev s_pay_last : Stmt := top 73
theorem sc_pay_last : FnScope ["book", "f", "fund", "in_all"] ["book", "f"] (defScope s_pay_last) := by walk_at "sc"
theorem ok_pay_last {f : Addr} {fd : FuncData} (F : Fun K "pay_last" "pay_last" s_pay_last f fd) (T : Txt K mg C) (O_pay_up_to : Ok P w K mg base 1 "pay_up_to" ["book", "fund", "shares"] (spUp C)) (O_is_fund : Ok P w K mg base 2 "is_fund" ["number"] (spB1 Vbfual.isFund)) (O_shares_of_all : Ok P w K mg base 3 "shares_of_all" ["fund", "coins"] (spAllS C)) (O_all_paid : Ok P w K mg base 1 "all_paid" ["fund"] (spSum C gotIn)) : FnOk P w K mg base CX0 4 f fd ["book", "f"] (spAsk1 C Vbfual.Call.last) := by
  refine F.ok sc_pay_last (fun vs H Q E h => ?_) (fun cdv A outer s H vs Q E hr h => ?_)
  · obtain ⟨b, L, own, s, f, rfl, _⟩ := h
    rfl
  · obtain ⟨b, L, own, s, f, rfl, B, D⟩ := h
    have nd := sc_pay_last.nd
    have hu := hu_of hr
    have e1 := z0; have e2 := z0; have e3 := z0; have e4 := z0; have e5 := z0; have e6 := z0
    refine ⟨_, (pss_cons (ps_if (pt_not (pt_val (pe_ok O_is_fund (hr.mono (by decide)) rfl (pa_cons (pv 1) pa_nil)))) (pss_one (ps_ret (pe_lst (pa_cons (pe_gint rfl T.c_OUT_OF_RANGE) pa_nil)))) pss_nil)
      (pss_cons (ps_set (i := 2) nd rfl (Or.inl rfl) (pe_dget hu (pe_fld (pv 0) rfl) (pv 1) (fun _ _ => rfl)))
      (pss_cons (ps_if (pt_not (pt_val (pe_fld (pv 2) rfl))) (pss_one (ps_ret (pe_lst (pa_cons (pe_gint rfl T.c_NOT_ALLOWED) pa_nil)))) pss_nil)
      (pss_cons (ps_set (i := 3) nd rfl (Or.inl rfl) (pe_ok O_pay_up_to (hr.mono (by decide)) rfl (pa_cons (pv 0) (pa_cons (pv 2) (pa_cons (pe_ok O_shares_of_all (hr.mono (by decide)) rfl (pa_cons (pv 2) (pa_cons (pe_op op_add (pe_fld (pv 2) rfl) (pe_ok O_all_paid (hr.mono (by decide)) rfl (pa_cons (pv 2) pa_nil))) pa_nil))) pa_nil)))))
      (pss_cons (ps_fld (pv 2) pe_dnewK rfl)
      (pss_cons (ps_fld (pv 2) pe_bl rfl)
      (pss_cons (ps_fld (pv 2) pe_int rfl)
      (pss_one (ps_ret (pe_lst (pa_cons (pv 3) pa_nil))))))))))), ?_⟩
    refine seq_of fun N hN => ?_
    walk_at "rd"
    refine ite2 (fun h1 => D.no B (if_pos h1)) fun h1 => hN _ _ (seq_of fun N hN => ?_)
    have hs1 := show Vbfual.step s (.last f) = _ from if_neg h1
    obtain ⟨f, rfl, hf⟩ := isFund_of h1
    simp only [Int.toNat_natCast] at hs1
    have F0 := B.fund f hf.1 hf.2
    have hx := B.ok.fok f hf.1 hf.2
    obtain ⟨dxb, e2⟩ := B.bk
    generalize hxe : fundAt s f = x at *
    obtain ⟨dx, d, E, F⟩ := F0.open_
    have e1 := F.at_
    walk_at "rde"
    refine ⟨_, dget B.fdic (B.fundGet hf), hN _ _ (seq_of fun N hN => ?_)⟩
    walk_at "rde"
    refine ite2 (fun h2 => D.no B (hs1.trans (if_pos h2))) fun h2 => hN _ _ (seq_of fun N hN => ?_)
    walk_at "rde"
    rw [if_neg h2] at hs1
    have hcl : x.closing = true := by simpa using h2
    have hes := end_sum hx hcl
    refine ⟨_, own, f, x, rfl, F0, ?_⟩
    walk_at "rde"
    have hga : (x.value : Int) + (gotIn x : Nat) = ((gotIn x + x.value : Nat) : Int) := by omega
    rw [hga]
    generalize hk : gotIn x + x.value = k at *
    have hin : inAll (shareAt x k) x.hold = x.value := by unfold inAll; rw [← hk, payL_end hx.sf.srt]; exact hes
    refine ⟨L.fa f, own, f, x, k, rfl, F0, (hx.due hcl).1, hx.many, fun H2 p S2 G2 hp hd => ?_⟩
    refine ⟨b, L.fa f, p, L.fd, L.cd, L.sd, dxb, own0 H own, f, x, s, shareAt x k, rfl, S2 _ _ e2, (own0_in e2).trans B.ob, S2 _ _ B.cdic, (own0_in B.cdic).trans B.ocd, B.ok.nc, F0.keep G2 fun c o e oc => ⟨S2 c o e, (own0_in e).trans oc⟩, hf, hd, own0_out hp, fun y hy => ?_, Nat.le_of_eq hin, fun own' H' F' hc' oc' fr' => ?_⟩
    · rw [shareAt_mem hx.sf.srt k hy, ← hk]
      exact Nat.le_trans (got_share hx hcl hy) (Nat.le_add_right _ _)
    have frA : Frm2 f 8 own H own' H' := Frm2.trans (o2 := own0 H own) (H2 := H2) (fun c o e _ _ => ⟨S2 c o e, own0_in e⟩) fr'
    rw [hin, Nat.sub_self] at F'
    have hpe : payL (shareAt x k) x.hold = Vbfual.atEnd x := by rw [← hk]; exact payL_end hx.sf.srt
    rw [hpe] at hc'
    rw [hes] at hs1
    obtain ⟨dx5, d5, E5, F5⟩ := F'.open_
    have e4 := F5.at_
    refine hN _ _ ?_
    walk_at "rde"
    intro d2 hd2
    have n1 : L.fa f ≠ d2 := ne_of_none F5.at_ hd2
    have e5 := fun (G : Hp) (o : HO) => upd_ne (H := G) (o := o) n1
    walk_at "rde"
    rw [hin]
    have F6 : FundAt C (give own' d2 f) (upd (upd H' d2 (.dK [])) (L.fa f) (.ins C.f dx5 (fF (.int ((0 : Nat) : Int)) (.ref d2) (.bl false) (.int 0)))) f (L.fa f) Vbfual.noFund :=
      FundIs.close (dx := dx5) (d := d2) (E := []) ⟨(F5.good.upd (by intro _ z; cases z)).upd (by intro _ z; cases z), Sf.nil, upd_same, by rw [give_ne n1]; exact F5.ow, ⟨by rw [upd_ne n1.symm, upd_same]; rfl, give_same, by simp, by simp⟩, List.Perm.refl _⟩
    have fr6 : Frm2 f 8 own' H' (give own' d2 f) (upd (upd H' d2 (.dK [])) (L.fa f) (.ins C.f dx5 (fF (.int ((0 : Nat) : Int)) (.ref d2) (.bl false) (.int 0)))) := fun c o e h1 h2 => by
      have c1 : c ≠ L.fa f := fun z => h1 (by rw [z]; exact F5.ow)
      have c2 : c ≠ d2 := ne_of_none e hd2
      exact ⟨by rw [upd_ne c1, upd_ne c2]; exact e, give_ne c2⟩
    have nc1 : L.cd ≠ L.fa f := fun z => by
      have := F5.ow
      rw [← z, oc'] at this
      omega
    have nc2 : L.cd ≠ d2 := ne_of_none hc' hd2
    have B2 := B.paid (l := Vbfual.atEnd x) hf FOk.no F6 (by rw [upd_ne nc1, upd_ne nc2]; exact hc') (by rw [give_ne nc2]; exact oc') (frA.trans fr6)
    exact D.fin hs1 B2 ((frA.trans fr6).out (by omega) (by decide))
end
section
variable {P : Program} {w : World} {K : PySem.W.Frag} {mg : Str → Option Value} {base : Heap} {C : Cs}
theorem cf_buy {ns : List Int} {c : Vbfual.Call} (h : callFor 1 ns = some c) : ∃ a0 a1 a2, ns = [a0, a1, a2] ∧ c = .buy a0 a1 a2 := by
  rcases ns with _ | ⟨a0, _ | ⟨a1, _ | ⟨a2, _ | ⟨y, r⟩⟩⟩⟩ <;> first | exact ⟨_, _, _, rfl, (Option.some.inj h).symm⟩ | cases h
theorem cf_sell {ns : List Int} {c : Vbfual.Call} (h : callFor 2 ns = some c) : ∃ a0 a1 a2, ns = [a0, a1, a2] ∧ c = .sell a0 a1 a2 := by
  rcases ns with _ | ⟨a0, _ | ⟨a1, _ | ⟨a2, _ | ⟨y, r⟩⟩⟩⟩ <;> first | exact ⟨_, _, _, rfl, (Option.some.inj h).symm⟩ | cases h
theorem cf_transfer {ns : List Int} {c : Vbfual.Call} (h : callFor 3 ns = some c) : ∃ a0 a1 a2 a3, ns = [a0, a1, a2, a3] ∧ c = .transfer a0 a1 a2 a3 := by
  rcases ns with _ | ⟨a0, _ | ⟨a1, _ | ⟨a2, _ | ⟨a3, _ | ⟨y, r⟩⟩⟩⟩⟩ <;> first | exact ⟨_, _, _, _, rfl, (Option.some.inj h).symm⟩ | cases h
theorem cf_result {ns : List Int} {c : Vbfual.Call} (h : callFor 4 ns = some c) : ∃ a0 a1, ns = [a0, a1] ∧ c = .result a0 a1 := by
  rcases ns with _ | ⟨a0, _ | ⟨a1, _ | ⟨y, r⟩⟩⟩ <;> first | exact ⟨_, _, rfl, (Option.some.inj h).symm⟩ | cases h
theorem cf_propose {ns : List Int} {c : Vbfual.Call} (h : callFor 5 ns = some c) : ∃ a0 a1 a2 a3 a4 a5, ns = [a0, a1, a2, a3, a4, a5] ∧ c = .propose a0 a1 a2 a3 a4 a5 := by
  rcases ns with _ | ⟨a0, _ | ⟨a1, _ | ⟨a2, _ | ⟨a3, _ | ⟨a4, _ | ⟨a5, _ | ⟨y, r⟩⟩⟩⟩⟩⟩⟩ <;> first | exact ⟨_, _, _, _, _, _, rfl, (Option.some.inj h).symm⟩ | cases h
theorem cf_vote {ns : List Int} {c : Vbfual.Call} (h : callFor 6 ns = some c) : ∃ a0 a1 a2, ns = [a0, a1, a2] ∧ c = .vote a0 a1 a2 := by
  rcases ns with _ | ⟨a0, _ | ⟨a1, _ | ⟨a2, _ | ⟨y, r⟩⟩⟩⟩ <;> first | exact ⟨_, _, _, rfl, (Option.some.inj h).symm⟩ | cases h
theorem cf_proxy {ns : List Int} {c : Vbfual.Call} (h : callFor 7 ns = some c) : ∃ a0 a1 a2, ns = [a0, a1, a2] ∧ c = .proxy a0 a1 a2 := by
  rcases ns with _ | ⟨a0, _ | ⟨a1, _ | ⟨a2, _ | ⟨y, r⟩⟩⟩⟩ <;> first | exact ⟨_, _, _, rfl, (Option.some.inj h).symm⟩ | cases h
theorem cf_count {ns : List Int} {c : Vbfual.Call} (h : callFor 8 ns = some c) : ∃ a0, ns = [a0] ∧ c = .count a0 := by
  rcases ns with _ | ⟨a0, _ | ⟨y, r⟩⟩ <;> first | exact ⟨_, rfl, (Option.some.inj h).symm⟩ | cases h
theorem cf_effect {ns : List Int} {c : Vbfual.Call} (h : callFor 9 ns = some c) : ∃ a0, ns = [a0] ∧ c = .effect a0 := by
  rcases ns with _ | ⟨a0, _ | ⟨y, r⟩⟩ <;> first | exact ⟨_, rfl, (Option.some.inj h).symm⟩ | cases h
theorem cf_pay {ns : List Int} {c : Vbfual.Call} (h : callFor 10 ns = some c) : ∃ a0 a1, ns = [a0, a1] ∧ c = .pay a0 a1 := by
  rcases ns with _ | ⟨a0, _ | ⟨a1, _ | ⟨y, r⟩⟩⟩ <;> first | exact ⟨_, _, rfl, (Option.some.inj h).symm⟩ | cases h
theorem cf_last {ns : List Int} {c : Vbfual.Call} (h : callFor 11 ns = some c) : ∃ a0, ns = [a0] ∧ c = .last a0 := by
  rcases ns with _ | ⟨a0, _ | ⟨y, r⟩⟩ <;> first | exact ⟨_, rfl, (Option.some.inj h).symm⟩ | cases h
theorem cf_fund {ns : List Int} {c : Vbfual.Call} (h : callFor 12 ns = some c) : ∃ a0, ns = [a0] ∧ c = .fund a0 := by
  rcases ns with _ | ⟨a0, _ | ⟨y, r⟩⟩ <;> first | exact ⟨_, rfl, (Option.some.inj h).symm⟩ | cases h
theorem cf_holding {ns : List Int} {c : Vbfual.Call} (h : callFor 13 ns = some c) : ∃ a0 a1, ns = [a0, a1] ∧ c = .holding a0 a1 := by
  rcases ns with _ | ⟨a0, _ | ⟨a1, _ | ⟨y, r⟩⟩⟩ <;> first | exact ⟨_, _, rfl, (Option.some.inj h).symm⟩ | cases h
theorem cf_cash {ns : List Int} {c : Vbfual.Call} (h : callFor 14 ns = some c) : ∃ a0, ns = [a0] ∧ c = .cash a0 := by
  rcases ns with _ | ⟨a0, _ | ⟨y, r⟩⟩ <;> first | exact ⟨_, rfl, (Option.some.inj h).symm⟩ | cases h
theorem cf_holders {ns : List Int} {c : Vbfual.Call} (h : callFor 15 ns = some c) : ∃ a0, ns = [a0] ∧ c = .holders a0 := by
  rcases ns with _ | ⟨a0, _ | ⟨y, r⟩⟩ <;> first | exact ⟨_, rfl, (Option.some.inj h).symm⟩ | cases h
theorem cf_scheme {ns : List Int} {c : Vbfual.Call} (h : callFor 16 ns = some c) : ∃ a0, ns = [a0] ∧ c = .scheme a0 := by
  rcases ns with _ | ⟨a0, _ | ⟨y, r⟩⟩ <;> first | exact ⟨_, rfl, (Option.some.inj h).symm⟩ | cases h
theorem cf_tally {ns : List Int} {c : Vbfual.Call} (h : callFor 17 ns = some c) : ∃ a0, ns = [a0] ∧ c = .tally a0 := by
  rcases ns with _ | ⟨a0, _ | ⟨y, r⟩⟩ <;> first | exact ⟨_, rfl, (Option.some.inj h).symm⟩ | cases h
theorem cf_speaker {ns : List Int} {c : Vbfual.Call} (h : callFor 18 ns = some c) : ∃ a0 a1, ns = [a0, a1] ∧ c = .speaker a0 a1 := by
  rcases ns with _ | ⟨a0, _ | ⟨a1, _ | ⟨y, r⟩⟩⟩ <;> first | exact ⟨_, _, rfl, (Option.some.inj h).symm⟩ | cases h
theorem cf_offer {ns : List Int} {c : Vbfual.Call} (h : callFor 19 ns = some c) : ∃ a0 a1 a2, ns = [a0, a1, a2] ∧ c = .offer a0 a1 a2 := by
  rcases ns with _ | ⟨a0, _ | ⟨a1, _ | ⟨a2, _ | ⟨y, r⟩⟩⟩⟩ <;> first | exact ⟨_, _, _, rfl, (Option.some.inj h).symm⟩ | cases h
def spOn (C : Cs) (lo hi : Int) : Sp := fun vs H Q _ => ∃ (b : Addr) (L : Lo) (own : Own) (s : State) (call : Int) (l : Addr) (ns : List Int) (c : Vbfual.Call), vs = [.ref b, .int call, .ref l] ∧ BookAt C L own H b s ∧ H l = some (.lst (ns.map V.int)) ∧ callFor call ns = some c ∧ (lo ≤ call ∧ call ≤ hi) ∧ Done C own H b s c Q
abbrev s_answer_in_trading : Stmt := top 102
theorem sc_answer_in_trading : FnScope ["book", "call", "n"] ["book", "call", "n"] (defScope s_answer_in_trading) := by walk_at "sc"
theorem ok_answer_in_trading {f : Addr} {fd : FuncData} (F : Fun K "answer_in_trading" "answer_in_trading" s_answer_in_trading f fd) (T : Txt K mg C) (O_result : Ok P w K mg base 3 "result" ["book", "f", "d"] (spResult C)) (O_buy : Ok P w K mg base 4 "buy" ["book", "f", "h", "m"] (spBuy C)) (O_sell : Ok P w K mg base 3 "sell" ["book", "f", "h", "u"] (spSell C)) (O_transfer : Ok P w K mg base 4 "transfer" ["book", "f", "h", "g", "u"] (spTransfer C)) : FnOk P w K mg base CX0 5 f fd ["book", "call", "n"] (spOn C 1 4) := by
  refine F.ok sc_answer_in_trading (fun vs H Q E h => ?_) (fun cdv A outer s H vs Q E hr h => ?_)
  · obtain ⟨b, L, own, s, call, l, ns, c, rfl, _⟩ := h
    rfl
  · obtain ⟨b, L, own, s, call, l, ns, c, rfl, B, hl, hc, hrg, D⟩ := h
    have nd := sc_answer_in_trading.nd
    have hu := hu_of hr
    have e1 := z0; have e2 := z0; have e3 := z0; have e4 := z0; have e5 := z0; have e6 := z0
    refine ⟨_, (pss_cons (ps_if (pt_cmp (pc_eqI (pv 1) (pe_gint rfl T.c_BUY))) (pss_one (ps_ret (pe_ok O_buy (hr.mono (by decide)) rfl (pa_cons (pv 0) (pa_cons (pe_ix ix_list (pv 2) pe_int (fun _ _ => rfl)) (pa_cons (pe_ix ix_list (pv 2) pe_int (fun _ _ => rfl)) (pa_cons (pe_ix ix_list (pv 2) pe_int (fun _ _ => rfl)) pa_nil))))))) pss_nil)
      (pss_cons (ps_if (pt_cmp (pc_eqI (pv 1) (pe_gint rfl T.c_SELL))) (pss_one (ps_ret (pe_ok O_sell (hr.mono (by decide)) rfl (pa_cons (pv 0) (pa_cons (pe_ix ix_list (pv 2) pe_int (fun _ _ => rfl)) (pa_cons (pe_ix ix_list (pv 2) pe_int (fun _ _ => rfl)) (pa_cons (pe_ix ix_list (pv 2) pe_int (fun _ _ => rfl)) pa_nil))))))) pss_nil)
      (pss_cons (ps_if (pt_cmp (pc_eqI (pv 1) (pe_gint rfl T.c_TRANSFER))) (pss_one (ps_ret (pe_ok O_transfer (hr.mono (by decide)) rfl (pa_cons (pv 0) (pa_cons (pe_ix ix_list (pv 2) pe_int (fun _ _ => rfl)) (pa_cons (pe_ix ix_list (pv 2) pe_int (fun _ _ => rfl)) (pa_cons (pe_ix ix_list (pv 2) pe_int (fun _ _ => rfl)) (pa_cons (pe_ix ix_list (pv 2) pe_int (fun _ _ => rfl)) pa_nil)))))))) pss_nil)
      (pss_one (ps_ret (pe_ok O_result (hr.mono (by decide)) rfl (pa_cons (pv 0) (pa_cons (pe_ix ix_list (pv 2) pe_int (fun _ _ => rfl)) (pa_cons (pe_ix ix_list (pv 2) pe_int (fun _ _ => rfl)) pa_nil))))))))), ?_⟩
    walk_at "rd"
    have h4 : call = 1 ∨ call = 2 ∨ call = 3 ∨ call = 4 := by omega
    rcases h4 with rfl | rfl | rfl | rfl
    · obtain ⟨a0, a1, a2, rfl, rfl⟩ := cf_buy hc
      rw [if_pos rfl]
      exact ⟨_, SqL.of hl, _, at_of (j := 0) rfl rfl, _, SqL.of hl, _, at_of (j := 1) rfl rfl, _, SqL.of hl, _, at_of (j := 2) rfl rfl, b, L, own, s, _, _, _, rfl, B, D⟩
    · obtain ⟨a0, a1, a2, rfl, rfl⟩ := cf_sell hc
      rw [if_neg (by decide), if_pos rfl]
      exact ⟨_, SqL.of hl, _, at_of (j := 0) rfl rfl, _, SqL.of hl, _, at_of (j := 1) rfl rfl, _, SqL.of hl, _, at_of (j := 2) rfl rfl, b, L, own, s, _, _, _, rfl, B, D⟩
    · obtain ⟨a0, a1, a2, a3, rfl, rfl⟩ := cf_transfer hc
      rw [if_neg (by decide), if_neg (by decide), if_pos rfl]
      exact ⟨_, SqL.of hl, _, at_of (j := 0) rfl rfl, _, SqL.of hl, _, at_of (j := 1) rfl rfl, _, SqL.of hl, _, at_of (j := 2) rfl rfl, _, SqL.of hl, _, at_of (j := 3) rfl rfl, b, L, own, s, _, _, _, _, rfl, B, D⟩
    · obtain ⟨a0, a1, rfl, rfl⟩ := cf_result hc
      rw [if_neg (by decide), if_neg (by decide), if_neg (by decide)]
      exact ⟨_, SqL.of hl, _, at_of (j := 0) rfl rfl, _, SqL.of hl, _, at_of (j := 1) rfl rfl, b, L, own, s, _, _, rfl, B, D⟩
abbrev s_answer_on_schemes : Stmt := top 103
theorem sc_answer_on_schemes : FnScope ["book", "call", "n"] ["book", "call", "n"] (defScope s_answer_on_schemes) := by walk_at "sc"
theorem ok_answer_on_schemes {f : Addr} {fd : FuncData} (F : Fun K "answer_on_schemes" "answer_on_schemes" s_answer_on_schemes f fd) (T : Txt K mg C) (O_take_effect : Ok P w K mg base 7 "take_effect" ["book", "n"] (spEffect C)) (O_propose : Ok P w K mg base 3 "propose" ["book", "kind", "a", "b", "part", "quorum", "need"] (spPropose C)) (O_vote : Ok P w K mg base 4 "vote" ["book", "n", "h", "pro"] (spVote C)) (O_proxy : Ok P w K mg base 4 "proxy" ["book", "n", "h", "g"] (spProxy C)) (O_count_votes : Ok P w K mg base 4 "count_votes" ["book", "n"] (spCount C)) : FnOk P w K mg base CX0 8 f fd ["book", "call", "n"] (spOn C 5 9) := by
  refine F.ok sc_answer_on_schemes (fun vs H Q E h => ?_) (fun cdv A outer s H vs Q E hr h => ?_)
  · obtain ⟨b, L, own, s, call, l, ns, c, rfl, _⟩ := h
    rfl
  · obtain ⟨b, L, own, s, call, l, ns, c, rfl, B, hl, hc, hrg, D⟩ := h
    have nd := sc_answer_on_schemes.nd
    have hu := hu_of hr
    have e1 := z0; have e2 := z0; have e3 := z0; have e4 := z0; have e5 := z0; have e6 := z0
    refine ⟨_, (pss_cons (ps_if (pt_cmp (pc_eqI (pv 1) (pe_gint rfl T.c_PROPOSE))) (pss_one (ps_ret (pe_ok O_propose (hr.mono (by decide)) rfl (pa_cons (pv 0) (pa_cons (pe_ix ix_list (pv 2) pe_int (fun _ _ => rfl)) (pa_cons (pe_ix ix_list (pv 2) pe_int (fun _ _ => rfl)) (pa_cons (pe_ix ix_list (pv 2) pe_int (fun _ _ => rfl)) (pa_cons (pe_ix ix_list (pv 2) pe_int (fun _ _ => rfl)) (pa_cons (pe_ix ix_list (pv 2) pe_int (fun _ _ => rfl)) (pa_cons (pe_ix ix_list (pv 2) pe_int (fun _ _ => rfl)) pa_nil)))))))))) pss_nil)
      (pss_cons (ps_if (pt_cmp (pc_eqI (pv 1) (pe_gint rfl T.c_VOTE))) (pss_one (ps_ret (pe_ok O_vote (hr.mono (by decide)) rfl (pa_cons (pv 0) (pa_cons (pe_ix ix_list (pv 2) pe_int (fun _ _ => rfl)) (pa_cons (pe_ix ix_list (pv 2) pe_int (fun _ _ => rfl)) (pa_cons (pe_ix ix_list (pv 2) pe_int (fun _ _ => rfl)) pa_nil))))))) pss_nil)
      (pss_cons (ps_if (pt_cmp (pc_eqI (pv 1) (pe_gint rfl T.c_PROXY))) (pss_one (ps_ret (pe_ok O_proxy (hr.mono (by decide)) rfl (pa_cons (pv 0) (pa_cons (pe_ix ix_list (pv 2) pe_int (fun _ _ => rfl)) (pa_cons (pe_ix ix_list (pv 2) pe_int (fun _ _ => rfl)) (pa_cons (pe_ix ix_list (pv 2) pe_int (fun _ _ => rfl)) pa_nil))))))) pss_nil)
      (pss_cons (ps_if (pt_cmp (pc_eqI (pv 1) (pe_gint rfl T.c_COUNT))) (pss_one (ps_ret (pe_ok O_count_votes (hr.mono (by decide)) rfl (pa_cons (pv 0) (pa_cons (pe_ix ix_list (pv 2) pe_int (fun _ _ => rfl)) pa_nil))))) pss_nil)
      (pss_one (ps_ret (pe_ok O_take_effect (hr.mono (by decide)) rfl (pa_cons (pv 0) (pa_cons (pe_ix ix_list (pv 2) pe_int (fun _ _ => rfl)) pa_nil))))))))), ?_⟩
    walk_at "rd"
    have h4 : call = 5 ∨ call = 6 ∨ call = 7 ∨ call = 8 ∨ call = 9 := by omega
    rcases h4 with rfl | rfl | rfl | rfl | rfl
    · obtain ⟨a0, a1, a2, a3, a4, a5, rfl, rfl⟩ := cf_propose hc
      rw [if_pos rfl]
      exact ⟨_, SqL.of hl, _, at_of (j := 0) rfl rfl, _, SqL.of hl, _, at_of (j := 1) rfl rfl, _, SqL.of hl, _, at_of (j := 2) rfl rfl, _, SqL.of hl, _, at_of (j := 3) rfl rfl, _, SqL.of hl, _, at_of (j := 4) rfl rfl, _, SqL.of hl, _, at_of (j := 5) rfl rfl, b, L, own, s, _, _, _, _, _, _, rfl, B, D⟩
    · obtain ⟨a0, a1, a2, rfl, rfl⟩ := cf_vote hc
      rw [if_neg (by decide), if_pos rfl]
      exact ⟨_, SqL.of hl, _, at_of (j := 0) rfl rfl, _, SqL.of hl, _, at_of (j := 1) rfl rfl, _, SqL.of hl, _, at_of (j := 2) rfl rfl, b, L, own, s, _, _, _, rfl, B, D⟩
    · obtain ⟨a0, a1, a2, rfl, rfl⟩ := cf_proxy hc
      rw [if_neg (by decide), if_neg (by decide), if_pos rfl]
      exact ⟨_, SqL.of hl, _, at_of (j := 0) rfl rfl, _, SqL.of hl, _, at_of (j := 1) rfl rfl, _, SqL.of hl, _, at_of (j := 2) rfl rfl, b, L, own, s, _, _, _, rfl, B, D⟩
    · obtain ⟨a0, rfl, rfl⟩ := cf_count hc
      rw [if_neg (by decide), if_neg (by decide), if_neg (by decide), if_pos rfl]
      exact ⟨_, SqL.of hl, _, at_of (j := 0) rfl rfl, b, L, own, s, _, rfl, B, D⟩
    · obtain ⟨a0, rfl, rfl⟩ := cf_effect hc
      rw [if_neg (by decide), if_neg (by decide), if_neg (by decide), if_neg (by decide)]
      exact ⟨_, SqL.of hl, _, at_of (j := 0) rfl rfl, b, L, own, s, _, rfl, B, D⟩
abbrev s_answer_in_closing : Stmt := top 104
theorem sc_answer_in_closing : FnScope ["book", "call", "n"] ["book", "call", "n"] (defScope s_answer_in_closing) := by walk_at "sc"
theorem ok_answer_in_closing {f : Addr} {fd : FuncData} (F : Fun K "answer_in_closing" "answer_in_closing" s_answer_in_closing f fd) (T : Txt K mg C) (O_pay_last : Ok P w K mg base 4 "pay_last" ["book", "f"] (spAsk1 C Vbfual.Call.last)) (O_pay : Ok P w K mg base 3 "pay" ["book", "f", "m"] (spAsk2 C Vbfual.Call.pay)) : FnOk P w K mg base CX0 5 f fd ["book", "call", "n"] (spOn C 10 11) := by
  refine F.ok sc_answer_in_closing (fun vs H Q E h => ?_) (fun cdv A outer s H vs Q E hr h => ?_)
  · obtain ⟨b, L, own, s, call, l, ns, c, rfl, _⟩ := h
    rfl
  · obtain ⟨b, L, own, s, call, l, ns, c, rfl, B, hl, hc, hrg, D⟩ := h
    have nd := sc_answer_in_closing.nd
    have hu := hu_of hr
    have e1 := z0; have e2 := z0; have e3 := z0; have e4 := z0; have e5 := z0; have e6 := z0
    refine ⟨_, (pss_cons (ps_if (pt_cmp (pc_eqI (pv 1) (pe_gint rfl T.c_PAY))) (pss_one (ps_ret (pe_ok O_pay (hr.mono (by decide)) rfl (pa_cons (pv 0) (pa_cons (pe_ix ix_list (pv 2) pe_int (fun _ _ => rfl)) (pa_cons (pe_ix ix_list (pv 2) pe_int (fun _ _ => rfl)) pa_nil)))))) pss_nil)
      (pss_one (ps_ret (pe_ok O_pay_last (hr.mono (by decide)) rfl (pa_cons (pv 0) (pa_cons (pe_ix ix_list (pv 2) pe_int (fun _ _ => rfl)) pa_nil)))))), ?_⟩
    walk_at "rd"
    have h4 : call = 10 ∨ call = 11 := by omega
    rcases h4 with rfl | rfl
    · obtain ⟨a0, a1, rfl, rfl⟩ := cf_pay hc
      rw [if_pos rfl]
      exact ⟨_, SqL.of hl, _, at_of (j := 0) rfl rfl, _, SqL.of hl, _, at_of (j := 1) rfl rfl, b, L, own, s, _, _, rfl, B, D⟩
    · obtain ⟨a0, rfl, rfl⟩ := cf_last hc
      rw [if_neg (by decide)]
      exact ⟨_, SqL.of hl, _, at_of (j := 0) rfl rfl, b, L, own, s, _, rfl, B, D⟩
abbrev s_answer_about_funds : Stmt := top 105
theorem sc_answer_about_funds : FnScope ["book", "call", "n"] ["book", "call", "n"] (defScope s_answer_about_funds) := by walk_at "sc"
theorem ok_answer_about_funds {f : Addr} {fd : FuncData} (F : Fun K "answer_about_funds" "answer_about_funds" s_answer_about_funds f fd) (T : Txt K mg C) (O_tell_holders : Ok P w K mg base 3 "tell_holders" ["book", "f"] (spAsk1 C Vbfual.Call.holders)) (O_tell_fund : Ok P w K mg base 3 "tell_fund" ["book", "f"] (spAsk1 C Vbfual.Call.fund)) (O_tell_holding : Ok P w K mg base 3 "tell_holding" ["book", "f", "h"] (spAsk2 C Vbfual.Call.holding)) (O_tell_cash : Ok P w K mg base 3 "tell_cash" ["book", "h"] (spAsk1 C Vbfual.Call.cash)) : FnOk P w K mg base CX0 4 f fd ["book", "call", "n"] (spOn C 12 15) := by
  refine F.ok sc_answer_about_funds (fun vs H Q E h => ?_) (fun cdv A outer s H vs Q E hr h => ?_)
  · obtain ⟨b, L, own, s, call, l, ns, c, rfl, _⟩ := h
    rfl
  · obtain ⟨b, L, own, s, call, l, ns, c, rfl, B, hl, hc, hrg, D⟩ := h
    have nd := sc_answer_about_funds.nd
    have hu := hu_of hr
    have e1 := z0; have e2 := z0; have e3 := z0; have e4 := z0; have e5 := z0; have e6 := z0
    refine ⟨_, (pss_cons (ps_if (pt_cmp (pc_eqI (pv 1) (pe_gint rfl T.c_FUND))) (pss_one (ps_ret (pe_ok O_tell_fund (hr.mono (by decide)) rfl (pa_cons (pv 0) (pa_cons (pe_ix ix_list (pv 2) pe_int (fun _ _ => rfl)) pa_nil))))) pss_nil)
      (pss_cons (ps_if (pt_cmp (pc_eqI (pv 1) (pe_gint rfl T.c_HOLDING))) (pss_one (ps_ret (pe_ok O_tell_holding (hr.mono (by decide)) rfl (pa_cons (pv 0) (pa_cons (pe_ix ix_list (pv 2) pe_int (fun _ _ => rfl)) (pa_cons (pe_ix ix_list (pv 2) pe_int (fun _ _ => rfl)) pa_nil)))))) pss_nil)
      (pss_cons (ps_if (pt_cmp (pc_eqI (pv 1) (pe_gint rfl T.c_CASH))) (pss_one (ps_ret (pe_ok O_tell_cash (hr.mono (by decide)) rfl (pa_cons (pv 0) (pa_cons (pe_ix ix_list (pv 2) pe_int (fun _ _ => rfl)) pa_nil))))) pss_nil)
      (pss_one (ps_ret (pe_ok O_tell_holders (hr.mono (by decide)) rfl (pa_cons (pv 0) (pa_cons (pe_ix ix_list (pv 2) pe_int (fun _ _ => rfl)) pa_nil)))))))), ?_⟩
    walk_at "rd"
    have h4 : call = 12 ∨ call = 13 ∨ call = 14 ∨ call = 15 := by omega
    rcases h4 with rfl | rfl | rfl | rfl
    · obtain ⟨a0, rfl, rfl⟩ := cf_fund hc
      rw [if_pos rfl]
      exact ⟨_, SqL.of hl, _, at_of (j := 0) rfl rfl, b, L, own, s, _, rfl, B, D⟩
    · obtain ⟨a0, a1, rfl, rfl⟩ := cf_holding hc
      rw [if_neg (by decide), if_pos rfl]
      exact ⟨_, SqL.of hl, _, at_of (j := 0) rfl rfl, _, SqL.of hl, _, at_of (j := 1) rfl rfl, b, L, own, s, _, _, rfl, B, D⟩
    · obtain ⟨a0, rfl, rfl⟩ := cf_cash hc
      rw [if_neg (by decide), if_neg (by decide), if_pos rfl]
      exact ⟨_, SqL.of hl, _, at_of (j := 0) rfl rfl, b, L, own, s, _, rfl, B, D⟩
    · obtain ⟨a0, rfl, rfl⟩ := cf_holders hc
      rw [if_neg (by decide), if_neg (by decide), if_neg (by decide)]
      exact ⟨_, SqL.of hl, _, at_of (j := 0) rfl rfl, b, L, own, s, _, rfl, B, D⟩
abbrev s_answer_about_schemes : Stmt := top 106
theorem sc_answer_about_schemes : FnScope ["book", "call", "n"] ["book", "call", "n"] (defScope s_answer_about_schemes) := by walk_at "sc"
theorem ok_answer_about_schemes {f : Addr} {fd : FuncData} (F : Fun K "answer_about_schemes" "answer_about_schemes" s_answer_about_schemes f fd) (T : Txt K mg C) (O_tell_offer : Ok P w K mg base 3 "tell_offer" ["book", "a", "b", "h"] (spAsk3 C Vbfual.Call.offer)) (O_tell_scheme : Ok P w K mg base 3 "tell_scheme" ["book", "n"] (spAsk1 C Vbfual.Call.scheme)) (O_tell_tally : Ok P w K mg base 3 "tell_tally" ["book", "n"] (spAsk1 C Vbfual.Call.tally)) (O_tell_speaker : Ok P w K mg base 3 "tell_speaker" ["book", "n", "h"] (spAsk2 C Vbfual.Call.speaker)) : FnOk P w K mg base CX0 4 f fd ["book", "call", "n"] (spOn C 16 19) := by
  refine F.ok sc_answer_about_schemes (fun vs H Q E h => ?_) (fun cdv A outer s H vs Q E hr h => ?_)
  · obtain ⟨b, L, own, s, call, l, ns, c, rfl, _⟩ := h
    rfl
  · obtain ⟨b, L, own, s, call, l, ns, c, rfl, B, hl, hc, hrg, D⟩ := h
    have nd := sc_answer_about_schemes.nd
    have hu := hu_of hr
    have e1 := z0; have e2 := z0; have e3 := z0; have e4 := z0; have e5 := z0; have e6 := z0
    refine ⟨_, (pss_cons (ps_if (pt_cmp (pc_eqI (pv 1) (pe_gint rfl T.c_SCHEME))) (pss_one (ps_ret (pe_ok O_tell_scheme (hr.mono (by decide)) rfl (pa_cons (pv 0) (pa_cons (pe_ix ix_list (pv 2) pe_int (fun _ _ => rfl)) pa_nil))))) pss_nil)
      (pss_cons (ps_if (pt_cmp (pc_eqI (pv 1) (pe_gint rfl T.c_TALLY))) (pss_one (ps_ret (pe_ok O_tell_tally (hr.mono (by decide)) rfl (pa_cons (pv 0) (pa_cons (pe_ix ix_list (pv 2) pe_int (fun _ _ => rfl)) pa_nil))))) pss_nil)
      (pss_cons (ps_if (pt_cmp (pc_eqI (pv 1) (pe_gint rfl T.c_SPEAKER))) (pss_one (ps_ret (pe_ok O_tell_speaker (hr.mono (by decide)) rfl (pa_cons (pv 0) (pa_cons (pe_ix ix_list (pv 2) pe_int (fun _ _ => rfl)) (pa_cons (pe_ix ix_list (pv 2) pe_int (fun _ _ => rfl)) pa_nil)))))) pss_nil)
      (pss_one (ps_ret (pe_ok O_tell_offer (hr.mono (by decide)) rfl (pa_cons (pv 0) (pa_cons (pe_ix ix_list (pv 2) pe_int (fun _ _ => rfl)) (pa_cons (pe_ix ix_list (pv 2) pe_int (fun _ _ => rfl)) (pa_cons (pe_ix ix_list (pv 2) pe_int (fun _ _ => rfl)) pa_nil)))))))))), ?_⟩
    walk_at "rd"
    have h4 : call = 16 ∨ call = 17 ∨ call = 18 ∨ call = 19 := by omega
    rcases h4 with rfl | rfl | rfl | rfl
    · obtain ⟨a0, rfl, rfl⟩ := cf_scheme hc
      rw [if_pos rfl]
      exact ⟨_, SqL.of hl, _, at_of (j := 0) rfl rfl, b, L, own, s, _, rfl, B, D⟩
    · obtain ⟨a0, rfl, rfl⟩ := cf_tally hc
      rw [if_neg (by decide), if_pos rfl]
      exact ⟨_, SqL.of hl, _, at_of (j := 0) rfl rfl, b, L, own, s, _, rfl, B, D⟩
    · obtain ⟨a0, a1, rfl, rfl⟩ := cf_speaker hc
      rw [if_neg (by decide), if_neg (by decide), if_pos rfl]
      exact ⟨_, SqL.of hl, _, at_of (j := 0) rfl rfl, _, SqL.of hl, _, at_of (j := 1) rfl rfl, b, L, own, s, _, _, rfl, B, D⟩
    · obtain ⟨a0, a1, a2, rfl, rfl⟩ := cf_offer hc
      rw [if_neg (by decide), if_neg (by decide), if_neg (by decide)]
      exact ⟨_, SqL.of hl, _, at_of (j := 0) rfl rfl, _, SqL.of hl, _, at_of (j := 1) rfl rfl, _, SqL.of hl, _, at_of (j := 2) rfl rfl, b, L, own, s, _, _, _, rfl, B, D⟩
abbrev s_answer_of : Stmt := top 107
theorem sc_answer_of : FnScope ["book", "call", "numbers"] ["book", "call", "numbers"] (defScope s_answer_of) := by walk_at "sc"
theorem ok_answer_of {f : Addr} {fd : FuncData} (F : Fun K "answer_of" "answer_of" s_answer_of f fd) (T : Txt K mg C) (O_answer_about_schemes : Ok P w K mg base 4 "answer_about_schemes" ["book", "call", "n"] (spOn C 16 19)) (O_answer_in_trading : Ok P w K mg base 5 "answer_in_trading" ["book", "call", "n"] (spOn C 1 4)) (O_answer_on_schemes : Ok P w K mg base 8 "answer_on_schemes" ["book", "call", "n"] (spOn C 5 9)) (O_answer_in_closing : Ok P w K mg base 5 "answer_in_closing" ["book", "call", "n"] (spOn C 10 11)) (O_answer_about_funds : Ok P w K mg base 4 "answer_about_funds" ["book", "call", "n"] (spOn C 12 15)) : FnOk P w K mg base CX0 9 f fd ["book", "call", "numbers"] (spOn C 1 19) := by
  refine F.ok sc_answer_of (fun vs H Q E h => ?_) (fun cdv A outer s H vs Q E hr h => ?_)
  · obtain ⟨b, L, own, s, call, l, ns, c, rfl, _⟩ := h
    rfl
  · obtain ⟨b, L, own, s, call, l, ns, c, rfl, B, hl, hc, hrg, D⟩ := h
    have nd := sc_answer_of.nd
    have hu := hu_of hr
    have e1 := z0; have e2 := z0; have e3 := z0; have e4 := z0; have e5 := z0; have e6 := z0
    refine ⟨_, (pss_cons (ps_if (pt_cmp (pc_le (pv 1) (pe_gint rfl T.c_RESULT))) (pss_one (ps_ret (pe_ok O_answer_in_trading (hr.mono (by decide)) rfl (pa_cons (pv 0) (pa_cons (pv 1) (pa_cons (pv 2) pa_nil)))))) pss_nil)
      (pss_cons (ps_if (pt_cmp (pc_le (pv 1) (pe_gint rfl T.c_EFFECT))) (pss_one (ps_ret (pe_ok O_answer_on_schemes (hr.mono (by decide)) rfl (pa_cons (pv 0) (pa_cons (pv 1) (pa_cons (pv 2) pa_nil)))))) pss_nil)
      (pss_cons (ps_if (pt_cmp (pc_le (pv 1) (pe_gint rfl T.c_LAST))) (pss_one (ps_ret (pe_ok O_answer_in_closing (hr.mono (by decide)) rfl (pa_cons (pv 0) (pa_cons (pv 1) (pa_cons (pv 2) pa_nil)))))) pss_nil)
      (pss_cons (ps_if (pt_cmp (pc_le (pv 1) (pe_gint rfl T.c_HOLDERS_schemes))) (pss_one (ps_ret (pe_ok O_answer_about_funds (hr.mono (by decide)) rfl (pa_cons (pv 0) (pa_cons (pv 1) (pa_cons (pv 2) pa_nil)))))) pss_nil)
      (pss_one (ps_ret (pe_ok O_answer_about_schemes (hr.mono (by decide)) rfl (pa_cons (pv 0) (pa_cons (pv 1) (pa_cons (pv 2) pa_nil)))))))))), ?_⟩
    walk_at "rd"
    refine ite2 (fun h => ?_) fun h => ?_
    · exact ⟨b, L, own, s, call, l, ns, c, rfl, B, hl, hc, ⟨hrg.1, h⟩, D⟩
    refine ite2 (fun h => ?_) fun h => ?_
    · exact ⟨b, L, own, s, call, l, ns, c, rfl, B, hl, hc, ⟨by omega, h⟩, D⟩
    refine ite2 (fun h => ?_) fun h => ?_
    · exact ⟨b, L, own, s, call, l, ns, c, rfl, B, hl, hc, ⟨by omega, h⟩, D⟩
    refine ite2 (fun h => ?_) fun h => ?_
    · exact ⟨b, L, own, s, call, l, ns, c, rfl, B, hl, hc, ⟨by omega, h⟩, D⟩
    exact ⟨b, L, own, s, call, l, ns, c, rfl, B, hl, hc, ⟨by omega, hrg.2⟩, D⟩
end
section
variable {P : Program} {w : World} {K : PySem.W.Frag} {mg : Str → Option Value} {base : Heap} {C : Cs}
theorem sqL_mono {H H' : Hp} {a : Addr} {xs : List V} (h : SqL K H a xs) (k : ∀ o, H a = some o → H' a = some o) : SqL K H' a xs := by
  rcases h with (h | ⟨o, h⟩) | h
  · exact .inl (.inl (k _ h))
  · exact .inl (.inr ⟨o, k _ h⟩)
  · exact .inr h
theorem sqL_all {H : Hp} {a : Addr} {xs : List V} (h : SqL K H a xs) : (∃ o, H a = some o) ∨ ∀ H', SqL K H' a xs := by
  rcases h with (h | ⟨o, h⟩) | h
  · exact .inl ⟨_, h⟩
  · exact .inl ⟨_, h⟩
  · exact .inr fun H' => .inr h
def table : List (Int × Int) := [(0, 0), (1, 3), (2, 3), (3, 4), (4, 2), (5, 6), (6, 3), (7, 3), (8, 1), (9, 1), (10, 2), (11, 1), (12, 1), (13, 2), (14, 1), (15, 1), (16, 1), (17, 1), (18, 2), (19, 3)]
theorem table_shape {p : Int} {n k : Nat} (h : PyVbfual.shape p = some (n, k)) : table.lookup p = some (n : Int) := by
  obtain ⟨h0, h1, _⟩ := shape_rng h
  rcases p_cases h0 h1 with e | e | e | e | e | e | e | e | e | e | e | e | e | e | e | e | e | e | e | e <;> subst e <;> (have e' := Option.some.inj h; cases e'; rfl)
theorem drop_step {ns : List Int} {place : Nat} (h : place < ns.length) : ns.drop place = ns[place] :: ns.drop (place + 1) := List.drop_eq_getElem_cons h
theorem cut_args {ns : List Int} {k n : Nat} (h : k + n ≤ ns.length) {lo hi : Int} (h1 : lo = ((k : Nat) : Int)) (h2 : hi = ((k + n : Nat) : Int)) : cutV (ns.map V.int) (some lo) (some hi) = ((ns.drop k).take n).map V.int := by
  subst h1 h2
  unfold cutV
  rw [HT.sIx_nat, HT.sIx_nat, List.length_map, Nat.min_eq_left h, Nat.min_eq_left (show k ≤ ns.length by omega), List.map_take, List.map_drop]
  congr 1
  omega
structure AnsInv (C : Cs) (K : PySem.W.Frag) (a g : Addr) (ns due : List Int) (m : Nat) (σ : L2.St) (H' : Hp) : Prop where
  ex : ∃ (own : Own) (L : Lo) (b : Addr) (s : State) (place : Nat) (out : List Int) (f : Nat) (cs : List (List (List Int))) (v4 v5 v6 : Option V), σ = [some (.ref a), some (.ref b), some (.ref g), some (.int (place : Nat)), v4, v5, v6] ∧ SqL K H' a (ns.map V.int) ∧
    ((a ≠ g ∧ own a = 0 ∧ ∃ o, H' a = some o) ∨ ∀ H', SqL K H' a (ns.map V.int)) ∧ BookAt C L own H' b s ∧ H' g = some (.lst (out.map V.int)) ∧ own g = 0 ∧ place ≤ ns.length ∧ m = ns.length - place ∧ PyFlat.calls PyVbfual.shape f (ns.drop place) = some cs ∧
    out ++ dueFrom s cs = due ∧ out.length + 51 * cs.length ≤ 51 * 400
theorem AnsInv.next {own : Own} {L : Lo} {a b g p : Addr} {s : State} {H : Hp} {ns due out ans : List Int} {place n f m : Nat} {cs : List (List (List Int))} {v4 v5 v6 : Option V} (hS : SqL K H a (ns.map V.int)) (nag : (a ≠ g ∧ own a = 0 ∧ ∃ o, H a = some o) ∨ ∀ H', SqL K H' a (ns.map V.int)) (B : BookAt C L own H b s)
    (hg : H g = some (.lst (out.map V.int))) (og : own g = 0) (hp : H p = some (.lst (ans.map V.int))) (npg : g ≠ p) (hlt : place < ns.length) (hn : place + 1 + n ≤ ns.length) (hm : m = ns.length - place) (hc : PyFlat.calls PyVbfual.shape f (ns.drop (place + 1 + n)) = some cs)
    (hd : out ++ (((ans.length : Int) :: ans) ++ dueFrom s cs) = due) (hb : out.length + 51 * (cs.length + 1) ≤ 51 * 400) (ha : ans.length ≤ 50) {e : Int} (he : e = ((place + 1 + n : Nat) : Int)) {k : Nat} (hk : k = ans.length) :
    out.length < sizeLine ∧ out.length + 1 + ans.length ≤ sizeLine ∧ ∃ m', m' < m ∧ AnsInv C K a g ns due m' [some (.ref a), some (.ref b), some (.ref g), some (.int e), v4, v5, v6] (upd (upd H g (.lst (out.map V.int ++ [.int (k : Nat)]))) g (.lst ((out.map V.int ++ [.int (k : Nat)]) ++ ans.map V.int))) := by
  subst he hk
  refine ⟨small _ (by omega), Nat.le_of_lt (small _ (by omega)), ns.length - (place + 1 + n), by omega, ?_⟩
  rw [upd_upd]
  refine ⟨own, L, b, s, place + 1 + n, out ++ ((ans.length : Int) :: ans), f, cs, v4, v5, v6, rfl, ?_, ?_, B.out (by intro _ z; cases z) (.inl og), ?_, og, hn, rfl, hc, ?_, ?_⟩
  · rcases nag with ⟨h, _⟩ | h
    · exact sqL_mono hS fun o e => by rw [upd_ne h]; exact e
    · exact h _
  · rcases nag with ⟨h, h2, o, h3⟩ | h
    · exact .inl ⟨h, h2, o, by rw [upd_ne h]; exact h3⟩
    · exact .inr h
  · rw [upd_same, List.map_append, List.map_cons, List.append_assoc]
    rfl
  · rw [List.append_assoc]
    exact hd
  · rw [List.length_append, List.length_cons]
    omega
def spAns (K : PySem.W.Frag) : Sp := fun vs H Q _ => ∃ (a : Addr) (ns : List Int) (cs : List (List (List Int))), vs = [.ref a] ∧ Good H ∧ SqL K H a (ns.map V.int) ∧ PyFlat.calls PyVbfual.shape ns.length ns = some cs ∧ cs.length ≤ 400 ∧
  ∀ (H' : Hp) (p : Addr), H' p = some (.lst ((dueFrom Vbfual.start cs).map V.int)) → Q (.ref p) H'
abbrev s_answers : Stmt := top 108
theorem sc_answers : FnScope ["calls", "book", "given", "place", "call", "end", "answer"] ["calls"] (defScope s_answers) := by walk_at "sc"
theorem ok_answers {f : Addr} {fd : FuncData} (F : Fun K "answers" "answers" s_answers f fd) (T : Txt K mg C) (O_Book : OkC P w K mg base 3 "Book" C.b ["self"] (spBook C)) (O_answer_of : Ok P w K mg base 9 "answer_of" ["book", "call", "numbers"] (spOn C 1 19)) : FnOk P w K mg base CX0 10 f fd ["calls"] (spAns K) := by
  refine F.ok sc_answers (fun vs H Q E h => ?_) (fun cdv A outer s H vs Q E hr h => ?_)
  · obtain ⟨a, ns, cs, rfl, _⟩ := h
    rfl
  · obtain ⟨a, ns, cs0, rfl, g0, hS, hcs, h400, q⟩ := h
    have nd := sc_answers.nd
    have hu := hu_of hr
    have e1 := z0; have e2 := z0; have e3 := z0; have e4 := z0; have e5 := z0; have e6 := z0
    refine ⟨_, (pss_cons (ps_set (i := 1) nd rfl (Or.inl rfl) (pe_mk0 O_Book (hr.mono (by decide)) rfl))
      (pss_cons (ps_set (i := 2) nd rfl (Or.inl rfl) (pe_lst pa_nil))
      (pss_cons (ps_set (i := 3) nd rfl (Or.inl rfl) pe_int)
      (pss_cons (ps_while PassesOwn.never (pt_cmp (pc_lt (pv 3) (pe_callB call_len_seq (by rfl) T.b_len PySem.boot_len (pa_cons (pv 0) pa_nil)))) (pss_cons (ps_set (i := 4) nd rfl (Or.inl rfl) (pe_ix ix_list (pv 0) (pv 3) (fun _ _ => rfl)))
      (pss_cons (ps_set (i := 5) nd rfl (Or.inl rfl) (pe_op op_add (pe_op op_add (pv 3) pe_int) (pe_dgetG rfl T.d_HOW_MANY_NUMBERS (pv 4) (fun _ _ => rfl))))
      (pss_cons (ps_if (pt_cmp (pc_eqI (pv 4) (pe_gint rfl T.c_BEGIN))) (pss_cons (ps_set (i := 1) nd rfl (Or.inl rfl) (pe_mk0 O_Book (hr.mono (by decide)) rfl))
      (pss_one (ps_set (i := 6) nd rfl (Or.inl rfl) (pe_lst (pa_cons pe_int pa_nil))))) (pss_one (ps_set (i := 6) nd rfl (Or.inl rfl) (pe_ok O_answer_of (hr.mono (by decide)) rfl (pa_cons (pv 1) (pa_cons (pv 4) (pa_cons (pe_slice sl_list (pv 0) (po_some (pe_op op_add (pv 3) pe_int)) (po_some (pv 5))) pa_nil)))))))
      (pss_cons (ps_expr (pe_bm PySem.F.plainAttrs_list PySem.F.slot_list_append PySem.F.type_list_append mt_append (pv 2) (pa_cons (pe_callB call_len_seq (by rfl) T.b_len PySem.boot_len (pa_cons (pv 6) pa_nil)) pa_nil)))
      (pss_cons (ps_expr (pe_bm PySem.F.plainAttrs_list PySem.F.slot_list_extend PySem.F.type_list_extend mt_extend (pv 2) (pa_cons (pv 6) pa_nil)))
      (pss_one (ps_set (i := 3) nd rfl (Or.inl rfl) (pv 5)))))))))
      (pss_one (ps_ret (pv 2))))))), ?_⟩
    intro b dxb hb hdb nb
    refine ⟨b, dxb, fun _ => 0, rfl, (g0.upd (by intro _ z; cases z)).upd (by intro _ z; cases z), upd_same, fun L own H1 B kp => ⟨rfl, ?_⟩⟩
    have kp' : ∀ c o, H c = some o → H1 c = some o ∧ own c = 0 := fun c o e => kp c o (by rw [upd_ne (ne_of_none e hb), upd_ne (ne_of_none e hdb)]; exact e) (ne_of_none e hb)
    refine ⟨Nat.zero_le _, fun g hg => ?_⟩
    have hS1 : SqL K H1 a (ns.map V.int) := sqL_mono hS fun o e => (kp' a o e).1
    have S1 : Same H1 (upd H1 g (.lst [])) := fun c o e => by rw [upd_ne (ne_of_none e hg)]; exact e
    have nag : (a ≠ g ∧ own a = 0 ∧ ∃ o, H1 a = some o) ∨ ∀ H', SqL K H' a (ns.map V.int) := by
      rcases sqL_all hS with ⟨o, e⟩ | h
      · exact .inl ⟨ne_of_none (kp' a o e).1 hg, (kp' a o e).2, o, (kp' a o e).1⟩
      · exact .inr h
    have B1 : BookAt C L (give own g 0) (upd H1 g (.lst [])) b Vbfual.start := B.keep (B.good.upd (by intro _ z; cases z)) fun c o e _ => ⟨S1 c o e, give_ne (ne_of_none e hg)⟩
    refine ⟨AnsInv C K a g ns (dueFrom Vbfual.start cs0), ⟨ns.length, ⟨give own g 0, L, b, Vbfual.start, 0, [], ns.length, cs0, none, none, none, rfl, sqL_mono hS1 fun o e => S1 a o e, ?_, B1, upd_same, give_same, Nat.zero_le _, rfl, hcs, rfl, by simp; omega⟩⟩, ?_⟩
    · rcases nag with ⟨h1, h2, o, h3⟩ | h
      · exact .inl ⟨h1, by rw [give_ne h1]; exact h2, o, S1 a o h3⟩
      · exact .inr h
    rintro m σ H' ⟨own', L', b', s', place, out, f, cs, v4, v5, v6, rfl, hS', nag', B', hg', og, hpl, rfl, hc', hd, hbd⟩
    refine ⟨_, rfl, _, rfl, a, _, rfl, .inl hS', _, _, rfl, rfl, _, rfl, ?_⟩
    refine ite2 (fun hlt0 => ?_) fun hlt0 => ?_
    · have hlt : place < ns.length := by
        have := of_decide_eq_true hlt0
        rw [List.length_map] at this
        omega
      refine ⟨fun σ' H'' => ∃ m', m' < ns.length - place ∧ AnsInv C K a g ns (dueFrom Vbfual.start cs0) m' σ' H'', fun _ _ h => h, ?_⟩
      rw [drop_step hlt] at hc'
      obtain ⟨p, hp⟩ : ∃ p, ns[place] = p := ⟨_, rfl⟩
      have hpg : ns[place]? = some p := by rw [List.getElem?_eq_getElem hlt, hp]
      rw [hp] at hc'
      obtain ⟨f', n, cs', rfl, hsh, hnl, rfl, hc2⟩ := calls_step hc'
      have hp9 := (shape_rng hsh).2.1
      have hp0 := (shape_rng hsh).1
      rw [List.length_drop] at hnl
      obtain ⟨c, hcf, hstep⟩ := step_for hsh (args := (ns.drop (place + 1)).take n) (by rw [List.length_take, List.length_drop]; omega)
      rw [List.drop_drop] at hc2
      have hc3 : PyFlat.calls PyVbfual.shape f' (ns.drop (place + 1 + n)) = some cs' := hc2
      rw [due_cons, hstep s'] at hd
      have hlen := step_len B'.ok c
      have hend : ((place : Nat) : Int) + 1 + ((n : Nat) : Int) = ((place + 1 + n : Nat) : Int) := by omega
      have hpl1 : ((place : Nat) : Int) + 1 = ((place + 1 : Nat) : Int) := by omega
      refine ⟨_, rfl, _, rfl, a, _, _, _, rfl, rfl, hS', at_of (j := place) (v := .int p) rfl (by rw [List.getElem?_map, hpg]; rfl), ?_⟩
      refine ⟨_, rfl, _, _, rfl, rfl, _, rfl, p, _, rfl, table_shape hsh, _, _, rfl, rfl, ?_⟩
      refine ⟨_, rfl, _, _, rfl, rfl, _, rfl, ite2 (fun hz => ?_) fun hz => ?_⟩
      · have hz' : p = 0 := of_decide_eq_true hz
        subst hz'
        have hn0 : n = 0 := (Prod.mk.inj (Option.some.inj (show some (0, 0) = some (n, 0) from hsh))).1.symm
        subst hn0
        have hcb : c = .begin := (Option.some.inj hcf).symm
        subst hcb
        intro b2 db2 hb2 hdb2 nb2
        refine ⟨b2, db2, own', rfl, (B'.good.upd (by intro _ z; cases z)).upd (by intro _ z; cases z), upd_same, fun Lx own2 H2 B2 kp2 => ⟨rfl, ?_⟩⟩
        have kp3 : ∀ c o, H' c = some o → H2 c = some o ∧ own2 c = own' c := fun c o e => kp2 c o (by rw [upd_ne (ne_of_none e hb2), upd_ne (ne_of_none e hdb2)]; exact e) (ne_of_none e hb2)
        refine ⟨by show 1 ≤ sizeLine; rw [fits_1]; trivial, fun pa hpa0 => ?_⟩
        have hg2 : upd H2 pa (.lst [.int 0]) g = some (.lst (out.map V.int)) := by rw [upd_ne (ne_of_none (kp3 _ _ hg').1 hpa0)]; exact (kp3 _ _ hg').1
        have npg : g ≠ pa := ne_of_none (kp3 _ _ hg').1 hpa0
        have ka : ∀ o, H' a = some o → upd H2 pa (.lst [.int 0]) a = some o := fun o e => by rw [upd_ne (ne_of_none (kp3 _ _ e).1 hpa0)]; exact (kp3 _ _ e).1
        have hnext := AnsInv.next (K := K) (v4 := some (.int 0)) (v5 := some (.int ((place : Nat) + 1 + ((0 : Nat) : Int)))) (v6 := some (.ref pa)) (ans := [0]) (s := Vbfual.start) (sqL_mono hS' ka) (nag'.elim (fun ⟨x1, x2, o, x3⟩ => .inl ⟨x1, (kp3 a o x3).2.trans x2, o, ka o x3⟩) .inr) (B2.out (by intro _ z; cases z) (.inr hpa0)) hg2 ((kp3 _ _ hg').2.trans og) upd_same npg hlt (by omega) rfl hc3 hd (by rw [List.length_cons] at hbd; omega) (by decide) (e := (place : Nat) + 1 + ((0 : Nat) : Int)) hend (k := 1) rfl
        refine ⟨_, rfl, .inl ⟨rfl, _, SqL.of hg2⟩, _, rfl, pa, _, rfl, .inl (SqL.of upd_same), g, _, _, rfl, rfl, hg2, by rw [List.length_map]; exact hnext.1, ?_⟩
        refine ⟨_, rfl, .inl ⟨rfl, _, SqL.of upd_same⟩, _, rfl, g, pa, _, _, rfl, rfl, upd_same, by rw [upd_ne npg.symm]; exact upd_same, by rw [List.length_append, List.length_map]; exact hnext.2.1, ?_⟩
        exact ⟨_, rfl, hnext.2.2⟩
      · have hz' : p ≠ 0 := fun e => hz (decide_eq_true e)
        refine ⟨_, rfl, _, rfl, _, rfl, _, rfl, _, _, rfl, rfl, _, rfl, _, rfl, _, rfl, a, _, rfl, hS', fun l hl => ?_⟩
        have hcut := cut_args (ns := ns) (k := place + 1) (n := n) (by omega) hpl1 hend
        refine ⟨b', L', own', s', p, l, (ns.drop (place + 1)).take n, c, rfl, B'.out (by intro _ z; cases z) (.inr hl), upd_same.trans (congrArg (fun q => some (HO.lst q)) hcut), hcf, ⟨by omega, hp9⟩, fun Lx own2 H2 pa B2 hpa o2 fr2 => ?_⟩
        have kl : ∀ c o, H' c = some o → upd H' l (.lst (cutV (ns.map V.int) (some (((place : Nat) : Int) + 1)) (some (((place : Nat) : Int) + 1 + ((n : Nat) : Int))))) c = some o := fun c o e => by rw [upd_ne (ne_of_none e hl)]; exact e
        have hg2 := o2 g _ (kl _ _ hg') og
        have npg : g ≠ pa := fr2 g _ (kl _ _ hg') og
        have hS2 : SqL K H2 a (ns.map V.int) := nag'.elim (fun ⟨x1, x2, o, x3⟩ => sqL_mono hS' fun o' e => (o2 a o' (kl _ _ e) x2).1) fun h => h H2
        have nag2 : (a ≠ g ∧ own2 a = 0 ∧ ∃ o, H2 a = some o) ∨ ∀ H', SqL K H' a (ns.map V.int) := nag'.elim (fun ⟨x1, x2, o, x3⟩ => .inl ⟨x1, (o2 a o (kl _ _ x3) x2).2, o, (o2 a o (kl _ _ x3) x2).1⟩) .inr
        have hnext := AnsInv.next (K := K) (v4 := some (.int p)) (v5 := some (.int ((place : Nat) + 1 + ((n : Nat) : Int)))) (v6 := some (.ref pa)) hS2 nag2 B2 hg2.1 hg2.2 hpa npg hlt (by omega) rfl hc3 hd (by rw [List.length_cons] at hbd; omega) hlen (e := (place : Nat) + 1 + ((n : Nat) : Int)) hend (k := ((Vbfual.step s' c).2.map V.int).length) (List.length_map _)
        refine ⟨_, rfl, .inl ⟨rfl, _, SqL.of hg2.1⟩, _, rfl, pa, _, rfl, .inl (SqL.of hpa), g, _, _, rfl, rfl, hg2.1, by rw [List.length_map]; exact hnext.1, ?_⟩
        refine ⟨_, rfl, .inl ⟨rfl, _, SqL.of upd_same⟩, _, rfl, g, pa, _, _, rfl, rfl, upd_same, by rw [upd_ne npg.symm]; exact hpa, by rw [List.length_append, List.length_map, List.length_map]; exact hnext.2.1, ?_⟩
        exact ⟨_, rfl, hnext.2.2⟩
    · have hge : place = ns.length := by
        have : ¬ ((place : Nat) : Int) < (((ns.map V.int).length : Nat) : Int) := fun z => hlt0 (decide_eq_true z)
        rw [List.length_map] at this
        omega
      subst hge
      rw [List.drop_length] at hc'
      have hcs' : cs = [] := by
        cases f <;> exact (Option.some.inj hc').symm
      subst hcs'
      rw [due_nil, List.append_nil] at hd
      subst hd
      exact ⟨_, rfl, q H' g hg'⟩
end
end R
end
section
set_option Elab.async false
set_option linter.all false
set_option maxRecDepth 100000
set_option maxHeartbeats 2000000
namespace R
open PySem PySem.Spec PyProof.Rows L2 M
open Vbfual (Holding Fund Scheme State unitsOf gotIn holdingOf fundAt cashAt more less putHold newUnits restOf voteOf proxyOf)
structure FnF (K : PySem.W.Frag) (mg : Str → Option Value) (x : Str) (st : Stmt) (ps : List Str) : Prop where
  ex : ∃ f fd, mg x = some (.ref f) ∧ PySem.W.keepIn K (.ref f) = true ∧ Fun K x x st f fd ∧ Binds K fd ps []
theorem FnF.of {K : PySem.W.Frag} {h : Heap} {mg : Str → Option Value} (X : K.In h) (G : h.Ns mainGlobals mg) {x : Str} {st : Stmt} {ps : List Str} {f : Addr} {oc : Value} {od an : Option Addr} {osl : Array (Option Value)} {kV doc pm cdv ct : Value}
    (a : PySem.W.nsIn K mainGlobals x = some (some (.ref f))) (l : K.lookup f = some ⟨oc, od, .func (PySem.W.fnOf x x (defArgs st) (defBody st) (defScope st) .none kV doc pm an cdv ct), osl⟩) (c : PySem.W.codeIn K cdv x = true) (k : PySem.W.keepIn K (.ref f) = true)
    (hb : ∀ (kV doc pm : Value) (an : Option Addr) (cdv ct : Value) (us : List Value), us.length = ps.length → bindArgs (PySem.W.fnOf x x (defArgs st) (defBody st) (defScope st) .none kV doc pm an cdv ct) ⟨us, []⟩ = pure (ps.zip us)) : FnF K mg x st ps :=
  ⟨f, _, PySem.W.mg_of X G a, k, fun_mk l c k, (fun_mk l c k).binds hb⟩
structure ClF (K : PySem.W.Frag) (mg : Str → Option Value) (x q : Str) (st : Stmt) (C : Addr) (ps : List Str) : Prop where
  ex : ∃ f fd, mg x = some (.ref C) ∧ Mk K C f ∧ Fun K "__init__" q st f fd ∧ Binds K fd ps []
theorem cls_of {K : PySem.W.Frag} {h : Heap} {mg : Str → Option Value} (X : K.In h) (G : h.Ns mainGlobals mg) {Ch fh : Addr} {odh anh : Option Addr} {slh : Array (Option Value)} {och kVh dch pmh cdh cth : Value} {Cf ff : Addr} {odf anf : Option Addr} {slf : Array (Option Value)} {ocf kVf dcf pmf cdf ctf : Value} {Cs fs : Addr} {ods ans : Option Addr} {sls : Array (Option Value)} {ocs kVs dcs pms cds cts : Value} {Cb fb : Addr} {odb anb : Option Addr} {slb : Array (Option Value)} {ocb kVb dcb pmb cdb ctb : Value} {t_FUNDS : Tok} {t_HOLDERS_limits : Tok} {t_MOST_SCHEMES : Tok} {t_HIGHEST_SCHEME_NUMBER : Tok} {t_MOST_VALUE : Tok} {t_MOST_UNITS : Tok} {t_MOST_BOUGHT_AT_ONCE : Tok} {t_MILLION : Tok} {t_OUT_OF_RANGE : Tok} {t_NOT_THERE : Tok} {t_WRONG_STATE : Tok} {t_NOT_ALLOWED : Tok} {t_WRONG_AMOUNT : Tok} {t_NO_ROOM : Tok} {t_NOTHING_TO_RECKON_BY : Tok} {t_JOIN : Tok} {t_DIVIDE : Tok} {t_CLOSE : Tok} {t_STATE_OPEN : Tok} {t_STATE_PASSED : Tok} {t_STATE_FAILED : Tok} {t_STATE_DONE : Tok} {t_BEGIN : Tok} {t_BUY : Tok} {t_SELL : Tok} {t_TRANSFER : Tok} {t_RESULT : Tok} {t_PROPOSE : Tok} {t_VOTE : Tok} {t_PROXY : Tok} {t_COUNT : Tok} {t_EFFECT : Tok} {t_PAY : Tok} {t_LAST : Tok} {t_FUND : Tok} {t_HOLDING : Tok} {t_CASH : Tok} {t_HOLDERS_schemes : Tok} {t_SCHEME : Tok} {t_TALLY : Tok} {t_SPEAKER : Tok}
    (qah : PySem.W.nsIn K mainGlobals "Holding" = some (some (.ref Ch)))
    (qih : PySem.W.findIn K (.ref Ch) "__init__" = some (some (.ref fh)))
    (qnh : PySem.W.isFn K (.ref fh) = true)
    (qlh : K.lookup fh = some ⟨och, odh, .func (PySem.W.fnOf "__init__" "Holding.__init__" (defArgs s_Holding_init) (defBody s_Holding_init) (defScope s_Holding_init) .none kVh dch pmh anh cdh cth), slh⟩)
    (qch : PySem.W.codeIn K cdh "Holding.__init__" = true)
    (qkh : PySem.W.keepIn K (.ref fh) = true)
    (pgh : PySem.W.plainGet K Ch Str.empty = true)
    (hdh : PySem.W.hasDictIn K Ch = true)
    (poh : PySem.W.plainOver K Ch = true)
    (sah : PySem.W.findIn K (.ref Ch) "__setattr__" = some (some (.builtin "object.__setattr__")))
    (mkh : PySem.W.makesIn K Ch = true)
    (kch : PySem.W.keepIn K (.ref Ch) = true)
    (xh_units : PySem.W.findIn K (.ref Ch) "units" = some none)
    (xh_cost : PySem.W.findIn K (.ref Ch) "cost" = some none)
    (xh_paid : PySem.W.findIn K (.ref Ch) "paid" = some none)
    (qaf : PySem.W.nsIn K mainGlobals "Fund" = some (some (.ref Cf)))
    (qif : PySem.W.findIn K (.ref Cf) "__init__" = some (some (.ref ff)))
    (qnf : PySem.W.isFn K (.ref ff) = true)
    (qlf : K.lookup ff = some ⟨ocf, odf, .func (PySem.W.fnOf "__init__" "Fund.__init__" (defArgs s_Fund_init) (defBody s_Fund_init) (defScope s_Fund_init) .none kVf dcf pmf anf cdf ctf), slf⟩)
    (qcf : PySem.W.codeIn K cdf "Fund.__init__" = true)
    (qkf : PySem.W.keepIn K (.ref ff) = true)
    (pgf : PySem.W.plainGet K Cf Str.empty = true)
    (hdf : PySem.W.hasDictIn K Cf = true)
    (pof : PySem.W.plainOver K Cf = true)
    (saf : PySem.W.findIn K (.ref Cf) "__setattr__" = some (some (.builtin "object.__setattr__")))
    (mkf : PySem.W.makesIn K Cf = true)
    (kcf : PySem.W.keepIn K (.ref Cf) = true)
    (xf_value : PySem.W.findIn K (.ref Cf) "value" = some none)
    (xf_holdings : PySem.W.findIn K (.ref Cf) "holdings" = some none)
    (xf_closing : PySem.W.findIn K (.ref Cf) "closing" = some none)
    (xf_declared : PySem.W.findIn K (.ref Cf) "declared" = some none)
    (qas : PySem.W.nsIn K mainGlobals "Scheme" = some (some (.ref Cs)))
    (qis : PySem.W.findIn K (.ref Cs) "__init__" = some (some (.ref fs)))
    (qns : PySem.W.isFn K (.ref fs) = true)
    (qls : K.lookup fs = some ⟨ocs, ods, .func (PySem.W.fnOf "__init__" "Scheme.__init__" (defArgs s_Scheme_init) (defBody s_Scheme_init) (defScope s_Scheme_init) .none kVs dcs pms ans cds cts), sls⟩)
    (qcs : PySem.W.codeIn K cds "Scheme.__init__" = true)
    (qks : PySem.W.keepIn K (.ref fs) = true)
    (pgs : PySem.W.plainGet K Cs Str.empty = true)
    (hds : PySem.W.hasDictIn K Cs = true)
    (pos : PySem.W.plainOver K Cs = true)
    (sas : PySem.W.findIn K (.ref Cs) "__setattr__" = some (some (.builtin "object.__setattr__")))
    (mks : PySem.W.makesIn K Cs = true)
    (kcs : PySem.W.keepIn K (.ref Cs) = true)
    (xs_kind : PySem.W.findIn K (.ref Cs) "kind" = some none)
    (xs_fund_number : PySem.W.findIn K (.ref Cs) "fund_number" = some none)
    (xs_other_number : PySem.W.findIn K (.ref Cs) "other_number" = some none)
    (xs_part : PySem.W.findIn K (.ref Cs) "part" = some none)
    (xs_quorum : PySem.W.findIn K (.ref Cs) "quorum" = some none)
    (xs_need : PySem.W.findIn K (.ref Cs) "need" = some none)
    (xs_votes : PySem.W.findIn K (.ref Cs) "votes" = some none)
    (xs_proxies : PySem.W.findIn K (.ref Cs) "proxies" = some none)
    (xs_state : PySem.W.findIn K (.ref Cs) "state" = some none)
    (qab : PySem.W.nsIn K mainGlobals "Book" = some (some (.ref Cb)))
    (qib : PySem.W.findIn K (.ref Cb) "__init__" = some (some (.ref fb)))
    (qnb : PySem.W.isFn K (.ref fb) = true)
    (qlb : K.lookup fb = some ⟨ocb, odb, .func (PySem.W.fnOf "__init__" "Book.__init__" (defArgs s_Book_init) (defBody s_Book_init) (defScope s_Book_init) .none kVb dcb pmb anb cdb ctb), slb⟩)
    (qcb : PySem.W.codeIn K cdb "Book.__init__" = true)
    (qkb : PySem.W.keepIn K (.ref fb) = true)
    (pgb : PySem.W.plainGet K Cb Str.empty = true)
    (hdb : PySem.W.hasDictIn K Cb = true)
    (pob : PySem.W.plainOver K Cb = true)
    (sab : PySem.W.findIn K (.ref Cb) "__setattr__" = some (some (.builtin "object.__setattr__")))
    (mkb : PySem.W.makesIn K Cb = true)
    (kcb : PySem.W.keepIn K (.ref Cb) = true)
    (xb_funds : PySem.W.findIn K (.ref Cb) "funds" = some none)
    (xb_cash : PySem.W.findIn K (.ref Cb) "cash" = some none)
    (xb_schemes : PySem.W.findIn K (.ref Cb) "schemes" = some none)
    (v_FUNDS : PySem.W.nsIn K mainGlobals "FUNDS" = some (some (.int 6 t_FUNDS)))
    (v_HOLDERS_limits : PySem.W.nsIn K mainGlobals "HOLDERS_limits" = some (some (.int 20 t_HOLDERS_limits)))
    (v_MOST_SCHEMES : PySem.W.nsIn K mainGlobals "MOST_SCHEMES" = some (some (.int 20 t_MOST_SCHEMES)))
    (v_HIGHEST_SCHEME_NUMBER : PySem.W.nsIn K mainGlobals "HIGHEST_SCHEME_NUMBER" = some (some (.int 1000000 t_HIGHEST_SCHEME_NUMBER)))
    (v_MOST_VALUE : PySem.W.nsIn K mainGlobals "MOST_VALUE" = some (some (.int 1000000000000 t_MOST_VALUE)))
    (v_MOST_UNITS : PySem.W.nsIn K mainGlobals "MOST_UNITS" = some (some (.int 1000000000000000000 t_MOST_UNITS)))
    (v_MOST_BOUGHT_AT_ONCE : PySem.W.nsIn K mainGlobals "MOST_BOUGHT_AT_ONCE" = some (some (.int 1000000000 t_MOST_BOUGHT_AT_ONCE)))
    (v_MILLION : PySem.W.nsIn K mainGlobals "MILLION" = some (some (.int 1000000 t_MILLION)))
    (v_OUT_OF_RANGE : PySem.W.nsIn K mainGlobals "OUT_OF_RANGE" = some (some (.int (-1) t_OUT_OF_RANGE)))
    (v_NOT_THERE : PySem.W.nsIn K mainGlobals "NOT_THERE" = some (some (.int (-4) t_NOT_THERE)))
    (v_WRONG_STATE : PySem.W.nsIn K mainGlobals "WRONG_STATE" = some (some (.int (-5) t_WRONG_STATE)))
    (v_NOT_ALLOWED : PySem.W.nsIn K mainGlobals "NOT_ALLOWED" = some (some (.int (-6) t_NOT_ALLOWED)))
    (v_WRONG_AMOUNT : PySem.W.nsIn K mainGlobals "WRONG_AMOUNT" = some (some (.int (-7) t_WRONG_AMOUNT)))
    (v_NO_ROOM : PySem.W.nsIn K mainGlobals "NO_ROOM" = some (some (.int (-8) t_NO_ROOM)))
    (v_NOTHING_TO_RECKON_BY : PySem.W.nsIn K mainGlobals "NOTHING_TO_RECKON_BY" = some (some (.int (-9) t_NOTHING_TO_RECKON_BY)))
    (v_JOIN : PySem.W.nsIn K mainGlobals "JOIN" = some (some (.int 1 t_JOIN)))
    (v_DIVIDE : PySem.W.nsIn K mainGlobals "DIVIDE" = some (some (.int 2 t_DIVIDE)))
    (v_CLOSE : PySem.W.nsIn K mainGlobals "CLOSE" = some (some (.int 3 t_CLOSE)))
    (v_STATE_OPEN : PySem.W.nsIn K mainGlobals "STATE_OPEN" = some (some (.int 0 t_STATE_OPEN)))
    (v_STATE_PASSED : PySem.W.nsIn K mainGlobals "STATE_PASSED" = some (some (.int 1 t_STATE_PASSED)))
    (v_STATE_FAILED : PySem.W.nsIn K mainGlobals "STATE_FAILED" = some (some (.int 2 t_STATE_FAILED)))
    (v_STATE_DONE : PySem.W.nsIn K mainGlobals "STATE_DONE" = some (some (.int 3 t_STATE_DONE)))
    (v_BEGIN : PySem.W.nsIn K mainGlobals "BEGIN" = some (some (.int 0 t_BEGIN)))
    (v_BUY : PySem.W.nsIn K mainGlobals "BUY" = some (some (.int 1 t_BUY)))
    (v_SELL : PySem.W.nsIn K mainGlobals "SELL" = some (some (.int 2 t_SELL)))
    (v_TRANSFER : PySem.W.nsIn K mainGlobals "TRANSFER" = some (some (.int 3 t_TRANSFER)))
    (v_RESULT : PySem.W.nsIn K mainGlobals "RESULT" = some (some (.int 4 t_RESULT)))
    (v_PROPOSE : PySem.W.nsIn K mainGlobals "PROPOSE" = some (some (.int 5 t_PROPOSE)))
    (v_VOTE : PySem.W.nsIn K mainGlobals "VOTE" = some (some (.int 6 t_VOTE)))
    (v_PROXY : PySem.W.nsIn K mainGlobals "PROXY" = some (some (.int 7 t_PROXY)))
    (v_COUNT : PySem.W.nsIn K mainGlobals "COUNT" = some (some (.int 8 t_COUNT)))
    (v_EFFECT : PySem.W.nsIn K mainGlobals "EFFECT" = some (some (.int 9 t_EFFECT)))
    (v_PAY : PySem.W.nsIn K mainGlobals "PAY" = some (some (.int 10 t_PAY)))
    (v_LAST : PySem.W.nsIn K mainGlobals "LAST" = some (some (.int 11 t_LAST)))
    (v_FUND : PySem.W.nsIn K mainGlobals "FUND" = some (some (.int 12 t_FUND)))
    (v_HOLDING : PySem.W.nsIn K mainGlobals "HOLDING" = some (some (.int 13 t_HOLDING)))
    (v_CASH : PySem.W.nsIn K mainGlobals "CASH" = some (some (.int 14 t_CASH)))
    (v_HOLDERS_schemes : PySem.W.nsIn K mainGlobals "HOLDERS_schemes" = some (some (.int 15 t_HOLDERS_schemes)))
    (v_SCHEME : PySem.W.nsIn K mainGlobals "SCHEME" = some (some (.int 16 t_SCHEME)))
    (v_TALLY : PySem.W.nsIn K mainGlobals "TALLY" = some (some (.int 17 t_TALLY)))
    (v_SPEAKER : PySem.W.nsIn K mainGlobals "SPEAKER" = some (some (.int 18 t_SPEAKER)))
    (d_HOW_MANY_NUMBERS : ∃ a, mg "HOW_MANY_NUMBERS" = some (.ref a) ∧ GD K a [(0, 0), (1, 3), (2, 3), (3, 4), (4, 2), (5, 6), (6, 3), (7, 3), (8, 1), (9, 1), (10, 2), (11, 1), (12, 1), (13, 2), (14, 1), (15, 1), (16, 1), (17, 1), (18, 2), (19, 3)])
    (b_len : PySem.W.nsIn K mainGlobals "len" = some none)
    (b_sum : PySem.W.nsIn K mainGlobals "sum" = some none)
    (b_max : PySem.W.nsIn K mainGlobals "max" = some none)
    (b_sorted : PySem.W.nsIn K mainGlobals "sorted" = some none)
    (b_range : PySem.W.nsIn K mainGlobals "range" = some none)
    (b_list : PySem.W.nsIn K mainGlobals "list" = some none) :
    Txt K mg ⟨Ch, Cf, Cs, Cb⟩ ∧ ClF K mg "Holding" "Holding.__init__" s_Holding_init Ch ["self"] ∧ ClF K mg "Fund" "Fund.__init__" s_Fund_init Cf ["self"] ∧ ClF K mg "Scheme" "Scheme.__init__" s_Scheme_init Cs ["self", "kind", "fund_number", "other_number", "part", "quorum", "need"] ∧ ClF K mg "Book" "Book.__init__" s_Book_init Cb ["self"] := by
  have Fh := fun_mk (st := s_Holding_init) qlh qch qkh
  have Ff := fun_mk (st := s_Fund_init) qlf qcf qkf
  have Fs := fun_mk (st := s_Scheme_init) qls qcs qks
  have Fb := fun_mk (st := s_Book_init) qlb qcb qkb
  refine ⟨⟨⟨_, PySem.W.mg_of X G v_FUNDS⟩, ⟨_, PySem.W.mg_of X G v_HOLDERS_limits⟩, ⟨_, PySem.W.mg_of X G v_MOST_SCHEMES⟩, ⟨_, PySem.W.mg_of X G v_HIGHEST_SCHEME_NUMBER⟩, ⟨_, PySem.W.mg_of X G v_MOST_VALUE⟩, ⟨_, PySem.W.mg_of X G v_MOST_UNITS⟩, ⟨_, PySem.W.mg_of X G v_MOST_BOUGHT_AT_ONCE⟩, ⟨_, PySem.W.mg_of X G v_MILLION⟩, ⟨_, PySem.W.mg_of X G v_OUT_OF_RANGE⟩, ⟨_, PySem.W.mg_of X G v_NOT_THERE⟩, ⟨_, PySem.W.mg_of X G v_WRONG_STATE⟩, ⟨_, PySem.W.mg_of X G v_NOT_ALLOWED⟩, ⟨_, PySem.W.mg_of X G v_WRONG_AMOUNT⟩, ⟨_, PySem.W.mg_of X G v_NO_ROOM⟩, ⟨_, PySem.W.mg_of X G v_NOTHING_TO_RECKON_BY⟩, ⟨_, PySem.W.mg_of X G v_JOIN⟩, ⟨_, PySem.W.mg_of X G v_DIVIDE⟩, ⟨_, PySem.W.mg_of X G v_CLOSE⟩, ⟨_, PySem.W.mg_of X G v_STATE_OPEN⟩, ⟨_, PySem.W.mg_of X G v_STATE_PASSED⟩, ⟨_, PySem.W.mg_of X G v_STATE_FAILED⟩, ⟨_, PySem.W.mg_of X G v_STATE_DONE⟩, ⟨pgh, hdh, poh, sah⟩, xh_units, xh_cost, xh_paid, ⟨pgf, hdf, pof, saf⟩, xf_value, xf_holdings, xf_closing, xf_declared, ⟨pgs, hds, pos, sas⟩, xs_kind, xs_fund_number, xs_other_number, xs_part, xs_quorum, xs_need, xs_votes, xs_proxies, xs_state, ⟨pgb, hdb, pob, sab⟩, xb_funds, xb_cash, xb_schemes, ⟨_, PySem.W.mg_of X G v_BEGIN⟩, ⟨_, PySem.W.mg_of X G v_BUY⟩, ⟨_, PySem.W.mg_of X G v_SELL⟩, ⟨_, PySem.W.mg_of X G v_TRANSFER⟩, ⟨_, PySem.W.mg_of X G v_RESULT⟩, ⟨_, PySem.W.mg_of X G v_PROPOSE⟩, ⟨_, PySem.W.mg_of X G v_VOTE⟩, ⟨_, PySem.W.mg_of X G v_PROXY⟩, ⟨_, PySem.W.mg_of X G v_COUNT⟩, ⟨_, PySem.W.mg_of X G v_EFFECT⟩, ⟨_, PySem.W.mg_of X G v_PAY⟩, ⟨_, PySem.W.mg_of X G v_LAST⟩, ⟨_, PySem.W.mg_of X G v_FUND⟩, ⟨_, PySem.W.mg_of X G v_HOLDING⟩, ⟨_, PySem.W.mg_of X G v_CASH⟩, ⟨_, PySem.W.mg_of X G v_HOLDERS_schemes⟩, ⟨_, PySem.W.mg_of X G v_SCHEME⟩, ⟨_, PySem.W.mg_of X G v_TALLY⟩, ⟨_, PySem.W.mg_of X G v_SPEAKER⟩, d_HOW_MANY_NUMBERS, PySem.W.mg_none_of X G b_len, PySem.W.mg_none_of X G b_sum, PySem.W.mg_none_of X G b_max, PySem.W.mg_none_of X G b_sorted, PySem.W.mg_none_of X G b_range, PySem.W.mg_none_of X G b_list⟩, ?_, ?_, ?_, ?_⟩
  · exact ⟨fh, _, PySem.W.mg_of X G qah, ⟨mkh, qih, qnh, kch⟩, Fh, Fh.binds fun _ _ _ _ _ _ us hl => match us, hl with | [_], _ => rfl⟩
  · exact ⟨ff, _, PySem.W.mg_of X G qaf, ⟨mkf, qif, qnf, kcf⟩, Ff, Ff.binds fun _ _ _ _ _ _ us hl => match us, hl with | [_], _ => rfl⟩
  · exact ⟨fs, _, PySem.W.mg_of X G qas, ⟨mks, qis, qns, kcs⟩, Fs, Fs.binds fun _ _ _ _ _ _ us hl => match us, hl with | [_, _, _, _, _, _, _], _ => rfl⟩
  · exact ⟨fb, _, PySem.W.mg_of X G qab, ⟨mkb, qib, qnb, kcb⟩, Fb, Fb.binds fun _ _ _ _ _ _ us hl => match us, hl with | [_], _ => rfl⟩
def gdChk (es : Array DictEntry) (kvs : List (Int × Int)) : Bool := es.toList.length == kvs.length && (es.toList.zip kvs).all fun q => match q.1.key, q.1.val with
  | .int k _, .int v _ => k == q.2.1 && v == q.2.2 && q.1.hash == hashInt k
  | _, _ => false
theorem gd_paired : ∀ {es : List DictEntry} {kvs : List (Int × Int)}, es.length = kvs.length → ((es.zip kvs).all fun q => match q.1.key, q.1.val with
  | .int k _, .int v _ => k == q.2.1 && v == q.2.2 && q.1.hash == hashInt k
  | _, _ => false) = true → Paired GdE es kvs
  | [], [], _, _ => .nil
  | [], _ :: _, h, _ => by simp at h
  | _ :: _, [], h, _ => by simp at h
  | e :: es, p :: kvs, h, c => by
    rw [List.zip_cons_cons, List.all_cons, Bool.and_eq_true] at c
    refine .cons ?_ (gd_paired (by simpa using h) c.2)
    have c1 := c.1
    dsimp only at c1
    split at c1
    · next k t v t' e1 e2 =>
      rw [Bool.and_eq_true, Bool.and_eq_true] at c1
      have h1 : k = p.1 := eq_of_beq c1.1.1
      have h2 : v = p.2 := eq_of_beq c1.1.2
      have h3 : e.hash = hashInt k := eq_of_beq c1.2
      exact ⟨⟨t, by rw [e1, h1]⟩, ⟨t', by rw [e2, h2]⟩, by rw [h3, h1]⟩
    · cases c1
theorem gd_of {K : PySem.W.Frag} {h : Heap} {mg : Str → Option Value} (X : K.In h) (G : h.Ns mainGlobals mg) {x : Str} {a : Addr} {es : Array DictEntry} {ep : Nat} {kvs : List (Int × Int)} (h1 : PySem.W.nsIn K mainGlobals x = some (some (.ref a))) (h2 : K.lookup a = some ⟨.type "dict", none, .dict es ep, #[]⟩) (h3 : gdChk es kvs = true) :
    ∃ a, mg x = some (.ref a) ∧ GD K a kvs := by
  unfold gdChk at h3
  rw [Bool.and_eq_true] at h3
  exact ⟨a, PySem.W.mg_of X G h1, ⟨_, es, ep, h2, ⟨rfl, rfl, rfl⟩, rfl, gd_paired (eq_of_beq h3.1) h3.2⟩⟩
theorem all_ok {K : PySem.W.Frag} {mg : Str → Option Value} {C : Cs} (T : Txt K mg C)
    (k_Holding : ClF K mg "Holding" "Holding.__init__" s_Holding_init C.h ["self"])
    (k_Fund : ClF K mg "Fund" "Fund.__init__" s_Fund_init C.f ["self"])
    (k_Scheme : ClF K mg "Scheme" "Scheme.__init__" s_Scheme_init C.s ["self", "kind", "fund_number", "other_number", "part", "quorum", "need"])
    (k_Book : ClF K mg "Book" "Book.__init__" s_Book_init C.b ["self"])
    (h_within : FnF K mg "within" s_within ["number", "lowest", "highest"])
    (h_is_fund : FnF K mg "is_fund" s_is_fund ["number"])
    (h_is_holder : FnF K mg "is_holder" s_is_holder ["number"])
    (h_is_amount_of_units : FnF K mg "is_amount_of_units" s_is_amount_of_units ["number"])
    (h_is_millionths : FnF K mg "is_millionths" s_is_millionths ["number"])
    (h_all_units : FnF K mg "all_units" s_all_units ["fund"])
    (h_all_paid : FnF K mg "all_paid" s_all_paid ["fund"])
    (h_is_worthless : FnF K mg "is_worthless" s_is_worthless ["fund"])
    (h_units_of : FnF K mg "units_of" s_units_of ["fund", "holder"])
    (h_add_to_holding : FnF K mg "add_to_holding" s_add_to_holding ["fund", "holder", "units", "cost"])
    (h_take_from_holding : FnF K mg "take_from_holding" s_take_from_holding ["fund", "holder", "units"])
    (h_fits_kind : FnF K mg "fits_kind" s_fits_kind ["kind", "a", "b"])
    (h_propose : FnF K mg "propose" s_propose ["book", "kind", "a", "b", "part", "quorum", "need"])
    (h_refusal_of_number : FnF K mg "refusal_of_number" s_refusal_of_number ["book", "n"])
    (h_refusal_of_state : FnF K mg "refusal_of_state" s_refusal_of_state ["book", "n", "state"])
    (h_vote : FnF K mg "vote" s_vote ["book", "n", "h", "pro"])
    (h_proxy : FnF K mg "proxy" s_proxy ["book", "n", "h", "g"])
    (h_speaker_for : FnF K mg "speaker_for" s_speaker_for ["scheme", "h"])
    (h_tally_of : FnF K mg "tally_of" s_tally_of ["scheme", "fund"])
    (h_count_votes : FnF K mg "count_votes" s_count_votes ["book", "n"])
    (h_brought_by : FnF K mg "brought_by" s_brought_by ["units", "fund", "other"])
    (h_brought_to_all : FnF K mg "brought_to_all" s_brought_to_all ["fund", "other"])
    (h_hand_out : FnF K mg "hand_out" s_hand_out ["book", "fund", "other", "brought"])
    (h_join_into : FnF K mg "join_into" s_join_into ["book", "fund", "other"])
    (h_divide_into : FnF K mg "divide_into" s_divide_into ["fund", "other", "part"])
    (h_set_closing : FnF K mg "set_closing" s_set_closing ["fund"])
    (h_carry_out : FnF K mg "carry_out" s_carry_out ["book", "scheme"])
    (h_take_effect : FnF K mg "take_effect" s_take_effect ["book", "n"])
    (h_tell_fund : FnF K mg "tell_fund" s_tell_fund ["book", "f"])
    (h_tell_holding : FnF K mg "tell_holding" s_tell_holding ["book", "f", "h"])
    (h_tell_cash : FnF K mg "tell_cash" s_tell_cash ["book", "h"])
    (h_tell_holders : FnF K mg "tell_holders" s_tell_holders ["book", "f"])
    (h_tell_scheme : FnF K mg "tell_scheme" s_tell_scheme ["book", "n"])
    (h_tell_tally : FnF K mg "tell_tally" s_tell_tally ["book", "n"])
    (h_tell_speaker : FnF K mg "tell_speaker" s_tell_speaker ["book", "n", "h"])
    (h_tell_offer : FnF K mg "tell_offer" s_tell_offer ["book", "a", "b", "h"])
    (h_shares_rounded_down : FnF K mg "shares_rounded_down" s_shares_rounded_down ["fund", "coins"])
    (h_holders_by_remainder : FnF K mg "holders_by_remainder" s_holders_by_remainder ["fund", "coins"])
    (h_shares_of_all : FnF K mg "shares_of_all" s_shares_of_all ["fund", "coins"])
    (h_pay_up_to : FnF K mg "pay_up_to" s_pay_up_to ["book", "fund", "shares"])
    (h_pay : FnF K mg "pay" s_pay ["book", "f", "m"])
    (h_pay_last : FnF K mg "pay_last" s_pay_last ["book", "f"])
    (h_units_for_money : FnF K mg "units_for_money" s_units_for_money ["fund", "money"])
    (h_buy : FnF K mg "buy" s_buy ["book", "f", "h", "m"])
    (h_refusal_to_part : FnF K mg "refusal_to_part" s_refusal_to_part ["fund", "h", "u"])
    (h_sell : FnF K mg "sell" s_sell ["book", "f", "h", "u"])
    (h_transfer : FnF K mg "transfer" s_transfer ["book", "f", "h", "g", "u"])
    (h_result : FnF K mg "result" s_result ["book", "f", "d"])
    (h_answer_in_trading : FnF K mg "answer_in_trading" s_answer_in_trading ["book", "call", "n"])
    (h_answer_on_schemes : FnF K mg "answer_on_schemes" s_answer_on_schemes ["book", "call", "n"])
    (h_answer_in_closing : FnF K mg "answer_in_closing" s_answer_in_closing ["book", "call", "n"])
    (h_answer_about_funds : FnF K mg "answer_about_funds" s_answer_about_funds ["book", "call", "n"])
    (h_answer_about_schemes : FnF K mg "answer_about_schemes" s_answer_about_schemes ["book", "call", "n"])
    (h_answer_of : FnF K mg "answer_of" s_answer_of ["book", "call", "numbers"])
    (h_answers : FnF K mg "answers" s_answers ["calls"]) {P : Program} {w : World} {fa : Addr} (hfa : mg "answers" = some (.ref fa)) :
    ∃ fd : FuncData, (∀ (s : Shared) (us : List Value), us.length = (["calls"] : List Str).length → BindsTo s fd ⟨us, []⟩ ((["calls"] : List Str).zip us)) ∧ ∀ base : Heap, K.In base → base.Ns mainGlobals mg → FnOk P w K mg base CX0 10 fa fd ["calls"] (spAns K) := by
  obtain ⟨f_within, fd_within, m_within, k_within, F_within, b_within⟩ := h_within.ex
  obtain ⟨f_is_fund, fd_is_fund, m_is_fund, k_is_fund, F_is_fund, b_is_fund⟩ := h_is_fund.ex
  obtain ⟨f_is_holder, fd_is_holder, m_is_holder, k_is_holder, F_is_holder, b_is_holder⟩ := h_is_holder.ex
  obtain ⟨f_is_amount_of_units, fd_is_amount_of_units, m_is_amount_of_units, k_is_amount_of_units, F_is_amount_of_units, b_is_amount_of_units⟩ := h_is_amount_of_units.ex
  obtain ⟨f_is_millionths, fd_is_millionths, m_is_millionths, k_is_millionths, F_is_millionths, b_is_millionths⟩ := h_is_millionths.ex
  obtain ⟨f_all_units, fd_all_units, m_all_units, k_all_units, F_all_units, b_all_units⟩ := h_all_units.ex
  obtain ⟨f_all_paid, fd_all_paid, m_all_paid, k_all_paid, F_all_paid, b_all_paid⟩ := h_all_paid.ex
  obtain ⟨f_is_worthless, fd_is_worthless, m_is_worthless, k_is_worthless, F_is_worthless, b_is_worthless⟩ := h_is_worthless.ex
  obtain ⟨f_units_of, fd_units_of, m_units_of, k_units_of, F_units_of, b_units_of⟩ := h_units_of.ex
  obtain ⟨f_add_to_holding, fd_add_to_holding, m_add_to_holding, k_add_to_holding, F_add_to_holding, b_add_to_holding⟩ := h_add_to_holding.ex
  obtain ⟨f_take_from_holding, fd_take_from_holding, m_take_from_holding, k_take_from_holding, F_take_from_holding, b_take_from_holding⟩ := h_take_from_holding.ex
  obtain ⟨f_fits_kind, fd_fits_kind, m_fits_kind, k_fits_kind, F_fits_kind, b_fits_kind⟩ := h_fits_kind.ex
  obtain ⟨f_propose, fd_propose, m_propose, k_propose, F_propose, b_propose⟩ := h_propose.ex
  obtain ⟨f_refusal_of_number, fd_refusal_of_number, m_refusal_of_number, k_refusal_of_number, F_refusal_of_number, b_refusal_of_number⟩ := h_refusal_of_number.ex
  obtain ⟨f_refusal_of_state, fd_refusal_of_state, m_refusal_of_state, k_refusal_of_state, F_refusal_of_state, b_refusal_of_state⟩ := h_refusal_of_state.ex
  obtain ⟨f_vote, fd_vote, m_vote, k_vote, F_vote, b_vote⟩ := h_vote.ex
  obtain ⟨f_proxy, fd_proxy, m_proxy, k_proxy, F_proxy, b_proxy⟩ := h_proxy.ex
  obtain ⟨f_speaker_for, fd_speaker_for, m_speaker_for, k_speaker_for, F_speaker_for, b_speaker_for⟩ := h_speaker_for.ex
  obtain ⟨f_tally_of, fd_tally_of, m_tally_of, k_tally_of, F_tally_of, b_tally_of⟩ := h_tally_of.ex
  obtain ⟨f_count_votes, fd_count_votes, m_count_votes, k_count_votes, F_count_votes, b_count_votes⟩ := h_count_votes.ex
  obtain ⟨f_brought_by, fd_brought_by, m_brought_by, k_brought_by, F_brought_by, b_brought_by⟩ := h_brought_by.ex
  obtain ⟨f_brought_to_all, fd_brought_to_all, m_brought_to_all, k_brought_to_all, F_brought_to_all, b_brought_to_all⟩ := h_brought_to_all.ex
  obtain ⟨f_hand_out, fd_hand_out, m_hand_out, k_hand_out, F_hand_out, b_hand_out⟩ := h_hand_out.ex
  obtain ⟨f_join_into, fd_join_into, m_join_into, k_join_into, F_join_into, b_join_into⟩ := h_join_into.ex
  obtain ⟨f_divide_into, fd_divide_into, m_divide_into, k_divide_into, F_divide_into, b_divide_into⟩ := h_divide_into.ex
  obtain ⟨f_set_closing, fd_set_closing, m_set_closing, k_set_closing, F_set_closing, b_set_closing⟩ := h_set_closing.ex
  obtain ⟨f_carry_out, fd_carry_out, m_carry_out, k_carry_out, F_carry_out, b_carry_out⟩ := h_carry_out.ex
  obtain ⟨f_take_effect, fd_take_effect, m_take_effect, k_take_effect, F_take_effect, b_take_effect⟩ := h_take_effect.ex
  obtain ⟨f_tell_fund, fd_tell_fund, m_tell_fund, k_tell_fund, F_tell_fund, b_tell_fund⟩ := h_tell_fund.ex
  obtain ⟨f_tell_holding, fd_tell_holding, m_tell_holding, k_tell_holding, F_tell_holding, b_tell_holding⟩ := h_tell_holding.ex
  obtain ⟨f_tell_cash, fd_tell_cash, m_tell_cash, k_tell_cash, F_tell_cash, b_tell_cash⟩ := h_tell_cash.ex
  obtain ⟨f_tell_holders, fd_tell_holders, m_tell_holders, k_tell_holders, F_tell_holders, b_tell_holders⟩ := h_tell_holders.ex
  obtain ⟨f_tell_scheme, fd_tell_scheme, m_tell_scheme, k_tell_scheme, F_tell_scheme, b_tell_scheme⟩ := h_tell_scheme.ex
  obtain ⟨f_tell_tally, fd_tell_tally, m_tell_tally, k_tell_tally, F_tell_tally, b_tell_tally⟩ := h_tell_tally.ex
  obtain ⟨f_tell_speaker, fd_tell_speaker, m_tell_speaker, k_tell_speaker, F_tell_speaker, b_tell_speaker⟩ := h_tell_speaker.ex
  obtain ⟨f_tell_offer, fd_tell_offer, m_tell_offer, k_tell_offer, F_tell_offer, b_tell_offer⟩ := h_tell_offer.ex
  obtain ⟨f_shares_rounded_down, fd_shares_rounded_down, m_shares_rounded_down, k_shares_rounded_down, F_shares_rounded_down, b_shares_rounded_down⟩ := h_shares_rounded_down.ex
  obtain ⟨f_holders_by_remainder, fd_holders_by_remainder, m_holders_by_remainder, k_holders_by_remainder, F_holders_by_remainder, b_holders_by_remainder⟩ := h_holders_by_remainder.ex
  obtain ⟨f_shares_of_all, fd_shares_of_all, m_shares_of_all, k_shares_of_all, F_shares_of_all, b_shares_of_all⟩ := h_shares_of_all.ex
  obtain ⟨f_pay_up_to, fd_pay_up_to, m_pay_up_to, k_pay_up_to, F_pay_up_to, b_pay_up_to⟩ := h_pay_up_to.ex
  obtain ⟨f_pay, fd_pay, m_pay, k_pay, F_pay, b_pay⟩ := h_pay.ex
  obtain ⟨f_pay_last, fd_pay_last, m_pay_last, k_pay_last, F_pay_last, b_pay_last⟩ := h_pay_last.ex
  obtain ⟨f_units_for_money, fd_units_for_money, m_units_for_money, k_units_for_money, F_units_for_money, b_units_for_money⟩ := h_units_for_money.ex
  obtain ⟨f_buy, fd_buy, m_buy, k_buy, F_buy, b_buy⟩ := h_buy.ex
  obtain ⟨f_refusal_to_part, fd_refusal_to_part, m_refusal_to_part, k_refusal_to_part, F_refusal_to_part, b_refusal_to_part⟩ := h_refusal_to_part.ex
  obtain ⟨f_sell, fd_sell, m_sell, k_sell, F_sell, b_sell⟩ := h_sell.ex
  obtain ⟨f_transfer, fd_transfer, m_transfer, k_transfer, F_transfer, b_transfer⟩ := h_transfer.ex
  obtain ⟨f_result, fd_result, m_result, k_result, F_result, b_result⟩ := h_result.ex
  obtain ⟨f_answer_in_trading, fd_answer_in_trading, m_answer_in_trading, k_answer_in_trading, F_answer_in_trading, b_answer_in_trading⟩ := h_answer_in_trading.ex
  obtain ⟨f_answer_on_schemes, fd_answer_on_schemes, m_answer_on_schemes, k_answer_on_schemes, F_answer_on_schemes, b_answer_on_schemes⟩ := h_answer_on_schemes.ex
  obtain ⟨f_answer_in_closing, fd_answer_in_closing, m_answer_in_closing, k_answer_in_closing, F_answer_in_closing, b_answer_in_closing⟩ := h_answer_in_closing.ex
  obtain ⟨f_answer_about_funds, fd_answer_about_funds, m_answer_about_funds, k_answer_about_funds, F_answer_about_funds, b_answer_about_funds⟩ := h_answer_about_funds.ex
  obtain ⟨f_answer_about_schemes, fd_answer_about_schemes, m_answer_about_schemes, k_answer_about_schemes, F_answer_about_schemes, b_answer_about_schemes⟩ := h_answer_about_schemes.ex
  obtain ⟨f_answer_of, fd_answer_of, m_answer_of, k_answer_of, F_answer_of, b_answer_of⟩ := h_answer_of.ex
  obtain ⟨f_Holding, fd_Holding, m_Holding, M_Holding, F_Holding, b_Holding⟩ := k_Holding.ex
  obtain ⟨f_Fund, fd_Fund, m_Fund, M_Fund, F_Fund, b_Fund⟩ := k_Fund.ex
  obtain ⟨f_Scheme, fd_Scheme, m_Scheme, M_Scheme, F_Scheme, b_Scheme⟩ := k_Scheme.ex
  obtain ⟨f_Book, fd_Book, m_Book, M_Book, F_Book, b_Book⟩ := k_Book.ex
  obtain ⟨f_a, fd_a, m_a, k_a, F_a, b_a⟩ := h_answers.ex
  obtain rfl : f_a = fa := by rw [m_a] at hfa; injection hfa with h; injection h
  refine ⟨fd_a, ?_, fun base _ _ => ?_⟩
  · obtain ⟨oc, od, kV, doc, pm, an, cdv, ct, osl, rfl, lk, hcd⟩ := F_a.ex
    exact fun s us hu => match us, hu with | [_], _ => .of_eq rfl
  have O_within : Ok P w K mg base 1 "within" ["number", "lowest", "highest"] spWithin := ⟨f_within, fd_within, m_within, k_within, b_within, ok_within F_within T⟩
  have O_is_fund : Ok P w K mg base 2 "is_fund" ["number"] (spB1 Vbfual.isFund) := ⟨f_is_fund, fd_is_fund, m_is_fund, k_is_fund, b_is_fund, ok_is_fund F_is_fund T O_within⟩
  have O_is_holder : Ok P w K mg base 2 "is_holder" ["number"] (spB1 Vbfual.isHolder) := ⟨f_is_holder, fd_is_holder, m_is_holder, k_is_holder, b_is_holder, ok_is_holder F_is_holder T O_within⟩
  have O_is_amount_of_units : Ok P w K mg base 2 "is_amount_of_units" ["number"] (spB1 fun n => Vbfual.inside n 1 (10 ^ 18)) := ⟨f_is_amount_of_units, fd_is_amount_of_units, m_is_amount_of_units, k_is_amount_of_units, b_is_amount_of_units, ok_is_amount_of_units F_is_amount_of_units T O_within⟩
  have O_is_millionths : Ok P w K mg base 2 "is_millionths" ["number"] (spB1 fun n => Vbfual.inside n 0 1000000) := ⟨f_is_millionths, fd_is_millionths, m_is_millionths, k_is_millionths, b_is_millionths, ok_is_millionths F_is_millionths T O_within⟩
  have O_Holding : OkC P w K mg base 1 "Holding" C.h ["self"] (spHolding C) := ⟨f_Holding, fd_Holding, m_Holding, M_Holding, b_Holding, ok_Holding_init F_Holding T⟩
  have O_Fund : OkC P w K mg base 1 "Fund" C.f ["self"] (spFund C) := ⟨f_Fund, fd_Fund, m_Fund, M_Fund, b_Fund, ok_Fund_init F_Fund T⟩
  have O_all_units : Ok P w K mg base 1 "all_units" ["fund"] (spSum C unitsOf) := ⟨f_all_units, fd_all_units, m_all_units, k_all_units, b_all_units, okp_all_units F_all_units T⟩
  have O_all_paid : Ok P w K mg base 1 "all_paid" ["fund"] (spSum C gotIn) := ⟨f_all_paid, fd_all_paid, m_all_paid, k_all_paid, b_all_paid, okp_all_paid F_all_paid T⟩
  have O_units_of : Ok P w K mg base 1 "units_of" ["fund", "holder"] (spUnitsOf C) := ⟨f_units_of, fd_units_of, m_units_of, k_units_of, b_units_of, ok_units_of F_units_of T⟩
  have O_is_worthless : Ok P w K mg base 2 "is_worthless" ["fund"] (spWorth C) := ⟨f_is_worthless, fd_is_worthless, m_is_worthless, k_is_worthless, b_is_worthless, ok_is_worthless F_is_worthless T O_all_units⟩
  have O_add_to_holding : Ok P w K mg base 3 "add_to_holding" ["fund", "holder", "units", "cost"] (spAdd C) := ⟨f_add_to_holding, fd_add_to_holding, m_add_to_holding, k_add_to_holding, b_add_to_holding, ok_add_to_holding F_add_to_holding T O_Holding⟩
  have O_take_from_holding : Ok P w K mg base 1 "take_from_holding" ["fund", "holder", "units"] (spTake C) := ⟨f_take_from_holding, fd_take_from_holding, m_take_from_holding, k_take_from_holding, b_take_from_holding, ok_take_from_holding F_take_from_holding T⟩
  have O_units_for_money : Ok P w K mg base 2 "units_for_money" ["fund", "money"] (spUM C) := ⟨f_units_for_money, fd_units_for_money, m_units_for_money, k_units_for_money, b_units_for_money, ok_units_for_money F_units_for_money T O_all_units⟩
  have O_buy : Ok P w K mg base 4 "buy" ["book", "f", "h", "m"] (spBuy C) := ⟨f_buy, fd_buy, m_buy, k_buy, b_buy, ok_buy F_buy T O_is_worthless O_units_for_money O_add_to_holding O_is_fund O_is_holder O_within O_all_units⟩
  have O_refusal_to_part : Ok P w K mg base 2 "refusal_to_part" ["fund", "h", "u"] (spRP C) := ⟨f_refusal_to_part, fd_refusal_to_part, m_refusal_to_part, k_refusal_to_part, b_refusal_to_part, ok_refusal_to_part F_refusal_to_part T O_units_of⟩
  have O_sell : Ok P w K mg base 3 "sell" ["book", "f", "h", "u"] (spSell C) := ⟨f_sell, fd_sell, m_sell, k_sell, b_sell, ok_sell F_sell T O_refusal_to_part O_take_from_holding O_all_units O_is_fund O_is_holder O_is_amount_of_units⟩
  have O_transfer : Ok P w K mg base 4 "transfer" ["book", "f", "h", "g", "u"] (spTransfer C) := ⟨f_transfer, fd_transfer, m_transfer, k_transfer, b_transfer, ok_transfer F_transfer T O_refusal_to_part O_take_from_holding O_add_to_holding O_is_fund O_is_holder O_is_amount_of_units⟩
  have O_result : Ok P w K mg base 3 "result" ["book", "f", "d"] (spResult C) := ⟨f_result, fd_result, m_result, k_result, b_result, ok_result F_result T O_all_units O_is_fund O_within O_all_paid⟩
  have O_Scheme : OkC P w K mg base 1 "Scheme" C.s ["self", "kind", "fund_number", "other_number", "part", "quorum", "need"] (spScheme C) := ⟨f_Scheme, fd_Scheme, m_Scheme, M_Scheme, b_Scheme, ok_Scheme_init F_Scheme T⟩
  have O_fits_kind : Ok P w K mg base 1 "fits_kind" ["kind", "a", "b"] spFits := ⟨f_fits_kind, fd_fits_kind, m_fits_kind, k_fits_kind, b_fits_kind, ok_fits_kind F_fits_kind T⟩
  have O_refusal_of_number : Ok P w K mg base 2 "refusal_of_number" ["book", "n"] (spRN C) := ⟨f_refusal_of_number, fd_refusal_of_number, m_refusal_of_number, k_refusal_of_number, b_refusal_of_number, ok_refusal_of_number F_refusal_of_number T O_within⟩
  have O_refusal_of_state : Ok P w K mg base 3 "refusal_of_state" ["book", "n", "state"] (spRS C) := ⟨f_refusal_of_state, fd_refusal_of_state, m_refusal_of_state, k_refusal_of_state, b_refusal_of_state, ok_refusal_of_state F_refusal_of_state T O_refusal_of_number⟩
  have O_propose : Ok P w K mg base 3 "propose" ["book", "kind", "a", "b", "part", "quorum", "need"] (spPropose C) := ⟨f_propose, fd_propose, m_propose, k_propose, b_propose, ok_propose F_propose T O_Scheme O_fits_kind O_within O_is_fund O_is_millionths⟩
  have O_vote : Ok P w K mg base 4 "vote" ["book", "n", "h", "pro"] (spVote C) := ⟨f_vote, fd_vote, m_vote, k_vote, b_vote, ok_vote F_vote T O_refusal_of_state O_units_of O_is_holder O_within⟩
  have O_proxy : Ok P w K mg base 4 "proxy" ["book", "n", "h", "g"] (spProxy C) := ⟨f_proxy, fd_proxy, m_proxy, k_proxy, b_proxy, ok_proxy F_proxy T O_refusal_of_state O_is_holder⟩
  have O_speaker_for : Ok P w K mg base 1 "speaker_for" ["scheme", "h"] (spSpeaker C) := ⟨f_speaker_for, fd_speaker_for, m_speaker_for, k_speaker_for, b_speaker_for, ok_speaker_for F_speaker_for T⟩
  have O_tally_of : Ok P w K mg base 2 "tally_of" ["scheme", "fund"] (spTally C) := ⟨f_tally_of, fd_tally_of, m_tally_of, k_tally_of, b_tally_of, ok_tally_of F_tally_of T O_all_units O_speaker_for O_units_of⟩
  have O_count_votes : Ok P w K mg base 4 "count_votes" ["book", "n"] (spCount C) := ⟨f_count_votes, fd_count_votes, m_count_votes, k_count_votes, b_count_votes, ok_count_votes F_count_votes T O_refusal_of_state O_tally_of⟩
  have O_brought_by : Ok P w K mg base 2 "brought_by" ["units", "fund", "other"] (spBrought C) := ⟨f_brought_by, fd_brought_by, m_brought_by, k_brought_by, b_brought_by, ok_brought_by F_brought_by T O_all_units⟩
  have O_brought_to_all : Ok P w K mg base 3 "brought_to_all" ["fund", "other"] (spBroughtAll C) := ⟨f_brought_to_all, fd_brought_to_all, m_brought_to_all, k_brought_to_all, b_brought_to_all, ok_brought_to_all F_brought_to_all T O_brought_by⟩
  have O_hand_out : Ok P w K mg base 4 "hand_out" ["book", "fund", "other", "brought"] (spHand C) := ⟨f_hand_out, fd_hand_out, m_hand_out, k_hand_out, b_hand_out, ok_hand_out F_hand_out T O_add_to_holding⟩
  have O_join_into : Ok P w K mg base 5 "join_into" ["book", "fund", "other"] (spJoin C) := ⟨f_join_into, fd_join_into, m_join_into, k_join_into, b_join_into, ok_join_into F_join_into T O_is_worthless O_brought_to_all O_hand_out O_all_units⟩
  have O_divide_into : Ok P w K mg base 4 "divide_into" ["fund", "other", "part"] (spDivide C) := ⟨f_divide_into, fd_divide_into, m_divide_into, k_divide_into, b_divide_into, ok_divide_into F_divide_into T O_all_units O_add_to_holding⟩
  have O_set_closing : Ok P w K mg base 1 "set_closing" ["fund"] (spClose C) := ⟨f_set_closing, fd_set_closing, m_set_closing, k_set_closing, b_set_closing, ok_set_closing F_set_closing T⟩
  have O_carry_out : Ok P w K mg base 6 "carry_out" ["book", "scheme"] (spCarry C) := ⟨f_carry_out, fd_carry_out, m_carry_out, k_carry_out, b_carry_out, ok_carry_out F_carry_out T O_join_into O_set_closing O_divide_into O_all_units⟩
  have O_take_effect : Ok P w K mg base 7 "take_effect" ["book", "n"] (spEffect C) := ⟨f_take_effect, fd_take_effect, m_take_effect, k_take_effect, b_take_effect, ok_take_effect F_take_effect T O_refusal_of_state O_carry_out⟩
  have O_Book : OkC P w K mg base 3 "Book" C.b ["self"] (spBook C) := ⟨f_Book, fd_Book, m_Book, M_Book, b_Book, ok_Book_init F_Book T O_Fund⟩
  have O_tell_fund : Ok P w K mg base 3 "tell_fund" ["book", "f"] (spAsk1 C Vbfual.Call.fund) := ⟨f_tell_fund, fd_tell_fund, m_tell_fund, k_tell_fund, b_tell_fund, ok_tell_fund F_tell_fund T O_is_fund O_all_units O_all_paid⟩
  have O_tell_holding : Ok P w K mg base 3 "tell_holding" ["book", "f", "h"] (spAsk2 C Vbfual.Call.holding) := ⟨f_tell_holding, fd_tell_holding, m_tell_holding, k_tell_holding, b_tell_holding, ok_tell_holding F_tell_holding T O_all_units O_is_fund O_is_holder⟩
  have O_tell_cash : Ok P w K mg base 3 "tell_cash" ["book", "h"] (spAsk1 C Vbfual.Call.cash) := ⟨f_tell_cash, fd_tell_cash, m_tell_cash, k_tell_cash, b_tell_cash, ok_tell_cash F_tell_cash T O_is_holder⟩
  have O_tell_holders : Ok P w K mg base 3 "tell_holders" ["book", "f"] (spAsk1 C Vbfual.Call.holders) := ⟨f_tell_holders, fd_tell_holders, m_tell_holders, k_tell_holders, b_tell_holders, ok_tell_holders F_tell_holders T O_is_fund O_units_of⟩
  have O_tell_scheme : Ok P w K mg base 3 "tell_scheme" ["book", "n"] (spAsk1 C Vbfual.Call.scheme) := ⟨f_tell_scheme, fd_tell_scheme, m_tell_scheme, k_tell_scheme, b_tell_scheme, ok_tell_scheme F_tell_scheme T O_refusal_of_number⟩
  have O_tell_tally : Ok P w K mg base 3 "tell_tally" ["book", "n"] (spAsk1 C Vbfual.Call.tally) := ⟨f_tell_tally, fd_tell_tally, m_tell_tally, k_tell_tally, b_tell_tally, ok_tell_tally F_tell_tally T O_refusal_of_number O_tally_of⟩
  have O_tell_speaker : Ok P w K mg base 3 "tell_speaker" ["book", "n", "h"] (spAsk2 C Vbfual.Call.speaker) := ⟨f_tell_speaker, fd_tell_speaker, m_tell_speaker, k_tell_speaker, b_tell_speaker, ok_tell_speaker F_tell_speaker T O_refusal_of_number O_is_holder O_speaker_for⟩
  have O_tell_offer : Ok P w K mg base 3 "tell_offer" ["book", "a", "b", "h"] (spAsk3 C Vbfual.Call.offer) := ⟨f_tell_offer, fd_tell_offer, m_tell_offer, k_tell_offer, b_tell_offer, ok_tell_offer F_tell_offer T O_is_worthless O_brought_by O_is_fund O_is_holder O_all_units O_units_of⟩
  have O_shares_rounded_down : Ok P w K mg base 2 "shares_rounded_down" ["fund", "coins"] (spDown C) := ⟨f_shares_rounded_down, fd_shares_rounded_down, m_shares_rounded_down, k_shares_rounded_down, b_shares_rounded_down, ok_shares_rounded_down F_shares_rounded_down T O_all_units⟩
  have O_holders_by_remainder : Ok P w K mg base 2 "holders_by_remainder" ["fund", "coins"] (spRank C) := ⟨f_holders_by_remainder, fd_holders_by_remainder, m_holders_by_remainder, k_holders_by_remainder, b_holders_by_remainder, ok_holders_by_remainder F_holders_by_remainder T O_all_units⟩
  have O_shares_of_all : Ok P w K mg base 3 "shares_of_all" ["fund", "coins"] (spAllS C) := ⟨f_shares_of_all, fd_shares_of_all, m_shares_of_all, k_shares_of_all, b_shares_of_all, ok_shares_of_all F_shares_of_all T O_shares_rounded_down O_holders_by_remainder⟩
  have O_pay_up_to : Ok P w K mg base 1 "pay_up_to" ["book", "fund", "shares"] (spUp C) := ⟨f_pay_up_to, fd_pay_up_to, m_pay_up_to, k_pay_up_to, b_pay_up_to, ok_pay_up_to F_pay_up_to T⟩
  have O_pay : Ok P w K mg base 3 "pay" ["book", "f", "m"] (spAsk2 C Vbfual.Call.pay) := ⟨f_pay, fd_pay, m_pay, k_pay, b_pay, ok_pay F_pay T O_pay_up_to O_is_fund O_within O_all_paid O_shares_rounded_down⟩
  have O_pay_last : Ok P w K mg base 4 "pay_last" ["book", "f"] (spAsk1 C Vbfual.Call.last) := ⟨f_pay_last, fd_pay_last, m_pay_last, k_pay_last, b_pay_last, ok_pay_last F_pay_last T O_pay_up_to O_is_fund O_shares_of_all O_all_paid⟩
  have O_answer_in_trading : Ok P w K mg base 5 "answer_in_trading" ["book", "call", "n"] (spOn C 1 4) := ⟨f_answer_in_trading, fd_answer_in_trading, m_answer_in_trading, k_answer_in_trading, b_answer_in_trading, ok_answer_in_trading F_answer_in_trading T O_result O_buy O_sell O_transfer⟩
  have O_answer_on_schemes : Ok P w K mg base 8 "answer_on_schemes" ["book", "call", "n"] (spOn C 5 9) := ⟨f_answer_on_schemes, fd_answer_on_schemes, m_answer_on_schemes, k_answer_on_schemes, b_answer_on_schemes, ok_answer_on_schemes F_answer_on_schemes T O_take_effect O_propose O_vote O_proxy O_count_votes⟩
  have O_answer_in_closing : Ok P w K mg base 5 "answer_in_closing" ["book", "call", "n"] (spOn C 10 11) := ⟨f_answer_in_closing, fd_answer_in_closing, m_answer_in_closing, k_answer_in_closing, b_answer_in_closing, ok_answer_in_closing F_answer_in_closing T O_pay_last O_pay⟩
  have O_answer_about_funds : Ok P w K mg base 4 "answer_about_funds" ["book", "call", "n"] (spOn C 12 15) := ⟨f_answer_about_funds, fd_answer_about_funds, m_answer_about_funds, k_answer_about_funds, b_answer_about_funds, ok_answer_about_funds F_answer_about_funds T O_tell_holders O_tell_fund O_tell_holding O_tell_cash⟩
  have O_answer_about_schemes : Ok P w K mg base 4 "answer_about_schemes" ["book", "call", "n"] (spOn C 16 19) := ⟨f_answer_about_schemes, fd_answer_about_schemes, m_answer_about_schemes, k_answer_about_schemes, b_answer_about_schemes, ok_answer_about_schemes F_answer_about_schemes T O_tell_offer O_tell_scheme O_tell_tally O_tell_speaker⟩
  have O_answer_of : Ok P w K mg base 9 "answer_of" ["book", "call", "numbers"] (spOn C 1 19) := ⟨f_answer_of, fd_answer_of, m_answer_of, k_answer_of, b_answer_of, ok_answer_of F_answer_of T O_answer_about_schemes O_answer_in_trading O_answer_on_schemes O_answer_in_closing O_answer_about_funds⟩
  exact ok_answers F_a T O_Book O_answer_of
theorem onlyF_good {H : Hp} (h : OnlyF H) : Good H := fun a kvs e => by
  rcases h a with z | ⟨o, u, z⟩
  · rw [e] at z; cases z
  · rw [e] at z; cases z
end R
end
open PySem PySem.W PyProof.Rows
namespace PySem.Challenge.cw_fundsjoined_s01_answers_holds
def tw12066789136364767847:=Nat
def tw7160518372306121091:=Nat
def tw600149382854260667:=Nat
def tw11545356776367361892:=Nat
def tw13792771441009819767:=Nat
def tw2948462015792861018:=Nat
def tw693364618223988740:=Nat
def tw1076333147435086703:=Nat
def tw6753478071052368495:=Nat
def tw11126433379067970105:=Nat
def tw15505445200002512591:=Nat
def tw4766397577126951545:=Nat
def tw13627929791083822300:=Nat
def tw4579583967515598799:=Nat
def tw13077148776694542906:=Nat
def tw3967366558078188996:=Nat
def tw11148933611981763717:=Nat
def tw8115448582697866313:=Nat
def tw5818538253589679382:=Nat
def tw17811317249295427521:=Nat
def tw8139427834977861324:=Nat
def tw15021915766946762792:=Nat
def tw17569712157953486361:=Nat
def tw16661775265818455513:=Nat
def tw12292133779335797864:=Nat
def tw17085547244134159135:=Nat
def tw18282016815254491250:=Nat
def tw59790307398249662:=Nat
def tw15807901371512560115:=Nat
def tw12824732078304961109:=Nat
def tw7783333731529588193:=Nat
def tw409503292806848377:=Nat
def tw12351227348723745065:=Nat
def tw1078227931128979031:=Nat
def tw6942413931166001959:=Nat
def tw8466532615385512981:=Nat
def tw3574597837446266838:=Nat
def tw4118900304836046462:=Nat
def tw4825348514937305842:=Nat
def tw15026738203133725964:=Nat
def tw24449647603454198:=Nat
def tw3488188784934568086:=Nat
def tw14933756544311895785:=Nat
def tw18076189600808261421:=Nat
def tw5191537894013665283:=Nat
def tw17975120862776502036:=Nat
def tw7300197131898508586:=Nat
def tw6317249637091186638:=Nat
def tw9760067361983867558:=Nat
def tw4804243828907851951:=Nat
def tw11114563788590261588:=Nat
def tw5268776692499143307:=Nat
def tw8941493884129892171:=Nat
def tw16930929436338338185:=Nat
def tw9692234986248162086:=Nat
def tw15018973397554795470:=Nat
def tw10693973683759401271:=Nat
def tw5329765592150740322:=Nat
def tw3765977020626540768:=Nat
def tw9571739644990913254:=Nat
def tw6170145052626682246:=Nat
def tw16801358767549052787:=Nat
def tw16523365541192110406:=Nat
def tw2318227794074138187:=Nat
def tw15367997347253670890:=Nat
def tw9326020364622355906:=Nat
def tw11525304070000302295:=Nat
def tw16600093425150678712:=Nat
def tw128148882344818726:=Nat
def tw5464041611398487693:=Nat
def tw9707482703409565468:=Nat
def tw12923804537275244655:=Nat
def tw13408919756244707820:=Nat
def tw2231328363958644714:=Nat
def tw4379571500157017994:=Nat
def tw14215712526716633053:=Nat
def tw13027675577926393672:=Nat
def tw17820590491688728942:=Nat
def tw19005731382872661:=Nat
def tw13351513603914878049:=Nat
def tw1791224589819128323:=Nat
def tw15782693948643946167:=Nat
def tw7683570821248371997:=Nat
def tw14267205144708843536:=Nat
def tw4352968728364153748:=Nat
def tw17773920305731323589:=Nat
def tw2157606839327905603:=Nat
def tw6661268178350154890:=Nat
def tw2560795843275612122:=Nat
def tw4116664742275419346:=Nat
def tw3785037917291282015:=Nat
def tw4566111214491487601:=Nat
def tw13808037284562579959:=Nat
def tw13217164750553397565:=Nat
def tw2778880706270591010:=Nat
def tw2671405739963532338:=Nat
def tw5382165707086663140:=Nat
def tw16930594932320715376:=Nat
def tw7642836882314978995:=Nat
def tw8417440683602305282:=Nat
def tw11564546733347839466:=Nat
def tw4559245523803656225:=Nat
def tw17412093390968095872:=Nat
def tw14587733271522415229:=Nat
def tw13210881564423712447:=Nat
def tw366242388567981173:=Nat
def tw6745817310622891489:=Nat
def tw17042434825855037705:=Nat
def tw10541009016594684186:=Nat
def tw9755527731306259204:=Nat
def tw4049125786250647645:=Nat
def tw13029698716246351509:=Nat
def tw9409665637007545744:=Nat
def tw14811429614109496216:=Nat
def tw74431924372241231:=Nat
def tw17886587655661167956:=Nat
def tw5513858268223264673:=Nat
def tw18110773405453738428:=Nat
def tw8792524545386703698:=Nat
def tw9430428796574593085:=Nat
def tw8698895494914136013:=Nat
def tw4710064687477011043:=Nat
def tw12660817474680051528:=Nat
def tw4434897857501727786:=Nat
def tw16320285249388764163:=Nat
def tw7460356740406369171:=Nat
def tw2603618847813173853:=Nat
def tw13075421784938423848:=Nat
def tw12766903542005628350:=Nat
def tw804765630389819680:=Nat
def tw15725298142229303114:=Nat
def tw6230290492288427577:=Nat
def tw12850685119880143368:=Nat
def tw9427228247006929495:=Nat
def tw3167693357937912696:=Nat
def tw12060557015759818890:=Nat
def tw10483579293876606178:=Nat
def tw8887065124467647727:=Nat
def tw15204800469746180711:=Nat
def tw15418073096289071951:=Nat
def tw5795051986324822648:=Nat
def tw14633864207503449570:=Nat
def tw14773578970363789083:=Nat
def tw2382435105519519633:=Nat
def tw11996613439628368444:=Nat
def tw4413402601768272880:=Nat
def tw15972955521297530414:=Nat
def tw16054864960904992429:=Nat
def tw9765828913641556251:=Nat
def tw9244519751986100036:=Nat
def tw3821406239952361477:=Nat
def tw18345268163365601562:=Nat
def tw9814898069306647515:=Nat
def tw15564968775818579263:=Nat
def tw2167593973168181606:=Nat
def tw12451812484785289335:=Nat
def tw283155521831666146:=Nat
def tw4556099634615951029:=Nat
def tw9083585854183213767:=Nat
def tw12374254009047082512:=Nat
def tw12407740634131061601:=Nat
def tw16038208270366072439:=Nat
def tw880387964286626614:=Nat
def tw7147170972678495761:=Nat
def tw16845802891664988075:=Nat
def tw14254072965530623193:=Nat
def tw1077907205789978478:=Nat
def tw14011076650536404177:=Nat
def tw3073807027113324129:=Nat
def tw7743418096400000919:=Nat
def tw1956919766827264640:=Nat
def tw6596608980542101913:=Nat
def tw6050134022244889533:=Nat
def tw12896048854556649272:=Nat
def tw6365611008876512186:=Nat
def tw14324634432228685557:=Nat
def tw7924890833375283678:=Nat
def tw8878032410568274660:=Nat
def tw933021974584510489:=Nat
def tw18113938891558959506:=Nat
def tw17985975728114514119:=Nat
def tw9170358506133443744:=Nat
def tw2859416872429767326:=Nat
def tw2635858007981274592:=Nat
def tw12783684711919168185:=Nat
def tw5056307194400756355:=Nat
def tw12817893102365905120:=Nat
def tw6162040389392082128:=Nat
def tw10902332932320502151:=Nat
def tw6059690332859786895:=Nat
def tw6055808564651453367:=Nat
def tw9802367684792087575:=Nat
def tw4652127983518975025:=Nat
def tw17969781444509794478:=Nat
def tw2596238067908978599:=Nat
def tw15458605197908043569:=Nat
def tw9238323286242598121:=Nat
def tw14995465949877532001:=Nat
def tw15046123507933588299:=Nat
def tw8562022806148150244:=Nat
def tw4179091099139104813:=Nat
def tw3496733910130341847:=Nat
def tw16421117469754698043:=Nat
def tw16192902286393687271:=Nat
def tw10713284228783951654:=Nat
def tw3482466198916831281:=Nat
def tw9284756969212662997:=Nat
def tw11236905543535544372:=Nat
def tw8366579608776201662:=Nat
def tw6251464546513819826:=Nat
def tw2547676874265659774:=Nat
def tw5744573012602334617:=Nat
def tw18150288705298705626:=Nat
def tw4371492797425328924:=Nat
def tw14254611898298513688:=Nat
def tw3210853635611445196:=Nat
def tw8763437544240198351:=Nat
def tw14709916623318715162:=Nat
def tw8951394262028505935:=Nat
def tw9596214623265348574:=Nat
def tw4043996230873114310:=Nat
def tw4708700742506007338:=Nat
def tw15596554860907146868:=Nat
def tw2763730197736939038:=Nat
def tw10272013009656549533:=Nat
def tw2668157389628581487:=Nat
def tw4076078206268740503:=Nat
def tw16837321256352029633:=Nat
def tw18232874687960357711:=Nat
def tw17191126748639817405:=Nat
def tw14659173155472258283:=Nat
def tw11076008889291232154:=Nat
def tw4248223616044565019:=Nat
def tw12720968146661383084:=Nat
def tw7051014023748482644:=Nat
def tw16366727635825829053:=Nat
def tw8034582742086741928:=Nat
def tw11026530981267505306:=Nat
def tw9642873272419937936:=Nat
def tw11890473311731634689:=Nat
def tw4038646865945719134:=Nat
def tw9771223368686178549:=Nat
def tw11322347187592167097:=Nat
def tw323920064438318178:=Nat
def tw6072161354834500197:=Nat
def tw13549782189765057982:=Nat
def tw12192703563541475933:=Nat
def tw431543031201382059:=Nat
def tw18184100339313812329:=Nat
def tw10442559253460654579:=Nat
def tw17140692283546593205:=Nat
def tw5274123978540469103:=Nat
def tw16163710586628442098:=Nat
def tw4345513937230444192:=Nat
def tw3886294663276509467:=Nat
def tw15930772904972363307:=Nat
def tw12659560834428554952:=Nat
def tw12305744519275208127:=Nat
def tw13966420527604292405:=Nat
def tw11332116542669911674:=Nat
def tw7291117908644206942:=Nat
def tw3808072378768102197:=Nat
def tw10798181609485010811:=Nat
def tw14430529459783735725:=Nat
def tw10739180155761638347:=Nat
def tw17092727160299537896:=Nat
def tw5382977036379078200:=Nat
def tw6847338817935309156:=Nat
def tw9808906435817030240:=Nat
def tw6120572665163917073:=Nat
def tw18067450760338576692:=Nat
def tw2263568162491737026:=Nat
def tw1045940061453233235:=Nat
def tw9068592703059326980:=Nat
def tw15273312933496507122:=Nat
def tw10006950303393985496:=Nat
def tw7007594829120572399:=Nat
def tw13135663731137933891:=Nat
def tw9000196229674641978:=Nat
def tw13330469607890904293:=Nat
def tw2193578013173851824:=Nat
def tw15140951817672001259:=Nat
def tw3985402910792663675:=Nat
def tw8028552972025955628:=Nat
def tw13279868988339731698:=Nat
def tw574802459215164312:=Nat
def tw11489389348991134443:=Nat
def tw9899451550286551190:=Nat
def tw6258283662999637997:=Nat
def tw9967021888737477900:=Nat
def tw2377973834020504745:=Nat
def tw11503257232533076595:=Nat
def tw4150889575555510053:=Nat
def tw182796432043192684:=Nat
def tw12112470220183448759:=Nat
def tw7503455740040235580:=Nat
def tw13846333064797582627:=Nat
def tw1126686249422047300:=Nat
def tw3906117184459121399:=Nat
def tw5077588977652551892:=Nat
def tw7606506807405169669:=Nat
def tw7801184056489891805:=Nat
def tw5533850510826292206:=Nat
def tw8181541518361624872:=Nat
def tw18104886888360493834:=Nat
def tw2987677350148696705:=Nat
def tw10770696104240228147:=Nat
def tw5371545750985759064:=Nat
def tw3064447188831414371:=Nat
def tw3785285866980531868:=Nat
def tw15070496194451471289:=Nat
def tw8915495312185094440:=Nat
def tw10503979543586253620:=Nat
def tw1132618401088284802:=Nat
def tw4219019456463173794:=Nat
def tw6736600690414172912:=Nat
def tw7070595721834457017:=Nat
def tw11969200438214218834:=Nat
def tw534892541806181309:=Nat
def tw12700385325341943008:=Nat
def tw9322860098447855343:=Nat
def tw10148046812542873307:=Nat
def tw847610554563648088:=Nat
def tw934647996424753259:=Nat
def tw12181063430957332711:=Nat
def tw15997613206452609342:=Nat
def tw11108593412115278416:=Nat
def tw2312394405028470077:=Nat
def tw18433630949602945338:=Nat
def tw11843687516664012991:=Nat
def tw18441414438618195649:=Nat
def tw4850780363210725463:=Nat
def tw17171128342738141433:=Nat
def tw11683087892612573138:=Nat
def tw5995043468662356834:=Nat
def tw1119738268832095128:=Nat
def tw9638920347114703179:=Nat
def tw5354901584577081479:=Nat
def tw7559563889186669851:=Nat
def tw6183742473713260248:=Nat
def tw12117484165552727540:=Nat
def tw14903764055662746459:=Nat
def tw1652972642456946133:=Nat
def tw10904171189741428499:=Nat
def tw9283653740032483446:=Nat
def tw11703552575276161014:=Nat
def tw7600919193001163506:=Nat
def tw18180186286351935179:=Nat
def tw5985203480766528718:=Nat
def tw12358666547262518938:=Nat
def tw8357709858940311733:=Nat
def tw1082752023988526722:=Nat
def tw6352365012971977752:=Nat
def tw2656358796254571806:=Nat
def tw17293286213132390918:=Nat
def tw9403234978598053473:=Nat
def tw6663535178047944327:=Nat
def tw13277417216678405131:=Nat
def tw17922355733809070737:=Nat
def tw9617970712708523749:=Nat
def tw2326910213550726546:=Nat
def tw11997591351241408669:=Nat
def tw9748631866878039468:=Nat
def tw3296631069392181935:=Nat
def tw1344678880044248787:=Nat
def tw9864885787285279765:=Nat
def tw12647694836368035883:=Nat
def tw13642680201643023430:=Nat
def tw4668127419725893527:=Nat
def tw14587885172998631452:=Nat
def tw15272237516925359434:=Nat
def tw3393915468388121261:=Nat
def tw12119364582280912416:=Nat
def tw12379150029657526982:=Nat
def tw16442466017328790167:=Nat
def tw13081222220984549165:=Nat
def tw11862003607796383969:=Nat
def tw16463294444854199961:=Nat
def tw5406956652860985356:=Nat
def tw7154008689681141264:=Nat
def tw6288200158385831219:=Nat
def tw4028166027867476327:=Nat
def tw13550350506404354843:=Nat
def tw7749295551405929498:=Nat
def tw1054184784616308274:=Nat
def tw7648543396235062951:=Nat
def tw12993982766792258067:=Nat
def tw16299846286268735165:=Nat
def tw17717817935430850327:=Nat
def tw8071131576359607670:=Nat
def tw5805960198544966907:=Nat
def tw16567281042099242792:=Nat
def tw4399990433753252160:=Nat
def tw11208359826099877422:=Nat
def tw15048069420988940613:=Nat
def tw4706590950929495711:=Nat
def tw13458691210913352292:=Nat
def tw4537223624570953653:=Nat
def tw3229775892505613026:=Nat
def tw11538315058021272631:=Nat
def tw10924774152730153102:=Nat
def tw5058671937319282078:=Nat
def tw10433757146274428164:=Nat
def tw1076208933978983941:=Nat
def tw12992164660393890203:=Nat
def tw1929050249242835667:=Nat
def tw6111086005954697239:=Nat
def tw7756072708277608545:=Nat
def tw8604126814085736636:=Nat
def tw7443655862602760429:=Nat
def tw17033190711936973691:=Nat
def tw16811955337735033334:=Nat
def tw1148916458058791396:=Nat
def tw347759869262146508:=Nat
def tw10812458025755757789:=Nat
def tw6146821954828911577:=Nat
def tw11086497278670222002:=Nat
def tw14577251506198030404:=Nat
def tw4550593813386637201:=Nat
def tw11157558733004806613:=Nat
def tw7261632291892523328:=Nat
def tw3014605864265999952:=Nat
def tw10983193727391461575:=Nat
def tw11542482100696639669:=Nat
def tw2390452460236466104:=Nat
def tw1287470265862503125:=Nat
def tw5924405736520268316:=Nat
def tw10645036837509722241:=Nat
def tw17584038328832543358:=Nat
def tw2754088368162078226:=Nat
def tw13154087749920026581:=Nat
def tw11651991465279766394:=Nat
def tw5417563519663315855:=Nat
def tw14342853557457631257:=Nat
def tw13029795516627175020:=Nat
def tw14612618646428418720:=Nat
def tw15957426009217670641:=Nat
def tw14990742080066057564:=Nat
def tw13061330242092695288:=Nat
def tw11937409212178603046:=Nat
def tw12341776872012985954:=Nat
def tw5252259540535705462:=Nat
def tw17025499232951317173:=Nat
def tw4070981966682272143:=Nat
def tw5967274195492083157:=Nat
end PySem.Challenge.cw_fundsjoined_s01_answers_holds
set_option maxRecDepth 100000 in
set_option maxHeartbeats 0 in
theorem PySem.Challenge.cw_fundsjoined_s01_answers_holds : PySem.Challenge.rw_fundsjoined_s01_answers.Holds := by
  w_on; k_headS; (case hw => exact ⟨[.list [.int 0]], by decide +kernel, by decide +kernel⟩)
  k_fillS
  refine L2.walk_specK (r := PySem.Challenge.rw_fundsjoined_s01_answers) (k := 10) (CX := L2.CX0) (ps := ["calls"]) (sp := R.spAns) (by decide +kernel) rfl rfl ⟨rfl, by decide, by decide⟩ (fun w h Y => PySem.W.kIn_of Y) ?F ?S (fun _ _ _ _ z => z)
  case F =>
    intro w mg fa h Y KX G hmg
    have d_HOW_MANY_NUMBERS := by
      refine' R.gd_of (x := "HOW_MANY_NUMBERS") (kvs := [(0, 0), (1, 3), (2, 3), (3, 4), (4, 2), (5, 6), (6, 3), (7, 3), (8, 1), (9, 1), (10, 2), (11, 1), (12, 1), (13, 2), (14, 1), (15, 1), (16, 1), (17, 1), (18, 2), (19, 3)]) KX G ?a ?l ?c
      (case a => k_is); (case l => k_is); (case c => decide +kernel)
    have hC := by
      refine' R.cls_of KX G ?qah ?qih ?qnh ?qlh ?qch ?qkh ?pgh ?hdh ?poh ?sah ?mkh ?kch ?xh_units ?xh_cost ?xh_paid ?qaf ?qif ?qnf ?qlf ?qcf ?qkf ?pgf ?hdf ?pof ?saf ?mkf ?kcf ?xf_value ?xf_holdings ?xf_closing ?xf_declared ?qas ?qis ?qns ?qls ?qcs ?qks ?pgs ?hds ?pos ?sas ?mks ?kcs ?xs_kind ?xs_fund_number ?xs_other_number ?xs_part ?xs_quorum ?xs_need ?xs_votes ?xs_proxies ?xs_state ?qab ?qib ?qnb ?qlb ?qcb ?qkb ?pgb ?hdb ?pob ?sab ?mkb ?kcb ?xb_funds ?xb_cash ?xb_schemes ?v_FUNDS ?v_HOLDERS_limits ?v_MOST_SCHEMES ?v_HIGHEST_SCHEME_NUMBER ?v_MOST_VALUE ?v_MOST_UNITS ?v_MOST_BOUGHT_AT_ONCE ?v_MILLION ?v_OUT_OF_RANGE ?v_NOT_THERE ?v_WRONG_STATE ?v_NOT_ALLOWED ?v_WRONG_AMOUNT ?v_NO_ROOM ?v_NOTHING_TO_RECKON_BY ?v_JOIN ?v_DIVIDE ?v_CLOSE ?v_STATE_OPEN ?v_STATE_PASSED ?v_STATE_FAILED ?v_STATE_DONE ?v_BEGIN ?v_BUY ?v_SELL ?v_TRANSFER ?v_RESULT ?v_PROPOSE ?v_VOTE ?v_PROXY ?v_COUNT ?v_EFFECT ?v_PAY ?v_LAST ?v_FUND ?v_HOLDING ?v_CASH ?v_HOLDERS_schemes ?v_SCHEME ?v_TALLY ?v_SPEAKER ?d_HOW_MANY_NUMBERS ?b_len ?b_sum ?b_max ?b_sorted ?b_range ?b_list
      (case qah => k_is)
      (case qih => k_is)
      (case qnh => k_is)
      (case qlh => k_is)
      (case qch => k_is)
      (case qkh => k_is)
      (case pgh => k_is)
      (case hdh => k_is)
      (case poh => k_is)
      (case sah => k_is)
      (case mkh => k_is)
      (case kch => k_is)
      (case xh_units => k_is)
      (case xh_cost => k_is)
      (case xh_paid => k_is)
      (case qaf => k_is)
      (case qif => k_is)
      (case qnf => k_is)
      (case qlf => k_is)
      (case qcf => k_is)
      (case qkf => k_is)
      (case pgf => k_is)
      (case hdf => k_is)
      (case pof => k_is)
      (case saf => k_is)
      (case mkf => k_is)
      (case kcf => k_is)
      (case xf_value => k_is)
      (case xf_holdings => k_is)
      (case xf_closing => k_is)
      (case xf_declared => k_is)
      (case qas => k_is)
      (case qis => k_is)
      (case qns => k_is)
      (case qls => k_is)
      (case qcs => k_is)
      (case qks => k_is)
      (case pgs => k_is)
      (case hds => k_is)
      (case pos => k_is)
      (case sas => k_is)
      (case mks => k_is)
      (case kcs => k_is)
      (case xs_kind => k_is)
      (case xs_fund_number => k_is)
      (case xs_other_number => k_is)
      (case xs_part => k_is)
      (case xs_quorum => k_is)
      (case xs_need => k_is)
      (case xs_votes => k_is)
      (case xs_proxies => k_is)
      (case xs_state => k_is)
      (case qab => k_is)
      (case qib => k_is)
      (case qnb => k_is)
      (case qlb => k_is)
      (case qcb => k_is)
      (case qkb => k_is)
      (case pgb => k_is)
      (case hdb => k_is)
      (case pob => k_is)
      (case sab => k_is)
      (case mkb => k_is)
      (case kcb => k_is)
      (case xb_funds => k_is)
      (case xb_cash => k_is)
      (case xb_schemes => k_is)
      (case v_FUNDS => k_is)
      (case v_HOLDERS_limits => k_is)
      (case v_MOST_SCHEMES => k_is)
      (case v_HIGHEST_SCHEME_NUMBER => k_is)
      (case v_MOST_VALUE => k_is)
      (case v_MOST_UNITS => k_is)
      (case v_MOST_BOUGHT_AT_ONCE => k_is)
      (case v_MILLION => k_is)
      (case v_OUT_OF_RANGE => k_is)
      (case v_NOT_THERE => k_is)
      (case v_WRONG_STATE => k_is)
      (case v_NOT_ALLOWED => k_is)
      (case v_WRONG_AMOUNT => k_is)
      (case v_NO_ROOM => k_is)
      (case v_NOTHING_TO_RECKON_BY => k_is)
      (case v_JOIN => k_is)
      (case v_DIVIDE => k_is)
      (case v_CLOSE => k_is)
      (case v_STATE_OPEN => k_is)
      (case v_STATE_PASSED => k_is)
      (case v_STATE_FAILED => k_is)
      (case v_STATE_DONE => k_is)
      (case v_BEGIN => k_is)
      (case v_BUY => k_is)
      (case v_SELL => k_is)
      (case v_TRANSFER => k_is)
      (case v_RESULT => k_is)
      (case v_PROPOSE => k_is)
      (case v_VOTE => k_is)
      (case v_PROXY => k_is)
      (case v_COUNT => k_is)
      (case v_EFFECT => k_is)
      (case v_PAY => k_is)
      (case v_LAST => k_is)
      (case v_FUND => k_is)
      (case v_HOLDING => k_is)
      (case v_CASH => k_is)
      (case v_HOLDERS_schemes => k_is)
      (case v_SCHEME => k_is)
      (case v_TALLY => k_is)
      (case v_SPEAKER => k_is)
      (case d_HOW_MANY_NUMBERS => exact d_HOW_MANY_NUMBERS)
      (case b_len => k_is)
      (case b_sum => k_is)
      (case b_max => k_is)
      (case b_sorted => k_is)
      (case b_range => k_is)
      (case b_list => k_is)
    have h_within := by
      refine' R.FnF.of (x := "within") (st := R.s_within) (ps := ["number", "lowest", "highest"]) KX G ?a ?l ?c ?k ?b
      (case a => k_is); (case l => k_is); (case c => k_is); (case k => k_is)
      (case b => exact fun _ _ _ _ _ _ us hl => match us, hl with | [_, _, _], _ => rfl)
    have h_is_fund := by
      refine' R.FnF.of (x := "is_fund") (st := R.s_is_fund) (ps := ["number"]) KX G ?a ?l ?c ?k ?b
      (case a => k_is); (case l => k_is); (case c => k_is); (case k => k_is)
      (case b => exact fun _ _ _ _ _ _ us hl => match us, hl with | [_], _ => rfl)
    have h_is_holder := by
      refine' R.FnF.of (x := "is_holder") (st := R.s_is_holder) (ps := ["number"]) KX G ?a ?l ?c ?k ?b
      (case a => k_is); (case l => k_is); (case c => k_is); (case k => k_is)
      (case b => exact fun _ _ _ _ _ _ us hl => match us, hl with | [_], _ => rfl)
    have h_is_amount_of_units := by
      refine' R.FnF.of (x := "is_amount_of_units") (st := R.s_is_amount_of_units) (ps := ["number"]) KX G ?a ?l ?c ?k ?b
      (case a => k_is); (case l => k_is); (case c => k_is); (case k => k_is)
      (case b => exact fun _ _ _ _ _ _ us hl => match us, hl with | [_], _ => rfl)
    have h_is_millionths := by
      refine' R.FnF.of (x := "is_millionths") (st := R.s_is_millionths) (ps := ["number"]) KX G ?a ?l ?c ?k ?b
      (case a => k_is); (case l => k_is); (case c => k_is); (case k => k_is)
      (case b => exact fun _ _ _ _ _ _ us hl => match us, hl with | [_], _ => rfl)
    have h_all_units := by
      refine' R.FnF.of (x := "all_units") (st := R.s_all_units) (ps := ["fund"]) KX G ?a ?l ?c ?k ?b
      (case a => k_is); (case l => k_is); (case c => k_is); (case k => k_is)
      (case b => exact fun _ _ _ _ _ _ us hl => match us, hl with | [_], _ => rfl)
    have h_all_paid := by
      refine' R.FnF.of (x := "all_paid") (st := R.s_all_paid) (ps := ["fund"]) KX G ?a ?l ?c ?k ?b
      (case a => k_is); (case l => k_is); (case c => k_is); (case k => k_is)
      (case b => exact fun _ _ _ _ _ _ us hl => match us, hl with | [_], _ => rfl)
    have h_is_worthless := by
      refine' R.FnF.of (x := "is_worthless") (st := R.s_is_worthless) (ps := ["fund"]) KX G ?a ?l ?c ?k ?b
      (case a => k_is); (case l => k_is); (case c => k_is); (case k => k_is)
      (case b => exact fun _ _ _ _ _ _ us hl => match us, hl with | [_], _ => rfl)
    have h_units_of := by
      refine' R.FnF.of (x := "units_of") (st := R.s_units_of) (ps := ["fund", "holder"]) KX G ?a ?l ?c ?k ?b
      (case a => k_is); (case l => k_is); (case c => k_is); (case k => k_is)
      (case b => exact fun _ _ _ _ _ _ us hl => match us, hl with | [_, _], _ => rfl)
    have h_add_to_holding := by
      refine' R.FnF.of (x := "add_to_holding") (st := R.s_add_to_holding) (ps := ["fund", "holder", "units", "cost"]) KX G ?a ?l ?c ?k ?b
      (case a => k_is); (case l => k_is); (case c => k_is); (case k => k_is)
      (case b => exact fun _ _ _ _ _ _ us hl => match us, hl with | [_, _, _, _], _ => rfl)
    have h_take_from_holding := by
      refine' R.FnF.of (x := "take_from_holding") (st := R.s_take_from_holding) (ps := ["fund", "holder", "units"]) KX G ?a ?l ?c ?k ?b
      (case a => k_is); (case l => k_is); (case c => k_is); (case k => k_is)
      (case b => exact fun _ _ _ _ _ _ us hl => match us, hl with | [_, _, _], _ => rfl)
    have h_fits_kind := by
      refine' R.FnF.of (x := "fits_kind") (st := R.s_fits_kind) (ps := ["kind", "a", "b"]) KX G ?a ?l ?c ?k ?b
      (case a => k_is); (case l => k_is); (case c => k_is); (case k => k_is)
      (case b => exact fun _ _ _ _ _ _ us hl => match us, hl with | [_, _, _], _ => rfl)
    have h_propose := by
      refine' R.FnF.of (x := "propose") (st := R.s_propose) (ps := ["book", "kind", "a", "b", "part", "quorum", "need"]) KX G ?a ?l ?c ?k ?b
      (case a => k_is); (case l => k_is); (case c => k_is); (case k => k_is)
      (case b => exact fun _ _ _ _ _ _ us hl => match us, hl with | [_, _, _, _, _, _, _], _ => rfl)
    have h_refusal_of_number := by
      refine' R.FnF.of (x := "refusal_of_number") (st := R.s_refusal_of_number) (ps := ["book", "n"]) KX G ?a ?l ?c ?k ?b
      (case a => k_is); (case l => k_is); (case c => k_is); (case k => k_is)
      (case b => exact fun _ _ _ _ _ _ us hl => match us, hl with | [_, _], _ => rfl)
    have h_refusal_of_state := by
      refine' R.FnF.of (x := "refusal_of_state") (st := R.s_refusal_of_state) (ps := ["book", "n", "state"]) KX G ?a ?l ?c ?k ?b
      (case a => k_is); (case l => k_is); (case c => k_is); (case k => k_is)
      (case b => exact fun _ _ _ _ _ _ us hl => match us, hl with | [_, _, _], _ => rfl)
    have h_vote := by
      refine' R.FnF.of (x := "vote") (st := R.s_vote) (ps := ["book", "n", "h", "pro"]) KX G ?a ?l ?c ?k ?b
      (case a => k_is); (case l => k_is); (case c => k_is); (case k => k_is)
      (case b => exact fun _ _ _ _ _ _ us hl => match us, hl with | [_, _, _, _], _ => rfl)
    have h_proxy := by
      refine' R.FnF.of (x := "proxy") (st := R.s_proxy) (ps := ["book", "n", "h", "g"]) KX G ?a ?l ?c ?k ?b
      (case a => k_is); (case l => k_is); (case c => k_is); (case k => k_is)
      (case b => exact fun _ _ _ _ _ _ us hl => match us, hl with | [_, _, _, _], _ => rfl)
    have h_speaker_for := by
      refine' R.FnF.of (x := "speaker_for") (st := R.s_speaker_for) (ps := ["scheme", "h"]) KX G ?a ?l ?c ?k ?b
      (case a => k_is); (case l => k_is); (case c => k_is); (case k => k_is)
      (case b => exact fun _ _ _ _ _ _ us hl => match us, hl with | [_, _], _ => rfl)
    have h_tally_of := by
      refine' R.FnF.of (x := "tally_of") (st := R.s_tally_of) (ps := ["scheme", "fund"]) KX G ?a ?l ?c ?k ?b
      (case a => k_is); (case l => k_is); (case c => k_is); (case k => k_is)
      (case b => exact fun _ _ _ _ _ _ us hl => match us, hl with | [_, _], _ => rfl)
    have h_count_votes := by
      refine' R.FnF.of (x := "count_votes") (st := R.s_count_votes) (ps := ["book", "n"]) KX G ?a ?l ?c ?k ?b
      (case a => k_is); (case l => k_is); (case c => k_is); (case k => k_is)
      (case b => exact fun _ _ _ _ _ _ us hl => match us, hl with | [_, _], _ => rfl)
    have h_brought_by := by
      refine' R.FnF.of (x := "brought_by") (st := R.s_brought_by) (ps := ["units", "fund", "other"]) KX G ?a ?l ?c ?k ?b
      (case a => k_is); (case l => k_is); (case c => k_is); (case k => k_is)
      (case b => exact fun _ _ _ _ _ _ us hl => match us, hl with | [_, _, _], _ => rfl)
    have h_brought_to_all := by
      refine' R.FnF.of (x := "brought_to_all") (st := R.s_brought_to_all) (ps := ["fund", "other"]) KX G ?a ?l ?c ?k ?b
      (case a => k_is); (case l => k_is); (case c => k_is); (case k => k_is)
      (case b => exact fun _ _ _ _ _ _ us hl => match us, hl with | [_, _], _ => rfl)
    have h_hand_out := by
      refine' R.FnF.of (x := "hand_out") (st := R.s_hand_out) (ps := ["book", "fund", "other", "brought"]) KX G ?a ?l ?c ?k ?b
      (case a => k_is); (case l => k_is); (case c => k_is); (case k => k_is)
      (case b => exact fun _ _ _ _ _ _ us hl => match us, hl with | [_, _, _, _], _ => rfl)
    have h_join_into := by
      refine' R.FnF.of (x := "join_into") (st := R.s_join_into) (ps := ["book", "fund", "other"]) KX G ?a ?l ?c ?k ?b
      (case a => k_is); (case l => k_is); (case c => k_is); (case k => k_is)
      (case b => exact fun _ _ _ _ _ _ us hl => match us, hl with | [_, _, _], _ => rfl)
    have h_divide_into := by
      refine' R.FnF.of (x := "divide_into") (st := R.s_divide_into) (ps := ["fund", "other", "part"]) KX G ?a ?l ?c ?k ?b
      (case a => k_is); (case l => k_is); (case c => k_is); (case k => k_is)
      (case b => exact fun _ _ _ _ _ _ us hl => match us, hl with | [_, _, _], _ => rfl)
    have h_set_closing := by
      refine' R.FnF.of (x := "set_closing") (st := R.s_set_closing) (ps := ["fund"]) KX G ?a ?l ?c ?k ?b
      (case a => k_is); (case l => k_is); (case c => k_is); (case k => k_is)
      (case b => exact fun _ _ _ _ _ _ us hl => match us, hl with | [_], _ => rfl)
    have h_carry_out := by
      refine' R.FnF.of (x := "carry_out") (st := R.s_carry_out) (ps := ["book", "scheme"]) KX G ?a ?l ?c ?k ?b
      (case a => k_is); (case l => k_is); (case c => k_is); (case k => k_is)
      (case b => exact fun _ _ _ _ _ _ us hl => match us, hl with | [_, _], _ => rfl)
    have h_take_effect := by
      refine' R.FnF.of (x := "take_effect") (st := R.s_take_effect) (ps := ["book", "n"]) KX G ?a ?l ?c ?k ?b
      (case a => k_is); (case l => k_is); (case c => k_is); (case k => k_is)
      (case b => exact fun _ _ _ _ _ _ us hl => match us, hl with | [_, _], _ => rfl)
    have h_tell_fund := by
      refine' R.FnF.of (x := "tell_fund") (st := R.s_tell_fund) (ps := ["book", "f"]) KX G ?a ?l ?c ?k ?b
      (case a => k_is); (case l => k_is); (case c => k_is); (case k => k_is)
      (case b => exact fun _ _ _ _ _ _ us hl => match us, hl with | [_, _], _ => rfl)
    have h_tell_holding := by
      refine' R.FnF.of (x := "tell_holding") (st := R.s_tell_holding) (ps := ["book", "f", "h"]) KX G ?a ?l ?c ?k ?b
      (case a => k_is); (case l => k_is); (case c => k_is); (case k => k_is)
      (case b => exact fun _ _ _ _ _ _ us hl => match us, hl with | [_, _, _], _ => rfl)
    have h_tell_cash := by
      refine' R.FnF.of (x := "tell_cash") (st := R.s_tell_cash) (ps := ["book", "h"]) KX G ?a ?l ?c ?k ?b
      (case a => k_is); (case l => k_is); (case c => k_is); (case k => k_is)
      (case b => exact fun _ _ _ _ _ _ us hl => match us, hl with | [_, _], _ => rfl)
    have h_tell_holders := by
      refine' R.FnF.of (x := "tell_holders") (st := R.s_tell_holders) (ps := ["book", "f"]) KX G ?a ?l ?c ?k ?b
      (case a => k_is); (case l => k_is); (case c => k_is); (case k => k_is)
      (case b => exact fun _ _ _ _ _ _ us hl => match us, hl with | [_, _], _ => rfl)
    have h_tell_scheme := by
      refine' R.FnF.of (x := "tell_scheme") (st := R.s_tell_scheme) (ps := ["book", "n"]) KX G ?a ?l ?c ?k ?b
      (case a => k_is); (case l => k_is); (case c => k_is); (case k => k_is)
      (case b => exact fun _ _ _ _ _ _ us hl => match us, hl with | [_, _], _ => rfl)
    have h_tell_tally := by
      refine' R.FnF.of (x := "tell_tally") (st := R.s_tell_tally) (ps := ["book", "n"]) KX G ?a ?l ?c ?k ?b
      (case a => k_is); (case l => k_is); (case c => k_is); (case k => k_is)
      (case b => exact fun _ _ _ _ _ _ us hl => match us, hl with | [_, _], _ => rfl)
    have h_tell_speaker := by
      refine' R.FnF.of (x := "tell_speaker") (st := R.s_tell_speaker) (ps := ["book", "n", "h"]) KX G ?a ?l ?c ?k ?b
      (case a => k_is); (case l => k_is); (case c => k_is); (case k => k_is)
      (case b => exact fun _ _ _ _ _ _ us hl => match us, hl with | [_, _, _], _ => rfl)
    have h_tell_offer := by
      refine' R.FnF.of (x := "tell_offer") (st := R.s_tell_offer) (ps := ["book", "a", "b", "h"]) KX G ?a ?l ?c ?k ?b
      (case a => k_is); (case l => k_is); (case c => k_is); (case k => k_is)
      (case b => exact fun _ _ _ _ _ _ us hl => match us, hl with | [_, _, _, _], _ => rfl)
    have h_shares_rounded_down := by
      refine' R.FnF.of (x := "shares_rounded_down") (st := R.s_shares_rounded_down) (ps := ["fund", "coins"]) KX G ?a ?l ?c ?k ?b
      (case a => k_is); (case l => k_is); (case c => k_is); (case k => k_is)
      (case b => exact fun _ _ _ _ _ _ us hl => match us, hl with | [_, _], _ => rfl)
    have h_holders_by_remainder := by
      refine' R.FnF.of (x := "holders_by_remainder") (st := R.s_holders_by_remainder) (ps := ["fund", "coins"]) KX G ?a ?l ?c ?k ?b
      (case a => k_is); (case l => k_is); (case c => k_is); (case k => k_is)
      (case b => exact fun _ _ _ _ _ _ us hl => match us, hl with | [_, _], _ => rfl)
    have h_shares_of_all := by
      refine' R.FnF.of (x := "shares_of_all") (st := R.s_shares_of_all) (ps := ["fund", "coins"]) KX G ?a ?l ?c ?k ?b
      (case a => k_is); (case l => k_is); (case c => k_is); (case k => k_is)
      (case b => exact fun _ _ _ _ _ _ us hl => match us, hl with | [_, _], _ => rfl)
    have h_pay_up_to := by
      refine' R.FnF.of (x := "pay_up_to") (st := R.s_pay_up_to) (ps := ["book", "fund", "shares"]) KX G ?a ?l ?c ?k ?b
      (case a => k_is); (case l => k_is); (case c => k_is); (case k => k_is)
      (case b => exact fun _ _ _ _ _ _ us hl => match us, hl with | [_, _, _], _ => rfl)
    have h_pay := by
      refine' R.FnF.of (x := "pay") (st := R.s_pay) (ps := ["book", "f", "m"]) KX G ?a ?l ?c ?k ?b
      (case a => k_is); (case l => k_is); (case c => k_is); (case k => k_is)
      (case b => exact fun _ _ _ _ _ _ us hl => match us, hl with | [_, _, _], _ => rfl)
    have h_pay_last := by
      refine' R.FnF.of (x := "pay_last") (st := R.s_pay_last) (ps := ["book", "f"]) KX G ?a ?l ?c ?k ?b
      (case a => k_is); (case l => k_is); (case c => k_is); (case k => k_is)
      (case b => exact fun _ _ _ _ _ _ us hl => match us, hl with | [_, _], _ => rfl)
    have h_units_for_money := by
      refine' R.FnF.of (x := "units_for_money") (st := R.s_units_for_money) (ps := ["fund", "money"]) KX G ?a ?l ?c ?k ?b
      (case a => k_is); (case l => k_is); (case c => k_is); (case k => k_is)
      (case b => exact fun _ _ _ _ _ _ us hl => match us, hl with | [_, _], _ => rfl)
    have h_buy := by
      refine' R.FnF.of (x := "buy") (st := R.s_buy) (ps := ["book", "f", "h", "m"]) KX G ?a ?l ?c ?k ?b
      (case a => k_is); (case l => k_is); (case c => k_is); (case k => k_is)
      (case b => exact fun _ _ _ _ _ _ us hl => match us, hl with | [_, _, _, _], _ => rfl)
    have h_refusal_to_part := by
      refine' R.FnF.of (x := "refusal_to_part") (st := R.s_refusal_to_part) (ps := ["fund", "h", "u"]) KX G ?a ?l ?c ?k ?b
      (case a => k_is); (case l => k_is); (case c => k_is); (case k => k_is)
      (case b => exact fun _ _ _ _ _ _ us hl => match us, hl with | [_, _, _], _ => rfl)
    have h_sell := by
      refine' R.FnF.of (x := "sell") (st := R.s_sell) (ps := ["book", "f", "h", "u"]) KX G ?a ?l ?c ?k ?b
      (case a => k_is); (case l => k_is); (case c => k_is); (case k => k_is)
      (case b => exact fun _ _ _ _ _ _ us hl => match us, hl with | [_, _, _, _], _ => rfl)
    have h_transfer := by
      refine' R.FnF.of (x := "transfer") (st := R.s_transfer) (ps := ["book", "f", "h", "g", "u"]) KX G ?a ?l ?c ?k ?b
      (case a => k_is); (case l => k_is); (case c => k_is); (case k => k_is)
      (case b => exact fun _ _ _ _ _ _ us hl => match us, hl with | [_, _, _, _, _], _ => rfl)
    have h_result := by
      refine' R.FnF.of (x := "result") (st := R.s_result) (ps := ["book", "f", "d"]) KX G ?a ?l ?c ?k ?b
      (case a => k_is); (case l => k_is); (case c => k_is); (case k => k_is)
      (case b => exact fun _ _ _ _ _ _ us hl => match us, hl with | [_, _, _], _ => rfl)
    have h_answer_in_trading := by
      refine' R.FnF.of (x := "answer_in_trading") (st := R.s_answer_in_trading) (ps := ["book", "call", "n"]) KX G ?a ?l ?c ?k ?b
      (case a => k_is); (case l => k_is); (case c => k_is); (case k => k_is)
      (case b => exact fun _ _ _ _ _ _ us hl => match us, hl with | [_, _, _], _ => rfl)
    have h_answer_on_schemes := by
      refine' R.FnF.of (x := "answer_on_schemes") (st := R.s_answer_on_schemes) (ps := ["book", "call", "n"]) KX G ?a ?l ?c ?k ?b
      (case a => k_is); (case l => k_is); (case c => k_is); (case k => k_is)
      (case b => exact fun _ _ _ _ _ _ us hl => match us, hl with | [_, _, _], _ => rfl)
    have h_answer_in_closing := by
      refine' R.FnF.of (x := "answer_in_closing") (st := R.s_answer_in_closing) (ps := ["book", "call", "n"]) KX G ?a ?l ?c ?k ?b
      (case a => k_is); (case l => k_is); (case c => k_is); (case k => k_is)
      (case b => exact fun _ _ _ _ _ _ us hl => match us, hl with | [_, _, _], _ => rfl)
    have h_answer_about_funds := by
      refine' R.FnF.of (x := "answer_about_funds") (st := R.s_answer_about_funds) (ps := ["book", "call", "n"]) KX G ?a ?l ?c ?k ?b
      (case a => k_is); (case l => k_is); (case c => k_is); (case k => k_is)
      (case b => exact fun _ _ _ _ _ _ us hl => match us, hl with | [_, _, _], _ => rfl)
    have h_answer_about_schemes := by
      refine' R.FnF.of (x := "answer_about_schemes") (st := R.s_answer_about_schemes) (ps := ["book", "call", "n"]) KX G ?a ?l ?c ?k ?b
      (case a => k_is); (case l => k_is); (case c => k_is); (case k => k_is)
      (case b => exact fun _ _ _ _ _ _ us hl => match us, hl with | [_, _, _], _ => rfl)
    have h_answer_of := by
      refine' R.FnF.of (x := "answer_of") (st := R.s_answer_of) (ps := ["book", "call", "numbers"]) KX G ?a ?l ?c ?k ?b
      (case a => k_is); (case l => k_is); (case c => k_is); (case k => k_is)
      (case b => exact fun _ _ _ _ _ _ us hl => match us, hl with | [_, _, _], _ => rfl)
    have h_answers := by
      refine' R.FnF.of (x := "answers") (st := R.s_answers) (ps := ["calls"]) KX G ?a ?l ?c ?k ?b
      (case a => k_is); (case l => k_is); (case c => k_is); (case k => k_is)
      (case b => exact fun _ _ _ _ _ _ us hl => match us, hl with | [_], _ => rfl)
    exact R.all_ok hC.1 hC.2.1 hC.2.2.1 hC.2.2.2.1 hC.2.2.2.2 h_within h_is_fund h_is_holder h_is_amount_of_units h_is_millionths h_all_units h_all_paid h_is_worthless h_units_of h_add_to_holding h_take_from_holding h_fits_kind h_propose h_refusal_of_number h_refusal_of_state h_vote h_proxy h_speaker_for h_tally_of h_count_votes h_brought_by h_brought_to_all h_hand_out h_join_into h_divide_into h_set_closing h_carry_out h_take_effect h_tell_fund h_tell_holding h_tell_cash h_tell_holders h_tell_scheme h_tell_tally h_tell_speaker h_tell_offer h_shares_rounded_down h_holders_by_remainder h_shares_of_all h_pay_up_to h_pay h_pay_last h_units_for_money h_buy h_refusal_to_part h_sell h_transfer h_result h_answer_in_trading h_answer_on_schemes h_answer_in_closing h_answer_about_funds h_answer_about_schemes h_answer_of h_answers hmg
  case S =>
    intro K H xs a hO hwi hask hx
    cases hx with
    | cons h1 h2 =>
      cases h2
      cases h1 with
      | lst hs ha =>
        have e := L2.ints_dw a.1 _ ha
        subst e
        obtain ⟨cs, c1, c2, c3⟩ := M.answers_due (l := a.1) hask
        refine ⟨_, a.1, cs, rfl, R.onlyF_good hO, hs, c1, c2, fun H' p hp => ?_⟩
        have e2 : Codec.app PySem.Challenge.rw_fundsjoined_s01_answers.args PySem.Challenge.rw_fundsjoined_s01_answers.f a = M.dueFrom Vbfual.start cs := c3
        rw [e2]
        exact .lst (L2.SqL.of hp) (L2.dw_ints _)
