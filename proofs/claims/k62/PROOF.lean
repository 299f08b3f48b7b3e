import PyProof.Rows.All
import Wide.All
import OpenK.AllK
import Wide.FinOn
import PyProof.EqAt
import PyProof.EqKinds
import PyProof.TupleCall
import KE.BitLaws
import PySem.Challenge.RW_floortwos_k62_moves_of_cells

set_option Elab.async false
set_option linter.all false
set_option maxRecDepth 100000
namespace L2
open PySem PySem.Spec PyProof.Rows
abbrev Key := Sum Int Str
def keyIs : Key → Value → Bool
  | .inl k, v => Value.isInt k v
  | .inr x, v => Value.isStrOf x v
def keyH (w : World) : Key → Int
  | .inl k => hashInt k
  | .inr x => hashStr w x
theorem keyIs_shape : ∀ {k : Key} {v : Value}, keyIs k v = true → (∃ i t, k = Sum.inl i ∧ v = Value.int i t) ∨ (∃ x t, k = Sum.inr x ∧ v = Value.str x t)
  | .inl i, v, h => by
    obtain ⟨t, e⟩ := Value.isInt_shape (k := i) (v := v) h
    exact .inl ⟨i, t, rfl, e⟩
  | .inr x, v, h => by
    obtain ⟨t, e⟩ := Value.isStrOf_shape (x := x) (v := v) h
    exact .inr ⟨x, t, rfl, e⟩
theorem keyIs_int (i : Int) (t : Tok) : keyIs (.inl i) (.int i t) = true := by simp [keyIs, Value.isInt]
theorem keyIs_str (x : Str) (t : Tok) : keyIs (.inr x) (.str x t) = true := by simp [keyIs, Value.isStrOf]
theorem key_ll (a b : Int) : decide ((Sum.inl a : Key) = Sum.inl b) = (a == b) := by
  by_cases e : a = b
  · subst e; simp
  · have h : ¬ (Sum.inl a : Key) = Sum.inl b := fun q => e (Sum.inl.inj q)
    rw [decide_eq_false h]
    exact (beq_eq_false_iff_ne.mpr e).symm
theorem key_rr (a b : Str) : decide ((Sum.inr a : Key) = Sum.inr b) = decide (a = b) := by
  by_cases e : a = b
  · subst e; simp
  · have h : ¬ (Sum.inr a : Key) = Sum.inr b := fun q => e (Sum.inr.inj q)
    rw [decide_eq_false h, decide_eq_false e]
theorem key_lr (a : Int) (b : Str) : decide ((Sum.inl a : Key) = Sum.inr b) = false := decide_eq_false (fun q => nomatch q)
theorem key_rl (a : Str) (b : Int) : decide ((Sum.inr a : Key) = Sum.inl b) = false := decide_eq_false (fun q => nomatch q)
def mixKind (prog : Program) (w : World) : PySem.KeyKind prog w Key where
  is := keyIs
  hash := keyH w
  inj := fun v a b ha hb => by
    rcases keyIs_shape ha with ⟨i, t, rfl, rfl⟩ | ⟨x, t, rfl, rfl⟩
    · rcases keyIs_shape hb with ⟨j, u, rfl, e⟩ | ⟨y, u, rfl, e⟩
      · injection e with e1 _; rw [e1]
      · exact nomatch e
    · rcases keyIs_shape hb with ⟨j, u, rfl, e⟩ | ⟨y, u, rfl, e⟩
      · exact nomatch e
      · injection e with e1 _; rw [e1]
  byValue := fun k v h => by
    rcases keyIs_shape h with ⟨i, t, rfl, rfl⟩ | ⟨x, t, rfl, rfl⟩ <;> rfl
  pyHash := fun hv h => by
    rcases keyIs_shape hv with ⟨i, t, rfl, rfl⟩ | ⟨x, t, rfl, rfl⟩
    · exact wpAny_pyHash_int h
    · exact wpAny_pyHash_str h
  eqBool := fun hu hv h => by
    rcases keyIs_shape hu with ⟨i, t, rfl, rfl⟩ | ⟨x, t, rfl, rfl⟩
    · rcases keyIs_shape hv with ⟨j, u, rfl, rfl⟩ | ⟨y, u, rfl, rfl⟩
      · rw [key_ll] at h; exact wpAny_eqBool_int h
      · rw [key_lr] at h; exact SeqAt.EqAt.int_str i t y u _ _ _ _ h
    · rcases keyIs_shape hv with ⟨j, u, rfl, rfl⟩ | ⟨y, u, rfl, rfl⟩
      · rw [key_rl] at h; exact SeqAt.EqAt.str_int x t j u _ _ _ _ h
      · rw [key_rr] at h; exact wpAny_eqBool_str h
  «strs» := fun k x t v h => by
    rcases keyIs_shape h with ⟨i, u, rfl, e⟩ | ⟨y, u, rfl, e⟩
    · exact nomatch e
    · injection e with e1 _
      subst e1
      cases v <;> rfl
theorem mixKind_int (prog : Program) (w : World) (i : Int) (t : Tok) : (mixKind prog w).is (.inl i) (.int i t) = true := keyIs_int i t
theorem mixKind_str (prog : Program) (w : World) (x : Str) (t : Tok) : (mixKind prog w).is (.inr x) (.str x t) = true := keyIs_str x t
end L2
namespace L2
open PySem PySem.Spec PyProof.Rows
inductive V where
  | non | bl (b : Bool) | int (i : Int) | str (x : Str) | byt (b : Array UInt8) | flt (b : UInt64) | ref (a : Addr) | ty (n : String)
  deriving DecidableEq
def RelV : V → Value → Prop
  | .non, u => u = Value.none
  | .bl b, u => u = Value.bool b
  | .int i, u => ∃ t, u = Value.int i t
  | .str x, u => ∃ t, u = Value.str x t
  | .byt b, u => ∃ t, u = Value.bytes b t
  | .flt b, u => ∃ t, u = Value.float b t
  | .ref a, u => u = Value.ref a
  | .ty n, u => u = Value.type n
abbrev Vals : List V → List Value → Prop := Paired RelV
theorem Vals.length {xs : List V} {us : List Value} (r : Vals xs us) : xs.length = us.length := Paired.length r
theorem Vals.get : ∀ {xs : List V} {us : List Value} {i : Nat} {x : V}, Vals xs us → xs[i]? = some x → ∃ u, us[i]? = some u ∧ RelV x u
  | _, _, _, _, .nil, e => by simp at e
  | _, _, 0, _, .cons r _, e => by simp at e; subst e; exact ⟨_, rfl, r⟩
  | _, _, i + 1, x, .cons _ t, e => by
    obtain ⟨u, h1, h2⟩ := Vals.get (i := i) (x := x) t (by simpa using e)
    exact ⟨u, by simpa using h1, h2⟩
theorem Vals.set {x : V} {u : Value} (r : RelV x u) : ∀ {xs : List V} {us : List Value} (i : Nat), Vals xs us → Vals (xs.set i x) (us.set i u)
  | _, _, _, .nil => .nil
  | _, _, 0, .cons _ t => .cons r t
  | _, _, i + 1, .cons q t => .cons q (Vals.set r i t)
theorem Vals.append : ∀ {xs ys : List V} {us ws : List Value}, Vals xs us → Vals ys ws → Vals (xs ++ ys) (us ++ ws)
  | _, _, _, _, .nil, s => s
  | _, _, _, _, .cons r t, s => .cons r (Vals.append t s)
theorem Vals.take : ∀ {xs : List V} {us : List Value} (n : Nat), Vals xs us → Vals (xs.take n) (us.take n)
  | _, _, 0, _ => .nil
  | _, _, _ + 1, .nil => .nil
  | _, _, n + 1, .cons r t => .cons r (Vals.take n t)
theorem Vals.drop : ∀ {xs : List V} {us : List Value} (n : Nat), Vals xs us → Vals (xs.drop n) (us.drop n)
  | _, _, 0, r => r
  | _, _, _ + 1, .nil => .nil
  | _, _, n + 1, .cons _ t => Vals.drop n t
theorem Vals.none_of : ∀ {xs : List V} {us : List Value} {i : Nat}, Vals xs us → xs[i]? = none → us[i]? = none := fun {xs us i} r e => by
  have h1 := r.length
  have h2 : xs.length ≤ i := List.getElem?_eq_none_iff.mp e
  exact List.getElem?_eq_none_iff.mpr (by omega)
def RelO : Option V → Option Value → Prop
  | some v, some u => RelV v u
  | none, none => True
  | _, _ => False
def KV {κ : Type} : List (κ × V) → List (κ × Value) → Prop := Paired fun (p : κ × V) (q : κ × Value) => p.1 = q.1 ∧ RelV p.2 q.2
def kV : Key → V
  | .inl i => .int i
  | .inr x => .str x
inductive HO where
  | lst (xs : List V)
  | tup (xs : List V)
  | dK (kvs : List (Key × V)) | dT (kvs : List (List Key × V))
  | set (S : Int → Bool) (n : Nat)
  | ins (C dx : Addr) (fs : List (Str × V))
  | own (x : Addr)
  | xd (fs : List (Str × V))
  | met (f x : Addr)
  | rng (lo hi : Int)
  | frz (o : Obj) (u : HO)
  | tbl (ps : Array Value)
  | ext (φ : Heap → Prop)
abbrev Hp := Addr → Option HO
def upd (H : Hp) (a : Addr) (o : HO) : Hp := fun b => if b = a then some o else H b
theorem upd_same {H : Hp} {a : Addr} {o : HO} : upd H a o a = some o := by unfold upd; rw [if_pos rfl]
theorem upd_ne {H : Hp} {a b : Addr} {o : HO} (h : b ≠ a) : upd H a o b = H b := by unfold upd; rw [if_neg h]
theorem upd_upd {H : Hp} {a : Addr} {o u : HO} : upd (upd H a o) a u = upd H a u := by
  funext b; unfold upd; split <;> rfl
theorem ne_of_none {H : Hp} {a b : Addr} {o : HO} (h : H a = some o) (h' : H b = none) : a ≠ b := by
  intro e; subst e; rw [h] at h'; cases h'
section
variable (P : Program) (w : World)
def IsTupN (h : Heap) (a : Addr) (items : Array Value) : Prop := ∃ o, h.get? a = some o ∧ o.cls = .type "tuple" ∧ ∃ n, o.data = .seq items n ∧ o.dict = none
theorem IsTupN.new (h : Heap) (items : Array Value) : IsTupN (h.push { cls := .type "tuple", data := .seq items }) h.objs.size items := ⟨_, Heap.get?_push_size _ rfl, rfl, _, rfl, rfl⟩
theorem IsTupN.tup {h : Heap} {a : Addr} {items : Array Value} (x : IsTupN h a items) : IsTup h a items := let ⟨o, e, c, n, d, _⟩ := x; ⟨o, e, c, n, d⟩
theorem IsTupN.lt {h : Heap} {a : Addr} {items : Array Value} (x : IsTupN h a items) : a < h.objs.size := let ⟨_, e, _⟩ := x; Heap.lt_size e
def ObjOk (H : Hp) (h : Heap) (a : Addr) : HO → Prop
  | .lst xs => xs.length ≤ sizeLine ∧ ∃ (its : List Value) (n : Nat), Vals xs its ∧ h.get? a = some { cls := .type "list", data := .seq its.toArray n }
  | .tup xs => xs.length ≤ sizeLine ∧ ∃ its : List Value, Vals xs its ∧ IsTupN h a its.toArray
  | .dK kvs => kvs.length ≤ sizeLine ∧ (a == sysModules) = false ∧ ∃ vs, KV kvs vs ∧ h.DictOf (mixKind P w) a vs
  | .dT kvs => kvs.length ≤ sizeLine ∧ (a == sysModules) = false ∧ ∃ xs : List (List Key × Addr × Value),
      Paired (fun (p : List Key × V) (q : List Key × Addr × Value) => p.1 = q.1 ∧ H q.2.1 = some (.tup (p.1.map kV)) ∧ RelV p.2 q.2.2) kvs xs ∧
      ∃ o es ep, h.get? a = some o ∧ o.ExactDict ∧ o.data = .dict es ep ∧ es.toList = xs.map (entryOfKey (tupleKind (mixKind P w))) ∧ (xs.map (·.1)).Nodup
  | .set S n => h.SetOf (intKind P w) a S n
  | .ins C dx fs => H dx = some (.own a) ∧ fs.length ≤ 1000 ∧ dx ≠ a ∧ h.get? a = some (PySem.W.instObj C dx) ∧
      ∃ mA, h.Ns1 dx mA ∧ (∀ f, RelO (fs.lookup f) (mA f)) ∧ PySem.Within mA (fs.map (·.1))
  | .own _ => ∃ o, h.get? a = some o
  | .xd fs => ∃ mA, h.Ns1 a mA ∧ ∀ f, RelO (fs.lookup f) (mA f)
  | .rng lo hi => ∃ t u v, h.get? a = some { cls := .type "range", data := .fields #[.int lo t, .int hi u, .int 1 v] }
  | .frz o u => h.get? a = some o ∧ ObjOk H h a u
  | .tbl ps => h.get? a = some { cls := .none, data := .fields ps }
  | .met f x => h.get? a = some (PySem.W.methodObj (.ref f) (.ref x))
  | .ext φ => φ h ∧ (∃ o, h.get? a = some o) ∧ ∀ h1 h2 : Heap, φ h1 → (∀ o, h1.get? a = some o → h2.get? a = some o) → φ h2
def HOk (H : Hp) (h : Heap) : Prop := ∀ a o, H a = some o → ObjOk P w H h a o
end
section
variable {P : Program} {w : World} {H H' : Hp} {h h' : Heap} {a : Addr} {o : HO}
theorem ObjOk.lt (x : ObjOk P w H h a o) : a < h.objs.size := by
  cases o with
  | lst xs => obtain ⟨_, _, _, _, e⟩ := x; exact Heap.lt_size e
  | tup xs => obtain ⟨_, _, _, p⟩ := x; exact p.lt
  | dK kvs => obtain ⟨_, _, _, _, o, _, _, e, _⟩ := x; exact Heap.lt_size e
  | dT kvs => obtain ⟨_, _, _, _, o, _, _, e, _⟩ := x; exact Heap.lt_size e
  | set S n => obtain ⟨o, _, _, _, e, _⟩ := x; exact Heap.lt_size e
  | ins C dx fs => obtain ⟨_, _, _, e, _⟩ := x; exact Heap.lt_size e
  | own y => obtain ⟨_, e⟩ := x; exact Heap.lt_size e
  | xd fs => obtain ⟨_, ⟨_, _, _, e, _⟩, _⟩ := x; exact Heap.lt_size e
  | rng lo hi => obtain ⟨_, _, _, e⟩ := x; exact Heap.lt_size e
  | frz ob u => obtain ⟨e, _⟩ := x; exact Heap.lt_size e
  | tbl ps => exact Heap.lt_size (show h.get? a = some _ from x)
  | met f y => exact Heap.lt_size (show h.get? a = some _ from x)
  | ext φ => obtain ⟨_, ⟨_, e⟩, _⟩ := x; exact Heap.lt_size e
theorem Paired.mapP {α β : Type} {F G : α → β → Prop} : ∀ {l₁ : List α} {l₂ : List β}, Paired F l₁ l₂ → (∀ a b, F a b → G a b) → Paired G l₁ l₂
  | _, _, .nil, _ => .nil
  | _, _, .cons r t, f => .cons (f _ _ r) (Paired.mapP t f)
theorem ObjOk.stay (x : ObjOk P w H h a o) (k : ∀ b u, (b = a ∨ H b = some (.own a)) → h.get? b = some u → h'.get? b = some u)
    (ho : ∀ b, H b = some (.own a) → H' b = some (.own a)) (ht : ∀ b xs, H b = some (.tup xs) → H' b = some (.tup xs)) : ObjOk P w H' h' a o := by
  induction o with
  | lst xs => obtain ⟨z, its, n, r, e⟩ := x; exact ⟨z, its, n, r, k _ _ (.inl rfl) e⟩
  | tup xs => obtain ⟨z, its, r, ob, e, c⟩ := x; exact ⟨z, its, r, ob, k _ _ (.inl rfl) e, c⟩
  | dK kvs => obtain ⟨z, y, vs, r, ob, es, ep, e, c⟩ := x; exact ⟨z, y, vs, r, ob, es, ep, k _ _ (.inl rfl) e, c⟩
  | dT kvs =>
    obtain ⟨z, y, xs, r, ob, es, ep, e, c⟩ := x
    exact ⟨z, y, xs, Paired.mapP r fun p q z => ⟨z.1, ht _ _ z.2.1, z.2.2⟩, ob, es, ep, k _ _ (.inl rfl) e, c⟩
  | set S n => obtain ⟨ob, es, ep, t, e, c⟩ := x; exact ⟨ob, es, ep, t, k _ _ (.inl rfl) e, c⟩
  | ins C dx fs =>
    obtain ⟨d, z, ne, e, mA, ⟨od, es, ep, e2, c⟩, r⟩ := x
    exact ⟨ho _ d, z, ne, k _ _ (.inl rfl) e, mA, ⟨od, es, ep, k _ _ (.inr d) e2, c⟩, r⟩
  | own y => obtain ⟨ob, e⟩ := x; exact ⟨ob, k _ _ (.inl rfl) e⟩
  | xd fs => obtain ⟨mA, ⟨od, es, ep, e, c⟩, r⟩ := x; exact ⟨mA, ⟨od, es, ep, k _ _ (.inl rfl) e, c⟩, r⟩
  | rng lo hi => obtain ⟨t, u, v, e⟩ := x; exact ⟨t, u, v, k _ _ (.inl rfl) e⟩
  | frz ob u ih => obtain ⟨e, q⟩ := x; exact ⟨k _ _ (.inl rfl) e, ih q⟩
  | tbl ps =>
    have e : h.get? a = some { cls := .none, data := .fields ps } := x
    show h'.get? a = some { cls := .none, data := .fields ps }
    exact k a _ (.inl rfl) e
  | met f y =>
    have e : h.get? a = some (PySem.W.methodObj (.ref f) (.ref y)) := x
    show h'.get? a = some (PySem.W.methodObj (.ref f) (.ref y))
    exact k a _ (.inl rfl) e
  | ext φ => obtain ⟨p, ⟨o, e⟩, st⟩ := x; exact ⟨st _ _ p fun o q => k _ _ (.inl rfl) q, ⟨o, k _ _ (.inl rfl) e⟩, st⟩
theorem HOk.lt (x : HOk P w H h) (e : H a = some o) : a < h.objs.size := (x a o e).lt
theorem HOk.fresh (x : HOk P w H h) (e : h.objs.size ≤ a) : H a = none := by
  cases q : H a with
  | none => rfl
  | some u => exact absurd (Nat.lt_of_lt_of_le (x.lt q) e) (Nat.lt_irrefl _)
theorem HOk.kept (x : HOk P w H h) (k : ∀ b u, h.get? b = some u → h'.get? b = some u) : HOk P w H h' := fun a o e =>
  (x a o e).stay (fun b u _ q => k b u q) (fun _ q => q) fun _ _ q => q
theorem HOk.laid (x : HOk P w H h) (k : ∀ b u, h.get? b = some u → h'.get? b = some u) (hp : h.objs.size ≤ a) (new : ObjOk P w (upd H a o) h' a o) : HOk P w (upd H a o) h' := fun b u e => by
  have hn := x.fresh hp
  by_cases hb : b = a
  · subst hb; rw [upd_same] at e; cases e; exact new
  · rw [upd_ne hb] at e
    exact (x b u e).stay (fun c v _ q => k c v q) (fun c q => by rw [upd_ne (ne_of_none q hn)]; exact q) fun c xs q => by rw [upd_ne (ne_of_none q hn)]; exact q
end
def Rd (H : Hp) (a : Addr) (u : HO) : Prop := H a = some u ∨ ∃ o, H a = some (.frz o u)
theorem Rd.of {H : Hp} {a : Addr} {u : HO} (h : H a = some u) : Rd H a u := .inl h
theorem Rd.ok {P : Program} {w : World} {H : Hp} {h : Heap} {a : Addr} {u : HO} (r : Rd H a u) (x : HOk P w H h) : ObjOk P w H h a u := by
  rcases r with r | ⟨o, r⟩
  · exact x a u r
  · obtain ⟨_, q⟩ := x a _ r
    exact q
def Mut : Option HO → Prop
  | some (.lst _) => True
  | some (.dK _) => True
  | some (.dT _) => True
  | some (.set _ _) => True
  | some (.ins _ _ _) => True
  | some (.ext _) => True
  | _ => False
section
variable {P : Program} {w : World} {H : Hp} {h h' : Heap} {x e : Addr} {o' : HO}
theorem HOk.write (ok : HOk P w H h) (mu : Mut (H x)) (he : e = x ∨ H e = some (.own x)) (k : ∀ b u, b ≠ e → h.get? b = some u → h'.get? b = some u) (heo : ∃ u, h'.get? e = some u)
    (new : ObjOk P w (upd H x o') h' x o') : HOk P w (upd H x o') h' := fun b u q => by
  have nown : ∀ c y, H c = some (.own y) → c ≠ x := fun c y r z => by subst z; rw [r] at mu; exact mu
  have ntup : ∀ c xs, H c = some (.tup xs) → c ≠ x := fun c xs r z => by subst z; rw [r] at mu; exact mu
  by_cases hb : b = x
  · subst hb; rw [upd_same] at q; cases q; exact new
  · rw [upd_ne hb] at q
    by_cases hbe : b = e
    · have q' : H b = some (.own x) := by
        rcases he with z | z
        · exact absurd (hbe.trans z) hb
        · rw [hbe]; exact z
      rw [q] at q'; cases q'
      obtain ⟨v, hv⟩ := heo
      exact ⟨v, by rw [hbe]; exact hv⟩
    · refine (ok b u q).stay (fun c v hc r => k c v ?_ r) (fun c r => by rw [upd_ne (nown c b r)]; exact r) fun c xs r => by rw [upd_ne (ntup c xs r)]; exact r
      rcases hc with rfl | hc
      · exact hbe
      · rintro rfl
        rcases he with z | z
        · exact nown c b hc z
        · rw [hc] at z; cases z; exact hb rfl
end
structure Un (fs ex : List Addr) (H H' : Hp) (h h' : Heap) : Prop where
  keep : ∀ b o, h.get? b = some o → H b = none → b ∉ fs → b ∉ ex → h'.get? b = some o
  slot : ∀ b o, h.get? b = some o → H b = none → b ∈ fs → b ∉ ex → ∃ sl, h'.get? b = some { o with slots := sl }
  free : ∀ b o, h.get? b = some o → H b = none → b ∉ ex → H' b = none
  there : ∀ b o, h.get? b = some o → b ∉ ex → ∃ o', h'.get? b = some o'
  tups : ∀ b xs, H b = some (.tup xs) → H' b = some (.tup xs)
  frzs : ∀ b o u, H b = some (.frz o u) → H' b = some (.frz o u)
  tbls : ∀ b ps, H b = some (.tbl ps) → ∃ more, H' b = some (.tbl (ps ++ more))
section
variable {fs fs' ex ex' : List Addr} {H H1 H2 : Hp} {h h1 h2 h' : Heap} {a x e : Addr} {o : HO}
theorem Un.any (u : Un fs ex H H1 h h1) {b : Addr} {ob : Obj} (q : h.get? b = some ob) (n : H b = none) (hx : b ∉ ex) : ∃ sl, h1.get? b = some { ob with slots := sl } := by
  by_cases hb : b ∈ fs
  · exact u.slot b ob q n hb hx
  · exact ⟨ob.slots, u.keep b ob q n hb hx⟩
theorem Un.trans (a : Un fs ex H H1 h h1) (b : Un fs ex H1 H2 h1 h2) : Un fs ex H H2 h h2 where
  keep := fun c ob q n hc hx => b.keep c ob (a.keep c ob q n hc hx) (a.free c ob q n hx) hc hx
  slot := fun c ob q n hc hx => by
    obtain ⟨sl, e1⟩ := a.slot c ob q n hc hx
    obtain ⟨sl', e2⟩ := b.slot c _ e1 (a.free c ob q n hx) hc hx
    exact ⟨sl', e2⟩
  free := fun c ob q n hx => by
    obtain ⟨o', e1⟩ := a.there c ob q hx
    exact b.free c o' e1 (a.free c ob q n hx) hx
  there := fun c ob q hx => by
    obtain ⟨o', e1⟩ := a.there c ob q hx
    exact b.there c o' e1 hx
  tups := fun c xs q => b.tups c xs (a.tups c xs q)
  frzs := fun c ob xs q => b.frzs c ob xs (a.frzs c ob xs q)
  tbls := fun c ps q => by
    obtain ⟨m1, e1⟩ := a.tbls c ps q
    obtain ⟨m2, e2⟩ := b.tbls c _ e1
    exact ⟨m1 ++ m2, by rw [e2, Array.append_assoc]⟩
theorem Un.kept (k : ∀ b u, h.get? b = some u → h'.get? b = some u) : Un fs ex H H h h' :=
  ⟨fun b ob q _ _ _ => k b ob q, fun b ob q _ _ _ => ⟨ob.slots, k b ob q⟩, fun _ _ _ n _ => n, fun b ob q _ => ⟨ob, k b ob q⟩, fun _ _ q => q, fun _ _ _ q => q, fun _ ps q => ⟨#[], by rw [q]; simp⟩⟩
theorem Un.refl : Un fs ex H H h h := Un.kept fun _ _ q => q
theorem Un.laid (k : ∀ b u, h.get? b = some u → h'.get? b = some u) (hp : h.objs.size ≤ a) (hn : H a = none) : Un fs ex H (upd H a o) h h' where
  keep := fun b u q _ _ _ => k b u q
  slot := fun b u q _ _ _ => ⟨u.slots, k b u q⟩
  free := fun b u q n _ => by rw [upd_ne (Nat.ne_of_lt (Nat.lt_of_lt_of_le (Heap.lt_size q) hp))]; exact n
  there := fun b u q _ => ⟨u, k b u q⟩
  tups := fun b xs q => by rw [upd_ne (ne_of_none q hn)]; exact q
  frzs := fun b u xs q => by rw [upd_ne (ne_of_none q hn)]; exact q
  tbls := fun b ps q => ⟨#[], by rw [upd_ne (ne_of_none q hn), q]; simp⟩
theorem Un.write (mu : Mut (H x)) (he : e = x ∨ H e = some (.own x)) (k : ∀ b u, b ≠ e → h.get? b = some u → h'.get? b = some u) (heo : ∃ u, h'.get? e = some u) : Un fs ex H (upd H x o) h h' := by
  have hx : ∀ b, H b = none → b ≠ x := fun b n z => by subst z; rw [n] at mu; exact mu
  have hb : ∀ b, H b = none → b ≠ e := fun b n z => by
    subst z
    rcases he with r | r
    · exact hx b n r
    · rw [n] at r; cases r
  have hm : ∀ b u, H b = some u → ¬ Mut (some u) → b ≠ x := fun b u q nm z => by subst z; rw [q] at mu; exact nm mu
  refine ⟨fun b u q n _ _ => k b u (hb b n) q, fun b u q n _ _ => ⟨u.slots, k b u (hb b n) q⟩, fun b u q n _ => by rw [upd_ne (hx b n)]; exact n, fun b u q _ => ?_,
    fun b xs q => by rw [upd_ne (hm b _ q fun z => z)]; exact q, fun b u xs q => by rw [upd_ne (hm b _ q fun z => z)]; exact q, fun b ps q => ⟨#[], by rw [upd_ne (hm b _ q fun z => z), q]; simp⟩⟩
  by_cases hbe : b = e
  · subst hbe; exact heo
  · exact ⟨u, k b u hbe q⟩
theorem Un.mono (u : Un fs ex H H1 h h1) (hs : ∀ b ∈ fs, b ∈ fs') (hx : ∀ b ∈ ex, b ∈ ex') : Un fs' ex' H H1 h h1 :=
  ⟨fun b ob q n hb he => u.keep b ob q n (fun z => hb (hs b z)) fun z => he (hx b z), fun _ _ q n _ he => u.any q n fun z => he (hx _ z), fun b ob q n he => u.free b ob q n fun z => he (hx b z), fun b ob q he => u.there b ob q fun z => he (hx b z), u.tups, u.frzs, u.tbls⟩
end
def trk (h : Heap) (H : Hp) : List Addr := (List.range h.objs.size).filter fun a => (H a).isSome
def hidT (h : Heap) (H : Hp) : Heap := PySem.W.hideAll h (trk h H)
theorem hidT_size (h : Heap) (H : Hp) : (hidT h H).objs.size = h.objs.size := PySem.W.hideAll_size _ _
theorem hidT_get {h : Heap} {H : Hp} {b : Addr} {o : Obj} (e : h.get? b = some o) (n : H b = none) : (hidT h H).get? b = some o :=
  PySem.W.hideAll_get _ e fun hm => by
    have q : (H b).isSome = true := (List.mem_filter.mp hm).2
    rw [n] at q; simp at q
theorem of_hidT {h : Heap} {H : Hp} {b : Addr} {o : Obj} (e : (hidT h H).get? b = some o) : h.get? b = some o ∧ H b = none := by
  have e' : h.get? b = some o := PySem.W.of_hideAll (trk h H) e
  refine ⟨e', ?_⟩
  cases q : H b with
  | none => rfl
  | some x =>
    have hm : b ∈ trk h H := List.mem_filter.mpr ⟨List.mem_range.mpr (Heap.lt_size e'), by simp [q]⟩
    have z : (hidT h H).get? b = none := PySem.W.hideAll_none (trk h H) hm
    rw [z] at e; cases e
def allNews (g h : Heap) (L : Addr) : List (Addr × Obj) := (List.range h.objs.size).filterMap fun a => if a = L ∨ (g.get? a).isSome = true then none else (h.get? a).map fun o => (a, o)
def rest (g h : Heap) (L d : Addr) : List (Addr × Obj) := (allNews g h L).filter fun p => decide (p.1 ≠ d)
end L2
namespace L2
open PySem PySem.Spec PyProof.Rows
structure Mod (K : PySem.W.Frag) (mg : Str → Option Value) (base : Heap) : Prop where
  kin : K.In base
  glob : base.Ns mainGlobals mg
  blt : ∃ mb, base.Ns builtinsNs mb ∧ ∀ x : Str, x ≠ "__name__" → mb x = bootBuiltins x
  nolimit : base.NoLimit
structure Cx where
  prog : Program
  w : World
  K : PySem.W.Frag
  mg : Str → Option Value
  base : Heap
  A : Around
  N : List Str
  s_0 : Shared
  H_0 : Hp
  env : Env
  outer : List Env
  stack : List Env
  ex : List Addr
  fn : Str → Bool
  calm : Bool
  pn : List (Addr × Obj)
  xe : Value → Shared → Prop
def frs (l : List Env) : List Addr := l.filterMap (·.frame)
abbrev Cx.fs (X : Cx) : List Addr := frs X.outer
def Vis (sc : Scope) (x : Str) : Prop := sc.names.lookup x = some .local ∨ sc.names.lookup x = some .cell ∨ sc.names.lookup x = some .free
def Loc (sc : Scope) (x : Str) : Prop := sc.names.lookup x = some .local ∨ sc.names.lookup x = some .cell
def Look (env : Env) (h : Heap) (m : Str → Option Value) (x : Str) (u : Value) : Prop :=
  (env.kindOf x = some .local ∧ m x = some u) ∨ ((env.kindOf x = some .cell ∨ env.kindOf x = some .free) ∧ ∃ c, env.cells.lookup x = some c ∧ h.IsCell c (some u))
structure Cx.Ok (X : Cx) : Prop where
  mod : Mod X.K X.mg X.base
  kind : X.env.scope.kind = .function
  glob : X.env.globals = mainGlobals
  blt : X.env.builtins = builtinsNs
  above : X.s_0.heap.objs.size ≤ X.env.locals
  inj : ∀ x y c, X.env.cells.lookup x = some c → X.env.cells.lookup y = some c → x = y
  has : ∀ x, (X.env.kindOf x = some .cell ∨ X.env.kindOf x = some .free) → ∃ c, X.env.cells.lookup x = some c
  cab : ∀ x c, X.fn x = true → X.env.cells.lookup x = some c → X.s_0.heap.objs.size ≤ c
  hd : X.calm = true → X.A.handled = none
  frames : X.A.frames = some X.stack
  stk : X.stack = X.outer ∨ (X.stack = X.env :: X.outer ∧ X.env.frame = some X.env.locals)
  exf : ∀ b ∈ X.ex, b ≠ X.env.locals ∧ ∀ x c, X.env.cells.lookup x = some c → c ≠ b
  bs : ∀ b o, X.base.get? b = some o → X.s_0.heap.get? b = some o ∧ X.H_0 b = none
  bsz : X.base.objs.size ≤ X.s_0.heap.objs.size
  noex : ∀ b o, X.base.get? b = some o → b ∉ X.ex
  exfs : ∀ b ∈ X.ex, b ∉ X.fs
  funs : X.s_0.heap.FunFrames X.base X.outer
  frf : ∀ b ∈ X.fs, X.H_0 b = none
structure Inv (X : Cx) (pins : List (Addr × Obj)) (σ : List (Option V)) (H : Hp) (s : Shared) : Prop where
  ok : X.Ok
  os : s.os = X.s_0.os
  bare : AllBare s.gens
  base : Un X.fs X.ex X.H_0 H X.s_0.heap s.heap
  loc : ∃ m, s.heap.Ns X.env.locals m ∧ ∀ (i : Nat) (x : Str) (v : V), X.N[i]? = some x → σ[i]? = some (some v) → Vis X.env.scope x → ∃ u, RelV v u ∧ Look X.env s.heap m x u
  cell : ∀ x c, X.env.cells.lookup x = some c → ∃ v, s.heap.IsCell c v
  free : H X.env.locals = none
  freeC : ∀ x c, X.env.cells.lookup x = some c → H c = none
  pin : ∀ p ∈ X.pn ++ pins, s.heap.get? p.1 = some p.2 ∧ H p.1 = none ∧ p.1 ≠ X.env.locals ∧ p.1 ∉ X.fs ∧ ∀ v, p.2.data ≠ .cell v
  hok : HOk X.prog X.w H s.heap
  len : σ.length = X.N.length
section
variable {X : Cx} {pins : List (Addr × Obj)} {σ : List (Option V)} {H H' : Hp} {s : Shared} {h' : Heap}
theorem Cx.Ok.nofr (ok : X.Ok) {b : Addr} {o : Obj} (e : X.base.get? b = some o) : b ∉ X.fs := fun hb => by
  have := (ok.funs.mem hb).1
  rw [e] at this; cases this
theorem Inv.bs (I : Inv X pins σ H s) : ∀ b o, X.base.get? b = some o → s.heap.get? b = some o ∧ H b = none := fun b o e =>
  ⟨I.base.keep b o (I.ok.bs b o e).1 (I.ok.bs b o e).2 (I.ok.nofr e) (I.ok.noex b o e), I.base.free b o (I.ok.bs b o e).1 (I.ok.bs b o e).2 (I.ok.noex b o e)⟩
theorem Inv.bk (I : Inv X pins σ H s) : ∀ b o, X.base.get? b = some o → s.heap.get? b = some o := fun b o e => (I.bs b o e).1
theorem Inv.mod (I : Inv X pins σ H s) : Mod X.K X.mg X.base := I.ok.mod
theorem Inv.kIn (I : Inv X pins σ H s) : X.K.In s.heap := I.ok.mod.kin.keeps I.bk
theorem Inv.nolimit (I : Inv X pins σ H s) : s.heap.NoLimit := I.ok.mod.nolimit.keeps I.bk
theorem Inv.fr (I : Inv X pins σ H s) : ∃ m, Fr X.base X.env.locals s.heap m :=
  let ⟨m, hn, _⟩ := I.loc
  ⟨m, hn, I.bk, Nat.le_trans I.ok.bsz I.ok.above⟩
theorem Inv.lt (I : Inv X pins σ H s) : X.env.locals < s.heap.objs.size := let ⟨_, hn, _⟩ := I.loc; hn.lt
theorem Inv.sz (I : Inv X pins σ H s) : X.s_0.heap.objs.size ≤ s.heap.objs.size := Nat.le_trans I.ok.above (Nat.le_of_lt I.lt)
theorem Inv.nofs (I : Inv X pins σ H s) {a : Addr} (h : s.heap.objs.size ≤ a) : a ∉ X.fs := fun hb => by
  obtain ⟨_, o, ho, _⟩ := I.ok.funs.mem hb
  exact absurd (Nat.lt_of_lt_of_le (Heap.lt_size ho) (Nat.le_trans I.sz h)) (Nat.lt_irrefl _)
theorem Inv.cne (I : Inv X pins σ H s) : ∀ x c, X.env.cells.lookup x = some c → c ≠ X.env.locals := fun x c e z => by
  obtain ⟨v, o, ho, hd⟩ := I.cell x c e
  obtain ⟨m, ⟨o', es, ep, ho', hd', _⟩, _⟩ := I.loc
  rw [z, ho'] at ho; cases ho; rw [hd'] at hd; cases hd
theorem Inv.funs (I : Inv X pins σ H s) : s.heap.FunFrames X.base X.outer := by
  have all : ∀ (l : List Env), (∀ b ∈ frs l, b ∈ X.fs) → X.s_0.heap.FunFrames X.base l → s.heap.FunFrames X.base l := by
    intro l
    induction l with
    | nil => intro _ _; trivial
    | cons env r ih =>
      intro hs hl
      obtain ⟨hk, ⟨L, o, hf, hn, ho, hd⟩, hr⟩ := hl
      have hL : L ∈ X.fs := hs L (by unfold frs; rw [List.filterMap_cons, hf]; exact List.mem_cons_self)
      obtain ⟨sl, e⟩ := I.base.slot L o ho (I.ok.frf L hL) hL fun z => I.ok.exfs L z hL
      exact ⟨hk, ⟨L, _, hf, hn, e, hd⟩, ih (fun b hb => hs b (by unfold frs; rw [List.filterMap_cons, hf]; exact List.mem_cons_of_mem _ hb)) hr⟩
  exact all X.outer (fun _ hb => hb) I.ok.funs
theorem Inv.stack (I : Inv X pins σ H s) : s.heap.FunFrames X.base X.stack := by
  rcases I.ok.stk with e | ⟨e, hf⟩
  · rw [e]; exact I.funs
  · rw [e]
    obtain ⟨m, hn, _⟩ := I.loc
    refine .cons (by rw [I.ok.kind]; decide) hf hn ?_ I.funs
    exact Heap.get?_none_of_le (Nat.le_trans I.ok.bsz I.ok.above)
theorem Inv.stkSub (I : Inv X pins σ H s) : ∀ b ∈ frs X.stack, b ∈ X.env.locals :: X.fs := fun b hb => by
  rcases I.ok.stk with e | ⟨e, hf⟩
  · rw [e] at hb; exact List.mem_cons_of_mem _ hb
  · rw [e] at hb
    unfold frs at hb
    rw [List.filterMap_cons, hf] at hb
    exact hb
theorem Inv.stkFree (I : Inv X pins σ H s) : ∀ b ∈ frs X.stack, H b = none := fun b hb => by
  rcases List.mem_cons.mp (I.stkSub b hb) with e | hb
  · rw [e]; exact I.free
  · obtain ⟨_, o, ho, _⟩ := I.ok.funs.mem hb
    exact I.base.free b o ho (I.ok.frf b hb) fun z => I.ok.exfs b z hb
theorem Inv.step {g' : Array GenState} {t' : Nat} {d' : Drawn} {ch : List Addr} (I : Inv X pins σ H s)
    (hch : ∀ b ∈ ch, (b ∈ X.ex ∨ X.s_0.heap.objs.size ≤ b) ∧ b ≠ X.env.locals ∧ (∀ x c, X.env.cells.lookup x = some c → c ≠ b) ∧ ∀ p ∈ X.pn ++ pins, p.1 ≠ b)
    (keep : ∀ b o, b ≠ X.env.locals → b ∉ X.fs → b ∉ ch → s.heap.get? b = some o → H b = none → h'.get? b = some o)
    (slot : ∀ b o, b ≠ X.env.locals → b ∈ X.fs → b ∉ ch → s.heap.get? b = some o → H b = none → ∃ sl, h'.get? b = some { o with slots := sl }) (free : ∀ b o, b ∉ ch → s.heap.get? b = some o → H b = none → H' b = none)
    (there : ∀ b o, b ∉ ch → s.heap.get? b = some o → ∃ o', h'.get? b = some o')
    (tups : ∀ b xs, H b = some (.tup xs) → H' b = some (.tup xs)) (frzs : ∀ b o u, H b = some (.frz o u) → H' b = some (.frz o u)) (tbls : ∀ b ps, H b = some (.tbl ps) → ∃ more, H' b = some (.tbl (ps ++ more)))
    (ns : ∀ m, s.heap.Ns X.env.locals m → h'.Ns X.env.locals m) (hok : HOk X.prog X.w H' h') (hg : AllBare g') :
    Inv X pins σ H' { s with heap := h', gens := g', drawn := d', toks := t' } := by
  have neL : ∀ b o, X.s_0.heap.get? b = some o → b ≠ X.env.locals := fun b o e => Nat.ne_of_lt (Nat.lt_of_lt_of_le (Heap.lt_size e) I.ok.above)
  have neC : ∀ b o, X.s_0.heap.get? b = some o → b ∉ X.ex → b ∉ ch := fun b o e hx hb => by
    rcases (hch b hb).1 with z | z
    · exact hx z
    · exact absurd (Nat.lt_of_lt_of_le (Heap.lt_size e) z) (Nat.lt_irrefl _)
  have cellK : ∀ x c, X.env.cells.lookup x = some c → ∀ v, s.heap.IsCell c v → h'.IsCell c v := fun x c e v ⟨o, ho, hd⟩ => by
    have nch : c ∉ ch := fun z => (hch c z).2.2.1 x c e rfl
    by_cases hc : c ∈ X.fs
    · obtain ⟨sl, q⟩ := slot c o (I.cne x c e) hc nch ho (I.freeC x c e)
      exact ⟨_, q, hd⟩
    · exact ⟨o, keep c o (I.cne x c e) hc nch ho (I.freeC x c e), hd⟩
  refine ⟨I.ok, I.os, hg, ⟨fun b o e n hb hx => ?_, fun b o e n hb hx => ?_, fun b o e n hx => ?_, fun b o e hx => ?_, fun b xs e => tups b xs (I.base.tups b xs e), fun b o xs e => frzs b o xs (I.base.frzs b o xs e), fun b ps e => ?_⟩, ?_, fun x c e => ?_, ?_, fun x c e => ?_, fun p hp => ?_, hok, I.len⟩
  · exact keep b o (neL b o e) hb (neC b o e hx) (I.base.keep b o e n hb hx) (I.base.free b o e n hx)
  · obtain ⟨sl, e1⟩ := I.base.slot b o e n hb hx
    obtain ⟨sl', e2⟩ := slot b _ (neL b o e) hb (neC b o e hx) e1 (I.base.free b o e n hx)
    exact ⟨sl', e2⟩
  · obtain ⟨o', e1⟩ := I.base.there b o e hx
    exact free b o' (neC b o e hx) e1 (I.base.free b o e n hx)
  · obtain ⟨o', e1⟩ := I.base.there b o e hx
    exact there b o' (neC b o e hx) e1
  · obtain ⟨m1, e1⟩ := I.base.tbls b ps e
    obtain ⟨m2, e2⟩ := tbls b _ e1
    exact ⟨m1 ++ m2, by rw [e2, Array.append_assoc]⟩
  · obtain ⟨m, hn, hl⟩ := I.loc
    refine ⟨m, ns m hn, fun i x v e1 e2 e3 => ?_⟩
    obtain ⟨u, r, l⟩ := hl i x v e1 e2 e3
    refine ⟨u, r, ?_⟩
    rcases l with l | ⟨k, c, e, z⟩
    · exact .inl l
    · exact .inr ⟨k, c, e, cellK x c e _ z⟩
  · obtain ⟨v, z⟩ := I.cell x c e
    exact ⟨v, cellK x c e v z⟩
  · obtain ⟨m, ⟨o, _, _, ho, _⟩, _⟩ := I.loc
    exact free _ o (fun z => (hch _ z).2.1 rfl) ho I.free
  · obtain ⟨v, o, ho, hd⟩ := I.cell x c e
    exact free c o (fun z => (hch c z).2.2.1 x c e rfl) ho (I.freeC x c e)
  · obtain ⟨e, n, ne, nf, d⟩ := I.pin p hp
    have nch : p.1 ∉ ch := fun z => (hch p.1 z).2.2.2 p hp rfl
    exact ⟨keep p.1 p.2 ne nf nch e n, free p.1 p.2 nch e n, ne, nf, d⟩
theorem Inv.un {t' : Nat} (I : Inv X pins σ H s) (u : Un X.fs [] H H' s.heap h') (hok : HOk X.prog X.w H' h') : Inv X pins σ H' { s with heap := h', toks := t' } := by
  obtain ⟨m, ⟨o, es, ep, ho, r⟩, _⟩ := id I.loc
  obtain ⟨sl, hL⟩ := u.any ho I.free (by simp)
  exact I.step (g' := s.gens) (d' := s.drawn) (ch := []) (fun _ z => nomatch z) (fun b o _ hb _ e n => u.keep b o e n hb (by simp)) (fun b o _ hb _ e n => u.slot b o e n hb (by simp)) (fun b o _ e n => u.free b o e n (by simp)) (fun b o _ e => u.there b o e (by simp)) u.tups u.frzs u.tbls (fun m' hm => by
    obtain ⟨o', es', ep', ho', r'⟩ := hm
    rw [ho] at ho'; cases ho'
    exact ⟨_, es', ep', hL, r'⟩) hok I.bare
theorem Inv.call {g' : Array GenState} {t' : Nat} {d' : Drawn} {ch : List Addr} (I : Inv X pins σ H s) (u : Un (frs X.stack) ch H H' s.heap h') (hok : HOk X.prog X.w H' h') (hg : AllBare g')
    (hch : ∀ b ∈ ch, (b ∈ X.ex ∨ X.s_0.heap.objs.size ≤ b) ∧ b ≠ X.env.locals ∧ (∀ x c, X.env.cells.lookup x = some c → c ≠ b) ∧ ∀ p ∈ X.pn ++ pins, p.1 ≠ b) :
    Inv X pins σ H' { s with heap := h', gens := g', drawn := d', toks := t' } := by
  obtain ⟨m, ⟨o, es, ep, ho, r⟩, _⟩ := id I.loc
  obtain ⟨sl, hL⟩ := u.any ho I.free fun z => (hch _ z).2.1 rfl
  exact I.step (ch := ch) hch (fun b o hL hb hc e n => u.keep b o e n (fun z => (List.mem_cons.mp (I.stkSub b z)).elim hL hb) hc) (fun b o _ _ hc e n => u.any e n hc) (fun b o hc e n => u.free b o e n hc) (fun b o hc e => u.there b o e hc) u.tups u.frzs u.tbls (fun m' hm => by
    obtain ⟨o', es', ep', ho', r'⟩ := hm
    rw [ho] at ho'; cases ho'
    exact ⟨_, es', ep', hL, r'⟩) hok hg
theorem Inv.turned {t' : Nat} {it : Addr} (I : Inv X pins σ H s) (k : ∀ b o, b ≠ it → s.heap.get? b = some o → h'.get? b = some o) (hn : H it = none) (hL : it ≠ X.env.locals)
    (h1 : it ∈ X.ex ∨ X.s_0.heap.objs.size ≤ it) (h2 : ∀ x c, X.env.cells.lookup x = some c → c ≠ it) (h3 : ∀ p ∈ X.pn ++ pins, p.1 ≠ it) : Inv X pins σ H { s with heap := h', toks := t' } := by
  have nit : ∀ b u, H b = some u → b ≠ it := fun b u e z => by rw [z, hn] at e; cases e
  refine I.step (g' := s.gens) (d' := s.drawn) (ch := [it]) (fun b hb => ?_) (fun b o _ _ hc e _ => k b o (fun z => hc (by simp [z])) e) (fun b o _ _ hc e _ => ⟨o.slots, k b o (fun z => hc (by simp [z])) e⟩) (fun _ _ _ _ n => n)
    (fun b o hc e => ⟨o, k b o (fun z => hc (by simp [z])) e⟩) (fun _ _ e => e) (fun _ _ _ e => e) (fun b ps e => ⟨#[], by rw [e]; simp⟩) (fun m hm => ?_) (fun b u e => ?_) I.bare
  · have e : b = it := by simpa using hb
    subst e
    exact ⟨h1, hL, h2, h3⟩
  · obtain ⟨o, es, ep, ho, r⟩ := hm
    exact ⟨o, es, ep, k _ o (Ne.symm hL) ho, r⟩
  · refine (I.hok b u e).stay (fun c v hc q => k c v ?_ q) (fun _ q => q) fun _ _ q => q
    rcases hc with z | z
    · rw [z]; exact nit b u e
    · exact nit c _ z
theorem Inv.tok (I : Inv X pins σ H s) (t : Nat) : Inv X pins σ H { s with toks := t } := I.un (h' := s.heap) (t' := t) Un.refl I.hok
theorem Inv.kept {t' : Nat} (I : Inv X pins σ H s) (k : ∀ b u, s.heap.get? b = some u → h'.get? b = some u) : Inv X pins σ H { s with heap := h', toks := t' } := I.un (Un.kept k) (I.hok.kept k)
theorem Inv.laid {a : Addr} {o : HO} {t' : Nat} (I : Inv X pins σ H s) (k : ∀ b u, s.heap.get? b = some u → h'.get? b = some u) (hp : s.heap.objs.size ≤ a) (new : ObjOk X.prog X.w (upd H a o) h' a o) :
    Inv X pins σ (upd H a o) { s with heap := h', toks := t' } := I.un (Un.laid k hp (I.hok.fresh hp)) (I.hok.laid k hp new)
theorem Inv.write {x e : Addr} {o : HO} {t' : Nat} (I : Inv X pins σ H s) (mu : Mut (H x)) (he : e = x ∨ H e = some (.own x)) (k : ∀ b u, b ≠ e → s.heap.get? b = some u → h'.get? b = some u) (heo : ∃ u, h'.get? e = some u)
    (new : ObjOk X.prog X.w (upd H x o) h' x o) : Inv X pins σ (upd H x o) { s with heap := h', toks := t' } := I.un (Un.write mu he k heo) (I.hok.write mu he k heo new)
theorem Inv.pins_of {pins' : List (Addr × Obj)} (I : Inv X pins σ H s) (h : ∀ p ∈ pins', s.heap.get? p.1 = some p.2 ∧ H p.1 = none ∧ p.1 ≠ X.env.locals ∧ p.1 ∉ X.fs ∧ ∀ v, p.2.data ≠ .cell v) : Inv X pins' σ H s :=
  ⟨I.ok, I.os, I.bare, I.base, I.loc, I.cell, I.free, I.freeC, fun p hp => (List.mem_append.mp hp).elim (fun z => I.pin p (List.mem_append_left _ z)) (h p), I.hok, I.len⟩
theorem nodup_ix {N : List Str} (hN : N.Nodup) {i j : Nat} {x : Str} (a : N[i]? = some x) (b : N[j]? = some x) : i = j := by
  obtain ⟨h1, e1⟩ := List.getElem?_eq_some_iff.mp a
  obtain ⟨h2, e2⟩ := List.getElem?_eq_some_iff.mp b
  exact (List.getElem_inj hN).mp (e1.trans e2.symm)
theorem store_ok2 {M : Model} {A : Around} {E : Value → Shared → Prop} {i : Nat} {x : Str} {v : V} {u : Value} {Q : Unit → Shared → Prop} (I : Inv X pins σ H s) (hN : X.N.Nodup) (hi : X.N[i]? = some x) (hx : Loc X.env.scope x) (r : RelV v u)
    (h : ∀ s', Inv X pins (σ.set i (some v)) H s' → (∃ a, Heap.SameBut a s.heap s'.heap ∧ (a = X.env.locals ∨ X.env.cells.lookup x = some a)) → Q () s') (hf : X.fn x = true ∨ X.env.scope.names.lookup x = some .local := by first | exact .inl rfl | exact .inr rfl | assumption) : wpAny M A (storeName X.env x u) Q E s := by
  obtain ⟨m, hn, hl⟩ := id I.loc
  have hcls : (X.env.scope.kind == .class || (X.env.scope.kind == .module && X.env.locals != X.env.globals)) = false := by rw [I.ok.kind]; rfl
  have hiσ : i < σ.length := by rw [I.len]; exact (List.getElem?_eq_some_iff.mp hi).1
  have cne := I.cne
  have tracked : ∀ {a : Addr} {h' : Heap}, (∃ o, s.heap.get? a = some o ∧ H a = none) → Heap.SameBut a s.heap h' → HOk X.prog X.w H h' := fun {a h'} ha hs b ob e => by
    obtain ⟨_, _, hfree⟩ := ha
    refine (I.hok b ob e).stay (fun c w' hc q => (hs.2 c ?_).trans q) (fun _ q => q) fun _ _ q => q
    rintro rfl
    rcases hc with rfl | hc
    · rw [hfree] at e; cases e
    · rw [hfree] at hc; cases hc
  rcases hx with hk | hk
  · refine wpAny_storeName_local hk hn (fun h' hn' hs => ?_) hcls
    obtain ⟨oL, _, _, hoL, _⟩ := id hn
    refine h _ ⟨I.ok, I.os, I.bare, ⟨fun b o e n hb hx => ?_, fun b o e n hb hx => ?_, I.base.free, fun b o e hx => ?_, I.base.tups, I.base.frzs, I.base.tbls⟩, ⟨_, hn', fun j y v' e1 e2 e3 => ?_⟩, fun y c e => ?_, I.free, I.freeC, fun p hp => ?_, tracked ⟨oL, hoL, I.free⟩ hs, by simpa using I.len⟩ ⟨_, hs, .inl rfl⟩
    · exact (hs.2 b (Nat.ne_of_lt (Nat.lt_of_lt_of_le (Heap.lt_size e) I.ok.above))).trans (I.base.keep b o e n hb hx)
    · obtain ⟨sl, e1⟩ := I.base.slot b o e n hb hx
      exact ⟨sl, (hs.2 b (Nat.ne_of_lt (Nat.lt_of_lt_of_le (Heap.lt_size e) I.ok.above))).trans e1⟩
    · obtain ⟨o', e1⟩ := I.base.there b o e hx
      exact ⟨o', (hs.2 b (Nat.ne_of_lt (Nat.lt_of_lt_of_le (Heap.lt_size e) I.ok.above))).trans e1⟩
    · by_cases hj : j = i
      · subst hj
        rw [hi] at e1; cases e1
        rw [List.getElem?_set_self hiσ] at e2
        cases e2
        exact ⟨u, r, .inl ⟨hk, by simp⟩⟩
      · rw [List.getElem?_set_ne (Ne.symm hj)] at e2
        obtain ⟨u', r', q⟩ := hl j y v' e1 e2 e3
        refine ⟨u', r', ?_⟩
        rcases q with ⟨k, e⟩ | ⟨k, c, e, z⟩
        · refine .inl ⟨k, ?_⟩
          have : y ≠ x := fun e => hj (nodup_ix hN e1 (e ▸ hi))
          simp [this, e]
        · exact .inr ⟨k, c, e, z.sameBut hs (cne y c e)⟩
    · obtain ⟨w', z⟩ := I.cell y c e
      exact ⟨w', z.sameBut hs (cne y c e)⟩
    · obtain ⟨e, n, ne, nf, d⟩ := I.pin p hp
      exact ⟨(hs.2 p.1 ne).trans e, n, ne, nf, d⟩
  · have hfn : X.fn x = true := by
      rcases hf with z | z
      · exact z
      · rw [z] at hk; cases hk
    obtain ⟨c, hc⟩ := I.ok.has x (.inl hk)
    obtain ⟨w', z⟩ := I.cell x c hc
    refine wpAny_storeName_cell I.ok.kind hk hc z (fun h' hc' hs => ?_)
    obtain ⟨oc, hoc, hocd⟩ := id z
    refine h { s with heap := h' } ⟨I.ok, I.os, I.bare, ⟨fun b o e n hb hx => ?_, fun b o e n hb hx => ?_, I.base.free, fun b o e hx => ?_, I.base.tups, I.base.frzs, I.base.tbls⟩, ⟨m, hn.sameBut hs (Ne.symm (cne x c hc)), fun j y v' e1 e2 e3 => ?_⟩, fun y c' e => ?_, I.free, I.freeC, fun p hp => ?_, tracked ⟨oc, hoc, I.freeC x c hc⟩ hs, by simpa using I.len⟩ ⟨c, hs, .inr hc⟩
    · exact (hs.2 b (Nat.ne_of_lt (Nat.lt_of_lt_of_le (Heap.lt_size e) (I.ok.cab x c hfn hc)))).trans (I.base.keep b o e n hb hx)
    · obtain ⟨sl, e1⟩ := I.base.slot b o e n hb hx
      exact ⟨sl, (hs.2 b (Nat.ne_of_lt (Nat.lt_of_lt_of_le (Heap.lt_size e) (I.ok.cab x c hfn hc)))).trans e1⟩
    · obtain ⟨o', e1⟩ := I.base.there b o e hx
      exact ⟨o', (hs.2 b (Nat.ne_of_lt (Nat.lt_of_lt_of_le (Heap.lt_size e) (I.ok.cab x c hfn hc)))).trans e1⟩
    · by_cases hj : j = i
      · subst hj
        rw [hi] at e1; cases e1
        rw [List.getElem?_set_self hiσ] at e2
        cases e2
        exact ⟨u, r, .inr ⟨.inl hk, c, hc, hc'⟩⟩
      · rw [List.getElem?_set_ne (Ne.symm hj)] at e2
        obtain ⟨u', r', q⟩ := hl j y v' e1 e2 e3
        refine ⟨u', r', ?_⟩
        rcases q with q | ⟨k, c', e, z'⟩
        · exact .inl q
        · refine .inr ⟨k, c', e, z'.sameBut hs ?_⟩
          rintro rfl
          exact hj (nodup_ix hN e1 (I.ok.inj _ _ _ e hc ▸ hi))
    · by_cases hcc : c' = c
      · subst hcc; exact ⟨_, hc'⟩
      · obtain ⟨w2, z2⟩ := I.cell y c' e
        exact ⟨w2, z2.sameBut hs hcc⟩
    · obtain ⟨e, n, ne, nf, d⟩ := I.pin p hp
      refine ⟨(hs.2 p.1 ?_).trans e, n, ne, nf, d⟩
      intro q
      rw [q, hoc] at e
      have q' : oc = p.2 := Option.some.inj e
      exact d w' (by rw [← q']; exact hocd)
theorem store_ok {M : Model} {A : Around} {E : Value → Shared → Prop} {i : Nat} {x : Str} {v : V} {u : Value} {Q : Unit → Shared → Prop} (I : Inv X pins σ H s) (hN : X.N.Nodup) (hi : X.N[i]? = some x) (hx : Loc X.env.scope x) (r : RelV v u)
    (h : ∀ s', Inv X pins (σ.set i (some v)) H s' → Q () s') (hf : X.fn x = true ∨ X.env.scope.names.lookup x = some .local := by first | exact .inl rfl | exact .inr rfl | assumption) : wpAny M A (storeName X.env x u) Q E s :=
  store_ok2 I hN hi hx r (fun s' I' _ => h s' I') hf
end
abbrev XK := Value → Option Addr → Hp → Prop
abbrev St := List (Option V)
abbrev VK := V → Hp → Prop
abbrev TE := St → Hp → VK → Prop
abbrev TT := St → Hp → (Bool → Hp → Prop) → Prop
abbrev TA := St → Hp → (List V → Hp → Prop) → Prop
structure Ends where
  nx : St → Hp → Prop
  rt : VK
  bk : St → Hp → Prop := fun _ _ => False
  ct : St → Hp → Prop := fun _ _ => False
abbrev TS := Ends → St → Hp → Prop
def EP (X : Cx) (pins : List (Addr × Obj)) (σ : St) (Q : VK) (u : Value) (s' : Shared) : Prop := ∃ v H', Inv X pins σ H' s' ∧ RelV v u ∧ Q v H'
def TP (X : Cx) (pins : List (Addr × Obj)) (σ : St) (Q : Bool → Hp → Prop) (b : Bool) (s' : Shared) : Prop := ∃ H', Inv X pins σ H' s' ∧ Q b H'
def AP (X : Cx) (pins : List (Addr × Obj)) (σ : St) (Q : List V → Hp → Prop) (us : List Value) (s' : Shared) : Prop := ∃ vs H', Inv X pins σ H' s' ∧ Vals vs us ∧ Q vs H'
def SP (X : Cx) (pins : List (Addr × Obj)) (D : Ends) (f : Flow) (s' : Shared) : Prop :=
  match f with
  | .next => ∃ σ' H', Inv X pins σ' H' s' ∧ D.nx σ' H'
  | .brk => ∃ σ' H', Inv X pins σ' H' s' ∧ D.bk σ' H'
  | .cont => ∃ σ' H', Inv X pins σ' H' s' ∧ D.ct σ' H'
  | .ret u => ∃ v σ' H', Inv X pins σ' H' s' ∧ RelV v u ∧ D.rt v H'
def PE (X : Cx) (e : Expr) (t : TE) : Prop :=
  ∀ (pins : List (Addr × Obj)) (s : Shared) (σ : St) (H : Hp) (Q : VK), Inv X pins σ H s → t σ H Q → wpAny (model X.prog X.w) X.A (eval e X.env) (EP X pins σ Q) X.xe s
def PT (X : Cx) (e : Expr) (t : TT) : Prop :=
  ∀ (pins : List (Addr × Obj)) (s : Shared) (σ : St) (H : Hp) (Q : Bool → Hp → Prop), Inv X pins σ H s → t σ H Q → wpAny (model X.prog X.w) X.A (isTrue e X.env (eval e X.env)) (TP X pins σ Q) X.xe s
def PW (X : Cx) (e : Expr) (t : TT) : Prop :=
  ∀ (whole : Sem Value) (pins : List (Addr × Obj)) (s : Shared) (σ : St) (H : Hp) (Q : Bool → Hp → Prop), Inv X pins σ H s → t σ H Q → wpAny (model X.prog X.w) X.A (isTrue e X.env whole) (TP X pins σ Q) X.xe s
theorem PW.pt {X : Cx} {e : Expr} {t : TT} (h : PW X e t) : PT X e t := h _
def PA (X : Cx) (es : List Expr) (t : TA) : Prop :=
  ∀ (pos : Pos) (pins : List (Addr × Obj)) (s : Shared) (σ : St) (H : Hp) (Q : List V → Hp → Prop), Inv X pins σ H s → t σ H Q → wpAny (model X.prog X.w) X.A (spliced (backTo pos (starEach es X.env))) (AP X pins σ Q) X.xe s
def PS (X : Cx) (st : Stmt) (t : TS) : Prop :=
  ∀ (pins : List (Addr × Obj)) (s : Shared) (σ : St) (H : Hp) (D : Ends), Inv X pins σ H s → t D σ H → wpAny (model X.prog X.w) X.A (exec st X.env) (SP X pins D) X.xe s
def PSs (X : Cx) (st : List Stmt) (t : TS) : Prop :=
  ∀ (pins : List (Addr × Obj)) (s : Shared) (σ : St) (H : Hp) (D : Ends), Inv X pins σ H s → t D σ H → wpAny (model X.prog X.w) X.A (execs st X.env) (SP X pins D) X.xe s
theorem thn {α : Type} {t : Sem α} {Q Q' : α → Shared → Prop} {M : Model} {A : Around} {E : Value → Shared → Prop} {s : Shared} (h : wpAny M A t Q E s) (hQ : ∀ a s, Q a s → Q' a s) : wpAny M A t Q' E s := wpAny_mono h hQ fun _ _ x => x
end L2
namespace L2
open PySem PySem.Spec PyProof.Rows
section
variable {X : Cx}
def tVar (i : Nat) : TE := fun σ H Q => ∃ v, σ[i]? = some (some v) ∧ Q v H
def tC (v : V) : TE := fun _ H Q => Q v H
theorem pe_var {i : Nat} {x : Str} {pos : Pos} (hN : X.N[i]? = some x) (hv : Vis X.env.scope x) (hd : (x == ("__debug__" : Str)) = false := by decide) (hcd : (x == ("__classdict__" : Str)) = false := by decide) : PE X (.Name x pos) (tVar i) := by
  intro pins s σ H Q I h
  obtain ⟨v, e, h⟩ := h
  obtain ⟨m, hn, hl⟩ := I.loc
  obtain ⟨u, r, l⟩ := hl i x v hN e hv
  have fin : EP X pins σ Q u s := ⟨v, H, I, r, h⟩
  rcases l with ⟨hk, hm⟩ | ⟨hk, c, hc, hcell⟩
  · exact wpAny_Name (wpAny_loadName_local I.ok.kind hk hn hm fin) hd
  · rcases hk with hk | hk
    · exact wpAny_Name (wpAny_loadName_cell I.ok.kind hk hc hcell fin) hd
    · exact wpAny_Name (wpAny_loadName_free I.ok.kind hk hc hcell fin hcd) hd
theorem pe_int {i j pos} : PE X (.Constant (.int i) j pos) (tC (.int i)) := fun _ _ _ H _ I h => wpAny_Constant_int ⟨.int i, H, I.tok _, ⟨_, rfl⟩, h⟩
theorem pe_bl {b j pos} : PE X (.Constant (.bool b) j pos) (tC (.bl b)) := fun _ _ _ H _ I h => Constant_bool ⟨.bl b, H, I, rfl, h⟩
def Gl (X : Cx) (x : Str) : Prop := X.env.kindOf x = some .globalImplicit
theorem ld_glob {E : Value → Shared → Prop} {pins : List (Addr × Obj)} {s : Shared} {σ : St} {H : Hp} {x : Str} {u : Value} {pos : Pos} {Q : Value → Shared → Prop} (I : Inv X pins σ H s) (hg : Gl X x) (hm : X.mg x = some u) (h : Q u s)
    (hd : (x == ("__debug__" : Str)) = false := by decide) : wpAny (model X.prog X.w) X.A (eval (.Name x pos) X.env) Q E s :=
  Calls.Name_function_global I.ok.kind hg (Calls.loadGlobal_global (by rw [I.ok.glob]; exact I.mod.glob.keeps I.bk) hm h) hd
theorem ld_blt {E : Value → Shared → Prop} {pins : List (Addr × Obj)} {s : Shared} {σ : St} {H : Hp} {x : Str} {u : Value} {pos : Pos} {Q : Value → Shared → Prop} (I : Inv X pins σ H s) (hg : Gl X x) (hm : X.mg x = none) (hv : bootBuiltins x = some u) (h : Q u s)
    (hn : x ≠ "__name__" := by decide) (hd : (x == ("__debug__" : Str)) = false := by decide) : wpAny (model X.prog X.w) X.A (eval (.Name x pos) X.env) Q E s := by
  obtain ⟨mb, h1, h2⟩ := I.mod.blt
  exact Calls.Name_function_global I.ok.kind hg (Calls.loadGlobal_builtin (by rw [I.ok.glob]; exact I.mod.glob.keeps I.bk) hm (by rw [I.ok.blt]; exact h1.keeps I.bk) ((h2 x hn).trans hv) h) hd
theorem pe_glob {x : Str} {v : V} {u : Value} {pos : Pos} (hg : Gl X x) (hm : X.mg x = some u) (r : RelV v u) (hd : (x == ("__debug__" : Str)) = false := by decide) : PE X (.Name x pos) (tC v) :=
  fun _ _ _ H _ I h => ld_glob I hg hm ⟨v, H, I, r, h⟩ hd
theorem pe_bltn {x : Str} {v : V} {u : Value} {pos : Pos} (hg : Gl X x) (hm : X.mg x = none) (hv : bootBuiltins x = some u) (r : RelV v u) (hn : x ≠ "__name__" := by decide) (hd : (x == ("__debug__" : Str)) = false := by decide) : PE X (.Name x pos) (tC v) :=
  fun _ _ _ H _ I h => ld_blt I hg hm hv ⟨v, H, I, r, h⟩ hn hd
variable {a b : Expr} {ta tb : TE} {pos : Pos}
def tB (t : TE) : TT := fun σ H Q => t σ H fun x H1 => ∃ c, x = .bl c ∧ Q c H1
theorem pt_val {e : Expr} {t : TE} (h : PE X e t) (he : ∀ whole, isTrue e X.env whole = (do let v ← whole; standAt e.pos; holding [v] (truthy v)) := by intro _; rfl) : PT X e (tB t) := by
  intro pins s σ H Q I hw
  refine isTrue_plain (thn (h pins s σ H _ I hw) fun v s1 ⟨x, H1, I1, r1, q1⟩ => ?_) (he _)
  obtain ⟨d, rfl, q⟩ := q1
  cases r1
  exact wpAny_truthy_bool ⟨H1, I1, q⟩
variable {tA tB' : TT} {rest : List Expr}
def tOr (t u : TT) : TT := fun σ H Q => t σ H fun c H1 => if c = true then Q true H1 else u σ H1 Q
def tNot (t : TT) : TT := fun σ H Q => t σ H fun c H1 => Q (!c) H1
theorem pw_or1 (ha : PT X a tA) : PW X (.BoolOp .Or [a] pos) tA := by
  intro wh pins s σ H Q I h
  refine isTrue_or (thn (ha pins s σ H Q I h) fun c s1 e => ?_)
  cases c with
  | false => exact isTrue_or_nil e
  | true => exact e
theorem pw_or (ha : PT X a tA) (hb : PW X (.BoolOp .Or (b :: rest) pos) tB') : PW X (.BoolOp .Or (a :: b :: rest) pos) (tOr tA tB') := by
  intro wh pins s σ H Q I h
  refine isTrue_or (thn (ha pins s σ H _ I h) fun c s1 ⟨H1, I1, q1⟩ => ?_)
  cases c with
  | true => exact ⟨H1, I1, q1⟩
  | false => exact hb wh pins s1 σ H1 Q I1 q1
theorem pt_not (ha : PT X a tA) : PT X (.UnaryOp .Not a pos) (tNot tA) := by
  intro pins s σ H Q I h
  exact isTrue_not (ha pins s σ H (fun c H1 => Q (!c) H1) I h)
def tAndV (ta tb : TE) : TE := fun σ H Q => ta σ H fun x H1 => ∃ c, x = .bl c ∧ if c = true then tb σ H1 Q else Q (.bl false) H1
def tNotV (ta : TE) : TE := fun σ H Q => ta σ H fun x H1 => ∃ c, x = .bl c ∧ Q (.bl (!c)) H1
theorem pe_one {op} {t : TE} (h : PE X a t) : PE X (.BoolOp op [a] pos) t := fun pins s σ H Q I hw => BoolOp_one (h pins s σ H Q I hw)
theorem pe_and (ha : PE X a ta) (hb : PE X (.BoolOp .And (b :: rest) pos) tb) : PE X (.BoolOp .And (a :: b :: rest) pos) (tAndV ta tb) := by
  intro pins s σ H Q I h
  refine BoolOp_and (thn (ha pins s σ H _ I h) fun v s1 ⟨x, H1, I1, r1, q1⟩ => ?_)
  obtain ⟨c, rfl, q1⟩ := q1
  cases r1
  refine wpAny_truthy_bool ?_
  cases c with
  | true => exact hb pins s1 σ H1 Q I1 q1
  | false => exact ⟨.bl false, H1, I1, rfl, q1⟩
theorem pe_not (ha : PE X a ta) : PE X (.UnaryOp .Not a pos) (tNotV ta) := by
  intro pins s σ H Q I h
  refine UnaryOp_ (thn (ha pins s σ H _ I h) fun v s1 ⟨x, H1, I1, r1, q1⟩ => ?_)
  obtain ⟨c, rfl, q1⟩ := q1
  cases r1
  exact not_of (wpAny_truthy_bool ⟨.bl (!c), H1, I1, rfl, q1⟩)
end
end L2
namespace L2
open PySem PySem.Spec PyProof.Rows
def SqL (K : PySem.W.Frag) (H : Hp) (a : Addr) (xs : List V) : Prop :=
  Rd H a (.lst xs) ∨
    ∃ (o : Obj) (its : Array Value) (n : Nat), K.lookup a = some o ∧ o.cls = .type "list" ∧ o.dict = none ∧ o.data = .seq its n ∧ its.size ≤ sizeLine ∧ Vals xs its.toList
def SqT (K : PySem.W.Frag) (H : Hp) (a : Addr) (xs : List V) : Prop :=
  Rd H a (.tup xs) ∨
    ∃ (o : Obj) (its : Array Value) (n : Nat), K.lookup a = some o ∧ o.cls = .type "tuple" ∧ o.data = .seq its n ∧ its.size ≤ sizeLine ∧ Vals xs its.toList
def absV : Value → Option V
  | .none => some .non
  | .bool b => some (.bl b)
  | .int i _ => some (.int i)
  | .str x _ => some (.str x)
  | .bytes b _ => some (.byt b)
  | .float b _ => some (.flt b)
  | .ref a => some (.ref a)
  | .type n => some (.ty n)
  | _ => none
theorem RelV.abs {x : V} {u : Value} (r : RelV x u) : absV u = some x := by
  cases x with
  | non => cases r; rfl
  | bl _ => cases r; rfl
  | int _ => obtain ⟨t, rfl⟩ := r; rfl
  | str _ => obtain ⟨t, rfl⟩ := r; rfl
  | byt _ => obtain ⟨t, rfl⟩ := r; rfl
  | flt _ => obtain ⟨t, rfl⟩ := r; rfl
  | ref _ => cases r; rfl
  | ty _ => cases r; rfl
theorem RelV.inj {x y : V} {u : Value} (r : RelV x u) (q : RelV y u) : x = y := Option.some.inj (r.abs.symm.trans q.abs)
theorem Vals.inj : ∀ {xs ys : List V} {us : List Value}, Vals xs us → Vals ys us → xs = ys
  | _, _, _, .nil, .nil => rfl
  | _, _, _, .cons r t, .cons r' t' => by rw [r.inj r', Vals.inj t t']
section
variable {X : Cx} {pins : List (Addr × Obj)} {σ : St} {H : Hp} {s : Shared} {a : Addr} {xs ys : List V}
theorem SqL.of {K : PySem.W.Frag} (h : H a = some (.lst xs)) : SqL K H a xs := .inl (.inl h)
theorem SqT.of {K : PySem.W.Frag} (h : H a = some (.tup xs)) : SqT K H a xs := .inl (.inl h)
theorem Inv.list (I : Inv X pins σ H s) (h : SqL X.K H a xs) : ∃ its : List Value, Vals xs its ∧ PlainL s.heap a its.toArray ∧ xs.length ≤ sizeLine := by
  rcases h with h | ⟨o, its, n, hk, hc, hd, hs, hz, r⟩
  · obtain ⟨z, its, n, r, e⟩ := h.ok I.hok
    exact ⟨its, r, ⟨_, n, e, rfl, rfl, rfl⟩, z⟩
  · refine ⟨its.toList, r, ⟨o, n, I.kIn a o hk, hc, hd, by simpa using hs⟩, ?_⟩
    have e := r.length
    simp only [Array.length_toList] at e
    omega
theorem Inv.tuple (I : Inv X pins σ H s) (h : SqT X.K H a xs) : ∃ its : List Value, Vals xs its ∧ IsTup s.heap a its.toArray ∧ xs.length ≤ sizeLine := by
  rcases h with h | ⟨o, its, n, hk, hc, hs, hz, r⟩
  · obtain ⟨z, its, r, p⟩ := h.ok I.hok
    exact ⟨its, r, p.tup, z⟩
  · refine ⟨its.toList, r, ⟨o, I.kIn a o hk, hc, n, by simpa using hs⟩, ?_⟩
    have e := r.length
    simp only [Array.length_toList] at e
    omega
theorem Inv.list_inj (I : Inv X pins σ H s) (h : SqL X.K H a xs) (h' : SqL X.K H a ys) : xs = ys := by
  obtain ⟨its, r, ⟨o, n, e, _, _, d⟩, _⟩ := I.list h
  obtain ⟨its', r', ⟨o', n', e', _, _, d'⟩, _⟩ := I.list h'
  rw [e] at e'; cases e'
  rw [d] at d'
  injection d' with d1 _
  have : its = its' := by simpa using congrArg Array.toList d1
  subst this
  exact r.inj r'
end
abbrev Cx.wish (X : Cx) (E : Value → Shared → Prop) : Cx := { X with xe := E }
abbrev Cx.nox (X : Cx) : Cx := X.wish fun _ _ => False
theorem Cx.Ok.wish {X : Cx} (ok : X.Ok) (E : Value → Shared → Prop) : (X.wish E).Ok :=
  ⟨ok.mod, ok.kind, ok.glob, ok.blt, ok.above, ok.inj, ok.has, ok.cab, ok.hd, ok.frames, ok.stk, ok.exf, ok.bs, ok.bsz, ok.noex, ok.exfs, ok.funs, ok.frf⟩
theorem Cx.Ok.unwish {X : Cx} {E : Value → Shared → Prop} (ok : (X.wish E).Ok) : X.Ok :=
  ⟨ok.mod, ok.kind, ok.glob, ok.blt, ok.above, ok.inj, ok.has, ok.cab, ok.hd, ok.frames, ok.stk, ok.exf, ok.bs, ok.bsz, ok.noex, ok.exfs, ok.funs, ok.frf⟩
section
variable {X : Cx} {pins : List (Addr × Obj)} {σ : St} {H : Hp} {s : Shared} {E : Value → Shared → Prop}
theorem Inv.wish (I : Inv X pins σ H s) (E : Value → Shared → Prop) : Inv (X.wish E) pins σ H s := ⟨I.ok.wish E, I.os, I.bare, I.base, I.loc, I.cell, I.free, I.freeC, I.pin, I.hok, I.len⟩
theorem Inv.unwish (I : Inv (X.wish E) pins σ H s) : Inv X pins σ H s := ⟨I.ok.unwish, I.os, I.bare, I.base, I.loc, I.cell, I.free, I.freeC, I.pin, I.hok, I.len⟩
theorem SP.unwish {D : Ends} {f : Flow} {s' : Shared} (h : SP (X.wish E) pins D f s') : SP X pins D f s' := by
  cases f with
  | next => obtain ⟨σ', H', I, q⟩ := h; exact ⟨σ', H', I.unwish, q⟩
  | brk => obtain ⟨σ', H', I, q⟩ := h; exact ⟨σ', H', I.unwish, q⟩
  | cont => obtain ⟨σ', H', I, q⟩ := h; exact ⟨σ', H', I.unwish, q⟩
  | ret u => obtain ⟨v, σ', H', I, r, q⟩ := h; exact ⟨v, σ', H', I.unwish, r, q⟩
theorem PE.nox {e : Expr} {t : TE} (h : PE X.nox e t) : PE X e t := fun pins s σ H Q I hw =>
  wpAny_mono (h pins s σ H Q (I.wish _) hw) (fun _ _ ⟨v, H', I', r, q⟩ => ⟨v, H', I'.unwish, r, q⟩) fun _ _ z => False.elim z
theorem PT.nox {e : Expr} {t : TT} (h : PT X.nox e t) : PT X e t := fun pins s σ H Q I hw =>
  wpAny_mono (h pins s σ H Q (I.wish _) hw) (fun _ _ ⟨H', I', q⟩ => ⟨H', I'.unwish, q⟩) fun _ _ z => False.elim z
theorem PSs.nox {st : List Stmt} {t : TS} (h : PSs X.nox st t) : PSs X st t := fun pins s σ H D I hw =>
  wpAny_mono (h pins s σ H D (I.wish _) hw) (fun _ _ q => q.unwish) fun _ _ z => False.elim z
end
section
variable {X : Cx} {st : Stmt} {rest : List Stmt} {t u : TS} {e : Expr} {te : TE} {pos : Pos}
def tNext : TS := fun D σ H => D.nx σ H
def tSeq (t u : TS) : TS := fun D σ H => t { D with nx := u D } σ H
theorem pss_nil : PSs X [] tNext := fun _ _ σ H _ I h => wpAny_execs_nil ⟨σ, H, I, h⟩
theorem pss_cons (h1 : PS X st t) (h2 : PSs X rest u) : PSs X (st :: rest) (tSeq t u) := by
  intro pins s σ H D I h
  refine wpAny_execs_cons (thn (h1 pins s σ H { D with nx := u D } I h) fun f s1 q => ?_)
  cases f with
  | next =>
    obtain ⟨σ', H', I', q⟩ := q
    exact h2 pins s1 σ' H' D I' q
  | ret v => exact q
  | brk => exact q
  | cont => exact q
theorem pss_one (h1 : PS X st t) : PSs X [st] t := by
  intro pins s σ H D I h
  refine wpAny_execs_cons (thn (h1 pins s σ H D I h) fun f s1 q => ?_)
  cases f with
  | next => exact wpAny_execs_nil q
  | ret v => exact q
  | brk => exact q
  | cont => exact q
theorem Inv.quiet {pins : List (Addr × Obj)} {σ : St} {H : Hp} {s : Shared} (I : Inv X pins σ H s) : interactive X.env = false := by simp [interactive, I.ok.kind]
def tRet (te : TE) : TS := fun D σ H => te σ H D.rt
theorem ps_ret (he : PE X e te) : PS X (.Return (some e) pos) (tRet te) := by
  intro pins s σ H D I h
  exact wpAny_Return_some (thn (he pins s σ H _ I h) fun v s1 ⟨x, H1, I1, r1, q1⟩ => ⟨x, σ, H1, I1, r1, q1⟩)
def tIfS (c : TT) (t u : TS) : TS := fun D σ H => c σ H fun b H1 => if b = true then t D σ H1 else u D σ H1
theorem ps_if {c : Expr} {a b : List Stmt} {tc : TT} (hc : PT X c tc) (ha : PSs X a t) (hb : PSs X b u) : PS X (.If c a b pos) (tIfS tc t u) := by
  intro pins s σ H D I h
  refine wpAny_If (thn (hc pins s σ H _ I h) fun d s1 ⟨H1, I1, q1⟩ => ?_)
  cases d with
  | true => exact ha pins s1 σ H1 D I1 q1
  | false => exact hb pins s1 σ H1 D I1 q1
end
abbrev TG := V → St → Hp → (St → Hp → Prop) → Prop
abbrev TGs := List V → St → Hp → (St → Hp → Prop) → Prop
def PG (X : Cx) (target : Expr) (t : TG) : Prop :=
  ∀ (pins : List (Addr × Obj)) (s : Shared) (σ : St) (H : Hp) (v : V) (u : Value) (Q : St → Hp → Prop), Inv X pins σ H s → RelV v u → t v σ H Q →
    wpAny (model X.prog X.w) X.A (assign target X.env u) (fun _ s' => ∃ σ' H', Inv X pins σ' H' s' ∧ Q σ' H') X.xe s
def PGs (X : Cx) (ts : List Expr) (t : TGs) : Prop :=
  ∀ (pins : List (Addr × Obj)) (s : Shared) (σ : St) (H : Hp) (vs : List V) (us : List Value) (Q : St → Hp → Prop), Inv X pins σ H s → Vals vs us → t vs σ H Q →
    wpAny (model X.prog X.w) X.A (assignInOrder ((assignEach ts X.env).map (·.2)) us) (fun _ s' => ∃ σ' H', Inv X pins σ' H' s' ∧ Q σ' H') X.xe s
section
variable {X : Cx} {pos : Pos}
def gName (i : Nat) : TG := fun v σ H Q => Q (σ.set i (some v)) H
theorem pg_name {i : Nat} {x : Str} (hN : X.N.Nodup) (hi : X.N[i]? = some x) (hx : Loc X.env.scope x) (hf : X.fn x = true ∨ X.env.scope.names.lookup x = some .local := by first | exact .inl rfl | exact .inr rfl | assumption) : PG X (.Name x pos) (gName i) := by
  intro pins s σ H v u Q I r h
  exact wpAny_assign_Name (store_ok I hN hi hx r (fun s' I' => ⟨_, H, I', h⟩) hf)
def gNil : TGs := fun vs σ H Q => vs = [] ∧ Q σ H
def gCons (t : TG) (u : TGs) : TGs := fun vs σ H Q => ∃ v r, vs = v :: r ∧ t v σ H fun σ' H' => u r σ' H' Q
theorem pgs_nil : PGs X [] gNil := by
  intro pins s σ H vs us Q I r h
  obtain ⟨e, h⟩ := h
  subst e
  cases r
  exact assignInOrder_nil ⟨σ, H, I, h⟩
theorem pgs_cons {e : Expr} {es : List Expr} {t : TG} {u : TGs} (h1 : PG X e t) (h2 : PGs X es u)
    (hs : (assignEach (e :: es) X.env).map (·.2) = assign e X.env :: (assignEach es X.env).map (·.2) := by rfl) : PGs X (e :: es) (gCons t u) := by
  intro pins s σ H vs us Q I r h
  obtain ⟨v, vr, e1, h⟩ := h
  subst e1
  cases r with
  | cons r rr =>
    rw [hs]
    refine assignInOrder_cons (thn (h1 pins s σ H _ _ _ I r h) fun _ s1 ⟨σ1, H1, I1, q1⟩ => ?_)
    exact h2 pins s1 σ1 H1 _ _ Q I1 rr q1
def gTup (K : PySem.W.Frag) (n : Nat) (t : TGs) : TG := fun v σ H Q => ∃ a xs, v = .ref a ∧ SqT K H a xs ∧ xs.length = n ∧ t xs σ H Q
theorem pg_tup {es : List Expr} {k : Nat} {t : TGs} {n : Nat} (hc : X.calm = true) (h : PGs X es t)
    (hn : (assignEach es X.env).length = n := by rfl) (hst : (assignEach es X.env).findIdx? (·.1) = none := by rfl) : PG X (.Tuple es k pos) (gTup X.K n t) := by
  intro pins s σ H v u Q I r hw
  obtain ⟨a, xs, e1, hq, hl, hw⟩ := hw
  subst e1
  cases r
  obtain ⟨its, rv, ht, hz⟩ := I.tuple hq
  refine assign_Tuple_tuple (I.ok.hd hc) ht (by simp [hn, ← hl, rv.length]) hst fun h' hx => ?_
  have I1 : Inv X pins σ H { s with heap := h' } := I.kept (t' := s.toks) fun b o e => hx b o (Nat.ne_of_lt (Heap.lt_size e)) e
  exact h pins _ σ H xs _ Q I1 (by simpa using rv) hw
def tAsg (te : TE) (g : TG) : TS := fun D σ H => te σ H fun x H1 => g x σ H1 D.nx
theorem ps_asg {tg e : Expr} {te : TE} {g : TG} (he : PE X e te) (hg : PG X tg g) (hs : swapsWithSole [tg] e pos.line X.env = pure false := by rfl) (hw : swappedStores [tg] e X.env = pure none := by rfl)
    (h1 : (assignEach [tg] X.env).map (·.2) = [assign tg X.env] := by rfl) : PS X (.Assign [tg] e pos) (tAsg te g) := by
  intro pins s σ H D I h
  refine wpAny_Assign_stores (thn (he pins s σ H _ I h) fun v s1 ⟨x, H1, I1, r1, q1⟩ => ?_) hs hw
  rw [h1]
  exact thn (hg pins s1 σ H1 x v _ I1 r1 q1) fun _ s2 q => q
theorem ps_set {i : Nat} {x : Str} {e : Expr} {te : TE} {pos' : Pos} (hN : X.N.Nodup) (hi : X.N[i]? = some x) (hx : Loc X.env.scope x) (he : PE X e te) (hs : swapsWith e (some (.Name x pos')) pos.line X.env = pure false := by rfl) (hf : X.fn x = true ∨ X.env.scope.names.lookup x = some .local := by first | exact .inl rfl | exact .inr rfl | assumption) :
    PS X (.Assign [.Name x pos'] e pos) (tAsg te (gName i)) := by
  intro pins s σ H D I h
  refine wpAny_Assign_Name (thn (he pins s σ H _ I h) fun v s1 ⟨y, H1, I1, r1, q1⟩ => ?_) hs
  exact store_ok I1 hN hi hx r1 (fun s2 I2 => ⟨_, H1, I2, q1⟩) hf
end
section
variable {X : Cx} {pos : Pos}
end
structure It where
  go : Nat → Hp → Prop
  yld : Nat → Hp → V → Hp → Prop
  stop : Nat → Hp → Prop
def FpOk (X : Cx) (pins : List (Addr × Obj)) (H : Hp) (b : Addr) : Prop :=
  H b = none ∧ b ≠ X.env.locals ∧ b ∉ X.fs ∧ (b ∈ X.ex ∨ X.s_0.heap.objs.size ≤ b) ∧ (∀ x c, X.env.cells.lookup x = some c → c ≠ b) ∧ ∀ p ∈ X.pn ++ pins, p.1 ≠ b
theorem Inv.fpOk {X : Cx} {pins : List (Addr × Obj)} {σ : St} {H H' : Hp} {s : Shared} {b : Addr} (I : Inv X pins σ H s) (hb : s.heap.objs.size ≤ b) (hn : H' b = none) : FpOk X pins H' b := by
  refine ⟨hn, Nat.ne_of_gt (Nat.lt_of_lt_of_le I.lt hb), I.nofs hb, .inr (Nat.le_trans I.sz hb), fun x c e z => ?_, fun p hp z => ?_⟩
  · obtain ⟨v, q⟩ := I.cell x c e
    exact absurd (Nat.lt_of_lt_of_le q.lt (by rw [z]; exact hb)) (Nat.lt_irrefl _)
  · exact absurd (Nat.lt_of_lt_of_le (Heap.lt_size (I.pin p hp).1) (by rw [z]; exact hb)) (Nat.lt_irrefl _)
structure Turn (P : Program) (w : World) (K : PySem.W.Frag) (tg : Expr) (J : It) (fp : List Addr) (it : Addr) (tn : Nat → Heap → Prop) : Prop where
  mem : it ∈ fp
  obj : ∀ i h, tn i h → ∀ b ∈ fp, ∃ o, h.get? b = some o ∧ ∀ v, o.data ≠ .cell v
  keep : ∀ i h h', tn i h → (∀ b ∈ fp, ∀ o, h.get? b = some o → h'.get? b = some o) → tn i h'
  item : ∀ (X : Cx), X.prog = P → X.w = w → X.K = K → X.calm = true → ∀ (i : Nat) (pins : List (Addr × Obj)) (s : Shared) (σ : St) (H : Hp) (E : Value → Shared → Prop), Inv X pins σ H s → (∀ b ∈ fp, FpOk X pins H b) → tn i s.heap → J.go i H →
    wpAny (model P w) X.A (pyNext (.ref it)) (fun r s1 => ∃ u, r = some u ∧
      wpAny (model P w) X.A (letOwnedTupleGo tg (.ref it) u) (fun _ s2 => ∃ x H', Inv X pins σ H' s2 ∧ RelV x u ∧ J.yld i H x H' ∧ tn (i + 1) s2.heap ∧ ∀ b ∈ fp, H' b = none) E s1) E s
  done : ∀ (X : Cx), X.prog = P → X.w = w → X.K = K → X.calm = true → ∀ (i : Nat) (pins : List (Addr × Obj)) (s : Shared) (σ : St) (H : Hp) (E : Value → Shared → Prop), Inv X pins σ H s → (∀ b ∈ fp, FpOk X pins H b) → tn i s.heap → J.stop i H →
    wpAny (model P w) X.A (pyNext (.ref it)) (fun r s1 => r = none ∧ Inv X pins σ H s1) E s
  self : ∀ (A : Around) (i : Nat) (s : Shared) (Q : Value → Shared → Prop) (E : Value → Shared → Prop), tn i s.heap → Q (.ref it) s → wpAny (model P w) A (pyIter (.ref it)) Q E s
abbrev TI := St → Hp → (It → Hp → Prop) → Prop
def PIE (X : Cx) (pins : List (Addr × Obj)) (σ : St) (tg : Expr) (R : It → Hp → Prop) (itv : Value) (s2 : Shared) : Prop :=
  ∃ (it : Addr) (fp : List Addr) (tn : Nat → Heap → Prop) (J : It) (H' : Hp), itv = .ref it ∧ Inv X pins σ H' s2 ∧ Turn X.prog X.w X.K tg J fp it tn ∧ tn 0 s2.heap ∧ (∀ b ∈ fp, FpOk X pins H' b) ∧ R J H'
def PI (X : Cx) (tg iter : Expr) (wi : TI) : Prop :=
  ∀ (pins : List (Addr × Obj)) (s : Shared) (σ : St) (H : Hp) (R : It → Hp → Prop), Inv X pins σ H s → wi σ H R →
    wpAny (model X.prog X.w) X.A (eval iter X.env) (fun v s1 => wpAny (model X.prog X.w) X.A (pyIter v) (PIE X pins σ tg R) X.xe s1) X.xe s
theorem go_of {M : Model} {A : Around} {E : Value → Shared → Prop} {s : Shared} {tg : Expr} {it : Addr} {u : Value} {o : Obj} {n : String} {vs : Array Value} {Q : Unit → Shared → Prop} (ho : s.heap.get? it = some o) (hc : o.cls = .type n) (hd : o.data = .fields vs)
    (hn : ["enumerate", "zip", "dict_itemiterator", "dict_reverseitemiterator", "odict_iterator", "itertools.zip_longest", "itertools.pairwise"].contains n = false) (hQ : Q () s) : wpAny M A (letOwnedTupleGo tg (.ref it) u) Q E s := by
  unfold letOwnedTupleGo
  cases tg <;> first
    | exact wpAny_pure hQ
    | (cases u <;> first
        | exact wpAny_pure hQ
        | (refine wpAny_bind (wpAny_load ho ?_)
           rw [hc, hd]
           show wpAny M A (if (["enumerate", "zip", "dict_itemiterator", "dict_reverseitemiterator", "odict_iterator", "itertools.zip_longest", "itertools.pairwise"].contains n && vs[0]? == some (rawInt _)) = true then _ else _) Q E s
           rw [if_neg (by intro h; rw [hn, Bool.false_and] at h; cases h)]
           exact wpAny_pure hQ))
def Itl (K : PySem.W.Frag) (a : Addr) : It :=
  ⟨fun i H => ∃ xs x, SqL K H a xs ∧ xs[i]? = some x, fun i H x H' => H' = H ∧ ∀ xs, SqL K H a xs → xs[i]? = some x, fun i H => ∃ xs, SqL K H a xs ∧ xs.length ≤ i⟩
def Itt (K : PySem.W.Frag) (a : Addr) : It :=
  ⟨fun i H => ∃ xs x, SqT K H a xs ∧ xs[i]? = some x, fun i H x H' => H' = H ∧ ∀ xs, SqT K H a xs → xs[i]? = some x, fun i H => ∃ xs, SqT K H a xs ∧ xs.length ≤ i⟩
def Itr (lo : Int) (n : Nat) : It := ⟨fun i _ => i < n, fun i H x H' => H' = H ∧ x = .int (lo + i), fun i _ => n ≤ i⟩
theorem turn_list {P : Program} {w : World} {K : PySem.W.Frag} {tg : Expr} (a it : Addr) : Turn P w K tg (Itl K a) [it] it (fun i h => h.IsListIter it a i) where
  mem := by simp
  obj := fun i h st b hb => by
    have e : b = it := by simpa using hb
    subst e
    obtain ⟨o, e, c, d⟩ := st
    exact ⟨o, e, fun v z => by rw [d] at z; cases z⟩
  keep := fun i h h' st k => st.at fun o e => k it (by simp) o e
  item := by
    intro X hP hw hK hc i pins s σ H E I hf st hg
    subst hP hw hK
    obtain ⟨xs, x, hq, hx⟩ := hg
    obtain ⟨its, rv, p, hz⟩ := I.list hq
    obtain ⟨u, hu, ru⟩ := rv.get hx
    obtain ⟨f0, f1, f2, f3, f4, f5⟩ := hf it (by simp)
    refine wpAny_pyNext_list_item st p.isList (x := u) (by simpa using hu) fun h' st' sb => ?_
    have I1 : Inv X pins σ H { s with heap := h' } := I.turned (t' := s.toks) (fun b o hb e => (sb.2 b hb).trans e) f0 f1 f3 f4 f5
    obtain ⟨o, e, c, d⟩ := id st'
    exact ⟨u, rfl, go_of (s := { s with heap := h' }) e c d (by decide) ⟨x, H, I1, ru, ⟨rfl, fun ys hy => by rw [I.list_inj hy hq]; exact hx⟩, st', fun b hb => (hf b hb).1⟩⟩
  done := by
    intro X hP hw hK hc i pins s σ H E I hf st hg
    subst hP hw hK
    obtain ⟨xs, hq, hx⟩ := hg
    obtain ⟨its, rv, p, hz⟩ := I.list hq
    obtain ⟨f0, f1, f2, f3, f4, f5⟩ := hf it (by simp)
    have hl := rv.length
    exact wpAny_pyNext_list_end (I.ok.hd hc) st p.isList (by simp; omega) fun h' eb => ⟨rfl, I.turned (t' := s.toks) (fun b o hb e => eb b o hb e) f0 f1 f3 f4 f5⟩
  self := fun _ _ _ _ _ st h => wpAny_pyIter_listiter st h
theorem turn_range {P : Program} {w : World} {K : PySem.W.Frag} {tg : Expr} (it : Addr) (lo : Int) (n : Nat) : Turn P w K tg (Itr lo n) [it] it (fun i h => IsRangeIter h it (lo + (i : Nat) * 1) ((n : Int) - (i : Nat)) 1) where
  mem := by simp
  obj := fun i h st b hb => by
    have e : b = it := by simpa using hb
    subst e
    exact ⟨_, st, fun v z => by
      have z' : Data.fields _ = Data.cell v := z
      cases z'⟩
  keep := fun i h h' st k => k it (by simp) _ st
  item := by
    intro X hP hw hK hc i pins s σ H E I hf st hg
    subst hP hw hK
    obtain ⟨f0, f1, f2, f3, f4, f5⟩ := hf it (by simp)
    have W := Walks.range (prog := X.prog) (w := X.w) (I.ok.hd hc) it lo 1 n
    refine W.item i s _ _ hg st fun v h' tk hv st' kk => ?_
    obtain ⟨t, rfl⟩ := hv
    have I1 : Inv X pins σ H { s with heap := h', toks := tk } := I.turned (fun b o hb e => kk b o (by simpa using hb) e) f0 f1 f3 f4 f5
    refine ⟨_, rfl, go_of (s := { s with heap := h', toks := tk }) (n := "range_iterator") st' rfl rfl (by decide) ⟨.int (lo + i), H, I1, ⟨t, ?_⟩, ⟨rfl, rfl⟩, st', fun b hb => (hf b hb).1⟩⟩
    rw [Int.mul_one]
  done := by
    intro X hP hw hK hc i pins s σ H E I hf st hg
    subst hP hw hK
    obtain ⟨f0, f1, f2, f3, f4, f5⟩ := hf it (by simp)
    exact wpAny_pyNext_range_end (I.ok.hd hc) st (by have : n ≤ i := hg; omega) fun h' eb => ⟨rfl, I.turned (t' := s.toks) (fun b o hb e => eb b o hb e) f0 f1 f3 f4 f5⟩
  self := fun _ _ _ _ _ st h => wpAny_pyIter_rangeiter st h
end L2
namespace L2
open PySem PySem.Spec PyProof.Rows
section
variable {X : Cx} {tg : Expr}
def iList (K : PySem.W.Frag) (tl : TE) : TI := fun σ H R => tl σ H fun x H1 => ∃ a, x = .ref a ∧ (∃ xs, SqL K H1 a xs) ∧ R (Itl K a) H1
theorem pi_list {l : Expr} {tl : TE} (hl : PE X l tl) : PI X tg l (iList X.K tl) := by
  intro pins s σ H R I h
  refine thn (hl pins s σ H _ I h) fun v s1 ⟨x, H1, I1, r1, q1⟩ => ?_
  obtain ⟨a, e, ⟨xs, hq⟩, q⟩ := q1
  subst e
  cases r1
  obtain ⟨its, rv, p, hz⟩ := I1.list hq
  refine wpAny_pyIter_list p.isList ?_
  refine ⟨s1.heap.objs.size, [s1.heap.objs.size], _, _, H1, rfl, I1.kept (t' := s1.toks) fun b o e => Heap.get?_push_of_some _ e, turn_list a _, ⟨_, Heap.get?_push_size _ rfl, rfl, rfl⟩, fun b hb => ?_, q⟩
  have e : b = s1.heap.objs.size := by simpa using hb
  subst e
  exact I1.fpOk (Nat.le_refl _) (I1.hok.fresh (Nat.le_refl _))
theorem range_it {pins : List (Addr × Obj)} {σ : St} {H : Hp} {s : Shared} {R : It → Hp → Prop} {E : Value → Shared → Prop} {lo hi : Int} {t u v : Tok} {tk : Nat} (I : Inv X pins σ H s) (h1 : -(2 ^ 62) ≤ lo) (h2 : lo < 2 ^ 62) (h3 : -(2 ^ 62) ≤ hi) (h4 : hi < 2 ^ 62)
    (q : R (Itr lo (hi - lo).toNat) H) : wpAny (model X.prog X.w) X.A (pyIter (.ref s.heap.objs.size)) (PIE X pins σ tg R) E { s with heap := s.heap.push { cls := .type "range", data := .fields #[.int lo t, .int hi u, .int 1 v] }, toks := tk } := by
  refine wpAny_pyIter_range (IsRange.new ..) (small_one h1 h2 h3 h4) ?_
  have I1 : Inv X pins σ H { s with heap := s.heap.push { cls := .type "range", data := .fields #[.int lo t, .int hi u, .int 1 v] }, toks := tk } := I.kept fun b o e => Heap.get?_push_of_some _ e
  refine ⟨(s.heap.push { cls := .type "range", data := .fields #[.int lo t, .int hi u, .int 1 v] }).objs.size, [(s.heap.push { cls := .type "range", data := .fields #[.int lo t, .int hi u, .int 1 v] }).objs.size], _, _, H, rfl,
    I1.kept (t' := tk) fun b o e => Heap.get?_push_of_some _ e, turn_range _ lo (hi - lo).toNat, ?_, fun b hb => ?_, q⟩
  · have e1 : lo + ((0 : Nat) : Int) * 1 = lo := by simp
    have e2 : (((hi - lo).toNat : Nat) : Int) - ((0 : Nat) : Int) = Builtin.Range.rangeSize lo hi 1 := by rw [rangeSize_one]; split <;> omega
    show IsRangeIter _ _ (lo + ((0 : Nat) : Int) * 1) ((((hi - lo).toNat : Nat) : Int) - ((0 : Nat) : Int)) 1
    rw [e1, e2]
    exact Heap.get?_push_size _ rfl
  · have e : b = (s.heap.push { cls := .type "range", data := .fields #[.int lo t, .int hi u, .int 1 v] }).objs.size := by simpa using hb
    subst e
    exact I1.fpOk (Nat.le_refl _) (I1.hok.fresh (Nat.le_refl _))
def iRng1 (ta : TA) : TI := fun σ H R => ta σ H fun vs H1 => ∃ j : Int, vs = [.int j] ∧ -(2 ^ 62) ≤ j ∧ j < 2 ^ 62 ∧ R (Itr 0 j.toNat) H1
theorem pi_range1 {a : Expr} {ta : TA} {p pos : Pos} (hg : Gl X "range") (hm : X.mg "range" = none) (ha : PA X [a] ta) (hs : starEach [a] X.env = [(false, eval a X.env)] := by rfl) : PI X tg (.Call (.Name "range" p) [a] [] pos) (iRng1 ta) := by
  intro pins s σ H R I h
  refine Call_ (ld_blt I hg hm boot_range (PyProof.Rows.callWith_type1 (thn (ha pos pins s σ H _ I h) fun us s1 ⟨vs, H1, I1, r1, q1⟩ => ?_) hs rfl))
  obtain ⟨j, e, q1, q2, q⟩ := q1
  subst e
  cases r1 with
  | cons r rr =>
    cases rr
    obtain ⟨t, rfl⟩ := r
    exact call_range_1 (range_it I1 (by omega) (by omega) q1 q2 (by simpa using q))
def tFor (wi : TI) (g : TG) (tb : TS) : TS := fun D σ H => wi σ H fun J H1 => ∃ W : Nat → Nat → St → Hp → Prop, (∃ m, W 0 m σ H1) ∧ ∀ i m σ H, W i m σ H →
  (J.stop i H ∧ D.nx σ H) ∨ (J.go i H ∧ ∃ N : St → Hp → Prop, (∀ σ' H', N σ' H' → ∃ m', m' < m ∧ W (i + 1) m' σ' H') ∧ ∀ x H', J.yld i H x H' → g x σ H' fun σ2 H2 => tb { D with nx := N, ct := N, bk := D.nx } σ2 H2)
def pinsAt (fp : List Addr) (h : Heap) : List (Addr × Obj) := fp.filterMap fun b => (h.get? b).map fun o => (b, o)
theorem mem_pinsAt {fp : List Addr} {h : Heap} {b : Addr} {o : Obj} (hb : b ∈ fp) (e : h.get? b = some o) : (b, o) ∈ pinsAt fp h := List.mem_filterMap.mpr ⟨b, hb, by rw [e]; rfl⟩
theorem of_pinsAt {fp : List Addr} {h : Heap} {p : Addr × Obj} (hp : p ∈ pinsAt fp h) : p.1 ∈ fp ∧ h.get? p.1 = some p.2 := by
  obtain ⟨b, hb, e⟩ := List.mem_filterMap.mp hp
  cases q : h.get? b with
  | none => rw [q] at e; cases e
  | some o =>
    rw [q] at e
    have e' : (b, o) = p := Option.some.inj e
    subst e'
    exact ⟨hb, q⟩
theorem Inv.pinned {pins : List (Addr × Obj)} {σ : St} {H : Hp} {s : Shared} {fp : List Addr} (I : Inv X pins σ H s) (hf : ∀ b ∈ fp, FpOk X pins H b) (ho : ∀ b ∈ fp, ∃ o, s.heap.get? b = some o ∧ ∀ v, o.data ≠ .cell v) : Inv X (pins ++ pinsAt fp s.heap) σ H s :=
  I.pins_of fun p hp => (List.mem_append.mp hp).elim (fun z => I.pin p (List.mem_append_right _ z)) fun z => by
    obtain ⟨hb, e⟩ := of_pinsAt z
    obtain ⟨f0, f1, f2, _⟩ := hf p.1 hb
    obtain ⟨o, e', d⟩ := ho p.1 hb
    rw [e] at e'; cases e'
    exact ⟨e, f0, f1, f2, d⟩
theorem Inv.unpinned {pins pl : List (Addr × Obj)} {σ : St} {H : Hp} {s : Shared} (I : Inv X (pins ++ pl) σ H s) : Inv X pins σ H s := I.pins_of fun p hp => I.pin p (List.mem_append_right _ (List.mem_append_left _ hp))
theorem ps_for {iter : Expr} {body : List Stmt} {wi : TI} {g : TG} {tb : TS} {pos : Pos} (hp : PassesOwn (model X.prog X.w) X.A X.env X.xe) (hc : X.calm = true) (hi : PI X tg iter wi) (hg : PG X tg g) (hb : PSs X body tb)
    (hs : ∀ x, foldedSetIterable iter X.env x = pure x := by intro _; rfl) : PS X (.For tg iter body [] pos) (tFor wi g tb) := by
  intro pins s σ H D I h
  refine wpAny_For (thn (hi pins s σ H _ I h) fun v s1 h1 => thn h1 fun itv s2 h2 => ?_) hs
  obtain ⟨it, fp, tn, J, H2, e, I2, T, st2, f2, W, ⟨m0, w0⟩, turn⟩ := h2
  subst e
  have stat : ∀ {H' : Hp}, (∀ b ∈ fp, H' b = none) → ∀ b ∈ fp, FpOk X pins H' b := fun hn b hb => ⟨hn b hb, (f2 b hb).2⟩
  refine codeAny_forLoop_any (fun n s' => ∃ i σ' H', Inv X pins σ' H' s' ∧ tn i s'.heap ∧ (∀ b ∈ fp, H' b = none) ∧ W i n σ' H') ?_ m0 ⟨0, σ, H2, I2, st2, fun b hb => (f2 b hb).1, w0⟩
  rintro n s3 ⟨i, σ3, H3, I3, st3, fr3, w3⟩
  rcases turn i n σ3 H3 w3 with ⟨stop, qn⟩ | ⟨go, N, hN, step⟩
  · refine wpAny_passesOwn hp (thn (T.done X rfl rfl rfl hc i pins s3 σ3 H3 X.xe I3 (stat fr3) st3 stop) fun r s4 ⟨hr, I4⟩ => ?_)
    subst hr
    exact wpAny_execs_nil ⟨σ3, H3, I4, qn⟩
  · refine wpAny_passesOwn hp (thn (T.item X rfl rfl rfl hc i pins s3 σ3 H3 X.xe I3 (stat fr3) st3 go) fun r s4 ⟨u, hr, h4⟩ => ?_)
    subst hr
    refine wpAny_passesOwn hp (thn h4 fun _ s5 ⟨x, H5, I5, r5, y5, st5, fr5⟩ => ?_)
    have I5' := I5.pinned (stat fr5) (T.obj _ _ st5)
    refine wpAny_passesOwn hp (thn (hg _ s5 σ3 H5 x u _ I5' r5 (step x H5 y5)) fun _ s6 ⟨σ6, H6, I6, q6⟩ => ?_)
    refine wpAny_passesOwn hp (thn (hb _ s6 σ6 H6 _ I6 q6) fun f s7 q7 => ?_)
    have again : ∀ {σ7 : St} {H7 : Hp}, Inv X (pins ++ pinsAt fp s5.heap) σ7 H7 s7 → N σ7 H7 → ∃ m, m < n ∧ ∃ i σ' H', Inv X pins σ' H' s7 ∧ tn i s7.heap ∧ (∀ b ∈ fp, H' b = none) ∧ W i m σ' H' := fun {σ7 H7} I7 n7 => by
      obtain ⟨m', hm, w7⟩ := hN σ7 H7 n7
      refine ⟨m', hm, i + 1, σ7, H7, I7.unpinned, T.keep _ _ _ st5 fun b hb o e => (I7.pin (b, o) (List.mem_append_right _ (List.mem_append_right _ (mem_pinsAt hb e)))).1, fun b hb => ?_, w7⟩
      obtain ⟨o, e, d⟩ := T.obj _ _ st5 b hb
      exact (I7.pin (b, o) (List.mem_append_right _ (List.mem_append_right _ (mem_pinsAt hb e)))).2.1
    cases f with
    | next => obtain ⟨σ7, H7, I7, n7⟩ := q7; exact again I7 n7
    | cont => obtain ⟨σ7, H7, I7, n7⟩ := q7; exact again I7 n7
    | brk => obtain ⟨σ7, H7, I7, q7⟩ := q7; exact ⟨σ7, H7, I7.unpinned, q7⟩
    | ret v => obtain ⟨x7, σ7, H7, I7, r7, q7⟩ := q7; exact ⟨x7, σ7, H7, I7.unpinned, r7, q7⟩
end
end L2
namespace L2
open PySem PySem.Spec PyProof.Rows
abbrev R2 := V → V → Hp → VK → Prop
def OpR (X : Cx) (f : Value → Value → Sem Value) (r : R2) : Prop :=
  ∀ (pins : List (Addr × Obj)) (s : Shared) (σ : St) (H : Hp) (x y : V) (v u : Value) (Q : VK), Inv X pins σ H s → RelV x v → RelV y u → r x y H Q →
    wpAny (model X.prog X.w) X.A (f v u) (EP X pins σ Q) X.xe s
def UnR (X : Cx) (f : Value → Sem Value) (r : V → Hp → VK → Prop) : Prop :=
  ∀ (pins : List (Addr × Obj)) (s : Shared) (σ : St) (H : Hp) (x : V) (v : Value) (Q : VK), Inv X pins σ H s → RelV x v → r x H Q →
    wpAny (model X.prog X.w) X.A (f v) (EP X pins σ Q) X.xe s
def CallR (X : Cx) (f : Value) (r : List V → Hp → VK → Prop) : Prop :=
  ∀ (pins : List (Addr × Obj)) (s : Shared) (σ : St) (H : Hp) (xs : List V) (us : List Value) (Q : VK), Inv X pins σ H s → Vals xs us → r xs H Q →
    wpAny (model X.prog X.w) X.A (call f us) (EP X pins σ Q) X.xe s
def tOp (r : R2) (ta tb : TE) : TE := fun σ H Q => ta σ H fun x H1 => tb σ H1 fun y H2 => r x y H2 Q
def tUn (r : V → Hp → VK → Prop) (ta : TE) : TE := fun σ H Q => ta σ H fun x H1 => r x H1 Q
def rI (C : Int → Int → Prop) (g : Int → Int → V) : R2 := fun x y H Q => ∃ i j, x = .int i ∧ y = .int j ∧ C i j ∧ Q (g i j) H
def rI0 (g : Int → Int → V) : R2 := fun x y H Q => ∃ i j, x = .int i ∧ y = .int j ∧ Q (g i j) H
def rU (g : Int → V) : V → Hp → VK → Prop := fun x H Q => ∃ i, x = .int i ∧ Q (g i) H
section
variable {X : Cx} {a b c : Expr} {ta tb tc : TE} {pos : Pos}
theorem binT (ha : PE X a ta) (hb : PE X b tb) {pins : List (Addr × Obj)} {s : Shared} {σ : St} {H : Hp} {R : V → V → Hp → Prop} (I : Inv X pins σ H s)
    (h : ta σ H fun x H1 => tb σ H1 fun y H2 => R x y H2) {Q : Value → Shared → Prop} {f : Value → Value → Sem Value}
    (hf : ∀ v u s2 x y H2, Inv X pins σ H2 s2 → RelV x v → RelV y u → R x y H2 → wpAny (model X.prog X.w) X.A (f v u) Q X.xe s2) :
    wpAny (model X.prog X.w) X.A (eval a X.env) (fun v s₁ => wpAny (model X.prog X.w) X.A (eval b X.env) (fun u s₂ => wpAny (model X.prog X.w) X.A (f v u) Q X.xe s₂) X.xe s₁) X.xe s := by
  refine thn (ha pins s σ H _ I h) fun v s1 ⟨x, H1, I1, r1, q1⟩ => ?_
  refine thn (hb pins s1 σ H1 _ I1 q1) fun u s2 ⟨y, H2, I2, r2, q2⟩ => ?_
  exact hf v u s2 x y H2 I2 r1 r2 q2
theorem pe_op {op : Operator} {r : R2} (ho : OpR X (binaryOp op) r) (ha : PE X a ta) (hb : PE X b tb) : PE X (.BinOp a op b pos) (tOp r ta tb) := by
  intro pins s σ H Q I h
  exact wpAny_BinOp (binT ha hb I h fun v u s2 x y H2 I2 rx ry q => ho pins s2 σ H2 x y v u Q I2 rx ry q)
theorem pe_un {op : UnaryOp} {r : V → Hp → VK → Prop} (ho : UnR X (unaryOp op) r) (ha : PE X a ta) : PE X (.UnaryOp op a pos) (tUn r ta) := by
  intro pins s σ H Q I h
  exact UnaryOp_ (thn (ha pins s σ H _ I h) fun v s1 ⟨x, H1, I1, r1, q1⟩ => ho pins s1 σ H1 x v Q I1 r1 q1)
theorem opI {f : Value → Value → Sem Value} {C : Int → Int → Prop} {g : Int → Int → Int}
    (rule : ∀ (i j : Int) (t u : Tok) (s : Shared) (Q : Value → Shared → Prop) (E : Value → Shared → Prop), C i j → Q (.int (g i j) s.toks) { s with toks := s.toks + 1 } → wpAny (model X.prog X.w) X.A (f (.int i t) (.int j u)) Q E s) :
    OpR X f (rI C fun i j => .int (g i j)) := by
  intro pins s σ H x y v u Q I rx ry h
  obtain ⟨i, j, rfl, rfl, hc, q⟩ := h
  obtain ⟨t, rfl⟩ := rx
  obtain ⟨t', rfl⟩ := ry
  exact rule i j t t' s _ _ hc ⟨.int (g i j), H, I.tok _, ⟨_, rfl⟩, q⟩
theorem opI0 {f : Value → Value → Sem Value} {g : Int → Int → Int}
    (rule : ∀ (i j : Int) (t u : Tok) (s : Shared) (Q : Value → Shared → Prop) (E : Value → Shared → Prop), Q (.int (g i j) s.toks) { s with toks := s.toks + 1 } → wpAny (model X.prog X.w) X.A (f (.int i t) (.int j u)) Q E s) :
    OpR X f (rI0 fun i j => .int (g i j)) := by
  intro pins s σ H x y v u Q I rx ry h
  obtain ⟨i, j, rfl, rfl, q⟩ := h
  obtain ⟨t, rfl⟩ := rx
  obtain ⟨t', rfl⟩ := ry
  exact rule i j t t' s _ _ ⟨.int (g i j), H, I.tok _, ⟨_, rfl⟩, q⟩
theorem opB0 {f : Value → Value → Sem Value} {g : Int → Int → Bool}
    (rule : ∀ (i j : Int) (t u : Tok) (s : Shared) (Q : Value → Shared → Prop) (E : Value → Shared → Prop), Q (.bool (g i j)) s → wpAny (model X.prog X.w) X.A (f (.int i t) (.int j u)) Q E s) :
    OpR X f (rI0 fun i j => .bl (g i j)) := by
  intro pins s σ H x y v u Q I rx ry h
  obtain ⟨i, j, rfl, rfl, q⟩ := h
  obtain ⟨t, rfl⟩ := rx
  obtain ⟨t', rfl⟩ := ry
  exact rule i j t t' s _ _ ⟨.bl (g i j), H, I, rfl, q⟩
def CPow (i j : Int) : Prop := 0 ≤ j ∧ j ≤ 1000000 ∧ i.natAbs < 2 ^ 64
def CMul (i j : Int) : Prop := (-(2 ^ 64) < i ∧ i < 2 ^ 64) ∨ (-(2 ^ 64) < j ∧ j < 2 ^ 64)
theorem CMul.ok {i j : Int} (h : CMul i j) : IntMulOk i j := by
  rcases h with ⟨h1, h2⟩ | ⟨h1, h2⟩
  · exact .of_left (intBits_le_64 h1 h2)
  · exact .of_right (intBits_le_64 h1 h2)
theorem op_add : OpR X (binaryOp .Add) (rI0 fun i j => .int (i + j)) := opI0 fun _ _ _ _ _ _ _ q => add_int q
theorem op_sub : OpR X (binaryOp .Sub) (rI0 fun i j => .int (i - j)) := opI0 fun _ _ _ _ _ _ _ q => sub_int q
theorem op_mul : OpR X (binaryOp .Mult) (rI CMul fun i j => .int (i * j)) := opI fun _ _ _ _ _ _ _ hc q => mul_int q hc.ok
theorem op_mod : OpR X (binaryOp .Mod) (rI (fun _ j => 0 < j) fun i j => .int (i % j)) := opI fun i j _ _ _ _ _ hc q => by
  have h1 : (0 : Int) < j := hc
  exact mod_int' (by omega) (by rw [Int.fmod_eq_emod_of_nonneg i (by omega)]; exact q)
theorem op_pow : OpR X (binaryOp .Pow) (rI CPow fun i j => .int (i ^ j.toNat)) := opI fun _ _ _ _ _ _ _ hc q => pow_int_small hc.1 hc.2.1 hc.2.2 q
theorem unI {f : Value → Sem Value} {g : Int → Int}
    (rule : ∀ (i : Int) (t : Tok) (s : Shared) (Q : Value → Shared → Prop) (E : Value → Shared → Prop), Q (.int (g i) s.toks) { s with toks := s.toks + 1 } → wpAny (model X.prog X.w) X.A (f (.int i t)) Q E s) :
    UnR X f (rU fun i => .int (g i)) := by
  intro pins s σ H x v Q I rx h
  obtain ⟨i, rfl, q⟩ := h
  obtain ⟨t, rfl⟩ := rx
  exact rule i t s _ _ ⟨.int (g i), H, I.tok _, ⟨_, rfl⟩, q⟩
theorem un_neg : UnR X (unaryOp .USub) (rU fun i => .int (-i)) := unI fun _ _ _ _ _ q => neg_int q
end
section
variable {X : Cx} {a b c : Expr} {ta tb tc : TE} {pos : Pos}
theorem op_lt : OpR X (compareOp .Lt) (rI0 fun i j => .bl (decide (i < j))) := opB0 fun _ _ _ _ _ _ _ q => lt_int q
theorem OpR.or {f : Value → Value → Sem Value} {r r' : R2} (h : OpR X f r) (h' : OpR X f r') : OpR X f (fun x y H Q => r x y H Q ∨ r' x y H Q) := by
  intro pins s σ H x y v u Q I rx ry q
  rcases q with q | q
  · exact h pins s σ H x y v u Q I rx ry q
  · exact h' pins s σ H x y v u Q I rx ry q
theorem nomark (b : Expr) {op : CmpOp} (h : op ≠ .In := by decide) (h2 : op ≠ .NotIn := by decide) : behindInMarks op b = false := by
  have e1 : (op == CmpOp.In) = false := by cases op <;> first | rfl | exact absurd rfl h
  have e2 : (op == CmpOp.NotIn) = false := by cases op <;> first | rfl | exact absurd rfl h2
  cases b <;> simp [behindInMarks, e1, e2]
theorem pe_cmpR {op : CmpOp} {r : R2} (ho : OpR X (compareOp op) r) (ha : PE X a ta) (hb : PE X b tb) (hm : behindInMarks op b = false) : PE X (.Compare a [op] [b] pos) (tOp r ta tb) := by
  intro pins s σ H Q I h
  exact wpAny_Compare1 (binT ha hb I h fun v u s2 x y H2 I2 rx ry q => ho pins s2 σ H2 x y v u Q I2 rx ry q) hm
def tTest (t : TE) : TT := fun σ H Q => t σ H fun x H' => ∃ k, x = .bl k ∧ Q k H'
theorem pt_cmpR {op : CmpOp} {r : R2} (ho : OpR X (compareOp op) r) (ha : PE X a ta) (hb : PE X b tb) (hm : behindInMarks op b = false) : PT X (.Compare a [op] [b] pos) (tTest (tOp r ta tb)) := by
  intro pins s σ H Q I h
  refine wpAny_isTrue_Compare1 (thn (ha pins s σ H _ I h) fun v s1 ⟨x, H1, I1, r1, q1⟩ => thn (hb pins s1 σ H1 _ I1 q1) fun u s2 ⟨y, H2, I2, r2, q2⟩ =>
    thn (ho pins s2 σ H2 x y v u _ I2 r1 r2 q2) fun c s3 ⟨z, H3, I3, r3, k, e, q3⟩ => ?_) hm
  subst e
  cases r3
  exact wpAny_truthy_bool ⟨H3, I3, q3⟩
theorem line63 : (sizeLine : Nat) < 2 ^ 63 := by rw [sizeLine_eq]; decide
theorem vals1 {x : V} {us : List Value} (r : Vals [x] us) : ∃ u, us = [u] ∧ RelV x u := by
  cases r with
  | cons r1 r2 => cases r2; exact ⟨_, rfl, r1⟩
theorem vals2 {x y : V} {us : List Value} (r : Vals [x, y] us) : ∃ u w', us = [u, w'] ∧ RelV x u ∧ RelV y w' := by
  cases r with
  | cons r1 r2 =>
    cases r2 with
    | cons r3 r4 => cases r4; exact ⟨_, _, rfl, r1, r3⟩
end
end L2
namespace L2
open PySem PySem.Spec PyProof.Rows
structure ObjM (h : Heap) (x dx C : Addr) (mA : Str → Option Value) : Prop where
  obj : h.get? x = some (PySem.W.instObj C dx)
  ns : h.Ns1 dx mA
  ne : dx ≠ x
theorem lookIn_ns {h : Heap} {dx : Addr} {mA : Str → Option Value} (n : h.Ns1 dx mA) : ∃ od, h.get? dx = some od ∧ ∀ name, PySem.W.lookIn name od = some (mA name) := by
  obtain ⟨o, es, ep, ho, hd, hk, _, hm⟩ := n
  refine ⟨o, ho, fun name => ?_⟩
  have e := hm name
  unfold nsFind findBy at e
  rw [← Array.find?_toList] at e
  unfold PySem.W.lookIn
  rw [hd]
  dsimp only
  split
  · rename_i y q
    rw [q] at e
    exact congrArg some e
  · rename_i q
    rw [q] at e
    have a : es.toList.any (·.refKey) = false := by
      rw [List.any_eq_false]
      intro y hy
      obtain ⟨z, t, hkey⟩ := hk y (Array.mem_toList_iff.mp hy)
      simp [DictEntry.refKey, hkey]
    have a' : ¬ es.toList.any (·.refKey) = true := by rw [a]; exact Bool.false_ne_true
    rw [if_neg a']
    exact congrArg some e
theorem ObjM.look {h : Heap} {x dx C : Addr} {mA : Str → Option Value} (I : ObjM h x dx C mA) : ∃ od, PySem.W.InstAt h x (PySem.W.instObj C dx) C (some od) ∧ ∀ name, PySem.W.lookIn name od = some (mA name) :=
  let ⟨od, ho, hl⟩ := lookIn_ns I.ns
  ⟨od, ⟨I.obj, rfl, rfl, ho⟩, hl⟩
section
variable {prog : Program} {w : World} {A : Around} {E : Value → Shared → Prop} {s : Shared} {K : PySem.W.Frag} {x dx C f : Addr} {mA : Str → Option Value} {name : Str} {v : Value}
theorem get_map {expr : Bool} {Q : Value → Shared → Prop} (X : K.In s.heap) (I : ObjM s.heap x dx C mA) (hg : PySem.W.plainGet K C name = true) (hh : PySem.W.hasDictIn K C = true)
    (ha : PySem.W.findIn K (.ref C) name = some none) (hv : mA name = some v) (hv' : PySem.W.handedIn v = true) (h : Q v { s with toks := s.toks + 1 }) :
    wpAny (model prog w) A (getAttr (.ref x) name expr) Q E s := by
  obtain ⟨od, J, hl⟩ := I.look
  exact PySem.W.get_value X J (PySem.W.plainGet_of hg).1 (PySem.W.findObj_own hh ha rfl (by rw [hl, hv])) hv' h
theorem get_meth {pl : Sem Bool} {Q : Value × List Value → Shared → Prop} (X : K.In s.heap) (I : ObjM s.heap x dx C mA) (hg : PySem.W.plainGet K C name = true)
    (hf : PySem.W.findIn K (.ref C) name = some (some (.ref f))) (ht : PySem.W.isFn K (.ref f) = true) (hv : mA name = none) (h : Q (.ref f, [.ref x]) s) :
    wpAny (model prog w) A (getMethod (.ref x) name pl) Q E s := by
  obtain ⟨od, J, hl⟩ := I.look
  exact PySem.W.method_fn X J (PySem.W.plainGet_of hg).1 (PySem.W.plainGet_of hg).2 hf (beq_iff_eq.mp ht) (by show (PySem.W.lookIn name od).map (·.isSome) = some false; rw [hl, hv]; rfl) h
theorem set_map {ns : List Str} {Q : Unit → Shared → Prop} (X : K.In s.heap) (I : ObjM s.heap x dx C mA)
    (hs : PySem.W.findIn K (.ref C) "__setattr__" = some (some (.builtin "object.__setattr__"))) (hp : PySem.W.plainOver K C = true) (ht : PySem.W.takerIn K C name = some none) (hh : PySem.W.hasDictIn K C = true)
    (hw : PySem.Within mA ns) (hsz : ns.length ≤ sizeLine)
    (h : ∀ h', ObjM h' x dx C (fun y => if y = name then some v else mA y) → Heap.SameBut dx s.heap h' → Q () { s with heap := h', toks := s.toks + 2 }) :
    wpAny (model prog w) A (setAttr (.ref x) name v) Q E s := by
  obtain ⟨od, J, hl⟩ := I.look
  refine PySem.W.set_plain X J hs (PySem.W.osa_open (s := { s with toks := s.toks + 1 }) (r := none) X J hp ht fun b => ?_)
  obtain ⟨cd, hc, hd'⟩ := PySem.W.any_some hh
  have hx : s.heap.get? x = some ⟨.ref C, some dx, .plain, #[]⟩ := I.obj
  refine wpAny_bind (wpAny_pure (wpAny_bind (wpAny_bind (wpAny_loadPart hx (wpAny_bind (PySem.W.Looks.here (s := { s with toks := s.toks + 1 }) (PySem.W.looks_clsIn X hc) ?_))))))
  rw [hd']
  refine wpAny_pure (a := some dx) (wpAny_bind (wpAny_pure (wpAny_bind ?_)))
  refine wpAny_nsSet1 (s := { s with toks := s.toks + 1 }) I.ns fun h' hn2 hs2 => ?_
  obtain ⟨oD, esD, epD, hoD, hdD, hcD⟩ := hn2.count (PySem.Within.cons name v hw)
  refine wpAny_bind (wpAny_lookBehind hoD (by rw [hdD]; exact pastItsLine_dict (Nat.le_trans hcD (by rw [List.length_cons]; omega))) ?_)
  exact wpAny_pure (h _ ⟨(hs2.2 _ (Ne.symm I.ne)).trans I.obj, hn2, I.ne⟩ hs2)
theorem make_map {R : Result → Shared → Prop} {vs : List Value} {kw : List (Str × Value)} (X : K.In s.heap) (hm : PySem.W.makesIn K C = true)
    (hi : PySem.W.findIn K (.ref C) "__init__" = some (some (.ref f))) (hf : PySem.W.typeIn K (.ref f) = some (.type "function"))
    (h : codeAny (model prog w) (A.under (.builtin "type.__call__" ⟨.ref C :: vs, kw⟩)) (.call (.ref f) ⟨.ref (s.heap.objs.size + 1) :: vs, kw⟩) (PySem.W.InitBack (s.heap.objs.size + 1) R)
      { s with heap := (s.heap.push PySem.W.emptyDict).push (PySem.W.instObj C s.heap.objs.size) }) :
    codeAny (model prog w) A (.call (.ref C) ⟨vs, kw⟩) R s := by
  obtain ⟨hh, g, d, t, os⟩ := s
  exact PySem.W.make_core (PySem.W.makes_of X hm) (PySem.W.looks_findIn X hi) (fun self => PySem.W.bind_fn X self hf) (.inl rfl) h
theorem make_map0 {R : Result → Shared → Prop} (X : K.In s.heap) (hm : PySem.W.makesIn K C = true)
    (hi : PySem.W.findIn K (.ref C) "__init__" = some (some (.builtin "object.__init__")))
    (hb : ∀ self, PySem.W.Looks (model prog w) s.heap (bindSpecial (.builtin "object.__init__") self) (.builtin "object.__init__", [self]))
    (h : codeAny (model prog w) (A.under (.builtin "type.__call__" ⟨[.ref C], []⟩)) (.call (.builtin "object.__init__") ⟨[.ref (s.heap.objs.size + 1)], []⟩) (PySem.W.InitBack (s.heap.objs.size + 1) R)
      { s with heap := (s.heap.push PySem.W.emptyDict).push (PySem.W.instObj C s.heap.objs.size) }) :
    codeAny (model prog w) A (.call (.ref C) ⟨[], []⟩) R s := by
  obtain ⟨hh, g, d, t, os⟩ := s
  exact PySem.W.make_core (PySem.W.makes_of X hm) (PySem.W.looks_findIn X hi) hb (.inr ⟨rfl, rfl⟩) h
end
def putF (f : Str) (v : V) : List (Str × V) → List (Str × V)
  | [] => [(f, v)]
  | (g, x) :: r => if g = f then (g, v) :: r else (g, x) :: putF f v r
theorem lookup_putF (f g : Str) (v : V) : ∀ fs : List (Str × V), (putF f v fs).lookup g = if g = f then some v else fs.lookup g
  | [] => by
    show List.lookup g [(f, v)] = _
    by_cases h : g = f
    · have hb : (g == f) = true := beq_iff_eq.mpr h
      simp only [List.lookup, hb, if_pos h]
    · have hb : (g == f) = false := beq_eq_false_iff_ne.mpr h
      simp only [List.lookup, hb, if_neg h]
  | (k, x) :: r => by
    have ih := lookup_putF f g v r
    rw [show putF f v ((k, x) :: r) = (if k = f then (k, v) :: r else (k, x) :: putF f v r) from rfl]
    by_cases hk : k = f
    · rw [if_pos hk]
      by_cases h : g = k
      · have hb : (g == k) = true := beq_iff_eq.mpr h
        simp only [List.lookup, hb, if_pos (h.trans hk)]
      · have hb : (g == k) = false := beq_eq_false_iff_ne.mpr h
        simp only [List.lookup, hb, if_neg (fun e : g = f => h (e.trans hk.symm))]
    · rw [if_neg hk]
      by_cases h : g = k
      · have hb : (g == k) = true := beq_iff_eq.mpr h
        simp only [List.lookup, hb, if_neg (fun e : g = f => hk (h.symm.trans e))]
      · have hb : (g == k) = false := beq_eq_false_iff_ne.mpr h
        simp only [List.lookup, hb]
        exact ih
theorem keys_putF (f : Str) (v : V) : ∀ fs : List (Str × V), f ∈ (putF f v fs).map (·.1) ∧ ∀ g, g ∈ fs.map (·.1) → g ∈ (putF f v fs).map (·.1)
  | [] => ⟨by simp [putF], fun g h => by simp at h⟩
  | (k, x) :: r => by
    obtain ⟨i1, i2⟩ := keys_putF f v r
    rw [show putF f v ((k, x) :: r) = (if k = f then (k, v) :: r else (k, x) :: putF f v r) from rfl]
    by_cases hk : k = f
    · rw [if_pos hk]
      subst hk
      exact ⟨by simp, fun g h => by simpa using h⟩
    · rw [if_neg hk]
      refine ⟨?_, fun g h => ?_⟩
      · rw [List.map_cons]
        exact List.mem_cons_of_mem _ i1
      · rw [List.map_cons] at h ⊢
        rcases List.mem_cons.mp h with e | e
        · exact List.mem_cons.mpr (.inl e)
        · exact List.mem_cons_of_mem _ (i2 g e)
theorem length_putF (f : Str) (v : V) : ∀ fs : List (Str × V), (putF f v fs).length ≤ fs.length + 1
  | [] => by simp [putF]
  | (k, x) :: r => by
    have ih := length_putF f v r
    rw [show putF f v ((k, x) :: r) = (if k = f then (k, v) :: r else (k, x) :: putF f v r) from rfl]
    by_cases hk : k = f
    · rw [if_pos hk, List.length_cons, List.length_cons]; omega
    · rw [if_neg hk, List.length_cons, List.length_cons]; omega
theorem RelO.some_of {v : V} {o : Option Value} (r : RelO (some v) o) : ∃ u, o = some u ∧ RelV v u := by
  cases o with
  | none => exact (show False from r).elim
  | some u => exact ⟨u, rfl, r⟩
theorem RelO.none_of {o : Option Value} (r : RelO none o) : o = none := by
  cases o with
  | none => rfl
  | some u => exact (show False from r).elim
theorem handed_of {v : V} {u : Value} (r : RelV v u) : PySem.W.handedIn u = true := by
  cases v with
  | non => cases (show u = Value.none from r); rfl
  | bl b => cases (show u = Value.bool b from r); rfl
  | int i => obtain ⟨t, e⟩ := (show ∃ t, u = Value.int i t from r); cases e; rfl
  | str x => obtain ⟨t, e⟩ := (show ∃ t, u = Value.str x t from r); cases e; rfl
  | byt b => obtain ⟨t, e⟩ := (show ∃ t, u = Value.bytes b t from r); cases e; rfl
  | flt b => obtain ⟨t, e⟩ := (show ∃ t, u = Value.float b t from r); cases e; rfl
  | ref a => cases (show u = Value.ref a from r); rfl
  | ty n => cases (show u = Value.type n from r); rfl
section
variable {P : Program} {w : World} {H H' : Hp} {h h' : Heap} {a C dx : Addr} {fs fs' : List (Str × V)}
theorem ins_get (hok : HOk P w H h) (e : H a = some (.ins C dx fs)) : ∃ mA, ObjM h a dx C mA ∧ (∀ f, RelO (fs.lookup f) (mA f)) ∧ PySem.Within mA (fs.map (·.1)) ∧ fs.length ≤ 1000 ∧ H dx = some (.own a) := by
  obtain ⟨d, z, ne, ob, mA, n, r, q⟩ := (show ObjOk P w H h a (.ins C dx fs) from hok a _ e)
  exact ⟨mA, ⟨ob, n, ne⟩, r, q, z, d⟩
end
structure Cls (K : PySem.W.Frag) (C : Addr) : Prop where
  pg : PySem.W.plainGet K C Str.empty = true
  hd : PySem.W.hasDictIn K C = true
  po : PySem.W.plainOver K C = true
  sa : PySem.W.findIn K (.ref C) "__setattr__" = some (some (.builtin "object.__setattr__"))
theorem Cls.get {K : PySem.W.Frag} {C : Addr} (c : Cls K C) (f : Str) : PySem.W.plainGet K C f = true := c.pg
def NoAttr (K : PySem.W.Frag) (C : Addr) (f : Str) : Prop := PySem.W.findIn K (.ref C) f = some none
theorem NoAttr.taker {K : PySem.W.Frag} {C : Addr} {f : Str} (n : NoAttr K C f) : PySem.W.takerIn K C f = some none := by
  unfold PySem.W.takerIn
  rw [show PySem.W.findIn K (.ref C) f = some none from n]
  rfl
structure Con (K : PySem.W.Frag) (C : Addr) (f : Str) (v : V) (u : Value) : Prop where
  at_ : PySem.W.findIn K (.ref C) f = some (some u)
  rel : RelV v u
  get : PySem.W.specialIn K u "__get__" = some none
  cp : PySem.W.copiedNames.contains f = false
structure Meth (K : PySem.W.Frag) (C : Addr) (m : Str) (f : Addr) : Prop where
  at_ : PySem.W.findIn K (.ref C) m = some (some (.ref f))
  fn : PySem.W.isFn K (.ref f) = true
  kp : PySem.W.keepIn K (.ref f) = true
section
variable {X : Cx} {pins : List (Addr × Obj)} {σ : St} {H : Hp} {s : Shared} {a C dx : Addr} {fs : List (Str × V)} {f : Str} {v : V} {A : Around} {E : Value → Shared → Prop}
theorem getattr_ok {b : Bool} {Q : Value → Shared → Prop} (I : Inv X pins σ H s) (e : H a = some (.ins C dx fs)) (c : Cls X.K C) (n : NoAttr X.K C f) (l : fs.lookup f = some v)
    (h : ∀ u s', Inv X pins σ H s' → RelV v u → Q u s') : wpAny (model X.prog X.w) A (getAttr (.ref a) f b) Q E s := by
  obtain ⟨mA, O, r, _, _, _⟩ := ins_get I.hok e
  obtain ⟨u, hu, ru⟩ := RelO.some_of (v := v) (o := mA f) (by rw [← l]; exact r f)
  exact get_map I.kIn O (c.get f) c.hd n hu (handed_of ru) (h u _ (I.tok _) ru)
theorem getmeth_ok {m : Str} {g : Addr} {pl : Sem Bool} {Q : Value × List Value → Shared → Prop} (I : Inv X pins σ H s) (e : H a = some (.ins C dx fs)) (c : Cls X.K C) (k : Meth X.K C m g) (l : fs.lookup m = none)
    (h : Q (.ref g, [.ref a]) s) : wpAny (model X.prog X.w) A (getMethod (.ref a) m pl) Q E s := by
  obtain ⟨mA, O, r, _, _, _⟩ := ins_get I.hok e
  have hn : mA m = none := RelO.none_of (by rw [← l]; exact r m)
  exact get_meth I.kIn O (c.get m) k.at_ k.fn hn h
theorem setattr_ok {y : V} {u : Value} {Q : Unit → Shared → Prop} (I : Inv X pins σ H s) (e : H a = some (.ins C dx fs)) (c : Cls X.K C) (n : NoAttr X.K C f) (hl : fs.length < 1000) (ry : RelV y u)
    (h : ∀ s', Inv X pins σ (upd H a (.ins C dx (putF f y fs))) s' → Q () s') : wpAny (model X.prog X.w) A (setAttr (.ref a) f u) Q E s := by
  obtain ⟨mA, O, r, wi, _, ho⟩ := ins_get I.hok e
  have hz : (fs.map (·.1)).length ≤ sizeLine := by rw [List.length_map, sizeLine_eq]; omega
  refine set_map I.kIn O c.sa c.po n.taker c.hd wi hz fun h' O' sb => h _ ?_
  have hd : ∃ o, h'.get? dx = some o := let ⟨o, _, _, e', _⟩ := O'.ns; ⟨o, e'⟩
  refine I.write (x := a) (e := dx) (by rw [e]; exact True.intro) (.inr ho) (fun b q hb z => (sb.2 b hb).trans z) hd ?_
  refine ⟨by rw [upd_ne O.ne]; exact ho, ?_, O.ne, O'.obj, _, O'.ns, fun g => ?_, fun g hg => ?_⟩
  · have := length_putF f y fs; omega
  · show RelO ((putF f y fs).lookup g) (if g = f then some u else mA g)
    rw [lookup_putF]
    by_cases q : g = f
    · rw [if_pos q, if_pos q]; exact ry
    · rw [if_neg q, if_neg q]; exact r g
  · by_cases q : g = f
    · rw [q]; exact (keys_putF f y fs).1
    · refine (keys_putF f y fs).2 g (wi g fun z => hg ?_)
      show (if g = f then some u else mA g) = none
      rw [if_neg q]; exact z
theorem Inv.made (I : Inv X pins σ H s) : Inv X pins σ (upd (upd H s.heap.objs.size (.own (s.heap.objs.size + 1))) (s.heap.objs.size + 1) (.ins C s.heap.objs.size []))
    { s with heap := (s.heap.push PySem.W.emptyDict).push (PySem.W.instObj C s.heap.objs.size) } := by
  have e1 : (s.heap.push PySem.W.emptyDict).get? s.heap.objs.size = some PySem.W.emptyDict := Heap.get?_push_size s.heap rfl
  have e2 : ((s.heap.push PySem.W.emptyDict).push (PySem.W.instObj C s.heap.objs.size)).get? (s.heap.objs.size + 1) = some (PySem.W.instObj C s.heap.objs.size) := by
    have := Heap.get?_push_size (s.heap.push PySem.W.emptyDict) (o := PySem.W.instObj C s.heap.objs.size) rfl
    rwa [Heap.size_push] at this
  have e3 : (s.heap.push PySem.W.emptyDict).Ns s.heap.objs.size (fun _ => none) := ⟨PySem.W.emptyDict, #[], _, e1, rfl, (fun e he => absurd he (by simp)), fun _ => rfl⟩
  have I1 := I.laid (a := s.heap.objs.size) (o := .own (s.heap.objs.size + 1)) (h' := s.heap.push PySem.W.emptyDict) (t' := s.toks) (fun b u q => Heap.get?_push_of_some _ q) (Nat.le_refl _) ⟨_, e1⟩
  refine I1.laid (a := s.heap.objs.size + 1) (o := .ins C s.heap.objs.size []) (t' := s.toks) (fun b u q => Heap.get?_push_of_some _ q) (Nat.le_of_eq (Heap.size_push _ _)) ?_
  have ne : s.heap.objs.size ≠ s.heap.objs.size + 1 := Nat.ne_of_lt (Nat.lt_succ_self _)
  refine ⟨by rw [upd_ne ne, upd_same], Nat.zero_le _, ne, e2, fun _ => none, (Heap.Ns1.of_empty e3).at fun o q => Heap.get?_push_of_some _ q, fun _ => True.intro, fun y hy => absurd rfl hy⟩
theorem attr_of {prog : Program} {w : World} {env : Env} {e : Expr} {f : Str} {pos : Pos} {s : Shared} {Q : Value → Shared → Prop} (hb : attributeBase e f env (eval e env) = eval e env)
    (h : wpAny (model prog w) A (eval e env) (fun o s₁ => wpAny (model prog w) A (getAttr o f true) Q E s₁) E s) : wpAny (model prog w) A (eval (.Attribute e f pos) env) Q E s :=
  Attribute_any_ h (by rw [arm_eval_Attribute, hb])
end
def tFld (K : PySem.W.Frag) (ta : TE) (f : Str) : TE := fun σ H Q => ta σ H fun x H1 => ∃ a C dx fs v, x = .ref a ∧ H1 a = some (.ins C dx fs) ∧ Cls K C ∧ NoAttr K C f ∧ fs.lookup f = some v ∧ Q v H1
def sFld (K : PySem.W.Frag) (ta tv : TE) (f : Str) : TS := fun D σ H => tv σ H fun y H1 => ta σ H1 fun x H2 => ∃ a C dx fs, x = .ref a ∧ H2 a = some (.ins C dx fs) ∧ Cls K C ∧ NoAttr K C f ∧ fs.length < 1000 ∧
  D.nx σ (upd H2 a (.ins C dx (putF f y fs)))
section
variable {X : Cx} {o e value : Expr} {f : Str} {pos pos' tpos : Pos} {ta tv : TE}
theorem pe_fld (he : PE X e ta) (hb : attributeBase e f X.env (eval e X.env) = eval e X.env) : PE X (.Attribute e f pos) (tFld X.K ta f) := by
  intro pins s σ H Q I h
  refine attr_of hb (thn (he pins s σ H _ I h) fun u s1 ⟨x, H1, I1, rx, a, C, dx, fs, v, ex, ea, c, n, l, q⟩ => ?_)
  subst ex
  obtain rfl : u = Value.ref a := rx
  exact getattr_ok I1 ea c n l fun u' s2 I2 ru => ⟨v, H1, I2, ru, q⟩
theorem ps_fld (ha : PE X o ta) (hv : PE X value tv) (hs : swapsWith value (some (.Attribute o f pos')) pos.line X.env = pure false) : PS X (.Assign [.Attribute o f pos'] value pos) (sFld X.K ta tv f) := by
  intro pins s σ H D I h
  refine plainObj_wpAny_Assign_Attribute (thn (hv pins s σ H _ I h) fun u s1 ⟨y, H1, I1, ry, q⟩ => thn (ha pins s1 σ H1 _ I1 q) fun ov s2 ⟨x, H2, I2, rx, a, C, dx, fs, ex, ea, c, n, l, q2⟩ => ?_) hs
  subst ex
  obtain rfl : ov = Value.ref a := rx
  exact setattr_ok I2 ea c n l ry fun s3 I3 => ⟨σ, _, I3, q2⟩
end
section
variable {X : Cx} {pins : List (Addr × Obj)} {σ : St} {H : Hp} {s : Shared} {A : Around} {E : Value → Shared → Prop} {Q : Value → Shared → Prop} {c : Value} {b : Bool}
inductive TyOf (K : PySem.W.Frag) (H : Hp) : V → Value → Prop where
  | non : TyOf K H .non (.type "NoneType")
  | bl (x : Bool) : TyOf K H (.bl x) (.type "bool")
  | int (i : Int) : TyOf K H (.int i) (.type "int")
  | str (x : Str) : TyOf K H (.str x) (.type "str")
  | flt (x : UInt64) : TyOf K H (.flt x) (.type "float")
  | lst {a : Addr} {xs : List V} (e : H a = some (.lst xs)) : TyOf K H (.ref a) (.type "list")
  | frz {a : Addr} {o : Obj} {xs : List V} (e : H a = some (.frz o (.lst xs))) : TyOf K H (.ref a) (.type "list")
  | tup {a : Addr} {xs : List V} (e : H a = some (.tup xs)) : TyOf K H (.ref a) (.type "tuple")
  | dK {a : Addr} {kvs : List (Key × V)} (e : H a = some (.dK kvs)) : TyOf K H (.ref a) (.type "dict")
  | dT {a : Addr} {kvs : List (List Key × V)} (e : H a = some (.dT kvs)) : TyOf K H (.ref a) (.type "dict")
  | ins {a C dx : Addr} {fs : List (Str × V)} (e : H a = some (.ins C dx fs)) (cl : Cls K C) (ha : PySem.W.findIn K (.ref C) "__class__" = some (some (.builtin "object.__class__")))
      (hn : PySem.W.specialIn K (.builtin "object.__class__") "__get__" = some (some (.builtin "getset_descriptor.__get__"))) (htk : PySem.W.takesIn K (.builtin "object.__class__") = some true)
      (hm : PySem.W.mroIn K C (.type "object") = some true) : TyOf K H (.ref a) (.ref C)
theorem isinst_ok {x : V} {u t : Value} (I : Inv X pins σ H s) (rx : RelV x u) (ty : TyOf X.K H x t) (e : PySem.W.kitOne X.K t c = some b) (h : ∀ tk, Q (.bool b) { s with toks := tk }) :
    wpAny (model X.prog X.w) A (call (.builtin "isinstance") [u, c]) Q E s := by
  cases ty with
  | non => cases (show u = Value.none from rx); exact PySem.W.kia_one PySem.W.kitx_none I.kIn True.intro e (fun z => nomatch z) h
  | bl y => cases (show u = Value.bool y from rx); exact PySem.W.kia_one PySem.W.kitx_bool I.kIn True.intro e (fun z => nomatch z) h
  | int i => obtain ⟨t, q⟩ := (show ∃ t, u = Value.int i t from rx); cases q; exact PySem.W.kia_one PySem.W.kitx_int I.kIn True.intro e (fun z => nomatch z) h
  | str y => obtain ⟨t, q⟩ := (show ∃ t, u = Value.str y t from rx); cases q; exact PySem.W.kia_one PySem.W.kitx_str I.kIn True.intro e (fun z => nomatch z) h
  | flt y => obtain ⟨t, q⟩ := (show ∃ t, u = Value.float y t from rx); cases q; exact PySem.W.kia_one PySem.W.kitx_float I.kIn True.intro e (fun z => nomatch z) h
  | @lst a xs ea =>
    cases (show u = Value.ref a from rx)
    obtain ⟨_, _, n, _, h1⟩ := (show ObjOk X.prog X.w H s.heap a (.lst xs) from I.hok a _ ea)
    exact PySem.W.kia_one PySem.W.kitx_list I.kIn ⟨_, h1, rfl⟩ e (fun z => nomatch z) h
  | @frz a ob xs ea =>
    cases (show u = Value.ref a from rx)
    obtain ⟨_, _, _, n, _, h1⟩ := (show ObjOk X.prog X.w H s.heap a (.frz ob (.lst xs)) from I.hok a _ ea)
    exact PySem.W.kia_one PySem.W.kitx_list I.kIn ⟨_, h1, rfl⟩ e (fun z => nomatch z) h
  | @tup a xs ea =>
    cases (show u = Value.ref a from rx)
    obtain ⟨_, _, _, p⟩ := (show ObjOk X.prog X.w H s.heap a (.tup xs) from I.hok a _ ea)
    obtain ⟨o, h1, h2, _⟩ := p
    exact PySem.W.kia_one PySem.W.kitx_tuple I.kIn ⟨o, h1, h2⟩ e (fun z => nomatch z) h
  | @dK a kvs ea =>
    cases (show u = Value.ref a from rx)
    obtain ⟨_, _, vs, _, p⟩ := (show ObjOk X.prog X.w H s.heap a (.dK kvs) from I.hok a _ ea)
    obtain ⟨o, es, ep, h1, h2, _⟩ := p
    exact PySem.W.kia_one PySem.W.kitx_dict I.kIn ⟨o, h1, h2.1⟩ e (fun z => nomatch z) h
  | @dT a kvs ea =>
    cases (show u = Value.ref a from rx)
    obtain ⟨_, _, xs, _, o, es, ep, h1, h2, _⟩ := (show ObjOk X.prog X.w H s.heap a (.dT kvs) from I.hok a _ ea)
    exact PySem.W.kia_one PySem.W.kitx_dict I.kIn ⟨o, h1, h2.1⟩ e (fun z => nomatch z) h
  | @ins a C dx fs ea cl ha hn htk hm =>
    cases (show u = Value.ref a from rx)
    obtain ⟨mA, O, _⟩ := ins_get I.hok ea
    obtain ⟨od, J, _⟩ := O.look
    exact PySem.W.kia_one (PySem.W.kitx_own (cl.get _) cl.hd ha hn htk hm) I.kIn J e (fun z => nomatch z) h
end
end L2
namespace L2
open PySem PySem.Spec PyProof.Rows
structure Room (k : Nat) (A : Around) : Prop where
  hd : A.handled = none
  dp : A.depth + 3 * k + 5 < recursionLimit
  un : A.units + 16 * k + 200 < cLine
theorem Room.mono {j k : Nat} {A : Around} (r : Room k A) (h : j ≤ k) : Room j A := ⟨r.hd, by have := r.dp; omega, by have := r.un; omega⟩
theorem Room.deeper {k : Nat} {A : Around} (r : Room (k + 1) A) (env : Env) : Room k (A.deeper env) :=
  ⟨r.hd, by have := r.dp; show A.depth + 1 + 3 * k + 5 < _; omega, by have := r.un; show A.units + 3 + 16 * k + 200 < _; omega⟩
theorem Room.in1 {k : Nat} {A : Around} (r : Room (k + 1) A) : Room k A.in1 :=
  ⟨r.hd, by have := r.dp; show A.depth + 3 * k + 5 < _; omega, by have := r.un; show A.units + 1 + 16 * k + 200 < _; omega⟩
theorem make_depth {A : Around} {C : Addr} {us : List Value} {kw : List (Str × Value)} : (A.under (.builtin "type.__call__" ⟨.ref C :: us, kw⟩)).depth = A.depth + 1 := by
  first | rfl | simp [Around.under, Code.weight, Code.isCreation, Code.isGuard, Code.isCaller, Code.frames, Code.isFrame, guardIds]
theorem make_units {A : Around} {C : Addr} {us : List Value} {kw : List (Str × Value)} : (A.under (.builtin "type.__call__" ⟨.ref C :: us, kw⟩)).units = A.units + 1 := by
  first | rfl | simp [Around.under, Code.cUnits, Code.frames, Code.isFrame]
theorem Room.make {k : Nat} {A : Around} (r : Room (k + 1) A) (C : Addr) (us : List Value) (kw : List (Str × Value)) : Room k (A.under (.builtin "type.__call__" ⟨.ref C :: us, kw⟩)) :=
  ⟨r.hd, by have := r.dp; rw [make_depth]; omega, by have := r.un; rw [make_units]; omega⟩
theorem Room.depth {k : Nat} {A : Around} (r : Room k A) : A.depth < recursionLimit := by have := r.dp; omega
theorem Room.units {k : Nat} {A : Around} (r : Room k A) : A.units + 64 < cLine := by have := r.un; omega
def tNil : TA := fun _ H Q => Q [] H
def tCons (ta : TE) (tr : TA) : TA := fun σ H Q => ta σ H fun x H1 => tr σ H1 fun xs H2 => Q (x :: xs) H2
section
variable {X : Cx} {e : Expr} {es : List Expr} {te : TE} {t : TA} {pos : Pos}
theorem pa_nil : PA X [] tNil := fun _ _ _ _ H Q I h => Calls.spliced_nil ⟨[], H, I, .nil, h⟩
theorem pa_cons (ha : PE X e te) (hr : PA X es t) (hs : starEach (e :: es) X.env = (false, eval e X.env) :: starEach es X.env := by rfl) : PA X (e :: es) (tCons te t) := by
  intro pos pins s σ H Q I h
  rw [hs]
  show wpAny _ _ (spliced ((false, eval e X.env) :: backTo pos (starEach es X.env))) _ _ s
  refine Calls.spliced_cons (thn (ha pins s σ H _ I h) fun u s1 ⟨x, H1, I1, r1, q1⟩ => ?_)
  exact thn (hr pos pins s1 σ H1 _ I1 q1) fun us s2 ⟨xs, H2, I2, r2, q2⟩ => ⟨x :: xs, H2, I2, .cons r1 r2, q2⟩
def tTup (t : TA) : TE := fun σ H Q => t σ H fun xs H1 => xs.length ≤ sizeLine ∧ ∀ p, H1 p = none → Q (.ref p) (upd H1 p (.tup xs))
def tLst (t : TA) : TE := fun σ H Q => t σ H fun xs H1 => xs.length ≤ sizeLine ∧ ∀ p, H1 p = none → Q (.ref p) (upd H1 p (.lst xs))
theorem pe_tup {x1} (h : PA X es t) : PE X (.Tuple es x1 pos) (tTup t) := by
  intro pins s σ H Q I hq
  refine wpAny_Tuple_spliced (thn (h pos pins s σ H _ I hq) fun us s1 ⟨xs, H1, I1, r, z, q⟩ => ⟨by rw [← r.length]; exact z, ?_⟩)
  have hf : H1 s1.heap.objs.size = none := I1.hok.fresh (Nat.le_refl _)
  refine ⟨.ref s1.heap.objs.size, upd H1 s1.heap.objs.size (.tup xs), I1.laid (t' := s1.toks) (fun b u e => Heap.get?_push_of_some _ e) (Nat.le_refl _) ?_, rfl, q _ hf⟩
  exact ⟨z, us, r, ⟨_, Heap.get?_push_size _ rfl, rfl, _, rfl, rfl⟩⟩
theorem pe_lst (h : PA X es t) : PE X (.List es pos) (tLst t) := by
  intro pins s σ H Q I hq
  refine wpAny_List_spliced (thn (h pos pins s σ H _ I hq) fun us s1 ⟨xs, H1, I1, r, z, q⟩ => ⟨by rw [← r.length]; exact z, ?_⟩)
  have hf : H1 s1.heap.objs.size = none := I1.hok.fresh (Nat.le_refl _)
  refine ⟨.ref s1.heap.objs.size, upd H1 s1.heap.objs.size (.lst xs), I1.laid (t' := s1.toks) (fun b u e => Heap.get?_push_of_some _ e) (Nat.le_refl _) ?_, rfl, q _ hf⟩
  exact ⟨z, us, 0, r, Heap.get?_push_size _ rfl⟩
end
abbrev Sp := List V → Hp → VK → XK → Prop
abbrev CXT := List Env → Hp → Shared → XK → Value → Shared → Prop
structure Env0 (P : Program) (w : World) (K : PySem.W.Frag) (mg : Str → Option Value) (base : Heap) (A : Around) (outer : List Env) (s : Shared) (H : Hp) : Prop where
  frames : A.frames = some outer
  mod : Mod K mg base
  bs : ∀ b o, base.get? b = some o → s.heap.get? b = some o ∧ H b = none
  bsz : base.objs.size ≤ s.heap.objs.size
  funs : s.heap.FunFrames base outer
  frf : ∀ b ∈ frs outer, H b = none
  hok : HOk P w H s.heap
  bare : AllBare s.gens
def CE (outer : List Env) (P : Program) (w : World) (H : Hp) (s : Shared) (Q : VK) (u : Value) (s' : Shared) : Prop :=
  ∃ v H', s'.os = s.os ∧ AllBare s'.gens ∧ Un (frs outer) [] H H' s.heap s'.heap ∧ HOk P w H' s'.heap ∧ RelV v u ∧ Q v H'
def CR (CX : CXT) (outer : List Env) (P : Program) (w : World) (H : Hp) (s : Shared) (Q : VK) (E : XK) (r : Result) (s' : Shared) : Prop :=
  match r with
  | .ok (.ret u) => CE outer P w H s Q u s'
  | .ok _ => False
  | .error e => CX outer H s E e s'
structure FnOk (P : Program) (w : World) (K : PySem.W.Frag) (mg : Str → Option Value) (base : Heap) (CX : CXT) (k : Nat) (f : Addr) (fd : FuncData) (ps : List Str) (sp : Sp) : Prop where
  len : ∀ vs H Q E, sp vs H Q E → vs.length = ps.length
  run : ∀ (A : Around) (outer : List Env) (s : Shared) (H : Hp) (args : Args) (us : List Value) (vs : List V) (Q : VK) (E : XK), Room k A → Env0 P w K mg base A outer s H → BindsTo s fd args (ps.zip us) → Vals vs us → sp vs H Q E →
    codeAny (model P w) A (.call (.ref f) args) (CR CX outer P w H s Q E) s
theorem FnOk.mono {P : Program} {w : World} {K : PySem.W.Frag} {mg : Str → Option Value} {base : Heap} {CX : CXT} {j k : Nat} {f : Addr} {fd : FuncData} {ps : List Str} {sp : Sp} (F : FnOk P w K mg base CX j f fd ps sp) (h : j ≤ k) :
    FnOk P w K mg base CX k f fd ps sp := ⟨F.len, fun A outer s H args us vs Q E hr => F.run A outer s H args us vs Q E (hr.mono h)⟩
theorem FnOk.imp {P : Program} {w : World} {K : PySem.W.Frag} {mg : Str → Option Value} {base : Heap} {CX : CXT} {k : Nat} {f : Addr} {fd : FuncData} {ps : List Str} {sp sp' : Sp} (F : FnOk P w K mg base CX k f fd ps sp)
    (h : ∀ vs H Q E, sp' vs H Q E → sp vs H Q E) : FnOk P w K mg base CX k f fd ps sp' :=
  ⟨fun vs H Q E q => F.len vs H Q E (h _ _ _ _ q), fun A outer s H args us vs Q E hr he hb hv hs => F.run A outer s H args us vs Q E hr he hb hv (h _ _ _ _ hs)⟩
theorem Env0.make {P : Program} {w : World} {K : PySem.W.Frag} {mg : Str → Option Value} {base : Heap} {A : Around} {outer : List Env} {s : Shared} {H : Hp} (e : Env0 P w K mg base A outer s H) (C : Addr) (us : List Value) (kw : List (Str × Value)) :
    Env0 P w K mg base (A.under (.builtin "type.__call__" ⟨.ref C :: us, kw⟩)) outer s H := ⟨by first | exact e.frames | (simpa [Around.under, Code.envs, Code.isFrame, pushEnvs] using e.frames), e.mod, e.bs, e.bsz, e.funs, e.frf, e.hok, e.bare⟩
theorem Env0.in1 {P : Program} {w : World} {K : PySem.W.Frag} {mg : Str → Option Value} {base : Heap} {A : Around} {outer : List Env} {s : Shared} {H : Hp} (e : Env0 P w K mg base A outer s H) :
    Env0 P w K mg base A.in1 outer s H := ⟨e.frames, e.mod, e.bs, e.bsz, e.funs, e.frf, e.hok, e.bare⟩
section
variable {X : Cx} {pins : List (Addr × Obj)} {σ : St} {H : Hp} {s s' : Shared}
theorem Inv.env0 (I : Inv X pins σ H s) : Env0 X.prog X.w X.K X.mg X.base X.A X.stack s H :=
  ⟨I.ok.frames, I.ok.mod, I.bs, Nat.le_trans I.ok.bsz I.sz, I.stack, I.stkFree, I.hok, I.bare⟩
theorem Inv.after {Q : VK} {u : Value} (I : Inv X pins σ H s) (h : CE X.stack X.prog X.w H s Q u s') : EP X pins σ Q u s' := by
  obtain ⟨v, H', os, bare, un, hok, r, q⟩ := h
  obtain ⟨hh, g, d, t, os'⟩ := s'
  obtain rfl : os' = s.os := os
  exact ⟨v, H', I.call (h' := hh) (g' := g) (d' := d) (t' := t) (ch := []) un hok bare (fun b z => absurd z (by simp)), r, q⟩
end
def tCall (sp : Sp) (dvs : List V) (E : XK) (t : TA) : TE := fun σ H Q => t σ H fun vs H1 => sp (vs ++ dvs) H1 Q E
def tMake (C : Addr) (sp : Sp) (dvs : List V) (E : XK) (t : TA) : TE := fun σ H Q => t σ H fun vs H1 => ∀ x dx, H1 x = none → H1 dx = none → dx ≠ x →
  sp (.ref x :: (vs ++ dvs)) (upd (upd H1 dx (.own x)) x (.ins C dx [])) (fun v H2 => v = .non ∧ Q (.ref x) H2) E
def Binds (K : PySem.W.Frag) (fd : FuncData) (ps : List Str) (ds : List Value) : Prop :=
  ∀ (s : Shared) (us : List Value), K.In s.heap → (us ++ ds).length = ps.length → BindsTo s fd ⟨us, []⟩ (ps.zip (us ++ ds))
theorem Binds.all {K : PySem.W.Frag} {fd : FuncData} {ps : List Str} (h : ∀ us : List Value, us.length = ps.length → bindArgs fd ⟨us, []⟩ = pure (ps.zip us)) : Binds K fd ps [] := fun s us _ hl => by
  rw [List.append_nil] at hl ⊢
  exact .of_eq (h us hl)
def Passes (CX : CXT) (X : Cx) (E : XK) : Prop := ∀ (pins : List (Addr × Obj)) (σ : St) (H : Hp) (s : Shared) (e : Value) (s' : Shared), Inv X pins σ H s → CX X.stack H s E e s' → X.xe e s'
section
variable {X : Cx} {CX : CXT} {k : Nat} {f C : Addr} {fd : FuncData} {ps : List Str} {sp : Sp} {dvs : List V} {ds : List Value} {E : XK} {x m : Str} {p pos apos : Pos} {e o : Expr} {es : List Expr} {ta : TE} {t : TA}
theorem run_fn {pins : List (Addr × Obj)} {σ : St} {H : Hp} {s : Shared} {Q : VK} {us : List Value} {vs : List V} (F : FnOk X.prog X.w X.K X.mg X.base CX k f fd ps sp) (hr : Room k X.A) (hb : Binds X.K fd ps ds) (hd : Vals dvs ds) (hx : Passes CX X E)
    (I : Inv X pins σ H s) (r : Vals vs us) (h : sp (vs ++ dvs) H Q E) : wpAny (model X.prog X.w) X.A (call (.ref f) us) (EP X pins σ Q) X.xe s := by
  have r2 : Vals (vs ++ dvs) (us ++ ds) := r.append hd
  have hl : (us ++ ds).length = ps.length := by rw [← r2.length]; exact F.len _ _ _ _ h
  refine wpAny_call (codeAny_mono (F.run X.A X.stack s H ⟨us, []⟩ (us ++ ds) (vs ++ dvs) Q E hr I.env0 (hb s us I.kIn hl) r2 h) fun r s' hq => ?_)
  cases r with
  | error e => exact hx pins σ H s e s' I hq
  | ok fl =>
    cases fl with
    | ret u => exact I.after hq
    | next => exact False.elim hq
    | brk => exact False.elim hq
    | cont => exact False.elim hq
theorem pe_call (F : FnOk X.prog X.w X.K X.mg X.base CX k f fd ps sp) (hr : Room k X.A) (hg : Gl X x) (hm : X.mg x = some (.ref f)) (hk : PySem.W.keepIn X.K (.ref f) = true) (hb : Binds X.K fd ps ds) (hd : Vals dvs ds) (hx : Passes CX X E)
    (ha : PA X (e :: es) t) (hdb : (x == ("__debug__" : Str)) = false := by decide) (he : starEach (e :: es) X.env = (false, eval e X.env) :: starEach es X.env := by rfl) (hpl : (backTo pos (starEach es X.env)).any (·.1) = false := by rfl) :
    PE X (.Call (.Name x p) (e :: es) [] pos) (tCall sp dvs E t) := by
  intro pins s σ H Q I h
  refine wpAny_Call_Name_kw (ld_glob I hg hm ?_ hdb)
  refine PySem.W.callWith_K (h₀ := X.base) I.ok.mod.kin hk (thn (ha pos pins s σ H _ I h) fun us s1 ⟨vs, H1, I1, r, q⟩ => ⟨I1.kIn, ?_⟩) he hpl
  exact run_fn F hr hb hd hx I1 r q
structure Mk (K : PySem.W.Frag) (C f : Addr) : Prop where
  makes : PySem.W.makesIn K C = true
  init : PySem.W.findIn K (.ref C) "__init__" = some (some (.ref f))
  fn : PySem.W.isFn K (.ref f) = true
  kp : PySem.W.keepIn K (.ref C) = true
theorem run_make {pins : List (Addr × Obj)} {σ : St} {H : Hp} {s : Shared} {Q : VK} {us : List Value} {vs : List V} (M : Mk X.K C f) (F : FnOk X.prog X.w X.K X.mg X.base CX k f fd ps sp) (hr : Room (k + 1) X.A) (hb : Binds X.K fd ps ds) (hd : Vals dvs ds)
    (hx : Passes CX X E) (I : Inv X pins σ H s) (r : Vals vs us)
    (h : ∀ x dx, H x = none → H dx = none → dx ≠ x → sp (.ref x :: (vs ++ dvs)) (upd (upd H dx (.own x)) x (.ins C dx [])) (fun v H2 => v = .non ∧ Q (.ref x) H2) E) :
    wpAny (model X.prog X.w) X.A (call (.ref C) us) (EP X pins σ Q) X.xe s := by
  have hq := h (s.heap.objs.size + 1) s.heap.objs.size (I.hok.fresh (Nat.le_succ _)) (I.hok.fresh (Nat.le_refl _)) (Nat.ne_of_lt (Nat.lt_succ_self _))
  have I2 := Inv.made (C := C) I
  have r2 : Vals (V.ref (s.heap.objs.size + 1) :: (vs ++ dvs)) (Value.ref (s.heap.objs.size + 1) :: (us ++ ds)) := .cons rfl (r.append hd)
  have hl : (Value.ref (s.heap.objs.size + 1) :: us ++ ds).length = ps.length := by
    have e := r2.length
    rw [F.len _ _ _ _ hq] at e
    exact e.symm
  refine wpAny_call (make_map (f := f) I.kIn M.makes M.init (beq_iff_eq.mp M.fn) (codeAny_mono (F.run _ X.stack _ _ ⟨Value.ref (s.heap.objs.size + 1) :: us, []⟩ (Value.ref (s.heap.objs.size + 1) :: (us ++ ds)) _ _ E (hr.make C us [])
    (I2.env0.make C us []) (hb _ (Value.ref (s.heap.objs.size + 1) :: us) I2.kIn hl) r2 hq) fun r s' hq' => ?_))
  cases r with
  | error e => exact hx pins σ _ _ e s' I2 hq'
  | ok fl =>
    cases fl with
    | ret u =>
      obtain ⟨v, H', I3, rv, ev, q3⟩ := I2.after hq'
      subst ev
      exact ⟨rv, ⟨V.ref (s.heap.objs.size + 1), H', I3, rfl, q3⟩⟩
    | next => exact False.elim hq'
    | brk => exact False.elim hq'
    | cont => exact False.elim hq'
theorem pe_make (M : Mk X.K C f) (F : FnOk X.prog X.w X.K X.mg X.base CX k f fd ps sp) (hr : Room (k + 1) X.A) (hg : Gl X x) (hm : X.mg x = some (.ref C)) (hb : Binds X.K fd ps ds) (hd : Vals dvs ds) (hx : Passes CX X E)
    (ha : PA X (e :: es) t) (hdb : (x == ("__debug__" : Str)) = false := by decide) (he : starEach (e :: es) X.env = (false, eval e X.env) :: starEach es X.env := by rfl) (hpl : (backTo pos (starEach es X.env)).any (·.1) = false := by rfl) :
    PE X (.Call (.Name x p) (e :: es) [] pos) (tMake C sp dvs E t) := by
  intro pins s σ H Q I h
  refine wpAny_Call_Name_kw (ld_glob I hg hm ?_ hdb)
  refine PySem.W.callWith_K (h₀ := X.base) I.ok.mod.kin M.kp (thn (ha pos pins s σ H _ I h) fun us s1 ⟨vs, H1, I1, r, q⟩ => ⟨I1.kIn, ?_⟩) he hpl
  exact run_make M F hr hb hd hx I1 r q
end
section
variable {X : Cx} {CX : CXT} {k : Nat} {f C : Addr} {fd : FuncData} {ps ks : List Str} {sp : Sp} {E : XK} {x m : Str} {p pos apos kpos : Pos} {e o : Expr} {es : List Expr} {kws : List Keyword} {te ta : TE} {t tk : TA} {nm : Option Str}
structure KBinds (K : PySem.W.Frag) (fd : FuncData) (ps ks : List Str) (g : List Value → List Value → List Value) (gV : List V → List V → List V) : Prop where
  to : ∀ (s : Shared) (us ws : List Value), K.In s.heap → (g us ws).length = ps.length → BindsTo s fd ⟨us, ks.zip ws⟩ (ps.zip (g us ws))
  rel : ∀ {vs : List V} {us : List Value} {zs : List V} {ws : List Value}, Vals vs us → Vals zs ws → Vals (gV vs zs) (g us ws)
variable {g : List Value → List Value → List Value} {gV : List V → List V → List V}
end
structure FnScope (N P : List Str) (sc : Scope) : Prop where
  kind : sc.kind = .function
  co : sc.isCoroutine = false
  gen : sc.isGenerator = false
  nd : N.Nodup
  pre : N.take P.length = P
  par : ∀ x ∈ P, sc.names.lookup x = some .local ∨ sc.names.lookup x = some .cell
  nofree : ∀ y ∈ sc.names, y.2 ≠ .free
theorem bindL_out {kindOf : Str → Option NameKind} {x : Str} : ∀ {binds : List (Str × Value)} {m : Str → Option Value}, (∀ v, (x, v) ∉ binds) → bindL kindOf binds m x = m x
  | [], _, _ => rfl
  | (n, v) :: r, m, h => by
    unfold bindL
    rw [bindL_out fun w hw => h w (List.mem_cons_of_mem _ hw)]
    split
    · have : x ≠ n := by rintro rfl; exact h v List.mem_cons_self
      simp [this]
    · rfl
theorem bindC_out {kindOf : Str → Option NameKind} {x : Str} : ∀ {binds : List (Str × Value)} {m : Str → Option Value}, (∀ v, (x, v) ∉ binds) → bindC kindOf binds m x = m x
  | [], _, _ => rfl
  | (n, v) :: r, m, h => by
    unfold bindC
    rw [bindC_out fun w hw => h w (List.mem_cons_of_mem _ hw)]
    split
    · rfl
    · have : x ≠ n := by rintro rfl; exact h v List.mem_cons_self
      simp [this]
theorem bindL_get {kindOf : Str → Option NameKind} {x : Str} {v : Value} : ∀ {P : List Str} {vs : List Value} {i : Nat} {m : Str → Option Value}, P.Nodup → P[i]? = some x → vs[i]? = some v → kindOf x = some .local →
    bindL kindOf (P.zip vs) m x = some v
  | [], _, _, _, _, h, _, _ => by simp at h
  | _ :: _, [], _, _, _, _, h, _ => by simp at h
  | p :: P, w :: vs, 0, m, nd, h1, h2, hk => by
    simp at h1 h2; subst h1; subst h2
    show bindL kindOf ((p, w) :: P.zip vs) m p = _
    unfold bindL
    rw [bindL_out fun v hv => (List.nodup_cons.mp nd).1 (List.of_mem_zip hv).1, if_pos hk]
    simp
  | p :: P, w :: vs, i + 1, m, nd, h1, h2, hk => by
    show bindL kindOf ((p, w) :: P.zip vs) m x = _
    unfold bindL
    exact bindL_get (i := i) (List.nodup_cons.mp nd).2 (by simpa using h1) (by simpa using h2) hk
theorem bindC_get {kindOf : Str → Option NameKind} {x : Str} {v : Value} : ∀ {P : List Str} {vs : List Value} {i : Nat} {m : Str → Option Value}, P.Nodup → P[i]? = some x → vs[i]? = some v → kindOf x ≠ some .local →
    bindC kindOf (P.zip vs) m x = some v
  | [], _, _, _, _, h, _, _ => by simp at h
  | _ :: _, [], _, _, _, _, h, _ => by simp at h
  | p :: P, w :: vs, 0, m, nd, h1, h2, hk => by
    simp at h1 h2; subst h1; subst h2
    show bindC kindOf ((p, w) :: P.zip vs) m p = _
    unfold bindC
    rw [bindC_out fun v hv => (List.nodup_cons.mp nd).1 (List.of_mem_zip hv).1, if_neg hk]
    simp
  | p :: P, w :: vs, i + 1, m, nd, h1, h2, hk => by
    show bindC kindOf ((p, w) :: P.zip vs) m x = _
    unfold bindC
    exact bindC_get (i := i) (List.nodup_cons.mp nd).2 (by simpa using h1) (by simpa using h2) hk
def start (N : List Str) (vs : List V) : St := vs.map some ++ List.replicate (N.length - vs.length) none
def cxOf (CX : CXT) (P : Program) (w : World) (K : PySem.W.Frag) (mg : Str → Option Value) (base : Heap) (N : List Str) (qual : Str) (scope : Scope) (f : Addr) (cd : Value) (A : Around) (outer : List Env) (s : Shared) (H : Hp) (E : XK) : Cx where
  prog := P
  w := w
  K := K
  mg := mg
  base := base
  A := A.deeper (envOfC qual scope s.heap.objs.size f cd)
  N := N
  s_0 := s
  H_0 := H
  env := envOfC qual scope s.heap.objs.size f cd
  outer := outer
  stack := envOfC qual scope s.heap.objs.size f cd :: outer
  ex := []
  calm := true
  fn := fun _ => true
  pn := []
  xe := fun e s' => wpAny (model P w) (A.deeper (envOfC qual scope s.heap.objs.size f cd)) (leaving (envOfC qual scope s.heap.objs.size f cd) e) (fun _ s'' => CX outer H s E e s'') (fun e' s'' => CX outer H s E e' s'') s'
theorem cell_has {sc : Scope} {n : Nat} {x : Str} (h : sc.names.lookup x = some .cell) : ∃ c, (cellsFrom n sc.names []).lookup x = some c := by
  have q := PySem.W.cellsFrom_some sc.names n [] (.inl h)
  exact Option.isSome_iff_exists.mp q
theorem inv_start {CX : CXT} {P : Program} {w : World} {K : PySem.W.Frag} {mg : Str → Option Value} {base : Heap} {N ps : List Str} {qual : Str} {scope : Scope} {f : Addr} {cd : Value} {A : Around} {outer : List Env} {s s1 : Shared} {H : Hp} {E : XK} {us : List Value} {vs : List V}
    (S : FnScope N ps scope) (hd : A.handled = none) (e0 : Env0 P w K mg base A outer s H) (hl : vs.length = ps.length) (r : Vals vs us)
    (x : InCallC s s.heap.objs.size (bindL (envOfC qual scope s.heap.objs.size f cd).kindOf (ps.zip us) fun _ => none) (cellsFrom (s.heap.objs.size + 1) scope.names []) (bindC (envOfC qual scope s.heap.objs.size f cd).kindOf (ps.zip us) fun _ => none) s1) :
    Inv (cxOf CX P w K mg base N qual scope f cd A outer s H E) [] (start N vs) H s1 := by
  have hpl : ps.length ≤ N.length := by have := congrArg List.length S.pre; rw [List.length_take] at this; omega
  obtain ⟨h1, tk, rfl, hk⟩ := x.done
  have noA : ∀ b : Addr, b ∉ (cxOf CX P w K mg base N qual scope f cd A outer s H E).ex := fun b z => absurd (show b ∈ ([] : List Addr) from z) (by simp)
  refine ⟨⟨e0.mod, S.kind, rfl, rfl, Nat.le_refl _, fun y z c h1 h2 => ?_, fun y hy => ?_, fun y c _ h => ?_, fun _ => hd, Around.frames_deeper e0.frames, .inr ⟨rfl, rfl⟩, fun b z => absurd z (noA b), e0.bs, e0.bsz, fun b _ _ => noA b, fun b z => absurd z (noA b), e0.funs, e0.frf⟩,
    rfl, e0.bare, Un.kept hk, ⟨_, x.toInCall.ns, fun i y v h1 h2 h3 => ?_⟩, fun y c h => ⟨_, x.cell y c h⟩, e0.hok.fresh (Nat.le_refl _), fun y c h => ?_, fun p hp => absurd (show p ∈ ([] : List (Addr × Obj)) from hp) (by simp), e0.hok.kept hk, ?_⟩
  · exact name_of_addr x.apart (PySem.mem_of_lookup h1) (PySem.mem_of_lookup h2)
  · have hy : scope.names.lookup y = some .cell ∨ scope.names.lookup y = some .free := hy
    rcases hy with hy | hy
    · exact cell_has hy
    · exact absurd rfl (S.nofree _ (PySem.mem_of_lookup hy))
  · exact Nat.le_of_lt (x.above y c (PySem.mem_of_lookup h))
  · have hi : i < vs.length := by
      unfold start at h2
      by_cases hi : i < vs.length
      · exact hi
      · rw [List.getElem?_append_right (by simpa using hi)] at h2
        rw [List.getElem?_replicate] at h2
        split at h2 <;> cases h2
    have ha : vs[i]? = some v := by
      unfold start at h2
      rw [List.getElem?_append_left (by simpa using hi), List.getElem?_map] at h2
      cases e : vs[i]? with
      | none => rw [e] at h2; cases h2
      | some a => rw [e] at h2; cases h2; rfl
    obtain ⟨u, hu, rv⟩ := r.get ha
    have hp : ps[i]? = some y := by
      rw [← S.pre, List.getElem?_take_of_lt (by omega)]; exact h1
    have ndP : ps.Nodup := by rw [← S.pre]; exact S.nd.sublist (List.take_sublist _ _)
    refine ⟨u, rv, ?_⟩
    rcases S.par y (List.mem_of_getElem? hp) with k | k
    · exact .inl ⟨k, bindL_get ndP hp hu k⟩
    · obtain ⟨c, e⟩ := cell_has (n := s.heap.objs.size + 1) k
      refine .inr ⟨.inl k, c, e, ?_⟩
      have q := x.cell y c e
      rw [bindC_get ndP hp hu (by show scope.names.lookup y ≠ _; rw [k]; decide)] at q
      exact q
  · exact e0.hok.fresh (Nat.le_of_lt (x.above y c (PySem.mem_of_lookup h)))
  · unfold start
    show _ = N.length
    rw [List.length_append, List.length_map, List.length_replicate]
    omega
theorem fn_of {CX : CXT} {P : Program} {w : World} {K : PySem.W.Frag} {mg : Str → Option Value} {base : Heap} {k : Nat} {f : Addr} {name qual : Str} {params : Arguments} {body : List Stmt} {scope : Scope} {dV kV doc pm cdv ct oc : Value} {an od : Option Addr}
    {osl : Array (Option Value)} {N ps : List Str} {sp : Sp} (lk : K.lookup f = some ⟨oc, od, .func (PySem.W.fnOf name qual params body scope dV kV doc pm an cdv ct), osl⟩) (hcd : PySem.W.codeIn K cdv qual = true) (S : FnScope N ps scope)
    (len : ∀ vs H Q E, sp vs H Q E → vs.length = ps.length)
    (hbody : ∀ (A : Around) (outer : List Env) (s : Shared) (H : Hp) (vs : List V) (Q : VK) (E : XK), Room k (A.deeper (envOfC qual scope s.heap.objs.size f cdv)) → sp vs H Q E →
      ∃ t, PSs (cxOf CX P w K mg base N qual scope f cdv A outer s H E) body t ∧ t { nx := fun _ H' => Q .non H', rt := Q } (start N vs) H) :
    FnOk P w K mg base CX (k + 1) f (PySem.W.fnOf name qual params body scope dV kV doc pm an cdv ct) ps sp := by
  refine ⟨len, fun A outer s H args us vs Q E hr e0 hb r hsp => ?_⟩
  have hl := len _ _ _ _ hsp
  have KX : K.In s.heap := e0.mod.kin.keeps fun b o e => (e0.bs b o e).1
  have lim : s.heap.NoLimit := e0.mod.nolimit.keeps fun b o e => (e0.bs b o e).1
  have hkind : ∀ y ∈ ps.zip us, scope.names.lookup y.1 = some .local ∨ (scope.names.lookup y.1 = some .cell ∧ ((cellsFrom (s.heap.objs.size + 1) scope.names []).lookup y.1).isSome = true) := fun ⟨n, v⟩ hy => by
    rcases S.par n (List.of_mem_zip hy).1 with q | q
    · exact .inl q
    · exact .inr ⟨q, PySem.W.cellsFrom_some _ _ _ (.inl q)⟩
  refine codeAny_call_function hr.depth (KX _ _ lk) rfl S.co S.gen rfl (PySem.W.codeRec_of KX hcd) (hb _ _ _ _ ?_)
  refine wpAny_newFunctionEnv_cells S.kind hkind fun env he s1 x => ?_
  subst he
  refine ⟨lim.keeps x.toInCall.keep, codeAny_func ?_⟩
  obtain ⟨t, ht, hq⟩ := hbody A outer s H vs Q E (hr.deeper _) hsp
  have I : Inv (cxOf CX P w K mg base N qual scope f cdv A outer s H E) [] (start N vs) H s1 := inv_start S hr.hd e0 hl r x
  refine wpAny_mono (ht [] s1 (start N vs) H _ I hq) (fun fl s' hs => ?_) fun e s' hs => hs
  have fin : ∀ {σ' : St} {H' : Hp} {v : V} {u : Value}, Inv (cxOf CX P w K mg base N qual scope f cdv A outer s H E) [] σ' H' s' → RelV v u → Q v H' → CE outer P w H s Q u s' :=
    fun {σ' H' v u} J rv q => ⟨v, H', J.os, J.bare, J.base, J.hok, rv, q⟩
  cases fl with
  | ret u =>
    obtain ⟨v, σ', H', J, rv, q⟩ := hs
    exact fin J rv q
  | next =>
    obtain ⟨σ', H', J, q⟩ := hs
    exact fin (v := V.non) (u := Value.none) J rfl q
  | brk =>
    obtain ⟨_, _, _, q⟩ := hs
    exact False.elim q
  | cont =>
    obtain ⟨_, _, _, q⟩ := hs
    exact False.elim q
end L2
namespace L2
open PySem PySem.Spec PyProof.Rows
section
variable {X : Cx} {x : Str} {p pos : Pos} {e : Expr} {es : List Expr} {t : TA} {id T : String} {r : List V → Hp → VK → Prop}
def tCB (r : List V → Hp → VK → Prop) (t : TA) : TE := fun σ H Q => t σ H fun vs H1 => r vs H1 Q
theorem pe_callB (hc : CallR X (.builtin id) r) (hg : Gl X x) (hm : X.mg x = none) (hv : bootBuiltins x = some (.builtin id)) (ha : PA X (e :: es) t) (hn : x ≠ "__name__" := by decide) (hdb : (x == ("__debug__" : Str)) = false := by decide)
    (he : starEach (e :: es) X.env = (false, eval e X.env) :: starEach es X.env := by rfl) (hpl : (backTo pos (starEach es X.env)).any (·.1) = false := by rfl) : PE X (.Call (.Name x p) (e :: es) [] pos) (tCB r t) := by
  intro pins s σ H Q I h
  refine wpAny_Call_Name_kw (ld_blt I hg hm hv ?_ hn hdb)
  exact PyProof.Rows.callWith_builtin1 (thn (ha pos pins s σ H _ I h) fun us s1 ⟨vs, H1, I1, r1, q1⟩ => hc pins s1 σ H1 vs us Q I1 r1 q1) he hpl
end
end L2
namespace HT
open PySem PyProof.Rows
def lexLt : List Int → List Int → Bool
  | [], [] => false
  | [], _ :: _ => true
  | _ :: _, [] => false
  | x :: xs, y :: ys => if x = y then lexLt xs ys else decide (x < y)
theorem lexLt_cons (x y : Int) (xs ys : List Int) : lexLt (x :: xs) (y :: ys) = if x = y then lexLt xs ys else decide (x < y) := rfl
theorem lexLt_nil_nil : lexLt [] [] = false := rfl
theorem lexLt_nil_cons (y : Int) (ys : List Int) : lexLt [] (y :: ys) = true := rfl
theorem lexLt_cons_nil (x : Int) (xs : List Int) : lexLt (x :: xs) [] = false := rfl
theorem eqAt_int (A : Around) (s : Shared) (a : Int) (t : Tok) (c : Int) (u : Tok) : ∃ e, SeqAt.EqAt A s (.int a t) (.int c u) e ∧ (e = true ↔ a = c) :=
  ⟨(a == c), SeqAt.EqAt.int_int a t c u, by simp⟩
theorem rcLt_int (A : Around) (s : Shared) (a : Int) (t : Tok) (c : Int) (u : Tok) (prog : Program) (w : World) (E : Value → Shared → Prop) (Q : Value → Shared → Prop) (h : Q (.bool (decide (a < c))) s) :
    wpAny (model prog w) A (richCompare .Lt (.int a t) (.int c u)) Q E s :=
  (PyProof.Rows.lt_int h : wpAny (model prog w) A (compareOp .Lt (.int a t) (.int c u)) Q E s)
section
open PySem.SeqAt
open PySem.AutoSeq1 (wpAny_loadPart')
open PySem.MeetsSeq PySem.MeetsSeq2 PySem.MeetsSeq3
theorem tuple_lt_ints (l b : Addr) (items items2 : Array Value) (n n2 : Nat) (dd dd2 : Option Addr) (sl sl2 : Array (Option Value)) (ns ms : List Int) (hi : IntsAre items.toList ns) (hj : IntsAre items2.toList ms) :
    Meets (Builtin.«tuple.__lt__» ⟨[.ref l, .ref b], []⟩)
      (fun _ R s => s.heap.get? l = some { cls := .type "tuple", dict := dd, data := .seq items n, slots := sl } ∧ s.heap.get? b = some { cls := .type "tuple", dict := dd2, data := .seq items2 n2, slots := sl2 } ∧
        R (.ok (.ret (.bool (lexLt ns ms)))) s) :=
  .of_wp fun prog w A R s h => by
    obtain ⟨hp, g, d, tk, os⟩ := s; obtain ⟨hl, hb, h⟩ := h
    have f2 := AutoSeq1.sub_tuple_tuple
    have z1 : items.size = ns.length := by rw [← hi.length]; simp
    have z2 : items2.size = ms.length := by rw [← hj.length]; simp
    wp_walk using wpAny_loadPart' hl, wpAny_loadPart' hb, wpAny_forIn_list _ (fun rest b s' => b.1 = none ∧ s' = ⟨hp, g, d, tk, os⟩ ∧ ∃ (vs ws : List Value) (ns' ms' : List Int), rest = vs.zip ws ∧
      IntsAre vs ns' ∧ IntsAre ws ms' ∧ ns'.length + items2.size = ms'.length + items.size ∧ R (.ok (.ret (.bool (lexLt ns' ms')))) ⟨hp, g, d, tk, os⟩) _
    case turn =>
      rintro ⟨y, x⟩ rest b s' ⟨hb', rfl, vs, ws, ns', ms', hz, hvi, hwi, hlen, hR⟩
      cases hvi with
      | nil => rw [List.zip_nil_left] at hz; cases hz
      | cons a t hvi' =>
        cases hwi with
        | nil => rw [List.zip_nil_right] at hz; cases hz
        | cons c u hwi' =>
          rw [List.zip_cons_cons] at hz
          injection hz with hyx hrest
          injection hyx with hy hx
          subst hy hx
          rw [lexLt_cons] at hR
          simp only [List.length_cons] at hlen
          obtain ⟨e, he, hiff⟩ := eqAt_int A.in1 ⟨hp, g, d, tk, os⟩ a t c u
          refine wpAny_bind (he prog w _ _ ?_)
          cases e with
          | true =>
            rw [if_pos (hiff.mp rfl)] at hR
            wp_walk
            exact ⟨rfl, rfl, _, _, _, _, hrest, hvi', hwi', by omega, hR⟩
          | false =>
            rw [if_neg (fun q => absurd (hiff.mpr q) Bool.false_ne_true)] at hR
            have hri := rcLt_int A.in1 ⟨hp, g, d, tk, os⟩ a t c u prog w
            wp_walk using hri
            exact ⟨_, rfl, by simpa using hR⟩
    case fin =>
      rintro ⟨b1, b2⟩ s' ⟨hb', rfl, vs, ws, ns', ms', hz, hvi, hwi, hlen, hR⟩
      simp only at hb'
      subst hb'
      have hv : lexLt ns' ms' = decide (items.size < items2.size) := by
        cases hvi with
        | nil =>
          cases hwi with
          | nil =>
            simp only [List.length_nil] at hlen
            rw [lexLt_nil_nil]
            exact (decide_eq_false (by omega)).symm
          | cons c u hw =>
            simp only [List.length_nil, List.length_cons] at hlen
            rw [lexLt_nil_cons]
            exact (decide_eq_true (by omega)).symm
        | cons a t hv =>
          cases hwi with
          | nil =>
            simp only [List.length_nil, List.length_cons] at hlen
            rw [lexLt_cons_nil]
            exact (decide_eq_false (by omega)).symm
          | cons c u hw =>
            rw [List.zip_cons_cons] at hz
            cases hz
      rw [hv] at hR
      wp_walk
      exact ⟨_, rfl, by simpa [Builtin.Tuple.tupleCompareSizes] using hR⟩
    case h =>
      exact ⟨rfl, rfl, items.toList, items2.toList, ns, ms, rfl, hi, hj, by omega, h⟩
end
section
variable {prog : Program} {w : World} {A : Around} {E : Value → Shared → Prop} {s : Shared}
theorem lt_tupInts {l b : Addr} {items items2 : Array Value} {ns ms : List Int} {Q : Value → Shared → Prop} (hl : IsTup s.heap l items) (hb : IsTup s.heap b items2) (hi : IntsAre items.toList ns) (hj : IntsAre items2.toList ms)
    (hu : A.units < cLine) (h : Q (.bool (lexLt ns ms)) s) : wpAny (model prog w) A (compareOp .Lt (.ref l) (.ref b)) Q E s := by
  obtain ⟨⟨cls, dd, data, sl⟩, ho, hc, n, hd⟩ := id hl
  obtain ⟨⟨cls2, dd2, data2, sl2⟩, ho2, hc2, n2, hd2⟩ := id hb
  simp only at hc hd hc2 hd2
  subst hc hd hc2 hd2
  exact richCompare_meets_room (op := .Lt) ⟨_, ho, rfl⟩ ⟨_, ho2, rfl⟩ PySem.F.slot_tuple_lt PySem.F.entry_tuple_lt (PySem.F.args_tuple_lt_2 _ _) (tuple_lt_ints l b items items2 n n2 dd dd2 sl sl2 ns ms hi hj)
    ⟨ho, ho2, show Value.bool (lexLt ns ms) ≠ Value.notImplemented ∧ Q (.bool (lexLt ns ms)) s from ⟨(fun x => nomatch x), h⟩⟩ hu
def sIx (n d : Nat) : Option Int → Nat
  | none => d
  | some v => if v < 0 then (v + (n : Int)).toNat else min v.toNat n
theorem sIx_nat (n d k : Nat) : sIx n d (some (k : Int)) = min k n := by
  show (if (k : Int) < 0 then ((k : Int) + (n : Int)).toNat else min (k : Int).toNat n) = min k n
  rw [if_neg (by omega), Int.toNat_natCast]
end
end HT
namespace L2
open PySem PySem.Spec PyProof.Rows
abbrev TO := St → Hp → (Option Int → Hp → Prop) → Prop
def PO (X : Cx) (e : Option Expr) (t : TO) : Prop :=
  ∀ (pins : List (Addr × Obj)) (s : Shared) (σ : St) (H : Hp) (Q : Option Int → Hp → Prop), Inv X pins σ H s → t σ H Q →
    wpAny (model X.prog X.w) X.A (evalPart e X.env) (fun u s' => ∃ o H', Inv X pins σ H' s' ∧ IsPart u o ∧ Q o H') X.xe s
def tNoPart : TO := fun _ H Q => Q none H
def tPart (t : TE) : TO := fun σ H Q => t σ H fun x H1 => ∃ i, x = .int i ∧ Q (some i) H1
theorem intsAre_of {ns : List Int} : ∀ {us : List Value}, Vals (ns.map V.int) us → IntsAre us ns := by
  induction ns with
  | nil => intro us r; rw [List.map_nil] at r; cases r; exact .nil
  | cons n ns ih =>
    intro us r
    rw [List.map_cons] at r
    cases r with
    | cons r1 r2 =>
      obtain ⟨t, e⟩ := r1
      subst e
      exact .cons n t (ih r2)
section
variable {X : Cx} {e : Expr} {te : TE} {lo hi : Option Expr} {tl th : TO} {pos p2 : Pos}
theorem po_none : PO X none tNoPart := by
  intro pins s σ H Q I h
  rw [evalPart_none]
  exact wpAny_pure ⟨none, H, I, .none, h⟩
theorem po_some (h : PE X e te) : PO X (some e) (tPart te) := by
  intro pins s σ H Q I hw
  rw [evalPart_some]
  refine thn (h pins s σ H _ I hw) fun u s1 ⟨x, H1, I1, r1, q1⟩ => ?_
  obtain ⟨i, rfl, q⟩ := q1
  obtain ⟨t, rfl⟩ := r1
  exact ⟨some i, H1, I1, .int i t, q⟩
def SlR (X : Cx) (r : V → Option Int → Option Int → Hp → VK → Prop) : Prop :=
  ∀ (pins : List (Addr × Obj)) (s : Shared) (σ : St) (H : Hp) (x : V) (v vl vu : Value) (lo hi : Option Int) (sl : Addr) (Q : VK), Inv X pins σ H s → RelV x v → s.heap.IsSliceOf sl vl vu .none → IsPart vl lo → IsPart vu hi → r x lo hi H Q →
    ∃ T id, typeLookup (.type T) "__getitem__" = pure (some (.builtin id)) ∧ s.TypeIs v T ∧ wpAny (model X.prog X.w) X.A (getItem v (.ref sl)) (EP X pins σ Q) X.xe s
theorem SlR.or {r r' : V → Option Int → Option Int → Hp → VK → Prop} (h : SlR X r) (h' : SlR X r') : SlR X (fun x lo hi H Q => r x lo hi H Q ∨ r' x lo hi H Q) := by
  intro pins s σ H x v vl vu lo hi sl Q I rx hs pl pu q
  rcases q with q | q
  · exact h pins s σ H x v vl vu lo hi sl Q I rx hs pl pu q
  · exact h' pins s σ H x v vl vu lo hi sl Q I rx hs pl pu q
def tSl (r : V → Option Int → Option Int → Hp → VK → Prop) (te : TE) (tl th : TO) : TE := fun σ H Q => te σ H fun x H1 => tl σ H1 fun l H2 => th σ H2 fun u H3 => r x l u H3 Q
theorem pe_slice {r : V → Option Int → Option Int → Hp → VK → Prop} (hr : SlR X r) (he : PE X e te) (hl : PO X lo tl) (hu : PO X hi th) : PE X (.Subscript e (.Slice lo hi none p2) pos) (tSl r te tl th) := by
  intro pins s σ H Q I h
  refine Subscript_ (thn (he pins s σ H _ I h) fun v s1 ⟨x, H1, I1, r1, q1⟩ => ?_)
  refine wpAny_Slice (thn (hl pins s1 σ H1 _ I1 q1) fun vl s2 ⟨l, H2, I2, pl, q2⟩ => thn (hu pins s2 σ H2 _ I2 q2) fun vu s3 ⟨u, H3, I3, pu, q3⟩ => ?_)
  rw [evalPart_none]
  refine wpAny_pure ?_
  have I4 : Inv X pins σ H3 { s3 with heap := s3.heap.push { cls := .type "slice", data := .fields #[vl, vu, .none] } } := I3.kept (t' := s3.toks) fun b ob q => Heap.get?_push_of_some _ q
  obtain ⟨T, id, hT, ht, hg⟩ := hr pins { s3 with heap := s3.heap.push { cls := .type "slice", data := .fields #[vl, vu, .none] } } σ H3 x v vl vu l u s3.heap.objs.size Q I4 r1 (Heap.IsSliceOf.new ..) pl pu q3
  show wpAny (model X.prog X.w) X.A (subscriptTail e (.Slice lo hi none p2) v (.ref s3.heap.objs.size)) (EP X pins σ Q) X.xe { s3 with heap := s3.heap.push { cls := .type "slice", data := .fields #[vl, vu, .none] } }
  exact tail_any (ops := [.ref s3.heap.objs.size, v]) ht hT hg (by with_unfolding_all rfl)
def cutV (xs : List V) (lo hi : Option Int) : List V := (xs.drop (HT.sIx xs.length 0 lo)).take (HT.sIx xs.length xs.length hi - HT.sIx xs.length 0 lo)
theorem cutV_length (xs : List V) (lo hi : Option Int) : (cutV xs lo hi).length ≤ xs.length := by
  unfold cutV
  rw [List.length_take, List.length_drop]
  omega
def rLtT (K : PySem.W.Frag) : R2 := fun x y H Q => ∃ a b ns ms, x = .ref a ∧ y = .ref b ∧ SqT K H a (ns.map V.int) ∧ SqT K H b (ms.map V.int) ∧ Q (.bl (HT.lexLt ns ms)) H
theorem op_ltT (hu : X.A.units < cLine) : OpR X (compareOp .Lt) (rLtT X.K) := by
  intro pins s σ H x y v u Q I rx ry h
  obtain ⟨a, b, ns, ms, rfl, rfl, ha, hb, q⟩ := h
  cases rx
  cases ry
  obtain ⟨its, r1, p1, _⟩ := I.tuple ha
  obtain ⟨its2, r2, p2, _⟩ := I.tuple hb
  have i1 : IntsAre its.toArray.toList ns := intsAre_of r1
  have i2 : IntsAre its2.toArray.toList ms := intsAre_of r2
  exact HT.lt_tupInts p1 p2 i1 i2 hu ⟨.bl (HT.lexLt ns ms), H, I, rfl, q⟩
end
end L2
namespace L2
open PySem PySem.Spec PyProof.Rows
def ixN (n : Nat) (i : Int) : Option Nat := if 0 ≤ i then (if i < n then some i.toNat else none) else if -(n : Int) ≤ i then some (i + n).toNat else none
def atI {α : Type} (xs : List α) (i : Int) : Option α := (ixN xs.length i).bind fun j => xs[j]?
theorem ixN_seq {n : Nat} {i : Int} {j : Nat} (h : ixN n i = some j) : seqIndex? i n = some j ∧ j < n ∧ -(n : Int) ≤ i ∧ i < n := by
  unfold ixN at h
  by_cases h0 : 0 ≤ i
  · rw [if_pos h0] at h
    by_cases h1 : i < n
    · rw [if_pos h1] at h
      have e : i.toNat = j := Option.some.inj h
      exact ⟨by rw [seqIndex_of h0 h1, e], by omega, by omega, h1⟩
    · rw [if_neg h1] at h; cases h
  · rw [if_neg h0] at h
    by_cases h1 : -(n : Int) ≤ i
    · rw [if_pos h1] at h
      have e : (i + n).toNat = j := Option.some.inj h
      exact ⟨by rw [seqIndex_neg (by omega) h1, e], by omega, h1, by omega⟩
    · rw [if_neg h1] at h; cases h
theorem atI_get {α : Type} {xs : List α} {i : Int} {v : α} (h : atI xs i = some v) : ∃ j, seqIndex? i xs.length = some j ∧ xs[j]? = some v ∧ j < xs.length ∧ -(xs.length : Int) ≤ i ∧ i < xs.length := by
  unfold atI at h
  cases e : ixN xs.length i with
  | none => rw [e] at h; cases h
  | some j =>
    rw [e] at h
    obtain ⟨h1, h2, h3, h4⟩ := ixN_seq e
    exact ⟨j, h1, h, h2, h3, h4⟩
theorem atI_nat {α : Type} {xs : List α} {j : Nat} {v : α} (h : xs[j]? = some v) : atI xs (j : Int) = some v := by
  have hj : j < xs.length := (List.getElem?_eq_some_iff.mp h).1
  have e : ixN xs.length (j : Int) = some j := by
    unfold ixN
    rw [if_pos (by omega), if_pos (by omega)]; simp
  unfold atI; rw [e]; exact h
def PlainIx (b : Expr) : Prop := ∀ o i, subscripted b false o i = operate [o, i] (getItem o i)
def IxR (X : Cx) (r : R2) : Prop :=
  ∀ (value slice : Expr) (pins : List (Addr × Obj)) (s : Shared) (σ : St) (H : Hp) (x y : V) (v u : Value) (Q : VK), Inv X pins σ H s → RelV x v → RelV y u → r x y H Q →
    subscripted slice false v u = operate [v, u] (getItem v u) → wpAny (model X.prog X.w) X.A (subscriptTail value slice v u) (EP X pins σ Q) X.xe s
def MtR (X : Cx) (id : String) (r : V → List V → Hp → VK → Prop) : Prop :=
  ∀ (pins : List (Addr × Obj)) (s : Shared) (σ : St) (H : Hp) (x : V) (xs : List V) (v : Value) (us : List Value) (Q : VK), Inv X pins σ H s → RelV x v → Vals xs us → r x xs H Q →
    wpAny (model X.prog X.w) X.A (call (.builtin id) (v :: us)) (EP X pins σ Q) X.xe s
section
variable {X : Cx} {a b : Expr} {ta tb : TE} {pos : Pos}
theorem IxR.or {r r' : R2} (h : IxR X r) (h' : IxR X r') : IxR X (fun x y H Q => r x y H Q ∨ r' x y H Q) := by
  intro value slice pins s σ H x y v u Q I rx ry q hs
  rcases q with q | q
  · exact h value slice pins s σ H x y v u Q I rx ry q hs
  · exact h' value slice pins s σ H x y v u Q I rx ry q hs
theorem MtR.or {id : String} {r r' : V → List V → Hp → VK → Prop} (h : MtR X id r) (h' : MtR X id r') : MtR X id (fun x xs H Q => r x xs H Q ∨ r' x xs H Q) := by
  intro pins s σ H x xs v us Q I rx rs q
  rcases q with q | q
  · exact h pins s σ H x xs v us Q I rx rs q
  · exact h' pins s σ H x xs v us Q I rx rs q
theorem pe_ix {r : R2} (hr : IxR X r) (ha : PE X a ta) (hb : PE X b tb) (hs : PlainIx b) : PE X (.Subscript a b pos) (tOp r ta tb) := by
  intro pins s σ H Q I h
  exact Subscript_ (binT ha hb I h fun v u s2 x y H2 I2 rx ry q => hr a b pins s2 σ H2 x y v u Q I2 rx ry q (hs _ _))
def rIxL (K : PySem.W.Frag) : R2 := fun x y H Q => ∃ p xs i v, x = .ref p ∧ y = .int i ∧ SqL K H p xs ∧ atI xs i = some v ∧ Q v H
def rIxT (K : PySem.W.Frag) : R2 := fun x y H Q => ∃ p xs i v, x = .ref p ∧ y = .int i ∧ SqT K H p xs ∧ atI xs i = some v ∧ Q v H
def rIxS : R2 := fun x y H Q => ∃ z i c, x = .str z ∧ y = .int i ∧ z.length ≤ sizeLine ∧ atI z.cps.toList i = some c ∧ Q (.str ⟨#[c]⟩) H
theorem ix_list : IxR X (rIxL X.K) := by
  intro value slice pins s σ H x y v u Q I rx ry h hs
  obtain ⟨p, xs, i, z, rfl, rfl, hq, he, q⟩ := h
  cases rx
  obtain ⟨t, rfl⟩ := ry
  obtain ⟨its, r, pl, hz⟩ := I.list hq
  obtain ⟨j, h1, h2, h3, h4, h5⟩ := atI_get he
  obtain ⟨w, ew, rw'⟩ := r.get h2
  have hl := r.length
  have hn := line63
  have fin : EP X pins σ Q w s := ⟨z, H, I, rw', q⟩
  by_cases h0 : 0 ≤ i
  · have hj : i.toNat = j := by
      rw [seqIndex_of h0 h5] at h1
      exact Option.some.inj h1
    exact item_listR pl.isList h0 (by omega) (by rw [hj]; simpa using ew) fin hs
  · have hj : (i + (its.toArray.size : Int)).toNat = j := by
      rw [seqIndex_neg (by omega) h4] at h1
      rw [List.size_toArray, ← hl]
      exact Option.some.inj h1
    exact subscriptTail_builtinR (x := w) pl.isList.typeIs slot_list_getitem.lookup
      (wpAny_getItem_list_neg (Q := fun r s' => r = w ∧ EP X pins σ Q r s') pl.isList (by omega) (by rw [List.size_toArray] <;> omega) (by omega) (by rw [hj]; simpa using ew) ⟨rfl, fin⟩) hs
theorem ix_tup : IxR X (rIxT X.K) := by
  intro value slice pins s σ H x y v u Q I rx ry h hs
  obtain ⟨p, xs, i, z, rfl, rfl, hq, he, q⟩ := h
  cases rx
  obtain ⟨t, rfl⟩ := ry
  obtain ⟨its, r, pl, hz⟩ := I.tuple hq
  obtain ⟨j, h1, h2, h3, h4, h5⟩ := atI_get he
  obtain ⟨w, ew, rw'⟩ := r.get h2
  have hl := r.length
  have hn := line63
  have fin : EP X pins σ Q w s := ⟨z, H, I, rw', q⟩
  exact subscriptTail_builtinR (x := w) pl.typeIs slot_tuple_getitem.lookup
    (getItem_tuple (j := j) (Q := fun r s' => r = w ∧ EP X pins σ Q r s') pl (by omega) (by omega) (by rw [List.size_toArray, ← hl]; exact h1) (by simpa using ew) ⟨rfl, fin⟩) hs
theorem ix_str : IxR X rIxS := by
  intro value slice pins s σ H x y v u Q I rx ry h hs
  obtain ⟨z, i, c, rfl, rfl, hz, he, q⟩ := h
  obtain ⟨t, rfl⟩ := rx
  obtain ⟨t', rfl⟩ := ry
  obtain ⟨j, h1, h2, h3, h4, h5⟩ := atI_get he
  have hl : z.cps.toList.length = z.length := by simp [Str.length]
  rw [hl] at h1 h4 h5
  have hn := line63
  exact tail_any (typeIs_str s z t) slot_str_getitem.lookup (getItem_str (c := c) (by
    have e1 : decide (i < -(2 ^ 63 : Int)) = false := decide_eq_false (by omega)
    have e2 : decide (i ≥ 2 ^ 63) = false := decide_eq_false (by omega)
    rw [e1, e2, Bool.or_false]) (by rw [h1]; simpa using h2) ⟨.str ⟨#[c]⟩, H, I.tok _, ⟨_, rfl⟩, q⟩) hs
def rIx (K : PySem.W.Frag) : R2 := fun x y H Q => rIxL K x y H Q ∨ rIxT K x y H Q ∨ rIxS x y H Q
theorem ix_seq : IxR X (rIx X.K) := ix_list.or (ix_tup.or ix_str)
theorem Inv.lst {pins : List (Addr × Obj)} {σ : St} {H : Hp} {s : Shared} {p : Addr} {xs : List V} (I : Inv X pins σ H s) (h : H p = some (.lst xs)) :
    ∃ (its : List Value) (n : Nat), Vals xs its ∧ s.heap.get? p = some { cls := .type "list", data := .seq its.toArray n } ∧ xs.length ≤ sizeLine := by
  obtain ⟨z, its, n, r, e⟩ := I.hok p _ h
  exact ⟨its, n, r, e, z⟩
theorem slice_bounds (lo hi : Option Int) (n : Nat) : (sliceBounds lo hi none n).1 = ((HT.sIx n 0 lo : Nat) : Int) ∧ (sliceBounds lo hi none n).2.1 = ((HT.sIx n n hi : Nat) : Int) ∧ (sliceBounds lo hi none n).2.2 = 1 := by
  refine ⟨?_, ?_, rfl⟩
  · cases lo with
    | none => simp [sliceBounds, HT.sIx]
    | some i =>
      simp only [sliceBounds, HT.sIx, Option.getD_none, show (1 : Int) > 0 by decide, if_true]
      by_cases h : i < 0
      · simp only [h, if_true] <;> omega
      · simp only [h, if_false] <;> omega
  · cases hi with
    | none => simp [sliceBounds, HT.sIx]
    | some i =>
      simp only [sliceBounds, HT.sIx, Option.getD_none, show (1 : Int) > 0 by decide, if_true]
      by_cases h : i < 0
      · simp only [h, if_true] <;> omega
      · simp only [h, if_false] <;> omega
theorem slicePick_cut (its : List Value) (lo hi : Option Int) : slicePick its.toArray lo hi none = ((its.drop (HT.sIx its.length 0 lo)).take (HT.sIx its.length its.length hi - HT.sIx its.length 0 lo)).toArray := by
  obtain ⟨h1, h2, h3⟩ := slice_bounds lo hi its.toArray.size
  unfold slicePick
  rw [h1, h2, h3]
  simp only [sliceRange_one, pick_run, List.size_toArray] <;> rfl
def rSlL (K : PySem.W.Frag) : V → Option Int → Option Int → Hp → VK → Prop := fun x lo hi H Q => ∃ a xs, x = .ref a ∧ SqL K H a xs ∧ ∀ p, H p = none → Q (.ref p) (upd H p (.lst (cutV xs lo hi)))
theorem sl_list : SlR X (rSlL X.K) := by
  intro pins s σ H x v vl vu lo hi sl Q I rx hs pl pu h
  obtain ⟨a, xs, rfl, hx, q⟩ := h
  cases rx
  obtain ⟨its, r, ht, hz⟩ := I.list hx
  have hlen := r.length
  refine ⟨"list", _, slot_list_getitem.lookup, ht.isList.typeIs, ?_⟩
  refine wpAny_getItem_list_slice ht.isList hs pl pu .none (by simp) ?_ (by rw [List.size_toArray] <;> omega)
  rw [slicePick_cut, ← hlen]
  refine ⟨.ref s.heap.objs.size, _, I.laid (t' := s.toks) (o := .lst (cutV xs lo hi)) (fun b ob q => Heap.get?_push_of_some _ q) (Nat.le_refl _) ?_, rfl, q _ (I.hok.fresh (Nat.le_refl _))⟩
  exact ⟨Nat.le_trans (cutV_length xs lo hi) hz, _, 0, (r.drop (HT.sIx xs.length 0 lo)).take (HT.sIx xs.length xs.length hi - HT.sIx xs.length 0 lo), Heap.get?_push_size _ rfl⟩
theorem call_len_seq : CallR X (.builtin "len") (fun xs H Q => ∃ p ys, xs = [.ref p] ∧ (SqL X.K H p ys ∨ SqT X.K H p ys) ∧ Q (.int ys.length) H) := by
  intro pins s σ H xs us Q I r h
  obtain ⟨p, ys, rfl, hq, q⟩ := h
  obtain ⟨u, rfl, rx⟩ := vals1 r
  cases rx
  have hn := line63
  rcases hq with hq | hq
  · obtain ⟨its, r', pl, hz⟩ := I.list hq
    have hlen := r'.length
    exact Calls.call_len_list pl.isList (by simp only [List.size_toArray] <;> omega) ⟨.int ys.length, H, I.tok _, ⟨s.toks + 1, by rw [List.size_toArray, hlen]⟩, q⟩
  · obtain ⟨its, r', pl, hz⟩ := I.tuple hq
    have hlen := r'.length
    exact len_tuple pl (by simp only [List.size_toArray] <;> omega) ⟨.int ys.length, H, I.tok _, ⟨s.toks + 1, by rw [List.size_toArray, hlen]⟩, q⟩
theorem CallR.or {f : Value} {r r' : List V → Hp → VK → Prop} (h : CallR X f r) (h' : CallR X f r') : CallR X f (fun xs H Q => r xs H Q ∨ r' xs H Q) := by
  intro pins s σ H xs us Q I rs q
  rcases q with q | q
  · exact h pins s σ H xs us Q I rs q
  · exact h' pins s σ H xs us Q I rs q
variable {o e : Expr} {es : List Expr} {to : TE} {t : TA} {name : Str} {apos cpos : Pos} {T id : String} {r : V → List V → Hp → VK → Prop}
end
end L2
namespace L2
open PySem PySem.Spec PyProof.Rows
theorem Vals.zero : ∀ {us : List Value}, Vals [] us → us = []
  | _, .nil => rfl
theorem Vals.eraseIdx : ∀ {xs : List V} {us : List Value} (i : Nat), Vals xs us → Vals (xs.eraseIdx i) (us.eraseIdx i)
  | _, _, _, .nil => .nil
  | _, _, 0, .cons _ t => t
  | _, _, i + 1, .cons r t => .cons r (Vals.eraseIdx i t)
theorem Vals.reverse {xs : List V} {us : List Value} (h : Vals xs us) : Vals xs.reverse us.reverse := by
  induction h with
  | nil => exact .nil
  | cons r t ih => rw [List.reverse_cons, List.reverse_cons]; exact Vals.append ih (.cons r .nil)
section
variable {X : Cx} {pins : List (Addr × Obj)} {σ : St} {H : Hp} {s : Shared} {l b : Addr} {xs ys zs : List V}
theorem Inv.lnew {its : List Value} {t' : Nat} (I : Inv X pins σ H s) (hv : Vals ys its) (hz : ys.length ≤ sizeLine) :
    Inv X pins σ (upd H s.heap.objs.size (.lst ys)) { s with heap := s.heap.push { cls := .type "list", data := .seq its.toArray }, toks := t' } :=
  I.laid (fun _ _ q => Heap.get?_push_of_some _ q) (Nat.le_refl _) ⟨hz, its, 0, hv, Heap.get?_push_size _ rfl⟩
theorem Inv.fresh (I : Inv X pins σ H s) : H s.heap.objs.size = none := I.hok.fresh (Nat.le_refl _)
end
section
variable {X : Cx}
end
section
variable {prog : Program} {w : World} {A : Around} {E : Value → Shared → Prop} {s : Shared}
end
section
variable {X : Cx}
end
end L2
namespace L2
open PySem PySem.Spec PyProof.Rows
theorem Vals.strs : ∀ {xs : List Str} {us : List Value}, Vals (xs.map V.str) us → StrsAre us xs
  | [], us, h => by
    rw [List.map_nil] at h
    cases h
    exact StrsAre.nil
  | x :: xs, us, h => by
    rw [List.map_cons] at h
    cases h with
    | cons r t =>
      obtain ⟨k, rfl⟩ := r
      exact StrsAre.cons x k (Vals.strs t)
section
variable {prog : Program} {w : World} {A : Around} {E : Value → Shared → Prop} {s : Shared} {l : Addr} {its : List Value} {ns : List Int} {Q : Value → Shared → Prop}
end
section
variable {X : Cx}
end
section
variable {X : Cx}
end
section
variable {X : Cx}
end
section
variable {X : Cx}
end
mutual
inductive Dp (K : PySem.W.Frag) (H : Hp) : V → PyData → Prop
  | non : Dp K H .non .none
  | bl (b : Bool) : Dp K H (.bl b) (.bool b)
  | int (i : Int) : Dp K H (.int i) (.int i)
  | str (x : Str) : Dp K H (.str x) (.str x)
  | lst {a : Addr} {xs : List V} {ds : List PyData} : SqL K H a xs → DpAll K H xs ds → Dp K H (.ref a) (.list ds)
  | tup {a : Addr} {xs : List V} {ds : List PyData} : SqT K H a xs → DpAll K H xs ds → Dp K H (.ref a) (.tuple ds)
inductive DpAll (K : PySem.W.Frag) (H : Hp) : List V → List PyData → Prop
  | nil : DpAll K H [] []
  | cons {v : V} {vs : List V} {d : PyData} {ds : List PyData} : Dp K H v d → DpAll K H vs ds → DpAll K H (v :: vs) (d :: ds)
end
section
variable {X : Cx} {pins : List (Addr × Obj)} {σ : St} {H : Hp} {s : Shared}
mutual
theorem Dp.reads (I : Inv X pins σ H s) : ∀ (d : PyData) (v : V) (u : Value), Dp X.K H v d → RelV v u → ∃ as, Reads s.heap u d as
  | .none, _, _, h, r => by
    cases h
    cases r
    exact ⟨_, Reads.none⟩
  | .bool b, _, _, h, r => by
    cases h
    cases r
    exact ⟨_, Reads.bool b⟩
  | .int i, _, _, h, r => by
    cases h
    obtain ⟨t, rfl⟩ := r
    exact ⟨_, Reads.int i t⟩
  | .str x, _, _, h, r => by
    cases h
    obtain ⟨t, rfl⟩ := r
    exact ⟨_, Reads.str x t⟩
  | .list ds, _, _, h, r => by
    cases h with
    | lst hs ha =>
      cases r
      obtain ⟨its, rv, ⟨o, n, ho, hc, _, hd⟩, _⟩ := I.list hs
      obtain ⟨as, hr⟩ := Dp.readsAll I ds _ its ha rv
      exact ⟨_, Reads.list ho hc hd hr⟩
  | .tuple ds, _, _, h, r => by
    cases h with
    | tup hs ha =>
      cases r
      obtain ⟨its, rv, ⟨o, ho, hc, n, hd⟩, _⟩ := I.tuple hs
      obtain ⟨as, hr⟩ := Dp.readsAll I ds _ its ha rv
      exact ⟨_, Reads.tuple ho hc hd hr⟩
  | .dict _, _, _, h, _ => by cases h
theorem Dp.readsAll (I : Inv X pins σ H s) : ∀ (ds : List PyData) (vs : List V) (us : List Value), DpAll X.K H vs ds → Vals vs us → ∃ as, ReadsAll s.heap us ds as
  | [], _, _, h, r => by
    cases h
    cases r
    exact ⟨_, ReadsAll.nil⟩
  | d :: ds, _, _, h, r => by
    cases h with
    | cons h1 h2 =>
      cases r with
      | cons r1 r2 =>
        obtain ⟨as, q1⟩ := Dp.reads I d _ _ h1 r1
        obtain ⟨bs, q2⟩ := Dp.readsAll I ds _ _ h2 r2
        exact ⟨_, ReadsAll.cons q1 q2⟩
end
end
section
variable {X : Cx}
def rEqD (K : PySem.W.Frag) : R2 := fun x y H Q => ∃ d e, Dp K H x d ∧ Dp K H y e ∧ SeqAt.shaped d = true ∧ SeqAt.shaped e = true ∧ Q (.bl (PyData.eqv d e)) H
def rNeD (K : PySem.W.Frag) : R2 := fun x y H Q => ∃ d e, Dp K H x d ∧ Dp K H y e ∧ SeqAt.shaped d = true ∧ SeqAt.shaped e = true ∧ Q (.bl (!PyData.eqv d e)) H
theorem op_eqD (hu : X.A.units + 64 < cLine) : OpR X (compareOp .Eq) (rEqD X.K) := by
  intro pins s σ H x y v u Q I rx ry h
  obtain ⟨d, e, hd, he, sd, se, q⟩ := h
  obtain ⟨as, r1⟩ := Dp.reads I d x v hd rx
  obtain ⟨bs, r2⟩ := Dp.reads I e y u he ry
  exact SeqAt.compareEq_shaped r1 r2 sd se hu ⟨.bl _, H, I, rfl, q⟩
theorem op_neD (hu : X.A.units + 64 < cLine) : OpR X (compareOp .NotEq) (rNeD X.K) := by
  intro pins s σ H x y v u Q I rx ry h
  obtain ⟨d, e, hd, he, sd, se, q⟩ := h
  obtain ⟨as, r1⟩ := Dp.reads I d x v hd rx
  obtain ⟨bs, r2⟩ := Dp.reads I e y u he ry
  exact SeqAt.compareNe_shaped r1 r2 sd se hu ⟨.bl _, H, I, rfl, q⟩
end
end L2
namespace L2
open PySem PySem.Spec PyProof.Rows
structure BlkOk (N : List Str) (sc scope : Scope) (own : List (Str × Nat)) : Prop where
  kind : scope.kind = .function
  uniq : ∀ y ∈ scope.names, scope.names.lookup y.1 = some y.2
  ix : ∀ p ∈ own, N[p.2]? = some p.1
  free : ∀ y ∈ scope.names, y.2 = .free → sc.names.lookup y.1 = some .cell ∨ sc.names.lookup y.1 = some .free
  own : ∀ y ∈ scope.names, y.2 = .local ∨ y.2 = .cell → y.1 ∈ own.map (·.1) ∨ y.1 ∉ N
section
variable {X : Cx} {pins : List (Addr × Obj)} {σ : St} {H : Hp} {s : Shared}
def PTs (X : Cx) (ifs : List Expr) (t : TT) : Prop :=
  ∀ (pins : List (Addr × Obj)) (s : Shared) (σ : St) (H : Hp) (Q : Bool → Hp → Prop), Inv X pins σ H s → t σ H Q →
    wpAny (model X.prog X.w) X.A (forIn ifs true fun c r => if r = true then do let ok ← isTrue c X.env (eval c X.env); pure (ForInStep.yield ok) else pure (ForInStep.yield r)) (TP X pins σ Q) X.xe s
end
section
variable {X : Cx}
end
end L2
namespace L2
open PySem PySem.Spec PyProof.Rows
section
variable {prog : Program} {w : World} {A : Around} {R : Result → Shared → Prop} {s : Shared} {elt t0 i0 t1 i1 : Expr} {ifs0 ifs1 : List Expr} {scope : Scope} {pos : Pos} {it acc : Value} {env : Env}
end
section
variable {X : Cx}
end
end L2
namespace L2
open PySem PySem.Spec PyProof.Rows
section
variable {κ : Type} [DecidableEq κ]
def valV (kvs : List (κ × V)) (k : κ) : Option V := (kvs.find? fun kv => decide (kv.1 = k)).map (·.2)
def putK (kvs : List (κ × V)) (k : κ) (v : V) : List (κ × V) :=
  if (kvs.any fun kv => decide (kv.1 = k)) = true then kvs.map (fun kv => if kv.1 = k then (kv.1, v) else kv) else kvs ++ [(k, v)]
def dropK (kvs : List (κ × V)) (k : κ) : List (κ × V) := kvs.filter fun kv => decide (kv.1 ≠ k)
theorem valV_pos {p : κ × V} {r : List (κ × V)} {k : κ} (e : p.1 = k) : valV (p :: r) k = some p.2 := by simp [valV, List.find?_cons, e]
theorem valV_neg {p : κ × V} {r : List (κ × V)} {k : κ} (e : ¬ p.1 = k) : valV (p :: r) k = valV r k := by simp [valV, List.find?_cons, e]
theorem RelO.getD {o : Option V} {u : Option Value} {d : V} {d' : Value} (r : RelO o u) (rd : RelV d d') : RelV (o.getD d) (u.getD d') := by
  cases o with
  | none => cases u with
    | none => exact rd
    | some _ => exact (show False from r).elim
  | some _ => cases u with
    | none => exact (show False from r).elim
    | some _ => exact r
theorem KV.val {kvs : List (κ × V)} {vs : List (κ × Value)} (r : KV kvs vs) (k : κ) : RelO (valV kvs k) (valueAt vs k) := by
  unfold KV at r
  induction r with
  | nil => exact True.intro
  | @cons p q ps qs h t ih =>
    obtain ⟨h1, h2⟩ := h
    by_cases e : p.1 = k
    · have e' : q.1 = k := h1.symm.trans e
      have b : valueAt (q :: qs) k = some q.2 := by simp [valueAt, List.find?_cons, e']
      rw [valV_pos e, b]; exact h2
    · have e' : ¬ q.1 = k := fun z => e (h1.trans z)
      have b : valueAt (q :: qs) k = valueAt qs k := by simp [valueAt, List.find?_cons, e']
      rw [valV_neg e, b]; exact ih
theorem KV.any {kvs : List (κ × V)} {vs : List (κ × Value)} (r : KV kvs vs) (k : κ) : (kvs.any fun kv => decide (kv.1 = k)) = vs.any fun kv => decide (kv.1 = k) := by
  unfold KV at r
  induction r with
  | nil => rfl
  | cons h t ih => rw [List.any_cons, List.any_cons, ih, h.1]
theorem KV.drop {kvs : List (κ × V)} {vs : List (κ × Value)} (r : KV kvs vs) (k : κ) : KV (dropK kvs k) (without vs k) := by
  unfold KV at r ⊢
  unfold dropK without
  induction r with
  | nil => exact .nil
  | @cons p q ps qs h t ih =>
    obtain ⟨h1, h2⟩ := h
    rw [List.filter_cons, List.filter_cons]
    by_cases e : p.1 = k
    · have a : ¬ decide (p.1 ≠ k) = true := by simp [e]
      have b : ¬ decide (q.1 ≠ k) = true := by simp [h1.symm.trans e]
      rw [if_neg a, if_neg b]; exact ih
    · have e' : ¬ q.1 = k := fun z => e (h1.trans z)
      have a : decide (p.1 ≠ k) = true := by simp [e]
      have b : decide (q.1 ≠ k) = true := by simp [e']
      rw [if_pos a, if_pos b]; exact .cons ⟨h1, h2⟩ ih
theorem KV.keys {kvs : List (κ × V)} {vs : List (κ × Value)} (r : KV kvs vs) : kvs.map (·.1) = vs.map (·.1) := by
  unfold KV at r
  induction r with
  | nil => rfl
  | cons h t ih => rw [List.map_cons, List.map_cons, ih, h.1]
theorem KV.length {kvs : List (κ × V)} {vs : List (κ × Value)} (r : KV kvs vs) : kvs.length = vs.length := Paired.length r
end
theorem kV_is {P : Program} {w : World} {k : Key} {u : Value} (r : RelV (kV k) u) : (mixKind P w).is k u = true := by
  cases k with
  | inl i => obtain ⟨t, e⟩ := (show ∃ t, u = Value.int i t from r); subst e; exact mixKind_int P w i t
  | inr x => obtain ⟨t, e⟩ := (show ∃ t, u = Value.str x t from r); subst e; exact mixKind_str P w x t
theorem items_are {P : Program} {w : World} : ∀ {ks : List Key} {us : List Value}, Vals (ks.map kV) us → ItemsAre (mixKind P w) ks us
  | [], _, r => by rw [List.map_nil] at r; cases r; exact .nil
  | k :: ks, _, r => by
    rw [List.map_cons] at r
    cases r with
    | cons h t => exact .cons (kV_is h) (items_are t)
abbrev KT (H : Hp) : List (List Key × V) → List (List Key × Addr × Value) → Prop := Paired fun p q => p.1 = q.1 ∧ H q.2.1 = some (.tup (p.1.map kV)) ∧ RelV p.2 q.2.2
theorem KT.val {H : Hp} {kvs : List (List Key × V)} {xs : List (List Key × Addr × Value)} (r : KT H kvs xs) (k : List Key) : RelO (valV kvs k) ((atKey xs k).map (·.2)) := by
  induction r with
  | nil => exact True.intro
  | @cons p q ps qs h t ih =>
    obtain ⟨h1, _, h2⟩ := h
    by_cases e : p.1 = k
    · have e' : q.1 = k := h1.symm.trans e
      have b : atKey (q :: qs) k = some q.2 := by simp [atKey, List.find?_cons, e']
      rw [valV_pos e, b]; exact h2
    · have e' : ¬ q.1 = k := fun z => e (h1.trans z)
      have b : atKey (q :: qs) k = atKey qs k := by simp [atKey, List.find?_cons, e']
      rw [valV_neg e, b]; exact ih
theorem KT.keeps {H H' : Hp} {kvs : List (List Key × V)} {xs : List (List Key × Addr × Value)} (r : KT H kvs xs) (ht : ∀ b ys, H b = some (.tup ys) → H' b = some (.tup ys)) : KT H' kvs xs :=
  Paired.mapP r fun _ _ z => ⟨z.1, ht _ _ z.2.1, z.2.2⟩
section
variable {P : Program} {w : World} {H : Hp} {h : Heap} {a : Addr}
theorem rd_of {u : HO} (ok : HOk P w H h) (e : Rd H a u) : ObjOk P w H h a u := e.ok ok
theorem dk_rd {kvs : List (Key × V)} (ok : HOk P w H h) (e : Rd H a (.dK kvs)) : kvs.length ≤ sizeLine ∧ (a == sysModules) = false ∧ ∃ vs, KV kvs vs ∧ h.DictOf (mixKind P w) a vs :=
  show ObjOk P w H h a (.dK kvs) from rd_of ok e
theorem key_of {ks : List Key} (ok : HOk P w H h) (e : H a = some (.tup (ks.map kV))) : (tupleKind (mixKind P w)).is h ks a := by
  obtain ⟨_, its, r, o, h1, h2, n, h3, _⟩ := (show ObjOk P w H h a (.tup (ks.map kV)) from ok a _ e)
  exact ⟨o, its.toArray, n, h1, h2, h3, by simpa using items_are r⟩
theorem dt_rd {kvs : List (List Key × V)} (ok : HOk P w H h) (e : Rd H a (.dT kvs)) : kvs.length ≤ sizeLine ∧ (a == sysModules) = false ∧
    ∃ xs, KT H kvs xs ∧ h.DictOfH (tupleKind (mixKind P w)) a xs := by
  obtain ⟨z, y, xs, r, o, es, ep, h1, h2, h3, h4, h5⟩ := (show ObjOk P w H h a (.dT kvs) from rd_of ok e)
  refine ⟨z, y, xs, r, o, es, ep, h1, h2, h3, h4, fun x hx => ?_, h5⟩
  have all : ∀ {l : List (List Key × V)} {m : List (List Key × Addr × Value)}, KT H l m → ∀ x ∈ m, (tupleKind (mixKind P w)).is h x.1 x.2.1 := by
    intro l m q
    induction q with
    | nil => intro x hx; exact nomatch hx
    | @cons p q ps qs hq t ih =>
      intro x hx
      rcases List.mem_cons.mp hx with e | hx
      · subst e
        exact key_of ok (by rw [← hq.1]; exact hq.2.1)
      · exact ih x hx
  exact all r x hx
theorem dt_of {kvs : List (List Key × V)} (ok : HOk P w H h) (e : H a = some (.dT kvs)) : kvs.length ≤ sizeLine ∧ (a == sysModules) = false ∧
    ∃ xs, KT H kvs xs ∧ h.DictOfH (tupleKind (mixKind P w)) a xs := dt_rd ok (.inl e)
end
def DGet (H : Hp) (a : Addr) (y : V) (r : Option V) : Prop :=
  (∃ kvs k, Rd H a (.dK kvs) ∧ y = kV k ∧ r = valV kvs k) ∨ ∃ kvs k b, Rd H a (.dT kvs) ∧ y = .ref b ∧ H b = some (.tup (k.map kV)) ∧ r = valV kvs k
def DPut (H : Hp) (a : Addr) (y v : V) (H' : Hp) : Prop :=
  (∃ kvs k, H a = some (.dK kvs) ∧ y = kV k ∧ kvs.length < sizeLine ∧ H' = upd H a (.dK (putK kvs k v))) ∨
  ∃ kvs k b, H a = some (.dT kvs) ∧ y = .ref b ∧ H b = some (.tup (k.map kV)) ∧ kvs.length < sizeLine ∧ H' = upd H a (.dT (putK kvs k v))
theorem DGet.k {H : Hp} {a : Addr} {kvs : List (Key × V)} {k : Key} (e : H a = some (.dK kvs)) : DGet H a (kV k) (valV kvs k) := .inl ⟨kvs, k, .inl e, rfl, rfl⟩
theorem DGet.t {H : Hp} {a b : Addr} {kvs : List (List Key × V)} {k : List Key} (e : H a = some (.dT kvs)) (eb : H b = some (.tup (k.map kV))) : DGet H a (.ref b) (valV kvs k) := .inr ⟨kvs, k, b, .inl e, rfl, eb, rfl⟩
theorem DPut.k {H : Hp} {a : Addr} {kvs : List (Key × V)} {k : Key} {v : V} (e : H a = some (.dK kvs)) (hl : kvs.length < sizeLine) : DPut H a (kV k) v (upd H a (.dK (putK kvs k v))) := .inl ⟨kvs, k, e, rfl, hl, rfl⟩
theorem DPut.t {H : Hp} {a b : Addr} {kvs : List (List Key × V)} {k : List Key} {v : V} (e : H a = some (.dT kvs)) (eb : H b = some (.tup (k.map kV))) (hl : kvs.length < sizeLine) :
    DPut H a (.ref b) v (upd H a (.dT (putK kvs k v))) := .inr ⟨kvs, k, b, e, rfl, eb, hl, rfl⟩
section
variable {X : Cx} {pins : List (Addr × Obj)} {σ : St} {H : Hp} {s : Shared} {a : Addr} {y v : V} {u r : Value} {o : Option V} {A : Around} {E : Value → Shared → Prop}
theorem Inv.big (I : Inv X pins σ H s) : sysModules < s.heap.objs.size := by
  have h : mainGlobals < s.heap.objs.size := (I.mod.glob.keeps I.bk).lt
  exact Nat.lt_trans (by decide) h
theorem d_getItem {Q : Value → Shared → Prop} (hu : A.units + 1 < cLine) (I : Inv X pins σ H s) (g : DGet H a y (some v)) (ry : RelV y u) (h : ∀ w' s', Inv X pins σ H s' → RelV v w' → Q w' s') :
    wpAny (model X.prog X.w) A (getItem (.ref a) u) Q E s := by
  rcases g with ⟨kvs, k, e, ey, l⟩ | ⟨kvs, k, b, e, ey, eb, l⟩
  · subst ey
    obtain ⟨z, hd, vs, rel, dd⟩ := dk_rd I.hok e
    obtain ⟨w', hw, rw'⟩ := RelO.some_of (v := v) (o := valueAt vs k) (by rw [l]; exact rel.val k)
    exact wpAny_getItem_of (kV_is ry) dd.mapOf hw (h w' _ (I.tok _) rw')
  · subst ey
    cases (show u = Value.ref b from ry)
    obtain ⟨z, hd, xs, rel, dd⟩ := dt_rd I.hok e
    obtain ⟨w', hw, rw'⟩ := RelO.some_of (v := v) (o := (atKey xs k).map (·.2)) (by rw [l]; exact rel.val k)
    obtain ⟨p, hp, hp2⟩ := Option.map_eq_some_iff.mp hw
    refine wpAny_getItem_heap (tupleKind_room_in1 hu) (key_of I.hok eb) dd hp ?_
    rw [hp2]
    exact h w' _ (I.tok _) rw'
end
section
variable {X : Cx} {pins : List (Addr × Obj)} {σ : St} {H : Hp} {s : Shared} {a : Addr} {kvs : List (Key × V)} {k : Key} {u : Value} {A : Around} {E : Value → Shared → Prop}
end
theorem dict_typeIs {X : Cx} {pins : List (Addr × Obj)} {σ : St} {H : Hp} {s : Shared} {a : Addr} {y : V} {o : Option V} (I : Inv X pins σ H s) (g : DGet H a y o) : s.TypeIs (.ref a) "dict" := by
  rcases g with ⟨kvs, k, e, _, _⟩ | ⟨kvs, k, b, e, _, _, _⟩
  · obtain ⟨_, _, vs, _, dd⟩ := dk_rd I.hok e
    exact dd.typeIs
  · obtain ⟨_, _, xs, _, dd⟩ := dt_rd I.hok e
    exact dd.typeIs
section
variable {X : Cx} {o i e value : Expr} {pos pos' tpos : Pos} {td ty tv : TE}
end
section
variable {X : Cx} {pos : Pos}
end
structure M1 (X : Cx) (o : Expr) (m : Str) (apos : Pos) (e : Expr) (cpos : Pos) : Prop where
  base : attributeBase o m X.env (eval o X.env) = eval o X.env
  few : ((backTo cpos (starEach [e] X.env)).all (fun x => !x.1) && (backToKw cpos (keywordEach [] X.env)).all (fun x => x.1.isSome)
    && decide (([e] : List Expr).length + ([] : List Keyword).length + (if ([] : List Keyword).isEmpty then 0 else 1) < 30)) = true
  line : (apos.endLine == cpos.line) = true
  trees : backTo cpos (starEach [e] X.env) = [(false, eval e X.env)]
structure M2 (X : Cx) (o : Expr) (m : Str) (apos : Pos) (e f : Expr) (cpos : Pos) : Prop where
  base : attributeBase o m X.env (eval o X.env) = eval o X.env
  few : ((backTo cpos (starEach [e, f] X.env)).all (fun x => !x.1) && (backToKw cpos (keywordEach [] X.env)).all (fun x => x.1.isSome)
    && decide (([e, f] : List Expr).length + ([] : List Keyword).length + (if ([] : List Keyword).isEmpty then 0 else 1) < 30)) = true
  line : (apos.endLine == cpos.line) = true
  trees : backTo cpos (starEach [e, f] X.env) = [(false, eval e X.env), (false, eval f X.env)]
section
variable {X : Cx} {pins : List (Addr × Obj)} {σ : St} {H : Hp} {s : Shared} {a : Addr} {y d : V} {u r : Value} {o : Option V} {A : Around} {E : Value → Shared → Prop}
end
section
variable {X : Cx} {o e f : Expr} {apos cpos : Pos} {td ty tx : TE}
end
section
variable {X : Cx} {pins : List (Addr × Obj)} {σ : St} {H : Hp} {s : Shared} {a : Addr} {kvs : List (Key × V)} {A : Around} {E : Value → Shared → Prop}
end
section
variable {X : Cx} {pins : List (Addr × Obj)} {σ : St} {H : Hp} {s : Shared} {a : Addr} {y : V} {u : Value} {A : Around} {E : Value → Shared → Prop}
end
end L2
namespace L2
open PySem PySem.Spec PyProof.Rows
section
variable {prog : Program} {w : World} {A : Around} {E : Value → Shared → Prop}
end
section
variable {X : Cx}
end
end L2
namespace L2
open PySem PySem.Spec PyProof.Rows
section
variable {X : Cx} {pins : List (Addr × Obj)} {σ : St} {H : Hp} {s : Shared} {h' : Heap}
theorem Inv.unlock {d : Addr} {od : Obj} {u : HO} (I : Inv X pins σ H s) (h : H d = some (.frz od u)) (hn : ∀ o' u', X.H_0 d ≠ some (.frz o' u')) : Inv X pins σ (upd H d u) s := by
  have neH : ∀ b o, H b = some o → (∀ o' u', o ≠ .frz o' u') → b ≠ d := fun b o e hne z => by
    rw [z, h] at e
    cases e
    exact hne _ _ rfl
  have neN : ∀ b, H b = none → b ≠ d := fun b e z => by rw [z, h] at e; cases e
  refine ⟨I.ok, I.os, I.bare, ⟨I.base.keep, I.base.slot, fun b o e n hx => ?_, I.base.there, fun b xs e => ?_, fun b o x e => ?_, fun b ps e => ?_⟩, I.loc, I.cell, ?_, fun x c e => ?_, fun p hp => ?_, fun b o e => ?_, I.len⟩
  · rw [upd_ne (neN b (I.base.free b o e n hx))]; exact I.base.free b o e n hx
  · have q := I.base.tups b xs e
    rw [upd_ne (neH b _ q (fun _ _ z => nomatch z))]; exact q
  · have q := I.base.frzs b o x e
    rw [upd_ne (fun z => by rw [z] at e; exact hn _ _ e)]; exact q
  · obtain ⟨m, q⟩ := I.base.tbls b ps e
    exact ⟨m, by rw [upd_ne (neH b _ q (fun _ _ z => nomatch z))]; exact q⟩
  · rw [upd_ne (neN _ I.free)]; exact I.free
  · rw [upd_ne (neN c (I.freeC x c e))]; exact I.freeC x c e
  · obtain ⟨e, n, r⟩ := I.pin p hp
    exact ⟨e, by rw [upd_ne (neN _ n)]; exact n, r⟩
  · by_cases hb : b = d
    · rw [hb, upd_same] at e
      cases e
      rw [hb]
      obtain ⟨_, x⟩ := I.hok d _ h
      exact x.stay (fun c v _ q => q) (fun c q => by rw [upd_ne (neH c _ q (fun _ _ z => nomatch z))]; exact q) fun c xs q => by rw [upd_ne (neH c _ q (fun _ _ z => nomatch z))]; exact q
    · rw [upd_ne hb] at e
      exact (I.hok b o e).stay (fun c v _ q => q) (fun c q => by rw [upd_ne (neH c _ q (fun _ _ z => nomatch z))]; exact q) fun c xs q => by rw [upd_ne (neH c _ q (fun _ _ z => nomatch z))]; exact q
end
section
variable {X : Cx}
end
def RgC (i j c : Int) (n : Nat) : Prop := c ≠ 0 ∧ c.natAbs < 1073741824 ∧ Builtin.Range.small i j c = true ∧ Builtin.Range.rangeSize i j c = n
theorem RgC.neg {i j : Int} (ha : -(2 ^ 62) ≤ i) (ha' : i < 2 ^ 62) (hb : -(2 ^ 62) ≤ j) (hb' : j < 2 ^ 62) : RgC i j (-1) (i - j).toNat :=
  ⟨by decide, by decide, PySem.W.small_down ha ha' hb hb', PySem.W.rangeSize_downNat i j⟩
section
variable {X : Cx} {tg : Expr}
end
section
variable {X : Cx} {tg : Expr}
end
def Its (x : Str) : It := ⟨fun i _ => i < x.cps.size, fun i H v H' => H' = H ∧ ∃ c, x.cps[i]? = some c ∧ v = .str ⟨#[c]⟩, fun i _ => x.cps.size ≤ i⟩
section
variable {prog : Program} {w : World} {A : Around} {E : Value → Shared → Prop} {s : Shared}
end
section
variable {X : Cx} {pins : List (Addr × Obj)} {σ : St} {H : Hp} {s : Shared} {d : Addr} {o : Obj}
end
def Itkt (d : Addr) (o : Obj) (kvs : List (List Key × V)) : It :=
  ⟨fun i H => H d = some (.frz o (.dT kvs)) ∧ i < kvs.length, fun i H x H' => H' = H ∧ ∃ (k : List Key) (v : V) (q : Addr), kvs[i]? = some (k, v) ∧ x = .ref q ∧ H q = some (.tup (k.map kV)), fun i H => H d = some (.frz o (.dT kvs)) ∧ kvs.length ≤ i⟩
section
variable {P : Program} {w : World} {K : PySem.W.Frag} {tg : Expr} {d : Addr} {o : Obj} {es : Array DictEntry} {ep : Nat}
end
section
variable {X : Cx} {tg e : Expr} {td : TE} {apos cpos : Pos}
end
def Ite (K : PySem.W.Frag) (a : Addr) : It :=
  ⟨fun i H => ∃ (xs : List V) (x : V), SqL K H a xs ∧ xs[i]? = some x, fun i H v H' => ∃ T x, v = .ref T ∧ H T = none ∧ H' = upd H T (.tup [.int (i : Nat), x]) ∧ ∀ xs, SqL K H a xs → xs[i]? = some x, fun i H => ∃ xs : List V, SqL K H a xs ∧ xs.length ≤ i⟩
def Itz (K : PySem.W.Frag) (a b : Addr) : It :=
  ⟨fun i H => ∃ (xs ys : List V) (x y : V), SqL K H a xs ∧ SqL K H b ys ∧ xs[i]? = some x ∧ ys[i]? = some y,
    fun i H v H' => ∃ T x y, v = .ref T ∧ H T = none ∧ H' = upd H T (.tup [x, y]) ∧ (∀ xs, SqL K H a xs → xs[i]? = some x) ∧ ∀ ys, SqL K H b ys → ys[i]? = some y,
    fun i H => ∃ xs ys : List V, SqL K H a xs ∧ SqL K H b ys ∧ (xs.length ≤ i ∨ ys.length ≤ i)⟩
end L2
section
namespace Bits
open PySem PyProof.Rows
end Bits
end
section
namespace TL
open PySem PySem.Builtin PySem.Builtin.Str PySem.StrLaws
abbrev tl (x : Str) : List Nat := x.cps.toList
def pre (S l : List Nat) : Bool := l.take S.length == S
def spl (S : List Nat) : Nat → List Nat → List Nat → List (List Nat)
  | _, acc, [] => [acc]
  | 0, acc, c :: r => if pre S (c :: r) = true then acc :: spl S (S.length - 1) [] r else spl S 0 (acc ++ [c]) r
  | k + 1, acc, _ :: r => spl S k acc r
def par (S : List Nat) : List Nat → List Nat → Option (List Nat × List Nat)
  | _, [] => none
  | acc, c :: r => if pre S (c :: r) = true then some (acc, (c :: r).drop S.length) else par S (acc ++ [c]) r
end TL
end
namespace L2
open PySem PySem.Spec PyProof.Rows
section
variable {X : Cx} {pins : List (Addr × Obj)} {σ : St} {H : Hp} {s : Shared} {Q : VK}
end
section
variable {X : Cx}
end
section
variable {X : Cx} {o e : Expr} {to te : TE}
end
end L2
namespace L2
open PySem PySem.Spec PyProof.Rows
section
variable {X : Cx}
end
end L2
namespace Att
open PySem PySem.W PySem.Calls PyProof.Rows
theorem ints_of_wellAll {P : Params} {h : Heap} : ∀ (ns : List Int) (vs : List Value), WellAll P h vs (ns.map WData.int) → IntsAre vs ns := by
  intro ns
  induction ns with
  | nil =>
    intro vs w
    rw [List.map_nil] at w
    cases w
    exact .nil
  | cons n ns ih =>
    intro vs w
    rw [List.map_cons] at w
    cases w with
    | cons a b =>
      cases a
      exact .cons _ _ (ih _ b)
theorem script_of {l : OpenLaw} {n : Nat} (hn : l.most = some n) {P : Params} {h : Heap} {args : List WData} {vals : List Value}
    (hpre : l.row.toRowW.claim.pre args = true) (hwl : WellAll P h vals args) :
    ∃ a vs ns, vals = [Value.ref a] ∧ args = [WData.list (ns.map WData.int)] ∧ h.get? a = some { cls := .type "list", data := .seq vs.toArray } ∧ IntsAre vs ns ∧ ns.length ≤ n := by
  have hsh : WShape.hasAll [] args [.list .int] = true := (pre_splitW hpre).1
  have hc : l.pre.holds [] { args := args } = true := (pre_splitW hpre).2
  obtain ⟨d, r, rfl, h1, h2⟩ := hasAllW_cons hsh
  obtain rfl := hasAllW_nil h2
  obtain ⟨xs, rfl, h3⟩ := hasW_list h1
  obtain ⟨ns, rfl⟩ := items_int h3
  have hlen : ns.length ≤ n := by
    unfold OpenLaw.pre at hc
    have h4 : (WTm.not (.lt (.lit (.int (n : Int))) (.len (.arg 0)))).holds [] { args := [.list (ns.map .int)] } = true := by
      have h4 := (holds_andW hc).1
      rw [hn] at h4
      exact h4
    have h5 := condW_of h4 (w_not (w_lt w_lit (w_len_list (w_arg rfl))))
    rw [List.length_map] at h5
    refine Nat.le_of_not_lt fun q => ?_
    have q' : (n : Int) < ((ns.length : Nat) : Int) := by omega
    first
      | (rw [decide_eq_true q'] at h5; exact absurd h5 (by decide))
      | (simp at h5; omega)
  cases hwl with
  | cons w1 w2 =>
    cases w2
    cases w1 with
    | list ho hall => exact ⟨_, _, ns, rfl, rfl, ho, ints_of_wellAll ns _ hall, hlen⟩
theorem post_true (l : OpenLaw) (args : List WData) : l.row.toRowW.claim.post args (.bool true) args = true :=
  postW_of (r := l.row.toRowW) (X := (true == true))
    (show WShape.has [] (.bool true) .bool = true by first | rfl | decide | simp [WShape.has, WShape.arms, WShape.armsAll])
    (show (WTm.eq .res (.lit (.bool true))).value [] { args := args, res := some (.bool true), after := args } = some (.bool (true == true)) from w_eq_bool (w_res rfl) w_lit) rfl
theorem attach_call {l : OpenLaw} {n : Nat} {q : Program} {loose : List Str} {XP : (Str → Option Value) → Heap → Prop} {YP : World → Heap → Prop} {d : DefRec}
    (hn : l.most = some n) (hdf : d.params.defaults = [])
    (call : ∀ (w : World) (s₀ s₁ : Shared) (mg mb : Str → Option Value) (fa : Addr) (o : Obj) (pm cd doc : Value) (a : Addr) (vs : List Value) (ns : List Int),
      Ground q loose [] XP w s₀ mg mb s₁.heap → YP w s₁.heap →
      s₁.heap.get? fa = some o → o.data = .func (docDef d.name d.params d.body d.scope pm cd doc) → s₁.heap.CodeRec cd d.name → mg d.name = some (.ref fa) →
      s₁.heap.get? a = some { cls := .type "list", data := .seq vs.toArray } → IntsAre vs ns → ns.length ≤ n → s₁.gens = #[] →
      codeAny (model l.prog w) callerA (.call (.ref fa) ⟨[.ref a], []⟩) (fun r s' => r = .ok (.ret (.bool true)) ∧ OldK s₁.heap s'.heap ∧ s'.os = s₁.os ∧ AllBare s'.gens) s₁) :
    WalkO q loose XP YP l.row.toRowW d [] (fun f vs => PySem.call f vs) := by
  intro w s₀ s₁ mg mb G Y fa o pm cd doc dV kV ho hd hcd hD hmg hg args vals as hpre hlay hrd hwl hlo
  obtain rfl : dV = .none := Dflts.none hD hdf
  obtain rfl : kV = .none := Dflts.noKw hD
  obtain ⟨a, vs, ns, rfl, rfl, hobj, hints, hlen⟩ := script_of hn hpre hwl
  refine enter_call (codeAny_mono (call w s₀ s₁ mg mb fa o pm cd doc a vs ns G Y ho (fd_plain hd) hcd hmg hobj hints hlen hg) fun r s' hq => ?_)
  obtain ⟨rfl, h2, h3, h4⟩ := hq
  exact ⟨.inl ⟨.bool true, .bool true, [], rfl, fun _ => rfl, .bool true, post_true l _, fun _ => ⟨List.Pairwise.nil, fun _ hm => (nomatch hm)⟩⟩, h2, h3, h4⟩
section
variable {prog : Program} {w : World} {A : Around} {E : Value → Shared → Prop} {s : Shared} {K : Frag}
end
end Att
namespace L2
open PySem PySem.Spec PyProof.Rows
theorem vals_ints : ∀ {vs : List Value} {ns : List Int}, IntsAre vs ns → Vals (ns.map V.int) vs
  | _, _, .nil => .nil
  | _, _, .cons n t h => .cons ⟨t, rfl⟩ (vals_ints h)
def Only (H : Hp) : Prop := ∀ b, H b = none ∨ ∃ o xs, H b = some (.frz o (.lst xs))
theorem law_call {P : Program} {w : World} {K : PySem.W.Frag} {mg mb : Str → Option Value} {CX : CXT} {k : Nat} {fa a : Addr} {fd : FuncData} {x : Str} {sp : Sp} {s₁ : Shared} {vs : List Value} {ns : List Int}
    (KX : K.In s₁.heap) (hns : s₁.heap.Ns mainGlobals mg) (hb : s₁.heap.Ns builtinsNs mb) (hbb : ∀ x : Str, x ≠ "__name__" → mb x = bootBuiltins x) (hlim : s₁.heap.NoLimit) (hg : s₁.gens = #[])
    (ha : s₁.heap.get? a = some { cls := .type "list", data := .seq vs.toArray }) (hi : IntsAre vs ns) (hl : ns.length ≤ sizeLine) (hr : Room k callerA)
    (F : ∀ base : Heap, K.In base → base.Ns mainGlobals mg → FnOk P w K mg base CX k fa fd [x] sp) (hbind : ∀ (s : Shared) (u : Value), BindsTo s fd ⟨[u], []⟩ [(x, u)])
    (hsp : ∀ H : Hp, Only H → SqL K H a (ns.map V.int) → sp [.ref a] H (fun v _ => v = .bl true) fun _ _ _ => False)
    (hCX : ∀ H e s', CX [] H s₁ (fun _ _ _ => False) e s' → False) :
    codeAny (model P w) callerA (.call (.ref fa) ⟨[.ref a], []⟩) (fun r s' => r = .ok (.ret (.bool true)) ∧ OldK s₁.heap s'.heap ∧ s'.os = s₁.os ∧ AllBare s'.gens) s₁ := by
  have rv := vals_ints hi
  have lenV := hi.length
  have core : ∀ H : Hp, Only H → SqL K H a (ns.map V.int) → HOk P w H s₁.heap → (∀ b, H b ≠ none → b = a) → (H a ≠ none → K.lookup a = none) →
      codeAny (model P w) callerA (.call (.ref fa) ⟨[.ref a], []⟩) (fun r s' => r = .ok (.ret (.bool true)) ∧ OldK s₁.heap s'.heap ∧ s'.os = s₁.os ∧ AllBare s'.gens) s₁ := by
    intro H hO hS hok hA hK
    have base_of : ∀ {b : Addr} {o : Obj}, s₁.heap.get? b = some o → H b = none → (hidT s₁.heap H).get? b = some o := fun e n => hidT_get e n
    have noA : ∀ {b : Addr} {o : Obj} {es : Array DictEntry} {ep : Nat}, s₁.heap.get? b = some o → o.data = .dict es ep → H b = none := fun {b o es ep} e d => by
      cases q : H b with
      | none => rfl
      | some u =>
        have e' : b = a := hA b (by rw [q]; simp)
        subst e'
        rw [ha] at e; cases e
        have d' : Data.seq vs.toArray _ = Data.dict es ep := d
        cases d'
    have nsK : ∀ {b : Addr} {m : Str → Option Value}, s₁.heap.Ns b m → (hidT s₁.heap H).Ns b m := fun {b m} ⟨o, es, ep, e, d, r⟩ => ⟨o, es, ep, base_of e (noA e d), d, r⟩
    have hKb : K.In (hidT s₁.heap H) := fun b o e => base_of (KX b o e) (by
      cases q : H b with
      | none => rfl
      | some u =>
        have e' : b = a := hA b (by rw [q]; simp)
        subst e'
        rw [hK (by rw [q]; simp)] at e; cases e)
    have hM : Mod K mg (hidT s₁.heap H) := ⟨hKb, nsK hns, ⟨mb, nsK hb, hbb⟩, let ⟨mc, h1, h2⟩ := hlim; ⟨mc, nsK h1, h2⟩⟩
    have e0 : Env0 P w K mg (hidT s₁.heap H) callerA [] s₁ H := ⟨rfl, hM, fun b o e => of_hidT e, Nat.le_of_eq (hidT_size _ _), trivial, fun b hb => absurd (show b ∈ ([] : List Addr) from hb) (by simp), hok, .of_eq hg⟩
    refine codeAny_mono ((F _ hKb (nsK hns)).run callerA [] s₁ H ⟨[.ref a], []⟩ [.ref a] [.ref a] _ _ hr e0 (hbind s₁ (.ref a)) (.cons rfl .nil) (hsp H hO hS)) fun r s' h => ?_
    cases r with
    | error e => exact (hCX H e s' h).elim
    | ok fl =>
      cases fl with
      | next => exact False.elim h
      | brk => exact False.elim h
      | cont => exact False.elim h
      | ret u =>
        obtain ⟨v, H', os, bare, un, hok', r', q⟩ := h
        have q' : v = .bl true := q
        subst q'
        obtain rfl : u = Value.bool true := r'
        refine ⟨rfl, OldK.of_keep fun b o e => ?_, os, bare⟩
        cases q : H b with
        | none => exact un.keep b o e q (by intro z; exact absurd (show b ∈ ([] : List Addr) from z) (by simp)) (by simp)
        | some u =>
          rcases hO b with z | ⟨ob, xs, z⟩
          · rw [q] at z; cases z
          · have z2 := un.frzs b ob _ z
            obtain ⟨e1, _⟩ := hok b _ z
            obtain ⟨e2, _⟩ := hok' b _ z2
            rw [e] at e1; cases e1
            exact e2
  cases hk : K.lookup a with
  | some o =>
    have e := KX a o hk
    rw [ha] at e
    cases e
    refine core (fun _ => none) (fun _ => .inl rfl) (.inr ⟨_, vs.toArray, _, hk, rfl, rfl, rfl, by rw [List.size_toArray, lenV]; exact hl, by simpa using rv⟩) (fun b u z => by have z' : (none : Option HO) = some u := z; cases z') (fun b z => absurd rfl z) fun z => absurd rfl z
  | none =>
    refine core (fun b => if b = a then some (.frz { cls := .type "list", data := .seq vs.toArray } (.lst (ns.map V.int))) else none) (fun b => ?_) (.inl (.inr ⟨{ cls := .type "list", data := .seq vs.toArray }, if_pos rfl⟩)) (fun b u z => ?_) (fun b z => ?_) fun _ => hk
    · by_cases hb : b = a
      · exact .inr ⟨_, _, if_pos hb⟩
      · exact .inl (if_neg hb)
    · by_cases hb : b = a
      · have z' := (if_pos hb).symm.trans z
        cases z'
        subst hb
        exact ⟨ha, by rw [List.length_map]; exact hl, vs, _, rv, ha⟩
      · have z' := (if_neg hb).symm.trans z
        cases z'
    · by_cases hb : b = a
      · exact hb
      · exact absurd (if_neg hb) z
end L2
namespace L2
open PySem PySem.Spec PyProof.Rows
theorem walk_of {l : PySem.W.OpenLaw} {n k : Nat} {q : Program} {loose : List Str} {XP : (Str → Option Value) → Heap → Prop} {YP : World → Heap → Prop} {d : DefRec} {K : Params → PySem.W.Frag} {CX : World → CXT} {sp : World → Sp} {x : Str}
    (hn : l.most = some n) (hn2 : n ≤ sizeLine) (hdf : d.params.defaults = []) (hr : Room k callerA)
    (hY : ∀ (w : World) (h : Heap), YP w h → (K w.params).In h)
    (F : ∀ (w : World) (mg : Str → Option Value) (fa : Addr) (h : Heap), (K w.params).In h → h.Ns mainGlobals mg → mg d.name = some (.ref fa) →
      ∃ fd : FuncData, (∀ (s : Shared) (u : Value), BindsTo s fd ⟨[u], []⟩ [(x, u)]) ∧
        ∀ base : Heap, (K w.params).In base → base.Ns mainGlobals mg → FnOk l.prog w (K w.params) mg base (CX w) k fa fd [x] (sp w))
    (hsp : ∀ (w : World) (H : Hp) (a : Addr) (ns : List Int), ns.length ≤ n → Only H → SqL (K w.params) H a (ns.map V.int) → sp w [.ref a] H (fun v _ => v = .bl true) fun _ _ _ => False)
    (hCX : ∀ (w : World) (H : Hp) (s : Shared) (e : Value) (s' : Shared), CX w [] H s (fun _ _ _ => False) e s' → False) :
    PySem.W.WalkO q loose XP YP l.row.toRowW d [] (fun f vs => PySem.call f vs) := by
  refine Att.attach_call hn hdf fun w s₀ s₁ mg mb fa o pm cd doc a vs ns G Y ho hd hcd hmg hobj hints hlen hg => ?_
  have KX := hY w _ Y
  obtain ⟨fd, hb, hF⟩ := F w mg fa _ KX G.T.g hmg
  exact law_call KX G.T.g G.T.b G.T.builtins G.T.nolimit hg hobj hints (Nat.le_trans hlen hn2) hr hF hb (fun H hO hS => hsp w H a ns hlen hO hS) fun H e s' => hCX w H s₁ e s'
end L2
namespace L2
open PySem PySem.Spec PyProof.Rows
def defArgs (s : Stmt) : Arguments := match s with
  | .FunctionDef _ a _ _ _ _ _ _ _ _ => a
  | _ => { posonlyargs := [], args := [], vararg := none, kwonlyargs := [], kw_defaults := [], kwarg := none, defaults := [] }
def defBody (s : Stmt) : List Stmt := match s with
  | .FunctionDef _ _ b _ _ _ _ _ _ _ => b
  | _ => []
def defScope (s : Stmt) : Scope := match s with
  | .FunctionDef _ _ _ _ _ _ sc _ _ _ => sc
  | _ => { kind := .function, names := [], isGenerator := false, isCoroutine := false }
abbrev CX0 : CXT := fun _ _ _ _ _ _ => False
abbrev E0 : XK := fun _ _ _ => False
theorem pass0 {X : Cx} : Passes CX0 X E0 := fun _ _ _ _ _ _ _ h => h.elim
structure Fun (K : PySem.W.Frag) (x qual : Str) (st : Stmt) (f : Addr) (fd : FuncData) : Prop where
  ex : ∃ (oc : Value) (od : Option Addr) (kV doc pm : Value) (an : Option Addr) (cdv ct : Value) (osl : Array (Option Value)),
    fd = PySem.W.fnOf x qual (defArgs st) (defBody st) (defScope st) .none kV doc pm an cdv ct ∧ K.lookup f = some ⟨oc, od, .func fd, osl⟩ ∧ PySem.W.codeIn K cdv qual = true
  kp : PySem.W.keepIn K (.ref f) = true
section
variable {P : Program} {w : World} {K : PySem.W.Frag} {mg : Str → Option Value} {base : Heap}
theorem Fun.ok {x qual : Str} {st : Stmt} {f : Addr} {fd : FuncData} {N ps : List Str} {k : Nat} {sp : Sp} (F : Fun K x qual st f fd) (S : FnScope N ps (defScope st)) (len : ∀ vs H Q E, sp vs H Q E → vs.length = ps.length)
    (hbody : ∀ (cdv : Value) (A : Around) (outer : List Env) (s : Shared) (H : Hp) (vs : List V) (Q : VK) (E : XK), Room k (A.deeper (envOfC qual (defScope st) s.heap.objs.size f cdv)) → sp vs H Q E →
      ∃ t, PSs (cxOf CX0 P w K mg base N qual (defScope st) f cdv A outer s H E).nox (defBody st) t ∧ t { nx := fun _ H' => Q .non H', rt := Q } (start N vs) H) : FnOk P w K mg base CX0 (k + 1) f fd ps sp := by
  obtain ⟨oc, od, kV, doc, pm, an, cdv, ct, osl, rfl, lk, hcd⟩ := F.ex
  refine fn_of lk hcd S len fun A outer s H vs Q E hr hsp => ?_
  obtain ⟨t, h, q⟩ := hbody cdv A outer s H vs Q E hr hsp
  exact ⟨t, h.nox, q⟩
theorem Fun.binds {x qual : Str} {st : Stmt} {f : Addr} {fd : FuncData} {ps : List Str} (F : Fun K x qual st f fd)
    (h : ∀ (kV doc pm : Value) (an : Option Addr) (cdv ct : Value) (us : List Value), us.length = ps.length → bindArgs (PySem.W.fnOf x qual (defArgs st) (defBody st) (defScope st) .none kV doc pm an cdv ct) ⟨us, []⟩ = pure (ps.zip us)) : Binds K fd ps [] := by
  obtain ⟨oc, od, kV, doc, pm, an, cdv, ct, osl, rfl, lk, hcd⟩ := F.ex
  exact .all (h kV doc pm an cdv ct)
theorem fun_mk {x qual : Str} {st : Stmt} {f : Addr} {oc : Value} {od an : Option Addr} {osl : Array (Option Value)} {kV doc pm cdv ct : Value} (l : K.lookup f = some ⟨oc, od, .func (PySem.W.fnOf x qual (defArgs st) (defBody st) (defScope st) .none kV doc pm an cdv ct), osl⟩)
    (c : PySem.W.codeIn K cdv qual = true) (k : PySem.W.keepIn K (.ref f) = true) : Fun K x qual st f (PySem.W.fnOf x qual (defArgs st) (defBody st) (defScope st) .none kV doc pm an cdv ct) := ⟨⟨oc, od, kV, doc, pm, an, cdv, ct, osl, rfl, l, c⟩, k⟩
end
section
variable {X : Cx}
theorem pv (i : Nat) {x : Str} {pos : Pos} (hN : X.N[i]? = some x := by rfl) (hv : Vis X.env.scope x := by first | exact Or.inl rfl | exact Or.inr (Or.inl rfl) | exact Or.inr (Or.inr rfl)) (hd : (x == ("__debug__" : Str)) = false := by decide)
    (hcd : (x == ("__classdict__" : Str)) = false := by decide) : PE X (.Name x pos) (tVar i) := pe_var hN hv hd hcd
end
theorem iteF {A B : Prop} (h : B) : if false = true then A else B := by
  rw [if_neg Bool.false_ne_true]
  exact h
theorem iteT {A B : Prop} (h : A) : if true = true then A else B := by
  rw [if_pos rfl]
  exact h
def Same (H H' : Hp) : Prop := ∀ b o, H b = some o → H' b = some o
theorem Same.refl (H : Hp) : Same H H := fun _ _ h => h
theorem Same.trans {H H1 H2 : Hp} (a : Same H H1) (b : Same H1 H2) : Same H H2 := fun c o h => b c o (a c o h)
theorem Same.free {H H' : Hp} (e : Same H H') {l : Addr} (h : H' l = Option.none) : H l = Option.none := by
  cases q : H l with
  | none => rfl
  | some o =>
    rw [e l o q] at h
    cases h
theorem Same.seq {K : PySem.W.Frag} {H H' : Hp} {a : Addr} {xs : List V} (e : Same H H') (h : SqL K H a xs) : SqL K H' a xs := by
  rcases h with (h | ⟨o, h⟩) | h
  · exact .inl (.inl (e _ _ h))
  · exact .inl (.inr ⟨o, e _ _ h⟩)
  · exact .inr h
section
variable {κ : Type} [DecidableEq κ]
end
theorem Same.made {H H1 : Hp} {x dx C : Addr} (nx : H x = Option.none) (nd : H dx = Option.none) (k : ∀ b o, (upd (upd H dx (.own x)) x (.ins C dx [])) b = some o → b ≠ x → H1 b = some o) : Same H H1 := fun b o e =>
  k b o (by rw [upd_ne (ne_of_none e nx), upd_ne (ne_of_none e nd)]; exact e) (ne_of_none e nx)
end L2

namespace L2
open PySem PySem.Spec PyProof.Rows
section
variable {X : Cx}
end
section step
variable {σ : St} {H : Hp} {Q : VK} {D : Ends} {QT : Bool → Hp → Prop} {QA : List V → Hp → Prop} {QS : St → Hp → Prop} {K : PySem.W.Frag}
theorem z_len {p : Addr} {ys : List V} (h : SqL K H p ys ∨ SqT K H p ys) (q : Q (.int ys.length) H) : ∃ p' ys', [V.ref p] = [.ref p'] ∧ (SqL K H p' ys' ∨ SqT K H p' ys') ∧ Q (.int ys'.length) H := ⟨p, ys, rfl, h, q⟩
end step
end L2

namespace TS
open PySem PyProof.Rows
set_option autoImplicit false
structure Ok (κ : PyProof.Rows.KeyKind) (sk : SortKind) (st : SortSt) : Prop where
  kind : kindOf st = sk
  good : failedOf st = none
  keys : KeysOf κ (arrOf st)
structure Tr (κ : PyProof.Rows.KeyKind) (lo hi : Nat) (st st' : SortSt) : Prop where
  kind : kindOf st' = kindOf st
  good : failedOf st' = failedOf st
  pend : pendingOf st' = pendingOf st
  perm : (arrOf st').Perm (arrOf st)
  out : ∀ k, k < lo ∨ hi ≤ k → KK κ (arrOf st') k = KK κ (arrOf st) k
def Srt (κ : PyProof.Rows.KeyKind) (xs : Array Keyed) (l h : Nat) : Prop := ∀ i j, l ≤ i → i ≤ j → j < h → κ.kle (KK κ xs i) (KK κ xs j)
section
variable {M : Model} {A : Around} {E : Value → Shared → Prop} {s : Shared} {κ : PyProof.Rows.KeyKind} {sk : SortKind} {st st1 st2 : SortSt} {lo hi l h : Nat}
theorem Tr.refl : Tr κ lo hi st st := ⟨rfl, rfl, rfl, Array.Perm.refl _, fun _ _ => rfl⟩
theorem Tr.trans (x : Tr κ lo hi st st1) (y : Tr κ lo hi st1 st2) : Tr κ lo hi st st2 :=
  ⟨y.kind.trans x.kind, y.good.trans x.good, y.pend.trans x.pend, y.perm.trans x.perm, fun k q => (y.out k q).trans (x.out k q)⟩
theorem keys_perm {xs ys : Array Keyed} (hp : xs.Perm ys) (h : KeysOf κ ys) : KeysOf κ xs := fun p hm => h p ((Array.perm_iff_toList_perm.mp hp).mem_iff.mp hm)
theorem Tr.ok (x : Tr κ lo hi st st1) (o : Ok κ sk st) : Ok κ sk st1 := ⟨x.kind.trans o.kind, x.good.trans o.good, keys_perm x.perm o.keys⟩
theorem Tr.size (x : Tr κ lo hi st st1) : (arrOf st1).size = (arrOf st).size := x.perm.size_eq
def down (b a c : Nat) : StateT SortSt Sem (Option (Option Nat) × Nat × Nat) := forIn [a:c] (none, a, 0) fun _ v => do
  let z ← ltAt' (b + v.snd.fst) (b + v.snd.fst - 1)
  match z with
  | some t =>
      if t = true then
        if v.snd.snd > 0 then do
          reverseSlice' (b + v.snd.fst - (v.snd.snd + 1)) (b + v.snd.fst)
          pure (ForInStep.yield (none, v.snd.fst + 1, 0))
        else pure (ForInStep.yield (none, v.snd.fst + 1, 0))
      else do
        let u ← ltAt' (b + v.snd.fst - 1) (b + v.snd.fst)
        match u with
        | some r => if r = true then pure (ForInStep.done (none, v.snd.fst, v.snd.snd)) else pure (ForInStep.yield (none, v.snd.fst + 1, v.snd.snd + 1))
        | _ => pure (ForInStep.done (some none, v.snd.fst, v.snd.snd))
  | _ => pure (ForInStep.done (some none, v.snd.fst, v.snd.snd))
end
end TS

namespace TS
open PySem PyProof.Rows
set_option autoImplicit false
section
variable {M : Model} {A : Around} {E : Value → Shared → Prop} {s : Shared} {κ : PyProof.Rows.KeyKind} {sk : SortKind} {st : SortSt} {f : Nat → StateT SortSt Sem (Option Bool)} {n g : Nat} {F : Nat → Bool}
end
end TS

namespace TS
open PySem PyProof.Rows
set_option autoImplicit false
def kv (κ : PyProof.Rows.KeyKind) (p : Keyed) : κ.α := (κ.keyOf p.1).getD κ.dflt
def SL (κ : PyProof.Rows.KeyKind) (l : List Keyed) : Prop := l.Pairwise fun p q => κ.kle (kv κ p) (kv κ q)
theorem kv_at {κ : PyProof.Rows.KeyKind} {xs : Array Keyed} {i : Nat} {p : Keyed} (e : xs[i]? = some p) : kv κ p = KK κ xs i := by unfold KK; rw [e]; rfl
theorem mem_part {xs : Array Keyed} {i k : Nat} {p : Keyed} (h : p ∈ (xs.toList.drop i).take k) : ∃ j, i ≤ j ∧ j < i + k ∧ j < xs.size ∧ xs[j]? = some p := by
  obtain ⟨n, hn⟩ := List.mem_iff_getElem?.mp h
  rw [List.getElem?_take] at hn
  split at hn
  · rw [List.getElem?_drop] at hn
    have := (List.getElem?_eq_some_iff.mp hn).1
    exact ⟨i + n, by omega, by omega, by simpa using this, by simpa using hn⟩
  · cases hn
theorem srt_part {κ : PyProof.Rows.KeyKind} {xs : Array Keyed} (h : Srt κ xs 0 xs.size) : SL κ xs.toList := by
  unfold SL
  rw [List.pairwise_iff_getElem]
  intro i j hi hj hij
  have e1 : xs[i]? = some xs.toList[i] := by rw [← Array.getElem?_toList]; exact List.getElem?_eq_getElem hi
  have e2 : xs[j]? = some xs.toList[j] := by rw [← Array.getElem?_toList]; exact List.getElem?_eq_getElem hj
  rw [kv_at e1, kv_at e2]
  exact h i j (Nat.zero_le _) (by omega) (by simpa using hj)
structure Mv (κ : PyProof.Rows.KeyKind) (a b o : Array Keyed) (i j : Nat) : Prop where
  ha : i ≤ a.size
  hb : j ≤ b.size
  pm : o.toList.Perm (a.toList.take i ++ b.toList.take j)
  so : SL κ o.toList
  ba : ∀ p ∈ o.toList, ∀ n, i ≤ n → n < a.size → κ.kle (kv κ p) (KK κ a n)
  bb : ∀ p ∈ o.toList, ∀ n, j ≤ n → n < b.size → κ.kle (kv κ p) (KK κ b n)
section
variable {κ : PyProof.Rows.KeyKind} {a b o : Array Keyed} {i j k : Nat}
theorem Mv.swap (m : Mv κ a b o i j) : Mv κ b a o j i := ⟨m.hb, m.ha, m.pm.trans List.perm_append_comm, m.so, m.bb, m.ba⟩
theorem Mv.size (m : Mv κ a b o i j) : o.size = i + j := by
  have := m.pm.length_eq
  rw [List.length_append, List.length_take, List.length_take] at this
  have h1 := m.ha
  have h2 := m.hb
  simp at this
  omega
theorem Mv.addA (m : Mv κ a b o i j) (sa : Srt κ a 0 a.size) (hk : i + k ≤ a.size) (hc : ∀ n, i ≤ n → n < i + k → ∀ n', j ≤ n' → n' < b.size → κ.kle (KK κ a n) (KK κ b n')) : Mv κ a b (o ++ a.extract i (i + k)) (i + k) j := by
  have e : (o ++ a.extract i (i + k)).toList = o.toList ++ (a.toList.drop i).take k := by
    rw [Array.toList_append, Array.toList_extract, List.extract_eq_take_drop, Nat.add_sub_cancel_left]
  have mm : ∀ p ∈ o.toList ++ (a.toList.drop i).take k, p ∈ o.toList ∨ ∃ n, i ≤ n ∧ n < i + k ∧ kv κ p = KK κ a n := fun p hp => by
    rcases List.mem_append.mp hp with hp | hp
    · exact .inl hp
    · obtain ⟨n, h1, h2, h3, h4⟩ := mem_part hp
      exact .inr ⟨n, h1, h2, kv_at h4⟩
  refine ⟨hk, m.hb, ?_, ?_, fun p hp n h1 h2 => ?_, fun p hp n h1 h2 => ?_⟩
  · rw [e, List.take_add, List.append_assoc]
    refine (m.pm.append_right _).trans ?_
    rw [List.append_assoc]
    exact List.Perm.append_left _ List.perm_append_comm
  · rw [e]
    refine List.pairwise_append.mpr ⟨m.so, ((srt_part sa).sublist ((List.take_sublist _ _).trans (List.drop_sublist _ _))), fun p hp q hq => ?_⟩
    obtain ⟨n, h1, h2, h3, h4⟩ := mem_part hq
    rw [kv_at h4]
    exact m.ba p hp n h1 h3
  · rw [e] at hp
    rcases mm p hp with hp | ⟨n', y1, y2, y3⟩
    · exact m.ba p hp n (by omega) h2
    · rw [y3]; exact sa n' n (Nat.zero_le _) (by omega) h2
  · rw [e] at hp
    rcases mm p hp with hp | ⟨n', y1, y2, y3⟩
    · exact m.bb p hp n h1 h2
    · rw [y3]; exact hc n' y1 y2 n h1 h2
theorem Mv.addB (m : Mv κ a b o i j) (sb : Srt κ b 0 b.size) (hk : j + k ≤ b.size) (hc : ∀ n, j ≤ n → n < j + k → ∀ n', i ≤ n' → n' < a.size → κ.kle (KK κ b n) (KK κ a n')) : Mv κ a b (o ++ b.extract j (j + k)) i (j + k) := (m.swap.addA sb hk hc).swap
def Res (κ : PyProof.Rows.KeyKind) (a b r : Array Keyed) : Prop := r.toList.Perm (a.toList ++ b.toList) ∧ SL κ r.toList
theorem Mv.res (m : Mv κ a b o a.size b.size) : Res κ a b o := ⟨by
  have := m.pm
  rwa [List.take_of_length_le (by simp), List.take_of_length_le (by simp)] at this, m.so⟩
theorem Mv.fin (m : Mv κ a b o i j) (sa : Srt κ a 0 a.size) (sb : Srt κ b 0 b.size) (h : i = a.size ∨ j = b.size) : Res κ a b (o ++ a.extract i a.size ++ b.extract j b.size) := by
  have h1 := m.ha
  have h2 := m.hb
  have x := m.addA (k := a.size - i) sa (by omega) (fun n y1 y2 n' y3 y4 => by omega)
  rw [show i + (a.size - i) = a.size by omega] at x
  have y := x.addB (k := b.size - j) sb (by omega) (fun n y1 y2 n' y3 y4 => by omega)
  rw [show j + (b.size - j) = b.size by omega] at y
  exact y.res
theorem Mv.start : Mv κ a b #[] 0 0 := ⟨Nat.zero_le _, Nat.zero_le _, by simp, List.Pairwise.nil, fun p hp => by simp at hp, fun p hp => by simp at hp⟩
end
end TS

namespace TS
open PySem PyProof.Rows
set_option autoImplicit false
structure Same (st st' : SortSt) : Prop where
  kind : kindOf st' = kindOf st
  good : failedOf st' = failedOf st
  arr : arrOf st' = arrOf st
  pend : pendingOf st' = pendingOf st
theorem Same.refl (st : SortSt) : Same st st := ⟨rfl, rfl, rfl, rfl⟩
theorem Same.trans {a b c : SortSt} (x : Same a b) (y : Same b c) : Same a c := ⟨y.kind.trans x.kind, y.good.trans x.good, y.arr.trans x.arr, y.pend.trans x.pend⟩
structure Pre (κ : PyProof.Rows.KeyKind) (a b : Array Keyed) : Prop where
  ka : KeysOf κ a
  kb : KeysOf κ b
  sa : Srt κ a 0 a.size
  sb : Srt κ b 0 b.size
  na : 0 < a.size
  nb : 0 < b.size
  fst : ∀ n, n < a.size → κ.kle (KK κ b 0) (KK κ a n)
  lst : ∀ n, n < b.size → κ.kle (KK κ b n) (KK κ a (a.size - 1))
section
variable {M : Model} {A : Around} {E : Value → Shared → Prop} {s : Shared} {κ : PyProof.Rows.KeyKind} {sk : SortKind} {st st0 : SortSt} {a b o : Array Keyed} {i j g ca cb n : Nat}
structure Mid (κ : PyProof.Rows.KeyKind) (a b o : Array Keyed) (i j : Nat) : Prop where
  mv : Mv κ a b o i j
  ia : i + 1 < a.size
  jb : j < b.size
end
end TS

namespace TS
open PySem PyProof.Rows
set_option autoImplicit false
structure Hv (κ : PyProof.Rows.KeyKind) (a b o : Array Keyed) (i j : Nat) : Prop where
  ha : i ≤ a.size
  hb : j ≤ b.size
  pm : o.toList.Perm (a.toList.drop i ++ b.toList.drop j)
  so : SL κ o.toList.reverse
  ba : ∀ p ∈ o.toList, ∀ n, n < i → κ.kle (KK κ a n) (kv κ p)
  bb : ∀ p ∈ o.toList, ∀ n, n < j → κ.kle (KK κ b n) (kv κ p)
section
variable {κ : PyProof.Rows.KeyKind} {a b o : Array Keyed} {i j t : Nat}
theorem Hv.swap (m : Hv κ a b o i j) : Hv κ b a o j i := ⟨m.hb, m.ha, m.pm.trans List.perm_append_comm, m.so, m.bb, m.ba⟩
theorem Hv.addA (m : Hv κ a b o i j) (sa : Srt κ a 0 a.size) (ht : t ≤ i) (hc : ∀ n, t ≤ n → n < i → ∀ n', n' < j → κ.kle (KK κ b n') (KK κ a n)) : Hv κ a b (o ++ (a.extract t i).reverse) t j := by
  have hi := m.ha
  have e : (o ++ (a.extract t i).reverse).toList = o.toList ++ ((a.toList.drop t).take (i - t)).reverse := by
    rw [Array.toList_append, Array.toList_reverse, Array.toList_extract, List.extract_eq_take_drop]
  have mm : ∀ p ∈ o.toList ++ ((a.toList.drop t).take (i - t)).reverse, p ∈ o.toList ∨ ∃ n, t ≤ n ∧ n < i ∧ kv κ p = KK κ a n := fun p hp => by
    rcases List.mem_append.mp hp with hp | hp
    · exact .inl hp
    · obtain ⟨n, h1, h2, h3, h4⟩ := mem_part (List.mem_reverse.mp hp)
      exact .inr ⟨n, h1, by omega, kv_at h4⟩
  have spl : a.toList.drop t = (a.toList.drop t).take (i - t) ++ a.toList.drop i := by
    have := (List.take_append_drop (i - t) (a.toList.drop t)).symm
    rwa [List.drop_drop, show t + (i - t) = i by omega] at this
  refine ⟨by omega, m.hb, ?_, ?_, fun p hp n h1 => ?_, fun p hp n h1 => ?_⟩
  · rw [e]
    refine List.Perm.trans ?_ (List.Perm.of_eq (congrArg (fun l => l ++ b.toList.drop j) spl.symm))
    refine (m.pm.append_right _).trans (List.perm_append_comm.trans ?_)
    rw [← List.append_assoc]
    exact ((List.reverse_perm _).append_right _).append_right _
  · rw [e, List.reverse_append, List.reverse_reverse]
    refine List.pairwise_append.mpr ⟨((srt_part sa).sublist ((List.take_sublist _ _).trans (List.drop_sublist _ _))), m.so, fun p hp q hq => ?_⟩
    obtain ⟨n, h1, h2, h3, h4⟩ := mem_part hp
    rw [kv_at h4]
    exact m.ba q (List.mem_reverse.mp hq) n (by omega)
  · rw [e] at hp
    rcases mm p hp with hp | ⟨n', y1, y2, y3⟩
    · exact m.ba p hp n (by omega)
    · rw [y3]; exact sa n n' (Nat.zero_le _) (by omega) (by omega)
  · rw [e] at hp
    rcases mm p hp with hp | ⟨n', y1, y2, y3⟩
    · exact m.bb p hp n h1
    · rw [y3]; exact hc n' y1 y2 n h1
theorem Hv.addB (m : Hv κ a b o i j) (sb : Srt κ b 0 b.size) (ht : t ≤ j) (hc : ∀ n, t ≤ n → n < j → ∀ n', n' < i → κ.kle (KK κ a n') (KK κ b n)) : Hv κ a b (o ++ (b.extract t j).reverse) i t := (m.swap.addA sb ht hc).swap
theorem Hv.res {r : Array Keyed} (m : Hv κ a b o 0 0) (e : r.toList = o.toList.reverse) : Res κ a b r := ⟨by
  rw [e]
  have := m.pm
  rw [List.drop_zero, List.drop_zero] at this
  exact (List.reverse_perm _).trans this, by rw [e]; exact m.so⟩
theorem Hv.fin (m : Hv κ a b o i j) (sa : Srt κ a 0 a.size) (sb : Srt κ b 0 b.size) (h : i = 0 ∨ j = 0) : Res κ a b (a.extract 0 i ++ b.extract 0 j ++ o.reverse) := by
  have x := m.addB (t := 0) sb (Nat.zero_le _) (fun n y1 y2 n' y3 => by omega)
  have y := x.addA (t := 0) sa (Nat.zero_le _) (fun n y1 y2 n' y3 => by omega)
  exact y.res (by simp)
theorem Hv.start : Hv κ a b #[] a.size b.size := ⟨Nat.le_refl _, Nat.le_refl _, by simp, List.Pairwise.nil, fun p hp => by simp at hp, fun p hp => by simp at hp⟩
end
section
variable {M : Model} {A : Around} {E : Value → Shared → Prop} {s : Shared} {κ : PyProof.Rows.KeyKind} {sk : SortKind} {st st0 : SortSt} {a b o : Array Keyed} {i j g ca cb n : Nat}
structure Mih (κ : PyProof.Rows.KeyKind) (a b o : Array Keyed) (i j : Nat) : Prop where
  mv : Hv κ a b o i j
  ia : 0 < i
  jb : 1 < j
end
end TS

namespace TS
open PySem PyProof.Rows
set_option autoImplicit false
section
variable {M : Model} {A : Around} {E : Value → Shared → Prop} {s : Shared} {κ : PyProof.Rows.KeyKind} {sk : SortKind} {st : SortSt}
end
end TS

namespace TS
open PySem PyProof.Rows
set_option autoImplicit false
def Runs (κ : PyProof.Rows.KeyKind) (arr : Array Keyed) : Nat → List (Nat × Nat) → Nat → Prop
  | b, [], e => b = e
  | b, (s, n) :: r, e => s = b ∧ 0 < n ∧ Srt κ arr b (b + n) ∧ Runs κ arr (b + n) r e
abbrev prs (p : Array (Nat × Nat × Nat)) : List (Nat × Nat) := p.toList.map fun t => (t.1, t.2.1)
section
variable {κ : PyProof.Rows.KeyKind} {arr arr' : Array Keyed}
theorem Runs.le : ∀ {l : List (Nat × Nat)} {b e : Nat}, Runs κ arr b l e → b + l.length ≤ e
  | [], b, e, h => by cases h; simp
  | (s, n) :: r, b, e, h => by
    obtain ⟨_, h1, _, h2⟩ := h
    have := Runs.le h2
    rw [List.length_cons]; omega
theorem Runs.append : ∀ {l1 l2 : List (Nat × Nat)} {b e : Nat}, Runs κ arr b (l1 ++ l2) e ↔ ∃ m, Runs κ arr b l1 m ∧ Runs κ arr m l2 e
  | [], l2, b, e => ⟨fun h => ⟨b, rfl, h⟩, fun ⟨m, h1, h2⟩ => by cases h1; exact h2⟩
  | (s, n) :: r, l2, b, e => ⟨fun ⟨h1, h2, h3, h4⟩ => let ⟨m, h5, h6⟩ := Runs.append.mp h4; ⟨m, ⟨h1, h2, h3, h5⟩, h6⟩, fun ⟨m, ⟨h1, h2, h3, h4⟩, h5⟩ => ⟨h1, h2, h3, Runs.append.mpr ⟨m, h4, h5⟩⟩⟩
theorem Runs.congr : ∀ {l : List (Nat × Nat)} {b e : Nat}, (∀ k, b ≤ k → k < e → KK κ arr' k = KK κ arr k) → Runs κ arr b l e → Runs κ arr' b l e
  | [], b, e, _, h => h
  | (s, n) :: r, b, e, hk, ⟨h1, h2, h3, h4⟩ => by
    have := h4.le
    exact ⟨h1, h2, fun i j y1 y2 y3 => by rw [hk i y1 (by omega), hk j (by omega) (by omega)]; exact h3 i j y1 y2 y3, Runs.congr (fun k y1 y2 => hk k (by omega) y2) h4⟩
end
section
variable {M : Model} {A : Around} {E : Value → Shared → Prop} {s : Shared} {κ : PyProof.Rows.KeyKind} {sk : SortKind} {st : SortSt}
structure Bt (κ : PyProof.Rows.KeyKind) (sk : SortKind) (st0 : SortSt) (e : Nat) (st : SortSt) : Prop where
  ok : Ok κ sk st
  perm : (arrOf st).Perm (arrOf st0)
  runs : Runs κ (arrOf st) 0 (prs (pendingOf st)) e
end
end TS

namespace TS
open PySem PyProof.Rows
set_option autoImplicit false
section
variable {prog : Program} {w : World} {A : Around} {E : Value → Shared → Prop} {s : Shared} {κ : PyProof.Rows.KeyKind} {sk : SortKind}
end
end TS

namespace TS
open PySem PyProof.Rows
set_option autoImplicit false
theorem lx_irr : ∀ a, HT.lexLt a a = false
  | [] => rfl
  | x :: xs => by rw [HT.lexLt_cons, if_pos rfl]; exact lx_irr xs
theorem lx_trans : ∀ a b c, HT.lexLt a b = true → HT.lexLt b c = true → HT.lexLt a c = true
  | [], [], _, h, _ => by cases h
  | [], _ :: _, [], _, h => by cases h
  | [], _ :: _, _ :: _, _, _ => rfl
  | _ :: _, [], _, h, _ => by cases h
  | _ :: _, _ :: _, [], _, h => by cases h
  | x :: xs, y :: ys, z :: zs, h1, h2 => by
    rw [HT.lexLt_cons] at h1 h2 ⊢
    by_cases c1 : x = y
    · rw [if_pos c1] at h1
      by_cases c2 : y = z
      · rw [if_pos c2] at h2; rw [if_pos (c1.trans c2)]; exact lx_trans xs ys zs h1 h2
      · rw [if_neg c2] at h2; rw [c1, if_neg c2]; exact h2
    · rw [if_neg c1] at h1
      have h1 := of_decide_eq_true h1
      by_cases c2 : y = z
      · rw [if_neg (by omega)]; exact decide_eq_true (by omega)
      · rw [if_neg c2] at h2
        have h2 := of_decide_eq_true h2
        rw [if_neg (by omega)]; exact decide_eq_true (by omega)
theorem lx_tot : ∀ a b, HT.lexLt a b = false → HT.lexLt b a = false → a = b
  | [], [], _, _ => rfl
  | [], _ :: _, h, _ => by cases h
  | _ :: _, [], _, h => by cases h
  | x :: xs, y :: ys, h1, h2 => by
    rw [HT.lexLt_cons] at h1 h2
    by_cases c : x = y
    · rw [if_pos c] at h1; rw [if_pos c.symm] at h2
      rw [c, lx_tot xs ys h1 h2]
    · rw [if_neg c] at h1; rw [if_neg (Ne.symm c)] at h2
      have h1 := of_decide_eq_false h1
      have h2 := of_decide_eq_false h2
      omega
section
variable {prog : Program} {w : World} {A : Around} {E : Value → Shared → Prop} {s : Shared}
end
end TS

namespace ST
open PySem PySem.SetTable
set_option autoImplicit false
def walk (t : SetTable) (p : Probe) : Nat → Probe
  | 0 => p
  | n + 1 => t.advance (walk t p n)
theorem walk_add (t : SetTable) (p : Probe) (m : Nat) : ∀ n, walk t p (m + n) = walk t (walk t p m) n
  | 0 => rfl
  | n + 1 => by
    show t.advance (walk t p (m + n)) = t.advance (walk t (walk t p m) n)
    rw [walk_add t p m n]
theorem adv_mask {t u : SetTable} (h : t.mask = u.mask) (p : Probe) : t.advance p = u.advance p := by
  unfold advance; rw [h]
theorem walk_mask {t u : SetTable} (h : t.mask = u.mask) (p : Probe) : ∀ n, walk t p n = walk u p n
  | 0 => rfl
  | n + 1 => by
    show t.advance (walk t p n) = u.advance (walk u p n)
    rw [walk_mask h p n, adv_mask h]
def jump (mask : Nat) : Nat → Nat × Nat → Nat × Nat
  | 0, x => x
  | m + 1, x => let y := jump mask m x; leap mask y.1 y.2
def atJump (mask : Nat) (x : Nat × Nat) : Probe := { j := x.1, more := runEnd mask x.1 - x.1, i := x.1, perturb := x.2, dummy := none }
theorem run_le (mask i : Nat) : runEnd mask i - i ≤ 9 := by unfold runEnd; split <;> omega
theorem walk_run {t : SetTable} {p : Probe} : ∀ {n : Nat}, n ≤ p.more → walk t p n = { p with j := p.j + n, more := p.more - n }
  | 0, _ => rfl
  | n + 1, h => by
    show t.advance (walk t p n) = _
    rw [walk_run (n := n) (by omega)]
    unfold advance
    rw [if_pos (by show p.more - n > 0; omega)]
    show ({ j := p.j + n + 1, more := p.more - n - 1, i := p.i, perturb := p.perturb, dummy := p.dummy } : Probe) = { j := p.j + (n + 1), more := p.more - (n + 1), i := p.i, perturb := p.perturb, dummy := p.dummy }
    congr 1
theorem walk_leap {t : SetTable} {x : Nat × Nat} : walk t (atJump t.mask x) (runEnd t.mask x.1 - x.1 + 1) = atJump t.mask (leap t.mask x.1 x.2) := by
  show t.advance (walk t (atJump t.mask x) (runEnd t.mask x.1 - x.1)) = _
  have e := walk_run (t := t) (p := atJump t.mask x) (n := runEnd t.mask x.1 - x.1) (Nat.le_refl _)
  rw [e]
  unfold advance
  rw [if_neg (by show ¬ ((runEnd t.mask x.1 - x.1) - (runEnd t.mask x.1 - x.1) > 0); omega)]
  rfl
theorem walk_jump {t : SetTable} {x : Nat × Nat} : ∀ m, ∃ n, n ≤ 10 * m ∧ walk t (atJump t.mask x) n = atJump t.mask (jump t.mask m x)
  | 0 => ⟨0, Nat.le_refl _, rfl⟩
  | m + 1 => by
    obtain ⟨n, h1, h2⟩ := walk_jump (t := t) (x := x) m
    have := run_le t.mask (jump t.mask m x).1
    refine ⟨n + (runEnd t.mask (jump t.mask m x).1 - (jump t.mask m x).1 + 1), by omega, ?_⟩
    rw [walk_add, h2, walk_leap]; rfl
theorem start_jump (t : SetTable) (h : Int) : t.probeStart h = atJump t.mask (bits h % (t.mask + 1), bits h) := rfl
theorem jump_add (mask : Nat) (x : Nat × Nat) (m : Nat) : ∀ n, jump mask (m + n) x = jump mask n (jump mask m x)
  | 0 => rfl
  | n + 1 => by
    show leap mask (jump mask (m + n) x).1 (jump mask (m + n) x).2 = leap mask (jump mask n (jump mask m x)).1 (jump mask n (jump mask m x)).2
    rw [jump_add mask x m n]
theorem jump_pert (mask : Nat) (x : Nat × Nat) : ∀ m, (jump mask m x).2 = x.2 / 32 ^ m
  | 0 => by simp [jump]
  | m + 1 => by
    show (jump mask m x).2 / 32 = _
    rw [jump_pert mask x m, Nat.div_div_eq_div_mul, Nat.pow_succ]
theorem bits_lt (h : Int) : bits h < 2 ^ 64 := by
  unfold bits
  have := Int.emod_nonneg h (b := 2 ^ 64) (by decide)
  have h2 := Int.emod_lt_of_pos h (b := 2 ^ 64) (by decide)
  omega
theorem pert13 (mask : Nat) (i : Nat) (h : Int) : (jump mask 13 (i, bits h)).2 = 0 := by
  rw [jump_pert]
  exact Nat.div_eq_of_lt (Nat.lt_of_lt_of_le (bits_lt h) (by decide))
def plain (mask : Nat) : Nat → Nat → Nat
  | 0, i => i
  | m + 1, i => (plain mask m i * 5 + 1) % (mask + 1)
theorem plain_add (mask i m : Nat) : ∀ n, plain mask (m + n) i = plain mask n (plain mask m i)
  | 0 => rfl
  | n + 1 => by
    show (plain mask (m + n) i * 5 + 1) % (mask + 1) = (plain mask n (plain mask m i) * 5 + 1) % (mask + 1)
    rw [plain_add mask i m n]
theorem jump_plain (mask i : Nat) : ∀ m, jump mask m (i, 0) = (plain mask m i, 0)
  | 0 => rfl
  | m + 1 => by
    show leap mask (jump mask m (i, 0)).1 (jump mask m (i, 0)).2 = _
    rw [jump_plain mask i m]
    show ((plain mask m i * 5 + 1 + 0 / 32) % (mask + 1), 0 / 32) = ((plain mask m i * 5 + 1) % (mask + 1), 0)
    rw [Nat.zero_div, Nat.add_zero]
def Mask (mask : Nat) : Prop := mask = 7 ∨ mask = 31 ∨ mask = 127 ∨ mask = 511
def orbit (mask : Nat) : Nat → Nat → List Nat
  | 0, _ => []
  | n + 1, i => i :: orbit mask n ((i * 5 + 1) % (mask + 1))
theorem plain_succ (mask i : Nat) : ∀ m, plain mask (m + 1) i = plain mask m ((i * 5 + 1) % (mask + 1)) := fun m => by
  rw [Nat.add_comm, plain_add]; rfl
theorem orbit_mem {mask : Nat} : ∀ {n i b : Nat}, b ∈ orbit mask n i → ∃ m, m < n ∧ plain mask m i = b
  | 0, _, _, h => by cases h
  | n + 1, i, b, h => by
    rcases List.mem_cons.mp h with h | h
    · exact ⟨0, by omega, h.symm⟩
    · obtain ⟨m, h1, h2⟩ := orbit_mem h
      exact ⟨m + 1, by omega, by rw [plain_succ]; exact h2⟩
def roundB (mask : Nat) : Bool := (List.range (mask + 1)).all (fun b => (orbit mask (mask + 1) 0).contains b) && plain mask (mask + 1) 0 == 0
theorem round_ok {mask : Nat} (h : Mask mask) : roundB mask = true := by
  rcases h with rfl | rfl | rfl | rfl <;> decide +kernel
theorem plain_all {mask a b : Nat} (h : Mask mask) (ha : a ≤ mask) (hb : b ≤ mask) : ∃ m, m ≤ mask ∧ plain mask m a = b := by
  have r := round_ok h
  unfold roundB at r
  rw [Bool.and_eq_true] at r
  have r1 : ∀ c, c ≤ mask → ∃ m, m < mask + 1 ∧ plain mask m 0 = c := fun c hc => by
    have := List.all_eq_true.mp r.1 c (List.mem_range.mpr (by omega))
    exact orbit_mem (List.contains_iff_mem.mp this)
  have r2 : plain mask (mask + 1) 0 = 0 := by simpa using r.2
  obtain ⟨p, p1, p2⟩ := r1 a ha
  obtain ⟨q, q1, q2⟩ := r1 b hb
  by_cases c : p ≤ q
  · refine ⟨q - p, by omega, ?_⟩
    rw [← p2, ← plain_add, show p + (q - p) = q by omega, q2]
  · refine ⟨mask + 1 - p + q, by omega, ?_⟩
    rw [← p2, ← plain_add, show p + (mask + 1 - p + q) = mask + 1 + q by omega, plain_add, r2, q2]
theorem jump_le {mask : Nat} {x : Nat × Nat} (h : x.1 ≤ mask) : ∀ m, (jump mask m x).1 ≤ mask
  | 0 => h
  | m + 1 => by
    show ((jump mask m x).1 * 5 + 1 + (jump mask m x).2 / 32) % (mask + 1) ≤ mask
    have := Nat.mod_lt ((jump mask m x).1 * 5 + 1 + (jump mask m x).2 / 32) (show 0 < mask + 1 by omega)
    omega
theorem jump_all {mask : Nat} (hm : Mask mask) (h : Int) {b : Nat} (hb : b ≤ mask) : ∃ m, m ≤ mask + 13 ∧ (jump mask m (bits h % (mask + 1), bits h)).1 = b := by
  have h0 : bits h % (mask + 1) ≤ mask := by
    have := Nat.mod_lt (bits h) (show 0 < mask + 1 by omega)
    omega
  obtain ⟨m, h1, h2⟩ := plain_all hm (jump_le (x := (bits h % (mask + 1), bits h)) h0 13) hb
  refine ⟨13 + m, by omega, ?_⟩
  have e : jump mask 13 (bits h % (mask + 1), bits h) = ((jump mask 13 (bits h % (mask + 1), bits h)).1, 0) := by
    apply Prod.ext
    · rfl
    · exact pert13 mask _ h
  rw [jump_add, e, jump_plain]
  exact h2
theorem walk_all {t : SetTable} (hm : Mask t.mask) (h : Int) {b : Nat} (hb : b ≤ t.mask) : ∃ n, n ≤ 10 * (t.mask + 13) ∧ (walk t (t.probeStart h) n).j = b := by
  obtain ⟨m, h1, h2⟩ := jump_all hm h hb
  obtain ⟨n, h3, h4⟩ := walk_jump (t := t) (x := (bits h % (t.mask + 1), bits h)) m
  refine ⟨n, by omega, ?_⟩
  rw [start_jump, h4]; exact h2
end ST

namespace ST
open PySem PySem.SetTable
set_option autoImplicit false
def Ris (xs : Array Nat) : Prop := ∀ (i j x y : Nat), xs[i]? = some x → xs[j]? = some y → i < j → x < y
theorem below_go {xs : Array Nat} {j : Nat} (r : Ris xs) : ∀ (fuel lo hi : Nat), lo ≤ hi → hi ≤ xs.size → hi - lo ≤ fuel → (∀ (i x : Nat), i < lo → xs[i]? = some x → x < j) → (∀ (i x : Nat), hi ≤ i → xs[i]? = some x → j ≤ x) →
    below.go xs j fuel lo hi ≤ xs.size ∧ (∀ (i x : Nat), i < below.go xs j fuel lo hi → xs[i]? = some x → x < j) ∧ (∀ (i x : Nat), below.go xs j fuel lo hi ≤ i → xs[i]? = some x → j ≤ x)
  | 0, lo, hi, h1, h2, h3, h4, h5 => by
    obtain rfl : lo = hi := by omega
    exact ⟨h2, h4, h5⟩
  | fuel + 1, lo, hi, h1, h2, h3, h4, h5 => by
    unfold below.go
    by_cases c : lo < hi
    · rw [if_pos c]
      have hm : (lo + hi) / 2 < xs.size := by omega
      have e : xs[(lo + hi) / 2]? = some (xs[(lo + hi) / 2]'hm) := getElem?_pos xs _ hm
      have eD : xs.getD ((lo + hi) / 2) j = xs[(lo + hi) / 2] := by rw [Array.getD_eq_getD_getElem?, e]; rfl
      dsimp only
      rw [eD]
      by_cases c2 : xs[(lo + hi) / 2] < j
      · rw [if_pos c2]
        refine below_go r fuel _ _ (by omega) h2 (by omega) (fun i x y1 y2 => ?_) h5
        by_cases c3 : i = (lo + hi) / 2
        · subst c3; rw [e] at y2; cases y2; exact c2
        · exact Nat.lt_trans (r i _ x _ y2 e (by omega)) c2
      · rw [if_neg c2]
        refine below_go r fuel _ _ (by omega) (by omega) (by omega) h4 (fun i x y1 y2 => ?_)
        by_cases c3 : i = (lo + hi) / 2
        · subst c3; rw [e] at y2; cases y2; omega
        · have := r _ i _ x e y2 (by omega); omega
    · rw [if_neg c]
      obtain rfl : lo = hi := by omega
      exact ⟨h2, h4, h5⟩
theorem below_ok {xs : Array Nat} (r : Ris xs) (j : Nat) : below xs j ≤ xs.size ∧ (∀ (i x : Nat), i < below xs j → xs[i]? = some x → x < j) ∧ (∀ (i x : Nat), below xs j ≤ i → xs[i]? = some x → j ≤ x) :=
  below_go r xs.size 0 xs.size (Nat.zero_le _) (Nat.le_refl _) (by omega) (fun i x h => by omega) (fun i x h e => by
    have := (Array.getElem?_eq_some_iff.mp e).1; omega)
theorem below_at {xs : Array Nat} (r : Ris xs) {i j : Nat} (e : xs[i]? = some j) : below xs j = i := by
  obtain ⟨h1, h2, h3⟩ := below_ok r j
  rcases Nat.lt_trichotomy (below xs j) i with c | c | c
  · have hb : below xs j < xs.size := Nat.lt_trans c (Array.getElem?_eq_some_iff.mp e).1
    have e2 : xs[below xs j]? = some (xs[below xs j]'hb) := getElem?_pos xs _ hb
    have y1 := h3 _ _ (Nat.le_refl _) e2
    have y2 := r _ _ _ _ e2 e c
    omega
  · exact c
  · have := h2 i j c e; omega
theorem slot_live {t : SetTable} (r : Ris t.place) {i j : Nat} (e : t.place[i]? = some j) : t.slot j = .live i := by
  unfold slot
  rw [below_at r e]
  dsimp only
  rw [if_pos (by rw [e]; exact beq_self_eq_true _)]
theorem slot_empty {t : SetTable} (hd : t.dummies = #[]) {j : Nat} (e : ∀ i : Nat, t.place[i]? ≠ some j) : t.slot j = .empty := by
  unfold slot
  dsimp only
  rw [if_neg (by rw [beq_iff_eq]; exact e _)]
  unfold has
  rw [hd]
  rfl
def In (t : SetTable) (j : Nat) : Prop := ∃ i : Nat, t.place[i]? = some j
def Rch (t : SetTable) (h : Int) (j : Nat) : Prop := ∃ n, (walk t (t.probeStart h) n).j = j ∧ ∀ m, m < n → In t (walk t (t.probeStart h) m).j
structure Tab (t : SetTable) (es : Array (Int × Value)) : Prop where
  mm : Mask t.mask
  nd : t.dummies = #[]
  sz : t.place.size = es.size
  lt : t.place.size ≤ t.mask
  ri : Ris t.place
  bd : ∀ j, In t j → j ≤ t.mask
  rc : ∀ (i j : Nat) (e : Int × Value), t.place[i]? = some j → es[i]? = some e → Rch t e.1 j
theorem pigeon : ∀ (n : Nat) (l : List Nat), (∀ b, b < n → b ∈ l) → n ≤ l.length
  | 0, _, _ => Nat.zero_le _
  | n + 1, l, h => by
    have h1 := h n (by omega)
    have := pigeon n (l.erase n) fun b hb => (List.mem_erase_of_ne (by omega)).mpr (h b (by omega))
    rw [List.length_erase_of_mem h1] at this
    have := List.length_pos_of_mem h1
    omega
theorem least (P : Nat → Prop) [DecidablePred P] : ∀ (n : Nat), P n → ∃ e, e ≤ n ∧ P e ∧ ∀ m, m < e → ¬ P m
  | 0, h => ⟨0, Nat.le_refl _, h, fun m hm => by omega⟩
  | n + 1, h => by
    by_cases c : ∃ m, m < n + 1 ∧ P m
    · obtain ⟨m, h1, h2⟩ := c
      have key : ∀ (k : Nat) (q : Nat), q ≤ k → P q → ∃ e, e ≤ q ∧ P e ∧ ∀ m, m < e → ¬ P m := by
        intro k
        induction k with
        | zero => intro q hq pq; obtain rfl : q = 0 := by omega
                  exact ⟨0, Nat.le_refl _, pq, fun m hm => by omega⟩
        | succ k ih =>
          intro q hq pq
          by_cases c2 : ∃ m, m < q ∧ P m
          · obtain ⟨m', a1, a2⟩ := c2
            obtain ⟨e, b1, b2, b3⟩ := ih m' (by omega) a2
            exact ⟨e, by omega, b2, b3⟩
          · exact ⟨q, Nat.le_refl _, pq, fun m hm pm => c2 ⟨m, hm, pm⟩⟩
      obtain ⟨e, a1, a2, a3⟩ := key m m (Nat.le_refl _) h2
      exact ⟨e, by omega, a2, a3⟩
    · exact ⟨n + 1, Nat.le_refl _, h, fun m hm pm => c ⟨m, hm, pm⟩⟩
theorem in_iff {t : SetTable} {j : Nat} : In t j ↔ j ∈ t.place.toList := by
  unfold In
  rw [List.mem_iff_getElem?]
  simp only [Array.getElem?_toList]
instance {t : SetTable} (h : Int) : DecidablePred fun n => ¬ In t (walk t (t.probeStart h) n).j := fun n =>
  decidable_of_iff (¬ (walk t (t.probeStart h) n).j ∈ t.place.toList) (not_congr in_iff.symm)
theorem first_free {t : SetTable} {es : Array (Int × Value)} (T : Tab t es) (h : Int) : ∃ e, e ≤ 10 * (t.mask + 13) ∧ (¬ In t (walk t (t.probeStart h) e).j) ∧ ∀ m, m < e → In t (walk t (t.probeStart h) m).j := by
  have hb : ∃ b, b ≤ t.mask ∧ ¬ In t b := by
    refine Classical.byContradiction fun c => ?_
    have := pigeon (t.mask + 1) t.place.toList fun b hb => in_iff.mp (Classical.byContradiction fun z => c ⟨b, by omega, z⟩)
    have := T.lt
    simp at *
    omega
  obtain ⟨b, h1, h2⟩ := hb
  obtain ⟨n, h3, h4⟩ := walk_all T.mm h h1
  obtain ⟨e, y1, y2, y3⟩ := least (fun n => ¬ In t (walk t (t.probeStart h) n).j) n (by show ¬ In t _; rw [h4]; exact h2)
  exact ⟨e, by omega, y2, fun m hm => Classical.byContradiction fun z => y3 m hm z⟩
theorem walk_le {t : SetTable} (h : Int) : ∀ n, (walk t (t.probeStart h) n).j + (walk t (t.probeStart h) n).more ≤ t.mask := by
  have ri : ∀ i, i ≤ t.mask → i + (runEnd t.mask i - i) ≤ t.mask := fun i hi => by unfold runEnd; split <;> omega
  intro n
  induction n with
  | zero =>
    refine ri (bits h % (t.mask + 1)) ?_
    have := Nat.mod_lt (bits h) (show 0 < t.mask + 1 by omega)
    omega
  | succ n ih =>
    show (t.advance (walk t (t.probeStart h) n)).j + (t.advance (walk t (t.probeStart h) n)).more ≤ t.mask
    unfold advance
    split
    · rename_i c
      show (walk t (t.probeStart h) n).j + 1 + ((walk t (t.probeStart h) n).more - 1) ≤ t.mask
      omega
    · refine ri (((walk t (t.probeStart h) n).i * 5 + 1 + (walk t (t.probeStart h) n).perturb / 32) % (t.mask + 1)) ?_
      have := Nat.mod_lt ((walk t (t.probeStart h) n).i * 5 + 1 + (walk t (t.probeStart h) n).perturb / 32) (show 0 < t.mask + 1 by omega)
      omega
theorem Tab.congr {t t' : SetTable} {es : Array (Int × Value)} (T : Tab t es) (h1 : t'.mask = t.mask) (h2 : t'.place = t.place) (h3 : t'.dummies = t.dummies) : Tab t' es := by
  have wk : ∀ (h' : Int) n, walk t' (t'.probeStart h') n = walk t (t.probeStart h') n := fun h' n => by
    have e : t'.probeStart h' = t.probeStart h' := by unfold probeStart; rw [h1]
    rw [e]; exact walk_mask h1 _ n
  have ii : ∀ q, In t' q ↔ In t q := fun q => by unfold In; rw [h2]
  refine ⟨by rw [h1]; exact T.mm, h3.trans T.nd, by rw [h2]; exact T.sz, by rw [h1, h2]; exact T.lt, by rw [h2]; exact T.ri, fun j hj => by rw [h1]; exact T.bd j ((ii j).mp hj), fun i j e hi he => ?_⟩
  rw [h2] at hi
  obtain ⟨n, y1, y2⟩ := T.rc i j e hi he
  exact ⟨n, by rw [wk]; exact y1, fun m hm => by rw [wk]; exact (ii _).mpr (y2 m hm)⟩
end ST

namespace ST
open PySem PySem.SetTable
set_option autoImplicit false
structure SKind (prog : Program) (w : World) (K : Type) [DecidableEq K] extends HeapKind prog w K where
  nocls : ∀ {A : Around} {E : Value → Shared → Prop} {s : Shared} {k : K} {a : Addr} {Q : Bool → Shared → Prop}, is s.heap k a → Q false s → wpAny (model prog w) A (ofAClassStatement 8 (.ref a)) Q E s
  byval : ∀ {A : Around} {E : Value → Shared → Prop} {s : Shared} {k : K} {a : Addr} {Q : Bool → Shared → Prop}, is s.heap k a → Q true s → wpAny (model prog w) A (hashByValue 8 (.ref a)) Q E s
  keepS : ∀ {h h' : Heap} {k : K} {a d : Addr} {o : Obj} {es : Array (Int × Value)} {ep : Nat} {t : SetTable}, is h k a → h.get? d = some o → o.data = .set es ep t → Heap.SameBut d h h' → is h' k a
section
variable {prog : Program} {w : World} {K : Type} [DecidableEq K] (knd : SKind prog w K)
structure Els (h : Heap) (es : Array (Int × Value)) (ks : List K) : Prop where
  len : ks.length = es.size
  at_ : ∀ (i : Nat) (k : K), ks[i]? = some k → ∃ ad, es[i]? = some (knd.hash k, .ref ad) ∧ knd.is h k ad
  nd : ks.Nodup
structure SetAt (h : Heap) (a : Addr) (es : Array (Int × Value)) (ep : Nat) (t : SetTable) (ks : List K) : Prop where
  ob : ∃ o, h.get? a = some o ∧ o.ExactSet ∧ o.data = .set es ep t
  tab : Tab t es
  els : Els knd h es ks
variable {knd} {A : Around} {E : Value → Shared → Prop} {s : Shared} {a x : Addr} {es : Array (Int × Value)} {ep : Nat} {t : SetTable} {ks : List K} {k : K}
theorem Els.idx {h : Heap} (e : Els knd h es ks) {i : Nat} (hi : i < es.size) : ∃ k ad, ks[i]? = some k ∧ es[i]? = some (knd.hash k, .ref ad) ∧ knd.is h k ad := by
  have hk : ks[i]? = some (ks[i]'(by rw [e.len]; exact hi)) := List.getElem?_eq_getElem _
  obtain ⟨ad, h1, h2⟩ := e.at_ i _ hk
  exact ⟨_, ad, hk, h1, h2⟩
theorem Tab.fits (T : Tab t es) : t.fits es.size = true := by
  unfold SetTable.fits fill
  rw [T.nd, T.sz]
  have := T.lt
  have := T.sz
  simp
  omega
theorem wp_state {Q : (Array (Int × Value) × Nat × SetTable) → Shared → Prop} (S : SetAt knd s.heap a es ep t ks) (q : Q (es, ep, t) s) : wpAny (model prog w) A (setState a) Q E s := by
  obtain ⟨o, ho, _, hd⟩ := S.ob
  exact wpAny_setState_of ho hd S.tab.fits q
theorem walk_dummy (t : SetTable) (h : Int) : ∀ n, (walk t (t.probeStart h) n).dummy = none
  | 0 => rfl
  | n + 1 => by
    show (t.advance (walk t (t.probeStart h) n)).dummy = none
    have ih := walk_dummy t h n
    unfold advance
    split
    · exact ih
    · exact ih
theorem go_walk (T : Tab t es) {hashAt : Nat → Int} {h : Int} {e : Nat} (h1 : ¬ In t (walk t (t.probeStart h) e).j) (h2 : ∀ m, m < e → In t (walk t (t.probeStart h) m).j) :
    ∀ (d m fuel : Nat), m + d = e → d < fuel →
      (∃ (m' i : Nat), m ≤ m' ∧ m' < e ∧ t.place[i]? = some (walk t (t.probeStart h) m').j ∧ hashAt i = h ∧ (∀ (q i' : Nat), m ≤ q → q < m' → t.place[i']? = some (walk t (t.probeStart h) q).j → hashAt i' ≠ h) ∧ probe.go t hashAt h fuel (walk t (t.probeStart h) m) = some (.candidate (walk t (t.probeStart h) m').j i (walk t (t.probeStart h) (m' + 1)))) ∨
      ((∀ (q i' : Nat), m ≤ q → q < e → t.place[i']? = some (walk t (t.probeStart h) q).j → hashAt i' ≠ h) ∧ probe.go t hashAt h fuel (walk t (t.probeStart h) m) = some (.empty (walk t (t.probeStart h) e).j none))
  | 0, m, fuel + 1, hm, _ => by
    obtain rfl : m = e := by omega
    refine .inr ⟨fun q i' y1 y2 => by omega, ?_⟩
    unfold probe.go
    rw [slot_empty T.nd (fun i z => h1 ⟨i, z⟩)]
    dsimp only
    rw [walk_dummy]
  | d + 1, m, fuel + 1, hm, hf => by
    obtain ⟨i, hi⟩ := h2 m (by omega)
    have uniq : ∀ i', t.place[i']? = some (walk t (t.probeStart h) m).j → i' = i := fun i' hi' => by
      rw [← below_at T.ri hi', ← below_at T.ri hi]
    unfold probe.go
    rw [slot_live T.ri hi]
    dsimp only
    by_cases c : hashAt i = h
    · refine .inl ⟨m, i, Nat.le_refl _, by omega, hi, c, fun q i' y1 y2 => by omega, ?_⟩
      rw [if_pos (by simpa using c)]; rfl
    · rw [if_neg (by simpa using c)]
      rcases go_walk T (hashAt := hashAt) h1 h2 d (m + 1) fuel (by omega) (by omega) with ⟨m', i2, y1, y2, y3, y4, y5, y6⟩ | ⟨y1, y2⟩
      · refine .inl ⟨m', i2, by omega, y2, y3, y4, fun q i' z1 z2 z3 => ?_, y6⟩
        by_cases cq : q = m
        · subst cq; rw [uniq i' z3]; exact c
        · exact y5 q i' (by omega) z2 z3
      · refine .inr ⟨fun q i' z1 z2 z3 => ?_, y2⟩
        by_cases cq : q = m
        · subst cq; rw [uniq i' z3]; exact c
        · exact y1 q i' (by omega) z2 z3
theorem look (T : Tab t es) {hashAt : Nat → Int} {h : Int} {e m d : Nat} {pr : Option Met} (h1 : ¬ In t (walk t (t.probeStart h) e).j) (h2 : ∀ m, m < e → In t (walk t (t.probeStart h) m).j) (hp : t.probe hashAt h (walk t (t.probeStart h) m) = pr) (hh : ∀ i, hashAt i = (es[i]?.map (·.1)).getD 0) (hm : m + d = e) (hd : d < 10 * turns t.mask) :
    (∃ (m' i : Nat), m ≤ m' ∧ m' < e ∧ t.place[i]? = some (walk t (t.probeStart h) m').j ∧ (es[i]?.map (·.1)).getD 0 = h ∧ (∀ (q i' : Nat), m ≤ q → q < m' → t.place[i']? = some (walk t (t.probeStart h) q).j → (es[i']?.map (·.1)).getD 0 ≠ h) ∧ pr = some (.candidate (walk t (t.probeStart h) m').j i (walk t (t.probeStart h) (m' + 1)))) ∨
      ((∀ (q i' : Nat), m ≤ q → q < e → t.place[i']? = some (walk t (t.probeStart h) q).j → (es[i']?.map (·.1)).getD 0 ≠ h) ∧ pr = some (.empty (walk t (t.probeStart h) e).j none)) := by
  have hf : hashAt = fun i => (es[i]?.map (·.1)).getD 0 := funext hh
  subst hf
  unfold probe at hp
  rcases go_walk T (hashAt := fun i => (es[i]?.map (·.1)).getD 0) h1 h2 d m _ hm hd with ⟨m', i, y1, y2, y3, y4, y5, y6⟩ | ⟨y1, y2⟩
  · exact .inl ⟨m', i, y1, y2, y3, y4, y5, hp.symm.trans y6⟩
  · exact .inr ⟨y1, hp.symm.trans y2⟩
theorem mask_odd {m : Nat} (h : Mask m) : (m % 2 == 0) = false := by rcases h with rfl | rfl | rfl | rfl <;> rfl
theorem mask_le {m : Nat} (h : Mask m) : m ≤ 511 ∧ 7 ≤ m := by rcases h with rfl | rfl | rfl | rfl <;> omega
theorem wp_unseen {Q : Bool → Shared → Prop} (hk : knd.is s.heap k x) : ∀ (l : List Value), (∀ y ∈ l, ∃ k' ad, y = .ref ad ∧ knd.is s.heap k' ad) → Q false s → wpAny (model prog w) A (searchCouldBeSeen (.ref x) l) Q E s := by
  intro l hl q
  unfold searchCouldBeSeen
  refine wpAny_bind ?_
  refine wpAny_forIn_list _ (fun rest c s' => c = (none, ()) ∧ s' = s ∧ ∀ y ∈ rest, ∃ k' ad, y = .ref ad ∧ knd.is s.heap k' ad) _ ?_ ?_ _ _ ⟨rfl, rfl, hl⟩
  · rintro y rest c s' ⟨rfl, rfl, hr⟩
    obtain ⟨k', ad, rfl, hy⟩ := hr y (.head _)
    have hr' : ∀ y ∈ rest, ∃ k' ad, y = .ref ad ∧ knd.is s'.heap k' ad := fun y hy => hr y (.tail _ hy)
    dsimp only
    split
    · exact wpAny_pure ⟨rfl, rfl, hr'⟩
    · refine wpAny_bind (knd.quiet hk ?_)
      simp only [Bool.not_true, Bool.false_eq_true, if_false]
      refine wpAny_bind (knd.quiet hy ?_)
      simp only [Bool.not_true, Bool.false_eq_true, if_false]
      refine wpAny_bind (knd.nocls hk ?_)
      simp only [Bool.false_eq_true, if_false]
      refine wpAny_bind (knd.nocls hy ?_)
      simp only [Bool.false_eq_true, if_false]
      exact wpAny_pure ⟨rfl, rfl, hr'⟩
  · rintro c s' ⟨rfl, rfl, _⟩
    exact wpAny_pure q
theorem wp_searchFrom {adding : Bool} {Q : SetFound → Shared → Prop} (S : SetAt knd s.heap a es ep t ks) (hr : knd.room A) (hk : knd.is s.heap k x) {e : Nat} (h1 : ¬ In t (walk t (t.probeStart (knd.hash k)) e).j) (h2 : ∀ m, m < e → In t (walk t (t.probeStart (knd.hash k)) m).j)
    (he : e ≤ 10 * (t.mask + 13)) (q1 : ∀ i : Nat, ks[i]? = some k → Q (.there (if adding then none else some i)) s) (q2 : k ∉ ks → Q (.free (walk t (t.probeStart (knd.hash k)) e).j false) s) :
    ∀ (d m fuel : Nat) (stand : Option Probe), m + d = e → d < fuel → stand.getD (t.probeStart (knd.hash k)) = walk t (t.probeStart (knd.hash k)) m → (∀ (q i : Nat), q < m → t.place[i]? = some (walk t (t.probeStart (knd.hash k)) q).j → ks[i]? ≠ some k) →
      wpAny (model prog w) A (setSearchFrom a (.ref x) (knd.hash k) adding fuel stand) Q E s := by
  intro d
  induction d using Nat.strongRecOn with
  | ind d ih =>
    intro m fuel stand hm hf hs hno
    cases fuel with
    | zero => omega
    | succ fuel =>
      unfold setSearchFrom
      refine wpAny_bind (wp_state S ?_)
      dsimp only
      have T := S.tab
      rw [if_neg (by unfold gaveWay; rw [mask_odd T.mm]; exact Bool.false_ne_true)]
      rw [hs]
      have hidx : ∀ (i j : Nat), t.place[i]? = some j → i < es.size := fun i j h => by rw [← T.sz]; exact (Array.getElem?_eq_some_iff.mp h).1
      generalize hp : t.probe _ _ _ = pr
      have bd : d < 10 * turns t.mask := by unfold turns; omega
      rcases look T h1 h2 hp (fun _ => rfl) hm bd with ⟨m', i, y1, y2, y3, y4, y5, rfl⟩ | ⟨y1, rfl⟩
      ·
        dsimp only
        obtain ⟨k', ad, g1, g2, g3⟩ := S.els.idx (hidx i _ y3)
        have front : wpAny (model prog w) A (do
            let some (_, v0) := es[i]? | unsupported "internal:set-entry"
            let eq1 ← holding [v0] (eqBool v0 (.ref x))
            let (fs, _, u) ← setState a
            if adding && eq1 then return .there none
            let some sam := u.sameMemory t.moves t.mask | unsupported "set.changed-during-lookup:is-the-new-block-at-the-old-address"
            let stl ← match (if sam then u.slot (walk t (t.probeStart (knd.hash k)) m').j else .empty) with
              | .live n1 => match fs[n1]? with
                | some (_, v1) => do pure (if ← isSame v1 v0 then some n1 else none)
                | none => pure none
              | _ => pure none
            match stl with
            | none => do rule "set.search.anew"; setSearchFrom a (.ref x) (knd.hash k) adding fuel none
            | some n1 => if eq1 then return .there (some n1) else setSearchFrom a (.ref x) (knd.hash k) adding fuel (some (walk t (t.probeStart (knd.hash k)) (m' + 1)))) Q E s := by
          rw [g2]
          dsimp only
          refine wpAny_bind (wpAny_holding (knd.eqBool hr g3 hk ?_))
          refine wpAny_bind (wp_state S ?_)
          dsimp only
          by_cases ck : k' = k
          · subst ck
            rw [decide_eq_true rfl]
            have q1' := q1 i g1
            cases adding with
            | true => exact wpAny_pure q1'
            | false =>
              simp only [Bool.false_and, Bool.false_eq_true, if_false]
              rw [show t.sameMemory t.moves t.mask = some true by unfold sameMemory; rw [if_pos (beq_self_eq_true _)]]
              dsimp only
              rw [if_pos rfl, slot_live T.ri y3]
              dsimp only
              rw [g2]
              dsimp only
              refine wpAny_bind (wpAny_isSame_ref_self (wpAny_bind (wpAny_pure ?_)))
              simp only [if_true]
              exact wpAny_pure q1'
          · rw [decide_eq_false ck]
            simp only [Bool.and_false, Bool.false_eq_true, if_false]
            rw [show t.sameMemory t.moves t.mask = some true by unfold sameMemory; rw [if_pos (beq_self_eq_true _)]]
            dsimp only
            rw [if_pos rfl, slot_live T.ri y3]
            dsimp only
            rw [g2]
            dsimp only
            refine wpAny_bind (wpAny_isSame_ref_self (wpAny_bind (wpAny_pure ?_)))
            simp only [if_true]
            refine ih (e - (m' + 1)) (by omega) (m' + 1) fuel _ (by omega) (by omega) rfl fun q i' z1 z2 => ?_
            by_cases c1 : q < m
            · exact hno q i' c1 z2
            · have hlt := hidx i' _ z2
              obtain ⟨k2, ad2, f1, f2, f3⟩ := S.els.idx hlt
              by_cases c2 : q = m'
              · subst c2
                have : i' = i := by rw [← below_at T.ri z2, ← below_at T.ri y3]
                subst this
                rw [g1]; intro z; cases z; exact ck rfl
              · rw [f1]
                intro z
                cases z
                refine y5 q i' (by omega) (by omega) z2 ?_
                rw [f2]; rfl
        split
        · refine wpAny_bind (wp_unseen hk _ ?_ ?_)
          · intro y hy
            simp only [List.mem_map, Array.mem_toList_iff, Array.mem_filter] at hy
            obtain ⟨p, ⟨hp1, _⟩, rfl⟩ := hy
            obtain ⟨n, hn, hn2⟩ := Array.mem_iff_getElem.mp hp1
            obtain ⟨k2, ad2, f1, f2, f3⟩ := S.els.idx hn
            rw [getElem?_pos es n hn, hn2] at f2
            cases f2
            exact ⟨k2, ad2, rfl, f3⟩
          · simp only [Bool.false_eq_true, if_false]
            exact front
        · exact front
      ·
        dsimp only
        refine wpAny_pure (q2 fun hmem => ?_)
        obtain ⟨i0, hi0⟩ := List.mem_iff_getElem?.mp hmem
        obtain ⟨ad, f1, f2⟩ := S.els.at_ i0 k hi0
        have hlt : i0 < t.place.size := by rw [T.sz]; exact (Array.getElem?_eq_some_iff.mp f1).1
        have hpl : t.place[i0]? = some (t.place[i0]'hlt) := getElem?_pos t.place i0 hlt
        obtain ⟨n, r1, r2⟩ := T.rc i0 _ _ hpl f1
        have hn : n < e := by
          rcases Nat.lt_trichotomy n e with c | c | c
          · exact c
          · subst c; exact absurd ⟨i0, by rw [r1]; exact hpl⟩ h1
          · exact absurd (r2 e c) h1
        have hpl' : t.place[i0]? = some (walk t (t.probeStart (knd.hash k)) n).j := by rw [r1]; exact hpl
        by_cases c : n < m
        · exact hno n i0 c hpl' hi0
        · refine y1 n i0 (by omega) hn hpl' ?_
          rw [f1]; rfl
end
end ST

namespace ST
open PySem PySem.SetTable
set_option autoImplicit false
def Own (ow : Array (Option Nat)) (j : Nat) : Prop := (ow.getD j (some 0)).isNone = false
theorem free_ok {t : SetTable} {ow : Array (Option Nat)} : ∀ (fuel : Nat) (x : Nat × Nat), (∃ m, m < fuel ∧ ¬ Own ow (jump t.mask m x).1) →
    ∃ j n, layClean.free t.mask ow fuel x.1 x.2 = some j ∧ (walk t (atJump t.mask x) n).j = j ∧ ¬ Own ow j ∧ ∀ q, q < n → Own ow (walk t (atJump t.mask x) q).j
  | 0, x, ⟨m, h, _⟩ => by omega
  | fuel + 1, x, ⟨m, h1, h2⟩ => by
    unfold layClean.free
    have rl : ∀ r, r ≤ runEnd t.mask x.1 - x.1 → (walk t (atJump t.mask x) r).j = x.1 + r := fun r hr => by
      rw [walk_run (p := atJump t.mask x) (show r ≤ (atJump t.mask x).more from hr)]; rfl
    have re : runEnd t.mask x.1 ≥ x.1 := by unfold runEnd; split <;> omega
    cases hf : (List.range (runEnd t.mask x.1 + 1 - x.1)).find? fun k => (ow.getD (x.1 + k) (some 0)).isNone with
    | some k =>
      obtain ⟨hp, as, bs, hl, hb⟩ := List.find?_eq_some_iff_append.mp hf
      have hk : k < runEnd t.mask x.1 + 1 - x.1 := List.mem_range.mp (List.mem_of_find?_eq_some hf)
      have has : as = List.range k := by
        have hlen : as.length = k := by
          have g := congrArg (fun l => l[as.length]?) hl
          simp only [List.getElem?_append_right (Nat.le_refl _), Nat.sub_self, List.getElem?_cons_zero] at g
          have hlt : as.length < runEnd t.mask x.1 + 1 - x.1 := by
            have := congrArg List.length hl
            simp at this; omega
          rw [List.getElem?_range hlt] at g
          exact Option.some.inj g
        have g2 := congrArg (List.take k) hl
        rw [List.take_append_of_le_length (by omega), List.take_of_length_le (l := as) (by omega)] at g2
        rw [← g2]
        apply List.ext_getElem?
        intro n
        rw [List.getElem?_take]
        by_cases c : n < k
        · rw [if_pos c, List.getElem?_range (by omega), List.getElem?_range c]
        · rw [if_neg c, List.getElem?_eq_none (by simp; omega)]
      refine ⟨x.1 + k, k, rfl, rl k (by omega), ?_, fun q hq => ?_⟩
      · unfold Own; rw [hp]; simp
      · rw [rl q (by omega)]
        have := hb q (by rw [has]; exact List.mem_range.mpr hq)
        unfold Own
        simpa using this
    | none =>
      have all : ∀ r, r ≤ runEnd t.mask x.1 - x.1 → Own ow (x.1 + r) := fun r hr => by
        have := List.find?_eq_none.mp hf r (List.mem_range.mpr (by omega))
        unfold Own
        exact Bool.eq_false_iff.mpr this
      dsimp only
      have h0 : m ≠ 0 := fun z => h2 (by subst z; have := all 0 (Nat.zero_le _); simpa [jump] using this)
      obtain ⟨m, rfl⟩ : ∃ m', m = m' + 1 := ⟨m - 1, by omega⟩
      have ej : jump t.mask (m + 1) x = jump t.mask m (leap t.mask x.1 x.2) := by
        rw [Nat.add_comm, jump_add]; rfl
      rw [ej] at h2
      obtain ⟨j, n, f1, f2, f3, f4⟩ := free_ok (t := t) (ow := ow) fuel (leap t.mask x.1 x.2) ⟨m, by omega, h2⟩
      refine ⟨j, runEnd t.mask x.1 - x.1 + 1 + n, f1, ?_, f3, fun q hq => ?_⟩
      · rw [walk_add, walk_leap]; exact f2
      · by_cases c : q ≤ runEnd t.mask x.1 - x.1
        · rw [rl q c]; exact all q c
        · obtain ⟨q', rfl⟩ : ∃ q', q = runEnd t.mask x.1 - x.1 + 1 + q' := ⟨q - (runEnd t.mask x.1 - x.1 + 1), by omega⟩
          rw [walk_add, walk_leap]; exact f4 q' (by omega)
structure Laid (mask : Nat) (hs : List Int) (ow : Array (Option Nat)) : Prop where
  sz : ow.size = mask + 1
  inj : ∀ (j j' i : Nat), ow[j]? = some (some i) → ow[j']? = some (some i) → j = j'
  has : ∀ i, i < hs.length → ∃ j : Nat, ow[j]? = some (some i)
  lt : ∀ (j i : Nat), ow[j]? = some (some i) → i < hs.length
  rch : ∀ (t : SetTable) (j i : Nat) (h : Int), t.mask = mask → ow[j]? = some (some i) → hs[i]? = some h → ∃ n, (walk t (t.probeStart h) n).j = j ∧ ∀ q, q < n → Own ow (walk t (t.probeStart h) q).j
theorem own_iff {ow : Array (Option Nat)} {j : Nat} (hj : j < ow.size) : Own ow j ↔ ∃ i, ow[j]? = some (some i) := by
  unfold Own
  rw [Array.getD_eq_getD_getElem?, getElem?_pos ow j hj]
  cases e : ow[j] <;> simp
theorem some_free {mask : Nat} {hs : List Int} {ow : Array (Option Nat)} (L : Laid mask hs ow) (h : hs.length ≤ mask) : ∃ b, b ≤ mask ∧ ¬ Own ow b := by
  refine Classical.byContradiction fun c => ?_
  have all : ∀ b, b < mask + 1 → ∃ i, ow[b]? = some (some i) := fun b hb => (own_iff (by rw [L.sz]; exact hb)).mp (Classical.byContradiction fun z => c ⟨b, by omega, z⟩)
  have := pigeon (mask + 1) ((List.range hs.length).map fun i => ((List.range (mask + 1)).find? fun j => decide (ow[j]? = some (some i))).getD 0) fun b hb => by
    obtain ⟨i, hi⟩ := all b hb
    refine List.mem_map.mpr ⟨i, List.mem_range.mpr (L.lt b i hi), ?_⟩
    cases hf : (List.range (mask + 1)).find? fun j => decide (ow[j]? = some (some i)) with
    | none =>
      have := List.find?_eq_none.mp hf b (List.mem_range.mpr hb)
      simp [hi] at this
    | some j =>
      have hj := List.find?_some hf
      exact L.inj j b i (by simpa using hj) hi
  simp at this
  omega
theorem Laid.step {mask : Nat} {hs : List Int} {ow : Array (Option Nat)} (L : Laid mask hs ow) (hm : Mask mask) (hl : hs.length ≤ mask) (h : Int) :
    ∃ j, layClean.free mask ow (turns mask) (bits h % (mask + 1)) (bits h) = some j ∧ Laid mask (hs ++ [h]) (ow.setIfInBounds j (some hs.length)) := by
  obtain ⟨b, b1, b2⟩ := some_free L hl
  obtain ⟨m, m1, m2⟩ := jump_all hm h b1
  let t0 : SetTable := { mask := mask, place := #[], dummies := #[], finger := 0, led := true, moves := 0, plain := true }
  obtain ⟨j, n, f1, f2, f3, f4⟩ := free_ok (t := t0) (ow := ow) (turns mask) (bits h % (mask + 1), bits h) ⟨m, by unfold turns; omega, by rw [show t0.mask = mask from rfl, m2]; exact b2⟩
  have hj : j ≤ mask := by
    have := walk_le (t := t0) h n
    rw [start_jump] at this
    have f2' : (walk t0 (atJump t0.mask (bits h % (t0.mask + 1), bits h)) n).j = j := f2
    rw [f2'] at this
    exact Nat.le_trans (Nat.le_add_right _ _) this
  have hjs : j < ow.size := by rw [L.sz]; omega
  have gs : ∀ q : Nat, (ow.setIfInBounds j (some hs.length))[q]? = if j = q then some (some hs.length) else ow[q]? := fun q => by
    rw [Array.getElem?_setIfInBounds]
    by_cases c : j = q
    · rw [if_pos c, if_pos c, if_pos hjs]
    · rw [if_neg c, if_neg c]
  have nj : ∀ i, ow[j]? ≠ some (some i) := fun i z => f3 ((own_iff hjs).mpr ⟨i, z⟩)
  have oo : ∀ q, Own ow q → Own (ow.setIfInBounds j (some hs.length)) q := fun q hq => by
    unfold Own at hq ⊢
    rw [Array.getD_eq_getD_getElem?] at hq ⊢
    rw [gs]
    split
    · rfl
    · exact hq
  refine ⟨j, f1, by rw [Array.size_setIfInBounds]; exact L.sz, fun p p' i h1 h2 => ?_, fun i hi => ?_, fun p i h1 => ?_, fun t p i h' ht h1 h2 => ?_⟩
  · rw [gs] at h1 h2
    by_cases c1 : j = p
    · rw [if_pos c1] at h1
      cases h1
      by_cases c2 : j = p'
      · rw [← c1, ← c2]
      · rw [if_neg c2] at h2
        have := L.lt p' _ h2; omega
    · rw [if_neg c1] at h1
      by_cases c2 : j = p'
      · rw [if_pos c2] at h2
        cases h2
        have := L.lt p _ h1; omega
      · rw [if_neg c2] at h2; exact L.inj p p' i h1 h2
  · rw [List.length_append, List.length_singleton] at hi
    by_cases c : i = hs.length
    · exact ⟨j, by rw [gs, if_pos rfl, c]⟩
    · obtain ⟨p, hp⟩ := L.has i (by omega)
      have hne : ¬ j = p := by rintro rfl; exact nj i hp
      exact ⟨p, by rw [gs, if_neg hne]; exact hp⟩
  · rw [List.length_append, List.length_singleton]
    rw [gs] at h1
    split at h1
    · cases h1; omega
    · have := L.lt p i h1; omega
  · rw [gs] at h1
    by_cases c : j = p
    · rw [if_pos c] at h1
      cases h1
      rw [List.getElem?_append_right (Nat.le_refl _), Nat.sub_self] at h2
      cases h2
      refine ⟨n, ?_, fun q hq => oo _ ?_⟩
      · rw [← c, walk_mask (u := t0) ht, show t.probeStart h = t0.probeStart h by unfold probeStart; rw [ht]]; exact f2
      · rw [walk_mask (u := t0) ht, show t.probeStart h = t0.probeStart h by unfold probeStart; rw [ht]]; exact f4 q hq
    · rw [if_neg c] at h1
      have := L.lt p i h1
      rw [List.getElem?_append_left this] at h2
      obtain ⟨n', r1, r2⟩ := L.rch t p i h' ht h1 h2
      exact ⟨n', r1, fun q hq => oo _ (r2 q hq)⟩
theorem Laid.nil (mask : Nat) : Laid mask [] (Array.replicate (mask + 1) none) := by
  have g : ∀ (q i : Nat), (Array.replicate (mask + 1) (none : Option Nat))[q]? ≠ some (some i) := fun q i z => by
    rw [Array.getElem?_replicate] at z
    split at z <;> cases z
  exact ⟨by simp, fun j _ i h => absurd h (g j i), fun i h => by simp at h, fun j i h => absurd h (g j i), fun _ j i _ _ h => absurd h (g j i)⟩
end ST

namespace ST
open PySem PySem.SetTable
set_option autoImplicit false
end ST

namespace ST
open PySem PySem.SetTable
set_option autoImplicit false
def Roomy (t : SetTable) : Prop := t.place.size * 5 < t.mask * 3
section
variable {prog : Program} {w : World} {K : Type} [DecidableEq K] {knd : SKind prog w K} {A : Around} {E : Value → Shared → Prop} {s : Shared} {a x : Addr} {es : Array (Int × Value)} {ep : Nat} {t : SetTable} {ks : List K} {k : K}
theorem wp_search {adding : Bool} {Q : SetFound → Shared → Prop} (S : SetAt knd s.heap a es ep t ks) (hr : knd.room A) (hk : knd.is s.heap k x)
    (q1 : ∀ i : Nat, ks[i]? = some k → Q (.there (if adding then none else some i)) s) (q2 : k ∉ ks → ∀ e, (¬ In t (walk t (t.probeStart (knd.hash k)) e).j) → (∀ m, m < e → In t (walk t (t.probeStart (knd.hash k)) m).j) → Q (.free (walk t (t.probeStart (knd.hash k)) e).j false) s) :
    wpAny (model prog w) A (setSearch a (.ref x) (knd.hash k) adding) Q E s := by
  obtain ⟨e, h0, h1, h2⟩ := first_free S.tab (knd.hash k)
  unfold setSearch
  have := (mask_le S.tab.mm).1
  exact wp_searchFrom S hr hk h1 h2 h0 q1 (fun z => q2 z e h1 h2) e 0 100000 none (by omega) (by omega) rfl (fun q i z => by omega)
theorem wp_find {Q : Option Nat → Shared → Prop} (S : SetAt knd s.heap a es ep t ks) (hr : knd.room A) (hk : knd.is s.heap k x) (q1 : ∀ i : Nat, ks[i]? = some k → Q (some i) s) (q2 : k ∉ ks → Q none s) : wpAny (model prog w) A (setFind a (.ref x) (knd.hash k)) Q E s := by
  unfold setFind setFindIn
  refine wpAny_bind (wp_state S ?_)
  dsimp only
  rw [show byScan (.ref x) es = false from rfl]
  simp only [Bool.false_eq_true, if_false]
  refine wpAny_bind (wp_search S hr hk (fun i hi => ?_) fun z e _ _ => ?_)
  · exact wpAny_pure (q1 i hi)
  · exact wpAny_pure (q2 z)
theorem wp_contains {Q : Bool → Shared → Prop} (S : SetAt knd s.heap a es ep t ks) (hr : knd.room A) (hk : knd.is s.heap k x) (q1 : k ∈ ks → Q true { s with toks := s.toks + knd.draws k }) (q2 : k ∉ ks → Q false { s with toks := s.toks + knd.draws k }) : wpAny (model prog w) A (setContains a (.ref x)) Q E s := by
  unfold setContains
  refine wpAny_holding (wpAny_bind (knd.pyHash hr hk ?_))
  refine wpAny_bind (wp_find (s := { s with toks := s.toks + knd.draws k }) S hr hk (fun i hi => ?_) fun z => ?_)
  · exact wpAny_pure (q1 (List.mem_of_getElem? hi))
  · exact wpAny_pure (q2 z)
theorem Els.keep {h h' : Heap} (e : Els knd h es ks) (kp : ∀ k' ad, knd.is h k' ad → knd.is h' k' ad) : Els knd h' es ks := ⟨e.len, fun i k' hi => let ⟨ad, h1, h2⟩ := e.at_ i k' hi; ⟨ad, h1, kp _ _ h2⟩, e.nd⟩
end
end ST

namespace ST
open PySem PySem.SetTable
set_option autoImplicit false
section
variable {prog : Program} {w : World} {A : Around} {E : Value → Shared → Prop} {s : Shared} {a : Addr} {ns : List Int}
theorem int_items {l : List Value} (h : ItemsAre (intKind prog w) ns l) : ∀ v ∈ l, ∃ n t, v = Value.int n t := by
  induction h with
  | nil => intro v hv; cases hv
  | @cons k v ks vs h1 _ ih =>
    intro u hu
    rcases List.mem_cons.mp hu with rfl | hu
    · obtain ⟨t, e⟩ := Value.isInt_shape h1
      exact ⟨k, t, e⟩
    · exact ih u hu
theorem seqItems_tup {o : Obj} {items : Array Value} {n : Nat} {M : Model} {Q : Option (Array Value) → Shared → Prop} (ho : s.heap.get? a = some o) (hd : o.data = .seq items n) (q : Q (some items) s) : wpAny M A (seqItems? (.ref a)) Q E s := by
  unfold seqItems?
  refine wpAny_bind (wpAny_load ho ?_)
  rw [hd]
  exact wpAny_pure q
theorem nocls_T {Q : Bool → Shared → Prop} (h : IsTupleKey (intKind prog w) s.heap ns a) (q : Q false s) : wpAny (model prog w) A (ofAClassStatement 8 (.ref a)) Q E s := by
  obtain ⟨o, items, n, ho, hc, hd, hi⟩ := id h
  unfold ofAClassStatement
  refine wpAny_bind (wpAny_typeOf h.typeIs ?_)
  dsimp only
  rw [if_pos (by rfl)]
  refine wpAny_bind (wpAny_pure ?_)
  simp only [Bool.not_true, Bool.false_eq_true, if_false]
  refine wpAny_bind (seqItems_tup ho hd ?_)
  dsimp only
  refine wpAny_bind ?_
  rw [← Array.forIn_toList]
  refine wpAny_forIn_list _ (fun rest c s' => c = (none, ()) ∧ s' = s ∧ ∀ y ∈ rest, ∃ n t, y = Value.int n t) _ ?_ ?_ _ _ ⟨rfl, rfl, int_items hi⟩
  · rintro y rest c s' ⟨rfl, rfl, hr⟩
    obtain ⟨n, t, rfl⟩ := hr y (.head _)
    refine wpAny_bind (wpAny_pure ?_)
    simp only [Bool.false_eq_true, if_false]
    exact wpAny_pure ⟨rfl, rfl, fun y hy => hr y (.tail _ hy)⟩
  · rintro c s' ⟨rfl, rfl, _⟩
    exact wpAny_pure q
theorem byval_T {Q : Bool → Shared → Prop} (h : IsTupleKey (intKind prog w) s.heap ns a) (q : Q true s) : wpAny (model prog w) A (hashByValue 8 (.ref a)) Q E s := by
  obtain ⟨o, items, n, ho, hc, hd, hi⟩ := id h
  unfold hashByValue
  refine wpAny_bind (wpAny_specialOf h.typeIs F.slot_tuple_hash.lookup ?_)
  dsimp only
  refine wpAny_bind (seqItems_tup ho hd ?_)
  refine wpAny_bind ?_
  rw [← Array.forIn_toList]
  refine wpAny_forIn_list _ (fun rest c s' => c = (none, ()) ∧ s' = s ∧ ∀ y ∈ rest, ∃ n t, y = Value.int n t) _ ?_ ?_ _ _ ⟨rfl, rfl, int_items hi⟩
  · rintro y rest c s' ⟨rfl, rfl, hr⟩
    obtain ⟨n, t, rfl⟩ := hr y (.head _)
    refine wpAny_bind (wpAny_pure ?_)
    simp only [Bool.not_true, Bool.false_eq_true, if_false]
    exact wpAny_pure ⟨rfl, rfl, fun y hy => hr y (.tail _ hy)⟩
  · rintro c s' ⟨rfl, rfl, _⟩
    exact wpAny_pure q
theorem keepS_T {h h' : Heap} {d : Addr} {o : Obj} {es : Array (Int × Value)} {ep : Nat} {t : SetTable} (x : IsTupleKey (intKind prog w) h ns a) (ho : h.get? d = some o) (hd : o.data = .set es ep t) (hs : Heap.SameBut d h h') : IsTupleKey (intKind prog w) h' ns a := by
  obtain ⟨o', items, n, g, c, e, i⟩ := x
  have hne : a ≠ d := by
    rintro rfl
    rw [ho] at g; cases g
    rw [hd] at e; cases e
  exact ⟨o', items, n, (hs.2 a hne).trans g, c, e, i⟩
def kT (prog : Program) (w : World) : SKind prog w (List Int) where
  toHeapKind := tupleKind (intKind prog w)
  nocls := fun h q => nocls_T h q
  byval := fun h q => byval_T h q
  keepS := fun x ho hd hs => keepS_T x ho hd hs
def kP (prog : Program) (w : World) (P : List Int → Addr → Prop) : SKind prog w (List Int) where
  is := fun h k a => IsTupleKey (intKind prog w) h k a ∧ P k a
  hash := (kT prog w).hash
  draws := fun ks => ks.length + 1
  room := fun A => A.units < cLine
  inj := fun hx hy => hx.1.inj hy.1
  keeps := fun x ho hd hs => ⟨x.1.keeps ho hd hs, x.2⟩
  pyHash := fun hu hk h => wpAny_pyHash_tuple hu hk.1 h
  eqBool := fun hu hx hy h => wpAny_eqBool_tuple hu hx.1 hy.1 h
  quiet := fun hk h => wpAny_eqIsQuiet_tuple hk.1 h
  nocls := fun h q => nocls_T h.1 q
  byval := fun h q => byval_T h.1 q
  keepS := fun x ho hd hs => ⟨keepS_T x.1 ho hd hs, x.2⟩
end
end ST

namespace ST
open PySem PySem.SetTable
set_option autoImplicit false
theorem pick_go {α : Type} (next : Nat → Nat) : ∀ (fuel k : Nat) (left : List α) (out : Array α), left.length ≤ fuel → (pickOrder.go next fuel k left out).toList.Perm (out.toList ++ left)
  | 0, k, left, out, h => by
    obtain rfl : left = [] := List.length_eq_zero_iff.mp (by omega)
    unfold pickOrder.go; simp
  | fuel + 1, k, left, out, h => by
    unfold pickOrder.go
    cases e : left[next k % left.length]? with
    | none =>
      dsimp only
      have h0 : left = [] := by
        cases left with
        | nil => rfl
        | cons x l =>
          have := List.getElem?_eq_none_iff.mp e
          have h2 := Nat.mod_lt (next k) (show 0 < (x :: l).length by simp)
          omega
      rw [h0]; simp
    | some x =>
      dsimp only
      obtain ⟨hlt, hx⟩ := List.getElem?_eq_some_iff.mp e
      have := pick_go next fuel (k + 1) (left.eraseIdx (next k % left.length)) (out.push x) (by rw [List.length_eraseIdx_of_lt hlt]; omega)
      refine this.trans ?_
      rw [Array.toList_push, List.append_assoc]
      refine List.Perm.append_left _ ?_
      have d : left = left.take (next k % left.length) ++ x :: left.drop (next k % left.length + 1) := by
        have := (List.take_append_drop (next k % left.length) left).symm
        rwa [List.drop_eq_getElem_cons hlt, hx] at this
      have g : (x :: left.eraseIdx (next k % left.length)).Perm (left.take (next k % left.length) ++ x :: left.drop (next k % left.length + 1)) := by
        rw [List.eraseIdx_eq_take_drop_succ]; exact List.perm_middle.symm
      exact g.trans (List.Perm.of_eq d.symm)
theorem pick_perm {α : Type} (next : Nat → Nat) (xs : Array α) : (pickOrder next xs).toList.Perm xs.toList := by
  have := pick_go next xs.size 0 xs.toList #[] (by simp)
  rw [show (#[] : Array α).toList ++ xs.toList = xs.toList from rfl] at this
  exact this
def slotOf (t : SetTable) : Nat → Nat
  | 0 => 0
  | i + 1 => t.place.getD i 0 + 1
theorem below_slot {t : SetTable} (r : Ris t.place) {i : Nat} (hi : i ≤ t.place.size) : below t.place (slotOf t i) = i := by
  obtain ⟨h1, h2, h3⟩ := below_ok r (slotOf t i)
  rcases Nat.lt_trichotomy (below t.place (slotOf t i)) i with c | c | c
  · exfalso
    obtain ⟨m, rfl⟩ : ∃ m, i = m + 1 := ⟨i - 1, by omega⟩
    have hm : m < t.place.size := by omega
    have e : t.place[m]? = some (t.place[m]'hm) := getElem?_pos t.place m hm
    have y := h3 m _ (by omega) e
    have z : slotOf t (m + 1) = t.place[m]'hm + 1 := by
      show t.place.getD m 0 + 1 = _
      rw [Array.getD_eq_getD_getElem?, e]; rfl
    omega
  · exact c
  · exfalso
    have hi' : i < t.place.size := by omega
    have e : t.place[i]? = some (t.place[i]'hi') := getElem?_pos t.place i hi'
    have y := h2 i _ c e
    cases i with
    | zero => exact absurd y (Nat.not_lt_zero _)
    | succ m =>
      have hm : m < t.place.size := by omega
      have e2 : t.place[m]? = some (t.place[m]'hm) := getElem?_pos t.place m hm
      have z : slotOf t (m + 1) = t.place[m]'hm + 1 := by
        show t.place.getD m 0 + 1 = _
        rw [Array.getD_eq_getD_getElem?, e2]; rfl
      have q := r m (m + 1) _ _ e2 e (by omega)
      omega
end ST

namespace ST
open PySem
abbrev byText (w : World) : Bool := w.params.followText "set-order"
end ST

namespace ST
open PySem PySem.SetTable
set_option autoImplicit false
section
variable {prog : Program} {w : World} {A : Around} {E : Value → Shared → Prop} {s : Shared} {d I : Addr} {es : Array (Int × Value)} {ep : Nat} {t : SetTable}
structure Src (w : World) (h : Heap) (d : Addr) (es : Array (Int × Value)) (ep : Nat) (t : SetTable) : Prop where
  ob : ∃ o, h.get? d = some o ∧ o.ExactSet ∧ o.data = .set es ep t
  tab : Tab t es
  pl : t.plain = true
  ld : t.led = !byText w
def ord (w : World) (d : Addr) (es : Array (Int × Value)) (ep : Nat) : Array (Int × Value) := if byText w then pickOrder (w.params.setOrder d ep) es else es
theorem ord_perm (w : World) (d : Addr) (es : Array (Int × Value)) (ep : Nat) : (ord w d es ep).toList.Perm es.toList := by
  unfold ord
  split
  · exact pick_perm _ _
  · exact List.Perm.refl _
theorem ord_size (w : World) (d : Addr) (es : Array (Int × Value)) (ep : Nat) : (ord w d es ep).size = es.size := by
  have := (ord_perm w d es ep).length_eq
  simpa using this
def slotAt (w : World) (t : SetTable) (i : Nat) : Nat := if byText w then 0 else slotOf t i
theorem Src.state (S : Src w s.heap d es ep t) {Q : (Array (Int × Value) × Nat × SetTable) → Shared → Prop} (q : Q (es, ep, t) s) : wpAny (model prog w) A (setState d) Q E s := by
  obtain ⟨o, ho, _, hd⟩ := S.ob
  exact wpAny_setState_of ho hd S.tab.fits q
theorem wp_byText {Q : Bool → Shared → Prop} (q : Q (byText w) s) : wpAny (model prog w) A setsByText Q E s := by
  unfold setsByText
  exact wpAny_bind (wpAny_askSetting (wpAny_pure q))
theorem Src.next (S : Src w s.heap d es ep t) {i : Nat} (hi : i ≤ es.size) {Q : Option (Value × Nat) → Shared → Prop} (q1 : ∀ e, (ord w d es ep)[i]? = some e → Q (some (e.2, slotAt w t (i + 1))) s) (q2 : i = es.size → Q none s) : wpAny (model prog w) A (setNext d (slotAt w t i) i ep) Q E s := by
  unfold setNext
  refine wpAny_bind (S.state ?_)
  dsimp only
  refine wpAny_bind (wp_byText ?_)
  have os := ord_size w d es ep
  have dr : ∀ x : Bool, (!t.plain && x) = false := fun x => by rw [S.pl]; rfl
  cases hb : byText w with
  | true =>
    simp only [if_true]
    rw [if_neg (by simp)]
    refine wpAny_bind ?_
    unfold setWalk
    refine wpAny_bind (S.state ?_)
    dsimp only
    refine wpAny_bind (wp_byText ?_)
    rw [hb]
    simp only [if_true]
    refine wpAny_bind (wpAny_askSetting (wpAny_pure ?_))
    refine wpAny_pure ?_
    have eo : ord w d es ep = pickOrder (w.params.setOrder d ep) es := by unfold ord; rw [hb]; rfl
    show Q ((pickOrder (w.params.setOrder d ep) es)[i]?.map fun e => (e.2, slotAt w t i)) s
    rw [← eo]
    have sl : slotAt w t i = slotAt w t (i + 1) := by unfold slotAt; rw [hb]; rfl
    cases hc : (ord w d es ep)[i]? with
    | none =>
      have := Array.getElem?_eq_none_iff.mp hc
      exact q2 (by omega)
    | some e => rw [sl]; exact q1 e hc
  | false =>
    simp only [Bool.false_eq_true, if_false]
    have eo : ord w d es ep = es := by unfold ord; rw [hb]; rfl
    have sl : ∀ n, slotAt w t n = slotOf t n := fun n => by unfold slotAt; rw [hb]; rfl
    have ld : t.led = true := by rw [S.ld, hb]; rfl
    show wpAny _ _ (if (!t.plain && decide (es.size > 1)) = true then _ else _) _ _ _
    rw [if_neg (by rw [dr]; exact Bool.false_ne_true)]
    refine wpAny_bind ?_
    show wpAny _ _ (if (!t.led && !es.isEmpty) = true then _ else _) _ _ _
    rw [if_neg (by rw [ld]; exact Bool.false_ne_true)]
    refine wpAny_pure ?_
    rw [sl, below_slot S.tab.ri (by rw [S.tab.sz]; exact hi)]
    refine wpAny_pure ?_
    by_cases c : i < es.size
    · have e1 : es[i]? = some (es[i]'c) := getElem?_pos es i c
      have c2 : i < t.place.size := by rw [S.tab.sz]; exact c
      have e2 : t.place[i]? = some (t.place[i]'c2) := getElem?_pos t.place i c2
      rw [e1, e2]
      have q := q1 es[i] (by rw [eo]; exact e1)
      rw [sl] at q
      have z : slotOf t (i + 1) = t.place[i]'c2 + 1 := by
        show t.place.getD i 0 + 1 = _
        rw [Array.getD_eq_getD_getElem?, e2]; rfl
      rw [z] at q
      exact q
    · rw [Array.getElem?_eq_none (by omega : es.size ≤ i)]
      exact q2 (by omega)
end
end ST

namespace ST
open PySem PySem.SetTable PyProof.Rows
set_option autoImplicit false
section
variable {prog : Program} {w : World} {A : Around} {E : Value → Shared → Prop} {s : Shared} {d : Addr} {es : Array (Int × Value)} {ep : Nat} {t : SetTable} {ks : List (List Int)}
end
end ST

namespace ST
open PySem PySem.SetTable PyProof.Rows
set_option autoImplicit false
section
variable {prog : Program} {w : World} {P : List Int → Addr → Prop} {A : Around} {E : Value → Shared → Prop} {s : Shared}
structure SetT (prog : Program) (w : World) (P : List Int → Addr → Prop) (h : Heap) (a : Addr) (ks : List (List Int)) : Prop where
  ex : ∃ es ep t, SetAt (kP prog w P) h a es ep t ks ∧ Roomy t ∧ t.plain = true ∧ t.led = !byText w
theorem SetT.new (h : Heap) : SetT prog w P (h.push { cls := .type "set", dict := none, data := .set #[] 0 (.fresh 0 0 (!byText w)) }) h.objs.size [] := by
  refine ⟨#[], 0, .fresh 0 0 (!byText w), ⟨⟨_, Heap.get?_push_size _ rfl, ⟨rfl, rfl, rfl⟩, rfl⟩, ⟨.inl rfl, rfl, rfl, by show 0 ≤ 7; omega, fun i j x y e => by simp [SetTable.fresh] at e, fun j ⟨i, e⟩ => by simp [SetTable.fresh] at e, fun i j e h1 => by simp [SetTable.fresh] at h1⟩, ⟨rfl, fun i k hi => by simp at hi, List.nodup_nil⟩⟩, ?_, rfl, rfl⟩
  show 0 * 5 < 7 * 3
  omega
theorem SetT.has {a x : Addr} {ks : List (List Int)} {k : List Int} {Q : Bool → Shared → Prop} (S : SetT prog w P s.heap a ks) (hu : A.units < cLine) (hk : (kP prog w P).is s.heap k x) (q1 : k ∈ ks → Q true { s with toks := s.toks + (k.length + 1) }) (q2 : k ∉ ks → Q false { s with toks := s.toks + (k.length + 1) }) : wpAny (model prog w) A (setContains a (.ref x)) Q E s := by
  obtain ⟨es, ep, t, S, _⟩ := S.ex
  exact wp_contains S hu hk q1 q2
end
end ST

namespace ST
open PySem PySem.SetTable PyProof.Rows
set_option autoImplicit false
section
variable {prog : Program} {w : World} {P : List Int → Addr → Prop} {A : Around} {E : Value → Shared → Prop} {s : Shared}
end
end ST

namespace ST
open PySem PySem.SetTable PyProof.Rows
set_option autoImplicit false
section
variable {prog : Program} {w : World} {P : List Int → Addr → Prop} {A : Around} {E : Value → Shared → Prop} {s : Shared} {a x : Addr} {ks : List (List Int)} {k : List Int}
theorem SetT.typeIs (S : SetT prog w P s.heap a ks) : s.TypeIs (.ref a) "set" :=
  let ⟨_, _, _, S, _⟩ := S.ex
  let ⟨o, ho, hx, _⟩ := S.ob
  ⟨o, ho, hx.1⟩
end
end ST

namespace ST
open PySem L2
def hT (k : List Int) : Int := reduceHash (Builtin.Tuple.tupleHashOf (k.map hashInt))
def SOK (tx : Bool) (H : Hp) (a : Addr) (ks : List (List Int)) : Prop := ∃ (o : Obj) (es : Array (Int × Value)) (ep : Nat) (t : SetTable) (ks' : List (List Int)),
  H a = some (.ext fun h => h.get? a = some o) ∧ (o.ExactSet ∧ o.data = .set es ep t) ∧ Tab t es ∧ Roomy t ∧ t.plain = true ∧ t.led = !tx ∧ ks'.Perm ks ∧ ks'.Nodup ∧ ks'.length = es.size ∧
  ∀ (i : Nat) (k : List Int), ks'[i]? = some k → ∃ ad, es[i]? = some (hT k, .ref ad) ∧ H ad = some (.tup (k.map V.int))
theorem SOK.upd {tx : Bool} {H : Hp} {a p : Addr} {ks : List (List Int)} {u : HO} (h : SOK tx H a ks) (hne : a ≠ p) (ht : ∀ b xs, H b = some (.tup xs) → L2.upd H p u b = some (.tup xs)) : SOK tx (L2.upd H p u) a ks := by
  obtain ⟨o, es, ep, t, ks', h1, h2, h3, h4, h5, h6, h7, h8, h9, h10⟩ := h
  refine ⟨o, es, ep, t, ks', by rw [upd_ne hne]; exact h1, h2, h3, h4, h5, h6, h7, h8, h9, fun i k hk => ?_⟩
  obtain ⟨ad, e1, e2⟩ := h10 i k hk
  exact ⟨ad, e1, ht _ _ e2⟩
theorem SOK.there {tx : Bool} {H : Hp} {a : Addr} {ks : List (List Int)} (h : SOK tx H a ks) : ∃ φ, H a = some (.ext φ) := by
  obtain ⟨o, es, ep, t, ks', h1, _⟩ := h
  exact ⟨_, h1⟩
abbrev PT (H : Hp) : List Int → Addr → Prop := fun k ad => H ad = some (.tup (k.map V.int))
theorem items_of {prog : Program} {w : World} : ∀ {vs : List Value} {ns : List Int}, PyProof.Rows.IntsAre vs ns → ItemsAre (intKind prog w) ns vs
  | _, _, .nil => .nil
  | _, _, .cons n t h => .cons (by simp [intKind, Value.isInt]) (items_of h)
section
variable {X : Cx} {pins : List (Addr × Obj)} {σ : St} {H : Hp} {s : Shared} {a : Addr} {ks : List (List Int)}
theorem key_is (I : Inv X pins σ H s) {k : List Int} {ad : Addr} (h : H ad = some (.tup (k.map V.int))) : (kP X.prog X.w (PT H)).is s.heap k ad := by
  obtain ⟨_, its, r, ⟨o, ho, hc, n, hd, _⟩⟩ := (show ObjOk X.prog X.w H s.heap ad (.tup (k.map V.int)) from I.hok ad _ h)
  exact ⟨⟨o, its.toArray, n, ho, hc, hd, items_of (intsAre_of r)⟩, h⟩
theorem SOK.setT (I : Inv X pins σ H s) (h : SOK (byText X.w) H a ks) : ∃ ks', ks'.Perm ks ∧ SetT X.prog X.w (PT H) s.heap a ks' := by
  obtain ⟨o, es, ep, t, ks', h1, ⟨h2, h2'⟩, h3, h4, h5, h6, h7, h8, h9, h10⟩ := h
  obtain ⟨ho, _⟩ := (show ObjOk X.prog X.w H s.heap a (.ext _) from I.hok a _ h1)
  refine ⟨ks', h7, es, ep, t, ⟨⟨o, ho, h2, h2'⟩, h3, ⟨h9, fun i k hk => ?_, h8⟩⟩, h4, h5, h6⟩
  obtain ⟨ad, e1, e2⟩ := h10 i k hk
  exact ⟨ad, e1, key_is I e2⟩
end
end ST

namespace NT
open PySem
section
variable {prog : Program} {w : World}
abbrev KI (prog : Program) (w : World) := intKind prog w
inductive ItsAre (prog : Program) (w : World) (h : Heap) : List (List Int) → List Value → Prop
  | nil : ItsAre prog w h [] []
  | cons {k : List Int} {a : Addr} {ks : List (List Int)} {vs : List Value} : IsTupleKey (KI prog w) h k a → ItsAre prog w h ks vs → ItsAre prog w h (k :: ks) (.ref a :: vs)
def IsNest (prog : Program) (w : World) (h : Heap) (ks : List (List Int)) (a : Addr) : Prop := ∃ o items n, h.get? a = some o ∧ o.cls = .type "tuple" ∧ o.data = .seq items n ∧ ItsAre prog w h ks items.toList
theorem ItsAre.inj {h : Heap} {x y : List (List Int)} {vs : List Value} (hx : ItsAre prog w h x vs) (hy : ItsAre prog w h y vs) : x = y := by
  induction hx generalizing y with
  | nil => cases hy; rfl
  | cons h1 _ ih =>
    cases hy with
    | cons h2 t2 => rw [h1.inj h2, ih t2]
theorem ItsAre.mono {h h' : Heap} {x : List (List Int)} {vs : List Value} (hx : ItsAre prog w h x vs) (f : ∀ k a, IsTupleKey (KI prog w) h k a → IsTupleKey (KI prog w) h' k a) : ItsAre prog w h' x vs := by
  induction hx with
  | nil => exact .nil
  | cons h1 _ ih => exact .cons (f _ _ h1) ih
theorem IsNest.typeIs {s : Shared} {ks : List (List Int)} {a : Addr} (x : IsNest prog w s.heap ks a) : s.TypeIs (.ref a) "tuple" := let ⟨o, _, _, ho, hc, _⟩ := x; ⟨o, ho, hc⟩
theorem IsNest.inj {h : Heap} {a : Addr} {x y : List (List Int)} (hx : IsNest prog w h x a) (hy : IsNest prog w h y a) : x = y := by
  obtain ⟨o, items, n, ho, _, hd, hi⟩ := hx
  obtain ⟨o', items', n', ho', _, hd', hi'⟩ := hy
  obtain rfl : o = o' := Option.some.inj (ho.symm.trans ho')
  rw [hd] at hd'
  injection hd' with h1 _
  subst h1
  exact hi.inj hi'
theorem IsNest.keeps {h h' : Heap} {ks : List (List Int)} {a d : Addr} {o : Obj} {es ep} (x : IsNest prog w h ks a) (ho : h.get? d = some o) (hd : o.data = .dict es ep) (hs : Heap.SameBut d h h') : IsNest prog w h' ks a := by
  obtain ⟨o', items, n, ho', hc, hd', hi⟩ := x
  have hne : a ≠ d := by
    rintro rfl
    obtain rfl : o' = o := Option.some.inj (ho'.symm.trans ho)
    rw [hd] at hd'; exact nomatch hd'
  exact ⟨o', items, n, (hs.2 a hne).trans ho', hc, hd', hi.mono fun k a z => z.keeps ho hd hs⟩
def hashN (prog : Program) (w : World) (ks : List (List Int)) : Int := reduceHash (Builtin.Tuple.tupleHashOf (ks.map (tupleKeyHash (KI prog w))))
def draws (ks : List (List Int)) : Nat := (ks.map fun k => k.length + 1).sum
variable {A : Around} {E : Value → Shared → Prop} {s : Shared}
theorem pyHash_nest {ks : List (List Int)} {a : Addr} {Q : Int → Shared → Prop} (hu : A.units + 2 < cLine) (hk : IsNest prog w s.heap ks a) (h : Q (hashN prog w ks) { s with toks := s.toks + (draws ks + 1) }) :
    wpAny (model prog w) A (pyHash (.ref a)) Q E s := by
  have hT := hk.typeIs
  obtain ⟨o, items, n, ho, _, hd, hi⟩ := hk
  unfold pyHash
  first | unfold pyHashByItsType | skip
  first | refine wpAny_bind (wpAny_cRoomFor_or (.inr (by omega)) ?_) | skip
  refine wpAny_bind (wpAny_specialOf hT F.slot_tuple_hash.lookup ?_)
  show wpAny _ _ (if (some (Value.builtin "tuple.__hash__") == some Value.none) = true then _ else _) Q E s
  rw [if_neg (by rw [beq_builtin_none]; exact Bool.false_ne_true)]
  refine wpAny_bind (wpAny_specialOf hT F.slot_tuple_hash.lookup ?_)
  show wpAny _ _ (callSpecialIfBoundUnlessNone? (.ref a) "__hash__" _ >>= _) Q E s
  refine wpAny_bind (wpAny_callSpecialIfBoundUnlessNone?_slot hT F.slot_tuple_hash (wpAny_call_entry F.slot_tuple_hash hT F.entry_tuple_hash ?_ (F.args_tuple_hash_1 _)))
  show wpAny _ _ (Builtin.Tuple.tupleItemsOf (.ref a) >>= _) _ _ s
  refine wpAny_bind (wpAny_tupleItemsOf ho hd ?_)
  refine wpAny_bind ?_
  rw [← Array.forIn_toList]
  refine wpAny_forIn_list _
    (fun rest (b : Array Int) s' => ∃ done left, ks = done ++ left ∧ ItsAre prog w s.heap left rest ∧ b.toList = done.map (tupleKeyHash (KI prog w)) ∧ s' = { s with toks := s.toks + draws done })
    _ ?_ ?_ _ _ ⟨[], ks, rfl, hi, rfl, rfl⟩
  · rintro x rest b s' ⟨done, left, rfl, hl, hb, rfl⟩
    cases hl with
    | @cons k _ ks' _ h1 hl' =>
      refine wpAny_bind (wpAny_pyHash_tuple ?_ h1 ?_)
      · show A.units + 1 < cLine
        omega
      · first
        | exact wpAny_pure ⟨done ++ [k], ks', by simp, hl', by simp [hb], by simp [draws, Nat.add_assoc]⟩
        | exact wpAny_bind (wpAny_pure (wpAny_pure ⟨done ++ [k], ks', by simp, hl', by simp [hb], by simp [draws, Nat.add_assoc]⟩))
  · rintro b s' ⟨done, left, rfl, hl, hb, rfl⟩
    cases hl
    rw [List.append_nil] at h
    show wpAny _ _ (retInt (Builtin.Tuple.tupleHashOf b.toList)) _ _ _
    rw [hb]
    refine wpAny_ret_mkInt ?_
    show wpAny _ _ (if (decide (-(2 : Int) ^ 63 ≤ Builtin.Tuple.tupleHashOf (done.map (tupleKeyHash (KI prog w)))) && decide (Builtin.Tuple.tupleHashOf (done.map (tupleKeyHash (KI prog w))) < 2 ^ 63)) = true then _ else _) Q E _
    unfold hashN reduceHash at h
    by_cases hr : (decide (-(2 : Int) ^ 63 ≤ Builtin.Tuple.tupleHashOf (done.map (tupleKeyHash (KI prog w)))) && decide (Builtin.Tuple.tupleHashOf (done.map (tupleKeyHash (KI prog w))) < 2 ^ 63)) = true
    · rw [if_pos hr]
      rw [if_pos hr] at h
      exact wpAny_pure (by simpa [Nat.add_assoc] using h)
    · rw [if_neg hr]
      rw [if_neg hr] at h
      exact wpAny_bind (wpAny_rule (wpAny_pure (by simpa [Nat.add_assoc] using h)))
theorem nest_eq_tree {x y : List (List Int)} {a b : Addr} {P : Fin → Shared → Prop} (hu : A.units + 1 < cLine) (hx : IsNest prog w s.heap x a) (hy : IsNest prog w s.heap y b) (h : P (.done (.ret (.bool (decide (x = y))))) s) :
    wpAny (model prog w) A (Builtin.«tuple.__eq__» ⟨[.ref a, .ref b], []⟩) P E s := by
  have hTb := hy.typeIs
  obtain ⟨oa, xs, na, hoa, _, hda, hia⟩ := hx
  obtain ⟨ob, ys, nb, hob, _, hdb, hib⟩ := hy
  show wpAny _ _ (isInstance (.ref b) (.type "tuple") >>= _) _ _ s
  refine wpAny_bind (wpAny_isInstance hTb isSubtype_tuple_tuple ?_)
  simp only [Bool.not_true, Bool.false_eq_true, if_false]
  refine wpAny_bind (wpAny_tupleItemsOf hoa hda ?_)
  refine wpAny_bind (wpAny_tupleItemsOf hob hdb ?_)
  refine wpAny_bind ?_
  refine wpAny_forIn_list _
    (fun rest r s' => r.1 = none ∧ s' = s ∧ ∃ x' y' xs' ys', rest = List.zip xs' ys' ∧ ItsAre prog w s.heap x' xs' ∧ ItsAre prog w s.heap y' ys' ∧ decide (x' = y') = decide (x = y) ∧ (xs'.length == ys'.length) = (xs.size == ys.size))
    _ ?_ ?_ _ _ ⟨rfl, rfl, x, y, xs.toList, ys.toList, rfl, hia, hib, rfl, by simp⟩
  · rintro ⟨u, v⟩ rest r s' ⟨hr, rfl, x', y', xs', ys', hz, hx', hy', hdec, hlen⟩
    cases hx' with
    | nil => simp at hz
    | @cons k1 u' x'' xs'' h1 hx'' =>
      cases hy' with
      | nil => simp at hz
      | @cons k2 v' y'' ys'' h2 hy'' =>
        simp only [List.zip_cons_cons, List.cons.injEq, Prod.mk.injEq] at hz
        obtain ⟨⟨rfl, rfl⟩, rfl⟩ := hz
        refine wpAny_bind (wpAny_eqBool_tuple (x := k1) (y := k2) (by omega) h1 h2 ?_)
        by_cases hk : k1 = k2
        · subst hk
          rw [decide_eq_true rfl]
          simp only [Bool.not_true, Bool.false_eq_true, if_false]
          refine wpAny_pure ⟨rfl, rfl, x'', y'', xs'', ys'', rfl, hx'', hy'', ?_, by simpa using hlen⟩
          rw [← hdec]
          by_cases hxy : x'' = y''
          · simp [hxy]
          · simp [hxy]
        · rw [decide_eq_false hk]
          simp only [Bool.not_false, if_true]
          have hf : decide (x = y) = false := by rw [← hdec]; simp [hk]
          rw [hf] at h
          exact wpAny_bind (wpAny_pure (wpAny_pure (wpAny_pure h)))
  · rintro ⟨r1, r2⟩ s' ⟨hr, rfl, x', y', xs', ys', hz, hx', hy', hdec, hlen⟩
    simp only at hr
    subst hr
    refine wpAny_pure ?_
    have hfin : (xs.size == ys.size) = decide (x = y) := by
      rw [← hdec, ← hlen]
      cases hx' with
      | nil =>
        cases hy' with
        | nil => simp
        | cons _ _ => simp
      | cons _ _ =>
        cases hy' with
        | nil => simp
        | cons _ _ => simp at hz
    show P (.done (.ret (.bool (xs.size == ys.size)))) s'
    rw [hfin]; exact h
theorem eqBool_nest {x y : List (List Int)} {a b : Addr} {Q : Bool → Shared → Prop} (hu : A.units + 3 < cLine) (hx : IsNest prog w s.heap x a) (hy : IsNest prog w s.heap y b) (h : Q (decide (x = y)) s) :
    wpAny (model prog w) A (eqBool (.ref a) (.ref b)) Q E s := by
  unfold eqBool
  try with_reducible refine wpAny_holding ?_
  show wpAny _ _ (if (Value.ref a == Value.ref b) = true then _ else _) Q E s
  by_cases hab : (Value.ref a == Value.ref b) = true
  · rw [if_pos hab]
    have e : a = b := by have := eq_of_beq hab; injection this
    subst e
    obtain rfl := hx.inj hy
    exact wpAny_bind (wpAny_rule (wpAny_pure (by simpa using h)))
  · rw [if_neg hab]
    exact wpAny_bind (wpAny_richCompare_same_room (op := .Eq) hx.typeIs hy.typeIs F.slot_tuple_eq
      (wpAny_call_entry F.slot_tuple_eq hx.typeIs F.entry_tuple_eq (nest_eq_tree (by show A.units + 1 + 1 < cLine; omega) hx hy ⟨_, rfl, (fun e => nomatch e), wpAny_truthy_bool h⟩) (F.args_tuple_eq_2 _ _)) (by omega))
theorem quiet_tuple {n : Nat} {ks : List Int} {a : Addr} {Q : Bool → Shared → Prop} (hk : IsTupleKey (KI prog w) s.heap ks a) (h : Q true s) : wpAny (model prog w) A (eqIsQuiet (n + 1) (.ref a)) Q E s := by
  have hT := hk.typeIs
  obtain ⟨o, items, m, ho, _, hd, hi⟩ := hk
  unfold eqIsQuiet
  refine wpAny_bind (wpAny_specialOf hT F.slot_tuple_eq.lookup ?_)
  show wpAny _ _ (isInstance (.ref a) (.type "tuple") >>= _) _ _ s
  refine wpAny_bind (wpAny_isInstance hT isSubtype_tuple_tuple ?_)
  simp only [Bool.not_true, Bool.false_eq_true, if_false]
  refine wpAny_bind (wpAny_seqItems ho hd ?_)
  refine wpAny_bind ?_
  show wpAny _ _ (forIn items _ _) _ _ s
  rw [← Array.forIn_toList]
  refine wpAny_forIn_list _ (fun rest r s' => r.1 = none ∧ s' = s ∧ ∀ v ∈ rest, carriedByValue v = true) _ ?_ ?_ _ _ ⟨rfl, rfl, hi.byValue⟩
  · rintro v rest r s' ⟨hr, rfl, hall⟩
    rw [eqIsQuiet_byValue _ (hall v List.mem_cons_self)]
    refine wpAny_bind (wpAny_pure ?_)
    simp only [Bool.not_true, Bool.false_eq_true, if_false]
    exact wpAny_pure ⟨rfl, rfl, fun u hu' => hall u (List.mem_cons_of_mem _ hu')⟩
  · rintro ⟨r1, r2⟩ s' ⟨hr, rfl, _⟩
    simp only at hr
    subst hr
    exact wpAny_pure h
theorem quiet_nest {n : Nat} {ks : List (List Int)} {a : Addr} {Q : Bool → Shared → Prop} (hk : IsNest prog w s.heap ks a) (h : Q true s) : wpAny (model prog w) A (eqIsQuiet (n + 2) (.ref a)) Q E s := by
  have hT := hk.typeIs
  obtain ⟨o, items, m, ho, _, hd, hi⟩ := hk
  unfold eqIsQuiet
  refine wpAny_bind (wpAny_specialOf hT F.slot_tuple_eq.lookup ?_)
  show wpAny _ _ (isInstance (.ref a) (.type "tuple") >>= _) _ _ s
  refine wpAny_bind (wpAny_isInstance hT isSubtype_tuple_tuple ?_)
  simp only [Bool.not_true, Bool.false_eq_true, if_false]
  refine wpAny_bind (wpAny_seqItems ho hd ?_)
  refine wpAny_bind ?_
  show wpAny _ _ (forIn items _ _) _ _ s
  rw [← Array.forIn_toList]
  refine wpAny_forIn_list _ (fun rest r s' => r.1 = none ∧ s' = s ∧ ∃ ks, ItsAre prog w s.heap ks rest) _ ?_ ?_ _ _ ⟨rfl, rfl, ks, hi⟩
  · rintro v rest r s' ⟨hr, rfl, ks, hall⟩
    cases hall with
    | cons h1 t =>
      refine wpAny_bind (quiet_tuple h1 ?_)
      simp only [Bool.not_true, Bool.false_eq_true, if_false]
      exact wpAny_pure ⟨rfl, rfl, _, t⟩
  · rintro ⟨r1, r2⟩ s' ⟨hr, rfl, _⟩
    simp only at hr
    subst hr
    exact wpAny_pure h
end
def nestKind (prog : Program) (w : World) : HeapKind prog w (List (List Int)) where
  is := IsNest prog w
  hash := hashN prog w
  draws := fun ks => draws ks + 1
  room := fun A => A.units + 3 < cLine
  inj := fun hx hy => hx.inj hy
  keeps := fun x ho hd hs => x.keeps ho hd hs
  pyHash := fun hu hk h => pyHash_nest (Nat.lt_of_succ_lt hu) hk h
  eqBool := fun hu hx hy h => eqBool_nest hu hx hy h
  quiet := fun hk h => quiet_nest hk h
end NT

namespace NT
open PySem PySem.SetTable ST
section
variable {prog : Program} {w : World} {A : Around} {E : Value → Shared → Prop} {s : Shared} {a : Addr} {ns : List Int} {ks : List (List Int)} {d : Nat}
theorem nocls_t {Q : Bool → Shared → Prop} (h : IsTupleKey (intKind prog w) s.heap ns a) (q : Q false s) : wpAny (model prog w) A (ofAClassStatement (d + 1) (.ref a)) Q E s := by
  obtain ⟨o, items, n, ho, hc, hd, hi⟩ := id h
  unfold ofAClassStatement
  refine wpAny_bind (wpAny_typeOf h.typeIs ?_)
  dsimp only
  rw [if_pos (by rfl)]
  refine wpAny_bind (wpAny_pure ?_)
  simp only [Bool.not_true, Bool.false_eq_true, if_false]
  refine wpAny_bind (seqItems_tup ho hd ?_)
  dsimp only
  refine wpAny_bind ?_
  rw [← Array.forIn_toList]
  refine wpAny_forIn_list _ (fun rest c s' => c = (none, ()) ∧ s' = s ∧ ∀ y ∈ rest, ∃ n t, y = Value.int n t) _ ?_ ?_ _ _ ⟨rfl, rfl, int_items hi⟩
  · rintro y rest c s' ⟨rfl, rfl, hr⟩
    obtain ⟨n, t, rfl⟩ := hr y (.head _)
    refine wpAny_bind ?_
    cases d <;> (unfold ofAClassStatement; refine wpAny_pure ?_; simp only [Bool.false_eq_true, if_false]; exact wpAny_pure ⟨rfl, rfl, fun y hy => hr y (.tail _ hy)⟩)
  · rintro c s' ⟨rfl, rfl, _⟩
    exact wpAny_pure q
theorem nocls_n {Q : Bool → Shared → Prop} (h : IsNest prog w s.heap ks a) (q : Q false s) : wpAny (model prog w) A (ofAClassStatement (d + 2) (.ref a)) Q E s := by
  obtain ⟨o, items, n, ho, hc, hd, hi⟩ := id h
  unfold ofAClassStatement
  refine wpAny_bind (wpAny_typeOf h.typeIs ?_)
  dsimp only
  rw [if_pos (by rfl)]
  refine wpAny_bind (wpAny_pure ?_)
  simp only [Bool.not_true, Bool.false_eq_true, if_false]
  refine wpAny_bind (seqItems_tup ho hd ?_)
  dsimp only
  refine wpAny_bind ?_
  rw [← Array.forIn_toList]
  refine wpAny_forIn_list _ (fun rest c s' => c = (none, ()) ∧ s' = s ∧ ∃ ks, ItsAre prog w s.heap ks rest) _ ?_ ?_ _ _ ⟨rfl, rfl, ks, hi⟩
  · rintro y rest c s' ⟨rfl, rfl, ks, hr⟩
    cases hr with
    | cons h1 t =>
      refine wpAny_bind (nocls_t h1 ?_)
      simp only [Bool.false_eq_true, if_false]
      exact wpAny_pure ⟨rfl, rfl, _, t⟩
  · rintro c s' ⟨rfl, rfl, _⟩
    exact wpAny_pure q
theorem byval_t {Q : Bool → Shared → Prop} (h : IsTupleKey (intKind prog w) s.heap ns a) (q : Q true s) : wpAny (model prog w) A (hashByValue (d + 1) (.ref a)) Q E s := by
  obtain ⟨o, items, n, ho, hc, hd, hi⟩ := id h
  unfold hashByValue
  refine wpAny_bind (wpAny_specialOf h.typeIs F.slot_tuple_hash.lookup ?_)
  dsimp only
  refine wpAny_bind (seqItems_tup ho hd ?_)
  refine wpAny_bind ?_
  rw [← Array.forIn_toList]
  refine wpAny_forIn_list _ (fun rest c s' => c = (none, ()) ∧ s' = s ∧ ∀ y ∈ rest, ∃ n t, y = Value.int n t) _ ?_ ?_ _ _ ⟨rfl, rfl, int_items hi⟩
  · rintro y rest c s' ⟨rfl, rfl, hr⟩
    obtain ⟨n, t, rfl⟩ := hr y (.head _)
    refine wpAny_bind ?_
    cases d <;> (unfold hashByValue; refine wpAny_pure ?_; simp only [Bool.not_true, Bool.false_eq_true, if_false]; exact wpAny_pure ⟨rfl, rfl, fun y hy => hr y (.tail _ hy)⟩)
  · rintro c s' ⟨rfl, rfl, _⟩
    exact wpAny_pure q
theorem byval_n {Q : Bool → Shared → Prop} (h : IsNest prog w s.heap ks a) (q : Q true s) : wpAny (model prog w) A (hashByValue (d + 2) (.ref a)) Q E s := by
  obtain ⟨o, items, n, ho, hc, hd, hi⟩ := id h
  unfold hashByValue
  refine wpAny_bind (wpAny_specialOf h.typeIs F.slot_tuple_hash.lookup ?_)
  dsimp only
  refine wpAny_bind (seqItems_tup ho hd ?_)
  refine wpAny_bind ?_
  rw [← Array.forIn_toList]
  refine wpAny_forIn_list _ (fun rest c s' => c = (none, ()) ∧ s' = s ∧ ∃ ks, ItsAre prog w s.heap ks rest) _ ?_ ?_ _ _ ⟨rfl, rfl, ks, hi⟩
  · rintro y rest c s' ⟨rfl, rfl, ks, hr⟩
    cases hr with
    | cons h1 t =>
      refine wpAny_bind (byval_t h1 ?_)
      simp only [Bool.not_true, Bool.false_eq_true, if_false]
      exact wpAny_pure ⟨rfl, rfl, _, t⟩
  · rintro c s' ⟨rfl, rfl, _⟩
    exact wpAny_pure q
theorem keepS_n {h h' : Heap} {b : Addr} {o : Obj} {es : Array (Int × Value)} {ep : Nat} {t : SetTable} (x : IsNest prog w h ks a) (ho : h.get? b = some o) (hd : o.data = .set es ep t) (hs : Heap.SameBut b h h') : IsNest prog w h' ks a := by
  obtain ⟨o', items, n, g, c, e, i⟩ := x
  have hne : a ≠ b := by
    rintro rfl
    rw [ho] at g; cases g
    rw [hd] at e; cases e
  exact ⟨o', items, n, (hs.2 a hne).trans g, c, e, i.mono fun k a z => keepS_T z ho hd hs⟩
def kN (prog : Program) (w : World) (P : List (List Int) → Addr → Prop) : SKind prog w (List (List Int)) where
  is := fun h k a => IsNest prog w h k a ∧ P k a
  hash := hashN prog w
  draws := fun ks => draws ks + 1
  room := fun A => A.units + 3 < cLine
  inj := fun hx hy => hx.1.inj hy.1
  keeps := fun x ho hd hs => ⟨x.1.keeps ho hd hs, x.2⟩
  pyHash := fun hu hk h => pyHash_nest (Nat.lt_of_succ_lt hu) hk.1 h
  eqBool := fun hu hx hy h => eqBool_nest hu hx.1 hy.1 h
  quiet := fun hk h => quiet_nest hk.1 h
  nocls := fun h q => nocls_n h.1 q
  byval := fun h q => byval_n h.1 q
  keepS := fun x ho hd hs => ⟨keepS_n x.1 ho hd hs, x.2⟩
end
end NT

namespace NT
open PySem L2
def NTup (H : Hp) (b : Addr) (ks : List (List Int)) : Prop := ∃ as : List Addr, H b = some (.tup (as.map V.ref)) ∧ Paired (fun k a => H a = some (.tup (k.map V.int))) ks as
theorem NTup.keeps {H H' : Hp} {b : Addr} {ks : List (List Int)} (h : NTup H b ks) (ht : ∀ c xs, H c = some (.tup xs) → H' c = some (.tup xs)) : NTup H' b ks := by
  obtain ⟨as, h1, h2⟩ := h
  exact ⟨as, ht _ _ h1, Paired.mapP h2 fun _ _ z => ht _ _ z⟩
theorem its_of {P : Program} {w : World} {H : Hp} {h : Heap} (ok : HOk P w H h) : ∀ {ks : List (List Int)} {as : List Addr} {us : List Value}, Paired (fun k a => H a = some (.tup (k.map V.int))) ks as → Vals (as.map V.ref) us → ItsAre P w h ks us
  | _, _, _, .nil, r => by cases r; exact .nil
  | _, _, _, .cons h1 t, r => by
    rw [List.map_cons] at r
    cases r with
    | cons r1 r2 =>
      cases r1
      obtain ⟨_, its, r, o, e1, e2, n, e3, _⟩ := (show ObjOk P w H h _ (.tup _) from ok _ _ h1)
      exact .cons ⟨o, its.toArray, n, e1, e2, e3, ST.items_of (intsAre_of r)⟩ (its_of ok t r2)
theorem NTup.is {P : Program} {w : World} {H : Hp} {h : Heap} {b : Addr} {ks : List (List Int)} (ok : HOk P w H h) (x : NTup H b ks) : (nestKind P w).is h ks b := by
  obtain ⟨as, h1, h2⟩ := x
  obtain ⟨_, its, r, o, e1, e2, n, e3, _⟩ := (show ObjOk P w H h b (.tup _) from ok b _ h1)
  exact ⟨o, its.toArray, n, e1, e2, e3, its_of ok h2 r⟩
def hN (ks : List (List Int)) : Int := reduceHash (Builtin.Tuple.tupleHashOf (ks.map ST.hT))
def ent (x : List (List Int) × Addr × Value) : DictEntry := ⟨hN x.1, .ref x.2.1, x.2.2⟩
abbrev KN (H : Hp) : List (List (List Int) × V) → List (List (List Int) × Addr × Value) → Prop := Paired fun p q => p.1 = q.1 ∧ NTup H q.2.1 p.1 ∧ RelV p.2 q.2.2
theorem KN.val {H : Hp} {kvs : List (List (List Int) × V)} {xs : List (List (List Int) × Addr × Value)} (r : KN H kvs xs) (k : List (List Int)) : RelO (valV kvs k) ((atKey xs k).map (·.2)) := by
  induction r with
  | nil => exact True.intro
  | @cons p q ps qs h t ih =>
    obtain ⟨h1, _, h2⟩ := h
    by_cases e : p.1 = k
    · have e' : q.1 = k := h1.symm.trans e
      have b : atKey (q :: qs) k = some q.2 := by simp [atKey, List.find?_cons, e']
      rw [valV_pos e, b]; exact h2
    · have e' : ¬ q.1 = k := fun z => e (h1.trans z)
      have b : atKey (q :: qs) k = atKey qs k := by simp [atKey, List.find?_cons, e']
      rw [valV_neg e, b]; exact ih
theorem KN.keeps {H H' : Hp} {kvs : List (List (List Int) × V)} {xs : List (List (List Int) × Addr × Value)} (r : KN H kvs xs) (ht : ∀ b ys, H b = some (.tup ys) → H' b = some (.tup ys)) : KN H' kvs xs :=
  Paired.mapP r fun _ _ z => ⟨z.1, z.2.1.keeps ht, z.2.2⟩
def DN (H : Hp) (a : Addr) (kvs : List (List (List Int) × V)) : Prop := kvs.length ≤ sizeLine ∧ (a == sysModules) = false ∧ ∃ (o : Obj) (es : Array DictEntry) (ep : Nat) (xs : List (List (List Int) × Addr × Value)),
  H a = some (.ext fun h => h.get? a = some o) ∧ (o.ExactDict ∧ o.data = .dict es ep) ∧ es.toList = xs.map ent ∧ (xs.map (·.1)).Nodup ∧ KN H kvs xs
theorem DN.upd {H : Hp} {a p : Addr} {kvs : List (List (List Int) × V)} {u : HO} (h : DN H a kvs) (hne : a ≠ p) (ht : ∀ b xs, H b = some (.tup xs) → L2.upd H p u b = some (.tup xs)) : DN (L2.upd H p u) a kvs := by
  obtain ⟨z, y, o, es, ep, xs, h1, h2, h3, h4, h5⟩ := h
  exact ⟨z, y, o, es, ep, xs, by rw [upd_ne hne]; exact h1, h2, h3, h4, h5.keeps ht⟩
theorem DN.there {H : Hp} {a : Addr} {kvs : List (List (List Int) × V)} (h : DN H a kvs) : ∃ φ, H a = some (.ext φ) := by
  obtain ⟨_, _, o, es, ep, xs, h1, _⟩ := h
  exact ⟨_, h1⟩
def DF (H : Hp) (a : Addr) (o : Obj) (kvs : List (List (List Int) × V)) : Prop := kvs.length ≤ sizeLine ∧ (a == sysModules) = false ∧ ∃ (es : Array DictEntry) (ep : Nat) (xs : List (List (List Int) × Addr × Value)),
  H a = some (.frz o (.ext fun h => h.get? a = some o)) ∧ (o.ExactDict ∧ o.data = .dict es ep) ∧ es.toList = xs.map ent ∧ (xs.map (·.1)).Nodup ∧ KN H kvs xs
theorem DF.keeps {H H' : Hp} {a : Addr} {o : Obj} {kvs : List (List (List Int) × V)} (h : DF H a o kvs) (hf : ∀ b o u, H b = some (.frz o u) → H' b = some (.frz o u)) (ht : ∀ b xs, H b = some (.tup xs) → H' b = some (.tup xs)) : DF H' a o kvs := by
  obtain ⟨z, y, es, ep, xs, h1, h2, h3, h4, h5⟩ := h
  exact ⟨z, y, es, ep, xs, hf _ _ _ h1, h2, h3, h4, h5.keeps ht⟩
theorem DF.upd {H : Hp} {a p : Addr} {o : Obj} {kvs : List (List (List Int) × V)} {u : HO} (h : DF H a o kvs) (hne : a ≠ p) (ht : ∀ b xs, H b = some (.tup xs) → L2.upd H p u b = some (.tup xs)) : DF (L2.upd H p u) a o kvs := by
  obtain ⟨z, y, es, ep, xs, h1, h2, h3, h4, h5⟩ := h
  exact ⟨z, y, es, ep, xs, by rw [upd_ne hne]; exact h1, h2, h3, h4, h5.keeps ht⟩
theorem DF.there {H : Hp} {a : Addr} {o : Obj} {kvs : List (List (List Int) × V)} (h : DF H a o kvs) : H a = some (.frz o (.ext fun h => h.get? a = some o)) := by
  obtain ⟨_, _, es, ep, xs, h1, _⟩ := h
  exact h1
def Itkn (a : Addr) (o : Obj) : It :=
  ⟨fun i H => ∃ kvs, DF H a o kvs ∧ i < kvs.length, fun i H x H' => H' = H ∧ ∃ q, x = .ref q ∧ ∀ kvs, DF H a o kvs → ∃ k v, kvs[i]? = some (k, v) ∧ NTup H q k, fun i H => ∃ kvs, DF H a o kvs ∧ kvs.length ≤ i⟩
section
variable {P : Program} {w : World} {H : Hp} {h : Heap} {a : Addr} {kvs : List (List (List Int) × V)}
theorem DN.heap (ok : HOk P w H h) (x : DN H a kvs) : ∃ xs, KN H kvs xs ∧ h.DictOfH (nestKind P w) a xs := by
  obtain ⟨z, y, o, es, ep, xs, h1, h2, h3, h4, h5⟩ := x
  obtain ⟨ho, _⟩ := (show ObjOk P w H h a (.ext _) from ok a _ h1)
  refine ⟨xs, h5, o, es, ep, ho, h2.1, h2.2, h3, fun x hx => ?_, h4⟩
  have all : ∀ {l : List (List (List Int) × V)} {m : List (List (List Int) × Addr × Value)}, KN H l m → ∀ x ∈ m, (nestKind P w).is h x.1 x.2.1 := by
    intro l m q
    induction q with
    | nil => intro x hx; exact nomatch hx
    | @cons p q ps qs hq t ih =>
      intro x hx
      rcases List.mem_cons.mp hx with e | hx
      · subst e
        exact NTup.is ok (by rw [← hq.1]; exact hq.2.1)
      · exact ih x hx
  exact all h5 x hx
end
section
variable {X : Cx} {pins : List (Addr × Obj)} {σ : St} {H : Hp} {s : Shared} {a b : Addr} {v : V} {r : Value} {A : Around} {E : Value → Shared → Prop} {kvs : List (List (List Int) × V)} {k : List (List Int)}
end
end NT

namespace N3
open PySem NT
section
variable {prog : Program} {w : World}
inductive Its3 (prog : Program) (w : World) (h : Heap) : List (List (List Int)) → List Value → Prop
  | nil : Its3 prog w h [] []
  | cons {k : List (List Int)} {a : Addr} {ks : List (List (List Int))} {vs : List Value} : IsNest prog w h k a → Its3 prog w h ks vs → Its3 prog w h (k :: ks) (.ref a :: vs)
def IsDeep (prog : Program) (w : World) (h : Heap) (ks : List (List (List Int))) (a : Addr) : Prop := ∃ o items n, h.get? a = some o ∧ o.cls = .type "tuple" ∧ o.data = .seq items n ∧ Its3 prog w h ks items.toList
theorem Its3.inj {h : Heap} {x y : List (List (List Int))} {vs : List Value} (hx : Its3 prog w h x vs) (hy : Its3 prog w h y vs) : x = y := by
  induction hx generalizing y with
  | nil => cases hy; rfl
  | cons h1 _ ih =>
    cases hy with
    | cons h2 t2 => rw [h1.inj h2, ih t2]
theorem Its3.mono {h h' : Heap} {x : List (List (List Int))} {vs : List Value} (hx : Its3 prog w h x vs) (f : ∀ k a, IsNest prog w h k a → IsNest prog w h' k a) : Its3 prog w h' x vs := by
  induction hx with
  | nil => exact .nil
  | cons h1 _ ih => exact .cons (f _ _ h1) ih
theorem IsDeep.typeIs {s : Shared} {ks : List (List (List Int))} {a : Addr} (x : IsDeep prog w s.heap ks a) : s.TypeIs (.ref a) "tuple" := let ⟨o, _, _, ho, hc, _⟩ := x; ⟨o, ho, hc⟩
theorem IsDeep.inj {h : Heap} {a : Addr} {x y : List (List (List Int))} (hx : IsDeep prog w h x a) (hy : IsDeep prog w h y a) : x = y := by
  obtain ⟨o, items, n, ho, _, hd, hi⟩ := hx
  obtain ⟨o', items', n', ho', _, hd', hi'⟩ := hy
  obtain rfl : o = o' := Option.some.inj (ho.symm.trans ho')
  rw [hd] at hd'
  injection hd' with h1 _
  subst h1
  exact hi.inj hi'
theorem IsDeep.keeps {h h' : Heap} {ks : List (List (List Int))} {a d : Addr} {o : Obj} {es ep} (x : IsDeep prog w h ks a) (ho : h.get? d = some o) (hd : o.data = .dict es ep) (hs : Heap.SameBut d h h') : IsDeep prog w h' ks a := by
  obtain ⟨o', items, n, ho', hc, hd', hi⟩ := x
  have hne : a ≠ d := by
    rintro rfl
    obtain rfl : o' = o := Option.some.inj (ho'.symm.trans ho)
    rw [hd] at hd'; exact nomatch hd'
  exact ⟨o', items, n, (hs.2 a hne).trans ho', hc, hd', hi.mono fun k a z => z.keeps ho hd hs⟩
def hash3 (prog : Program) (w : World) (ks : List (List (List Int))) : Int := reduceHash (Builtin.Tuple.tupleHashOf (ks.map (hashN prog w)))
def draws3 (ks : List (List (List Int))) : Nat := (ks.map fun k => draws k + 1).sum
variable {A : Around} {E : Value → Shared → Prop} {s : Shared}
theorem pyHash_deep {ks : List (List (List Int))} {a : Addr} {Q : Int → Shared → Prop} (hu : A.units + 3 < cLine) (hk : IsDeep prog w s.heap ks a) (h : Q (hash3 prog w ks) { s with toks := s.toks + (draws3 ks + 1) }) :
    wpAny (model prog w) A (pyHash (.ref a)) Q E s := by
  have hT := hk.typeIs
  obtain ⟨o, items, n, ho, _, hd, hi⟩ := hk
  unfold pyHash
  first | unfold pyHashByItsType | skip
  first | refine wpAny_bind (wpAny_cRoomFor_or (.inr (by omega)) ?_) | skip
  refine wpAny_bind (wpAny_specialOf hT F.slot_tuple_hash.lookup ?_)
  show wpAny _ _ (if (some (Value.builtin "tuple.__hash__") == some Value.none) = true then _ else _) Q E s
  rw [if_neg (by rw [beq_builtin_none]; exact Bool.false_ne_true)]
  refine wpAny_bind (wpAny_specialOf hT F.slot_tuple_hash.lookup ?_)
  show wpAny _ _ (callSpecialIfBoundUnlessNone? (.ref a) "__hash__" _ >>= _) Q E s
  refine wpAny_bind (wpAny_callSpecialIfBoundUnlessNone?_slot hT F.slot_tuple_hash (wpAny_call_entry F.slot_tuple_hash hT F.entry_tuple_hash ?_ (F.args_tuple_hash_1 _)))
  show wpAny _ _ (Builtin.Tuple.tupleItemsOf (.ref a) >>= _) _ _ s
  refine wpAny_bind (wpAny_tupleItemsOf ho hd ?_)
  refine wpAny_bind ?_
  rw [← Array.forIn_toList]
  refine wpAny_forIn_list _
    (fun rest (b : Array Int) s' => ∃ done left, ks = done ++ left ∧ Its3 prog w s.heap left rest ∧ b.toList = done.map (hashN prog w) ∧ s' = { s with toks := s.toks + draws3 done })
    _ ?_ ?_ _ _ ⟨[], ks, rfl, hi, rfl, rfl⟩
  · rintro x rest b s' ⟨done, left, rfl, hl, hb, rfl⟩
    cases hl with
    | @cons k _ ks' _ h1 hl' =>
      refine wpAny_bind (pyHash_nest ?_ h1 ?_)
      · show A.units + 1 + 2 < cLine
        omega
      · first
        | exact wpAny_pure ⟨done ++ [k], ks', by simp, hl', by simp [hb], by simp [draws3, Nat.add_assoc]⟩
        | exact wpAny_bind (wpAny_pure (wpAny_pure ⟨done ++ [k], ks', by simp, hl', by simp [hb], by simp [draws3, Nat.add_assoc]⟩))
  · rintro b s' ⟨done, left, rfl, hl, hb, rfl⟩
    cases hl
    rw [List.append_nil] at h
    show wpAny _ _ (retInt (Builtin.Tuple.tupleHashOf b.toList)) _ _ _
    rw [hb]
    refine wpAny_ret_mkInt ?_
    show wpAny _ _ (if (decide (-(2 : Int) ^ 63 ≤ Builtin.Tuple.tupleHashOf (done.map (hashN prog w))) && decide (Builtin.Tuple.tupleHashOf (done.map (hashN prog w)) < 2 ^ 63)) = true then _ else _) Q E _
    unfold hash3 reduceHash at h
    by_cases hr : (decide (-(2 : Int) ^ 63 ≤ Builtin.Tuple.tupleHashOf (done.map (hashN prog w))) && decide (Builtin.Tuple.tupleHashOf (done.map (hashN prog w)) < 2 ^ 63)) = true
    · rw [if_pos hr]
      rw [if_pos hr] at h
      exact wpAny_pure (by simpa [Nat.add_assoc] using h)
    · rw [if_neg hr]
      rw [if_neg hr] at h
      exact wpAny_bind (wpAny_rule (wpAny_pure (by simpa [Nat.add_assoc] using h)))
theorem deep_eq_tree {x y : List (List (List Int))} {a b : Addr} {P : Fin → Shared → Prop} (hu : A.units + 4 < cLine) (hx : IsDeep prog w s.heap x a) (hy : IsDeep prog w s.heap y b) (h : P (.done (.ret (.bool (decide (x = y))))) s) :
    wpAny (model prog w) A (Builtin.«tuple.__eq__» ⟨[.ref a, .ref b], []⟩) P E s := by
  have hTb := hy.typeIs
  obtain ⟨oa, xs, na, hoa, _, hda, hia⟩ := hx
  obtain ⟨ob, ys, nb, hob, _, hdb, hib⟩ := hy
  show wpAny _ _ (isInstance (.ref b) (.type "tuple") >>= _) _ _ s
  refine wpAny_bind (wpAny_isInstance hTb isSubtype_tuple_tuple ?_)
  simp only [Bool.not_true, Bool.false_eq_true, if_false]
  refine wpAny_bind (wpAny_tupleItemsOf hoa hda ?_)
  refine wpAny_bind (wpAny_tupleItemsOf hob hdb ?_)
  refine wpAny_bind ?_
  refine wpAny_forIn_list _
    (fun rest r s' => r.1 = none ∧ s' = s ∧ ∃ x' y' xs' ys', rest = List.zip xs' ys' ∧ Its3 prog w s.heap x' xs' ∧ Its3 prog w s.heap y' ys' ∧ decide (x' = y') = decide (x = y) ∧ (xs'.length == ys'.length) = (xs.size == ys.size))
    _ ?_ ?_ _ _ ⟨rfl, rfl, x, y, xs.toList, ys.toList, rfl, hia, hib, rfl, by simp⟩
  · rintro ⟨u, v⟩ rest r s' ⟨hr, rfl, x', y', xs', ys', hz, hx', hy', hdec, hlen⟩
    cases hx' with
    | nil => simp at hz
    | @cons k1 u' x'' xs'' h1 hx'' =>
      cases hy' with
      | nil => simp at hz
      | @cons k2 v' y'' ys'' h2 hy'' =>
        simp only [List.zip_cons_cons, List.cons.injEq, Prod.mk.injEq] at hz
        obtain ⟨⟨rfl, rfl⟩, rfl⟩ := hz
        refine wpAny_bind (eqBool_nest (x := k1) (y := k2) (by first | omega | (show A.units + 1 + 3 < cLine; omega)) h1 h2 ?_)
        by_cases hk : k1 = k2
        · subst hk
          rw [decide_eq_true rfl]
          simp only [Bool.not_true, Bool.false_eq_true, if_false]
          refine wpAny_pure ⟨rfl, rfl, x'', y'', xs'', ys'', rfl, hx'', hy'', ?_, by simpa using hlen⟩
          rw [← hdec]
          by_cases hxy : x'' = y''
          · simp [hxy]
          · simp [hxy]
        · rw [decide_eq_false hk]
          simp only [Bool.not_false, if_true]
          have hf : decide (x = y) = false := by rw [← hdec]; simp [hk]
          rw [hf] at h
          exact wpAny_bind (wpAny_pure (wpAny_pure (wpAny_pure h)))
  · rintro ⟨r1, r2⟩ s' ⟨hr, rfl, x', y', xs', ys', hz, hx', hy', hdec, hlen⟩
    simp only at hr
    subst hr
    refine wpAny_pure ?_
    have hfin : (xs.size == ys.size) = decide (x = y) := by
      rw [← hdec, ← hlen]
      cases hx' with
      | nil =>
        cases hy' with
        | nil => simp
        | cons _ _ => simp
      | cons _ _ =>
        cases hy' with
        | nil => simp
        | cons _ _ => simp at hz
    show P (.done (.ret (.bool (xs.size == ys.size)))) s'
    rw [hfin]; exact h
theorem eqBool_deep {x y : List (List (List Int))} {a b : Addr} {Q : Bool → Shared → Prop} (hu : A.units + 6 < cLine) (hx : IsDeep prog w s.heap x a) (hy : IsDeep prog w s.heap y b) (h : Q (decide (x = y)) s) :
    wpAny (model prog w) A (eqBool (.ref a) (.ref b)) Q E s := by
  unfold eqBool
  try with_reducible refine wpAny_holding ?_
  show wpAny _ _ (if (Value.ref a == Value.ref b) = true then _ else _) Q E s
  by_cases hab : (Value.ref a == Value.ref b) = true
  · rw [if_pos hab]
    have e : a = b := by have := eq_of_beq hab; injection this
    subst e
    obtain rfl := hx.inj hy
    exact wpAny_bind (wpAny_rule (wpAny_pure (by simpa using h)))
  · rw [if_neg hab]
    exact wpAny_bind (wpAny_richCompare_same_room (op := .Eq) hx.typeIs hy.typeIs F.slot_tuple_eq
      (wpAny_call_entry F.slot_tuple_eq hx.typeIs F.entry_tuple_eq (deep_eq_tree (by show A.units + 1 + 4 < cLine; omega) hx hy ⟨_, rfl, (fun e => nomatch e), wpAny_truthy_bool h⟩) (F.args_tuple_eq_2 _ _)) (by omega))
theorem quiet_deep {n : Nat} {ks : List (List (List Int))} {a : Addr} {Q : Bool → Shared → Prop} (hk : IsDeep prog w s.heap ks a) (h : Q true s) : wpAny (model prog w) A (eqIsQuiet (n + 3) (.ref a)) Q E s := by
  have hT := hk.typeIs
  obtain ⟨o, items, m, ho, _, hd, hi⟩ := hk
  unfold eqIsQuiet
  refine wpAny_bind (wpAny_specialOf hT F.slot_tuple_eq.lookup ?_)
  show wpAny _ _ (isInstance (.ref a) (.type "tuple") >>= _) _ _ s
  refine wpAny_bind (wpAny_isInstance hT isSubtype_tuple_tuple ?_)
  simp only [Bool.not_true, Bool.false_eq_true, if_false]
  refine wpAny_bind (wpAny_seqItems ho hd ?_)
  refine wpAny_bind ?_
  show wpAny _ _ (forIn items _ _) _ _ s
  rw [← Array.forIn_toList]
  refine wpAny_forIn_list _ (fun rest r s' => r.1 = none ∧ s' = s ∧ ∃ ks, Its3 prog w s.heap ks rest) _ ?_ ?_ _ _ ⟨rfl, rfl, ks, hi⟩
  · rintro v rest r s' ⟨hr, rfl, ks, hall⟩
    cases hall with
    | cons h1 t =>
      refine wpAny_bind (quiet_nest h1 ?_)
      simp only [Bool.not_true, Bool.false_eq_true, if_false]
      exact wpAny_pure ⟨rfl, rfl, _, t⟩
  · rintro ⟨r1, r2⟩ s' ⟨hr, rfl, _⟩
    simp only at hr
    subst hr
    exact wpAny_pure h
end
def deepKind (prog : Program) (w : World) : HeapKind prog w (List (List (List Int))) where
  is := IsDeep prog w
  hash := hash3 prog w
  draws := fun ks => draws3 ks + 1
  room := fun A => A.units + 6 < cLine
  inj := fun hx hy => hx.inj hy
  keeps := fun x ho hd hs => x.keeps ho hd hs
  pyHash := fun hu hk h => pyHash_deep (Nat.lt_of_le_of_lt (Nat.add_le_add_left (by decide : 3 ≤ 6) _) hu) hk h
  eqBool := fun hu hx hy h => eqBool_deep hu hx hy h
  quiet := fun hk h => quiet_deep hk h
end N3

namespace N3
open PySem L2 NT
def Tup3 (H : Hp) (b : Addr) (ks : List (List (List Int))) : Prop := ∃ as : List Addr, H b = some (.tup (as.map V.ref)) ∧ Paired (fun k a => NTup H a k) ks as
theorem Tup3.keeps {H H' : Hp} {b : Addr} {ks : List (List (List Int))} (h : Tup3 H b ks) (ht : ∀ c xs, H c = some (.tup xs) → H' c = some (.tup xs)) : Tup3 H' b ks := by
  obtain ⟨as, h1, h2⟩ := h
  exact ⟨as, ht _ _ h1, Paired.mapP h2 fun _ _ z => z.keeps ht⟩
theorem its3_of {P : Program} {w : World} {H : Hp} {h : Heap} (ok : HOk P w H h) : ∀ {ks : List (List (List Int))} {as : List Addr} {us : List Value}, Paired (fun k a => NTup H a k) ks as → Vals (as.map V.ref) us → Its3 P w h ks us
  | _, _, _, .nil, r => by cases r; exact .nil
  | _, _, _, .cons h1 t, r => by
    rw [List.map_cons] at r
    cases r with
    | cons r1 r2 =>
      cases r1
      exact .cons (NTup.is ok h1) (its3_of ok t r2)
theorem Tup3.is {P : Program} {w : World} {H : Hp} {h : Heap} {b : Addr} {ks : List (List (List Int))} (ok : HOk P w H h) (x : Tup3 H b ks) : (deepKind P w).is h ks b := by
  obtain ⟨as, h1, h2⟩ := x
  obtain ⟨_, its, r, o, e1, e2, n, e3, _⟩ := (show ObjOk P w H h b (.tup _) from ok b _ h1)
  exact ⟨o, its.toArray, n, e1, e2, e3, its3_of ok h2 r⟩
def h3 (ks : List (List (List Int))) : Int := reduceHash (Builtin.Tuple.tupleHashOf (ks.map hN))
def ent (x : List (List (List Int)) × Addr × Value) : DictEntry := ⟨h3 x.1, .ref x.2.1, x.2.2⟩
abbrev K3 (H : Hp) : List (List (List (List Int)) × V) → List (List (List (List Int)) × Addr × Value) → Prop := Paired fun p q => p.1 = q.1 ∧ Tup3 H q.2.1 p.1 ∧ RelV p.2 q.2.2
theorem K3.val {H : Hp} {kvs : List (List (List (List Int)) × V)} {xs : List (List (List (List Int)) × Addr × Value)} (r : K3 H kvs xs) (k : List (List (List Int))) : RelO (valV kvs k) ((atKey xs k).map (·.2)) := by
  induction r with
  | nil => exact True.intro
  | @cons p q ps qs h t ih =>
    obtain ⟨h1, _, h2⟩ := h
    by_cases e : p.1 = k
    · have e' : q.1 = k := h1.symm.trans e
      have b : atKey (q :: qs) k = some q.2 := by simp [atKey, List.find?_cons, e']
      rw [valV_pos e, b]; exact h2
    · have e' : ¬ q.1 = k := fun z => e (h1.trans z)
      have b : atKey (q :: qs) k = atKey qs k := by simp [atKey, List.find?_cons, e']
      rw [valV_neg e, b]; exact ih
theorem K3.keeps {H H' : Hp} {kvs : List (List (List (List Int)) × V)} {xs : List (List (List (List Int)) × Addr × Value)} (r : K3 H kvs xs) (ht : ∀ b ys, H b = some (.tup ys) → H' b = some (.tup ys)) : K3 H' kvs xs :=
  Paired.mapP r fun _ _ z => ⟨z.1, z.2.1.keeps ht, z.2.2⟩
def DD (H : Hp) (a : Addr) (kvs : List (List (List (List Int)) × V)) : Prop := kvs.length ≤ sizeLine ∧ (a == sysModules) = false ∧ ∃ (o : Obj) (es : Array DictEntry) (ep : Nat) (xs : List (List (List (List Int)) × Addr × Value)),
  H a = some (.ext fun h => h.get? a = some o) ∧ (o.ExactDict ∧ o.data = .dict es ep) ∧ es.toList = xs.map ent ∧ (xs.map (·.1)).Nodup ∧ K3 H kvs xs
theorem DD.upd {H : Hp} {a p : Addr} {kvs : List (List (List (List Int)) × V)} {u : HO} (h : DD H a kvs) (hne : a ≠ p) (ht : ∀ b xs, H b = some (.tup xs) → L2.upd H p u b = some (.tup xs)) : DD (L2.upd H p u) a kvs := by
  obtain ⟨z, y, o, es, ep, xs, h1, h2, h3, h4, h5⟩ := h
  exact ⟨z, y, o, es, ep, xs, by rw [upd_ne hne]; exact h1, h2, h3, h4, h5.keeps ht⟩
theorem DD.there {H : Hp} {a : Addr} {kvs : List (List (List (List Int)) × V)} (h : DD H a kvs) : ∃ φ, H a = some (.ext φ) := by
  obtain ⟨_, _, o, es, ep, xs, h1, _⟩ := h
  exact ⟨_, h1⟩
section
variable {P : Program} {w : World} {H : Hp} {h : Heap} {a : Addr} {kvs : List (List (List (List Int)) × V)}
theorem DD.heap (ok : HOk P w H h) (x : DD H a kvs) : ∃ xs, K3 H kvs xs ∧ h.DictOfH (deepKind P w) a xs := by
  obtain ⟨z, y, o, es, ep, xs, h1, h2, h3, h4, h5⟩ := x
  obtain ⟨ho, _⟩ := (show ObjOk P w H h a (.ext _) from ok a _ h1)
  refine ⟨xs, h5, o, es, ep, ho, h2.1, h2.2, h3, fun x hx => ?_, h4⟩
  have all : ∀ {l : List (List (List (List Int)) × V)} {m : List (List (List (List Int)) × Addr × Value)}, K3 H l m → ∀ x ∈ m, (deepKind P w).is h x.1 x.2.1 := by
    intro l m q
    induction q with
    | nil => intro x hx; exact nomatch hx
    | @cons p q ps qs hq t ih =>
      intro x hx
      rcases List.mem_cons.mp hx with e | hx
      · subst e
        exact Tup3.is ok (by rw [← hq.1]; exact hq.2.1)
      · exact ih x hx
  exact all h5 x hx
end
section
variable {X : Cx} {pins : List (Addr × Obj)} {σ : St} {H : Hp} {s : Shared} {a b : Addr} {v : V} {r : Value} {A : Around} {E : Value → Shared → Prop} {kvs : List (List (List (List Int)) × V)} {k : List (List (List Int))}
end
end N3

namespace NT
open PySem PySem.SetTable PyProof.Rows ST
set_option autoImplicit false
section
variable {prog : Program} {w : World} {P : List (List Int) → Addr → Prop} {A : Around} {E : Value → Shared → Prop} {s : Shared}
structure SetN (prog : Program) (w : World) (P : List (List Int) → Addr → Prop) (h : Heap) (a : Addr) (ks : List (List (List Int))) : Prop where
  ex : ∃ es ep t, SetAt (kN prog w P) h a es ep t ks ∧ Roomy t ∧ t.plain = true ∧ t.led = !byText w
theorem SetN.new (h : Heap) : SetN prog w P (h.push { cls := .type "set", dict := none, data := .set #[] 0 (.fresh 0 0 (!byText w)) }) h.objs.size [] := by
  refine ⟨#[], 0, .fresh 0 0 (!byText w), ⟨⟨_, Heap.get?_push_size _ rfl, ⟨rfl, rfl, rfl⟩, rfl⟩, ⟨.inl rfl, rfl, rfl, by show 0 ≤ 7; omega, fun i j x y e => by simp [SetTable.fresh] at e, fun j ⟨i, e⟩ => by simp [SetTable.fresh] at e, fun i j e h1 => by simp [SetTable.fresh] at h1⟩, ⟨rfl, fun i k hi => by simp at hi, List.nodup_nil⟩⟩, ?_, rfl, rfl⟩
  show 0 * 5 < 7 * 3
  omega
theorem SetN.has {a x : Addr} {ks : List (List (List Int))} {k : List (List Int)} {Q : Bool → Shared → Prop} (S : SetN prog w P s.heap a ks) (hu : A.units + 3 < cLine) (hk : (kN prog w P).is s.heap k x) (q1 : k ∈ ks → Q true { s with toks := s.toks + (draws k + 1) }) (q2 : k ∉ ks → Q false { s with toks := s.toks + (draws k + 1) }) : wpAny (model prog w) A (setContains a (.ref x)) Q E s := by
  obtain ⟨es, ep, t, S, _⟩ := S.ex
  exact wp_contains S hu hk q1 q2
end
open L2
def SOKN (tx : Bool) (H : Hp) (a : Addr) (ks : List (List (List Int))) : Prop := ∃ (o : Obj) (es : Array (Int × Value)) (ep : Nat) (t : SetTable) (ks' : List (List (List Int))),
  H a = some (.ext fun h => h.get? a = some o) ∧ (o.ExactSet ∧ o.data = .set es ep t) ∧ Tab t es ∧ Roomy t ∧ t.plain = true ∧ t.led = !tx ∧ ks'.Perm ks ∧ ks'.Nodup ∧ ks'.length = es.size ∧
  ∀ (i : Nat) (k : List (List Int)), ks'[i]? = some k → ∃ ad, es[i]? = some (hN k, .ref ad) ∧ NTup H ad k
theorem SOKN.upd {tx : Bool} {H : Hp} {a p : Addr} {ks : List (List (List Int))} {u : HO} (h : SOKN tx H a ks) (hne : a ≠ p) (ht : ∀ b xs, H b = some (.tup xs) → L2.upd H p u b = some (.tup xs)) : SOKN tx (L2.upd H p u) a ks := by
  obtain ⟨o, es, ep, t, ks', h1, h2, h3, h4, h5, h6, h7, h8, h9, h10⟩ := h
  refine ⟨o, es, ep, t, ks', by rw [upd_ne hne]; exact h1, h2, h3, h4, h5, h6, h7, h8, h9, fun i k hk => ?_⟩
  obtain ⟨ad, e1, e2⟩ := h10 i k hk
  exact ⟨ad, e1, e2.keeps ht⟩
theorem SOKN.there {tx : Bool} {H : Hp} {a : Addr} {ks : List (List (List Int))} (h : SOKN tx H a ks) : ∃ φ, H a = some (.ext φ) := by
  obtain ⟨o, es, ep, t, ks', h1, _⟩ := h
  exact ⟨_, h1⟩
abbrev PN (H : Hp) : List (List Int) → Addr → Prop := fun k ad => NTup H ad k
section
variable {X : Cx} {pins : List (Addr × Obj)} {σ : L2.St} {H : Hp} {s : Shared} {a : Addr} {ks : List (List (List Int))}
theorem key_is (I : Inv X pins σ H s) {k : List (List Int)} {ad : Addr} (h : NTup H ad k) : (kN X.prog X.w (PN H)).is s.heap k ad := ⟨h.is I.hok, h⟩
end
end NT

namespace Mir
open PySem L2
structure KW where
  K : PySem.W.Frag
  tx : Bool
instance : Coe KW PySem.W.Frag := ⟨KW.K⟩
abbrev kw (X : Cx) : KW := ⟨X.K, ST.byText X.w⟩
structure ExcO (o : Obj) (C : Addr) : Prop where
  cls : o.cls = .ref C
inductive TN where
  | non | bl | int | str | tup | lst | dic | set | verr
def TN.nm : TN → String
  | .non => "NoneType" | .bl => "bool" | .int => "int" | .str => "str" | .tup => "tuple" | .lst => "list" | .dic => "dict" | .set => "set" | .verr => "ValueError"
inductive D where
  | non | bl (b : Bool) | int (i : Int) | str (x : Str) | ty (n : TN) | tup (xs : List D) | ref (n : Nat) | exc (c : String) | cls (c : String) | mv (c : String) (ns : List Str) (ds : List D)
  deriving Inhabited
inductive O where
  | lst (xs : List D) | ro (xs : List D) | dic (kvs : List (List Key × D)) | set (ks : List (List Int)) | dfr (kvs : List (List Key × D)) | dcn (kvs : List (List (List Int) × D)) | stn (ks : List (List (List Int))) | dnf (kvs : List (List (List Int) × D)) | dd (kvs : List (List (List (List Int)) × D))
abbrev Store := List O
abbrev Ev := List (Option D)
def O.mut : O → Prop
  | .ro _ => False
  | _ => True
mutual
inductive RD (K : KW) (ρ : List Addr) (H : Hp) : D → V → Prop
  | non : RD K ρ H .non .non
  | bl (b : Bool) : RD K ρ H (.bl b) (.bl b)
  | int (i : Int) : RD K ρ H (.int i) (.int i)
  | str (x : Str) : RD K ρ H (.str x) (.str x)
  | ty (n : TN) : RD K ρ H (.ty n) (.ty n.nm)
  | tup {a : Addr} {xs : List V} {ds : List D} (h : H a = some (.tup xs)) (r : RDs K ρ H ds xs) : RD K ρ H (.tup ds) (.ref a)
  | ref {n : Nat} {a : Addr} (h : ρ[n]? = some a) : RD K ρ H (.ref n) (.ref a)
  | exc {c : String} {e C : Addr} {o : Obj} (h : H e = some (.frz o (.own e))) (hc : ExcO o C) (hn : PySem.W.nsIn K mainGlobals (Str.ofString c) = some (some (.ref C))) : RD K ρ H (.exc c) (.ref e)
  | cls {c : String} {C : Addr} (hn : PySem.W.nsIn K mainGlobals (Str.ofString c) = some (some (.ref C))) : RD K ρ H (.cls c) (.ref C)
  | mv {c : String} {a C dx : Addr} {ns : List Str} {ds : List D} {vs : List V} (h : H a = some (.ins C dx (ns.zip vs))) (hl : ns.length = vs.length) (hn : PySem.W.nsIn K mainGlobals (Str.ofString c) = some (some (.ref C))) (r : RDs K ρ H ds vs) : RD K ρ H (.mv c ns ds) (.ref a)
inductive RDs (K : KW) (ρ : List Addr) (H : Hp) : List D → List V → Prop
  | nil : RDs K ρ H [] []
  | cons {d : D} {v : V} {ds : List D} {vs : List V} (h : RD K ρ H d v) (t : RDs K ρ H ds vs) : RDs K ρ H (d :: ds) (v :: vs)
end
def kD : Key → D
  | .inl i => .int i
  | .inr x => .str x
inductive KVs (K : KW) (ρ : List Addr) (H : Hp) : List (List Key × D) → List (List Key × V) → Prop
  | nil : KVs K ρ H [] []
  | cons {k : List Key} {d : D} {v : V} {ds : List (List Key × D)} {vs : List (List Key × V)} (h : RD K ρ H d v) (t : KVs K ρ H ds vs) : KVs K ρ H ((k, d) :: ds) ((k, v) :: vs)
inductive NKs (K : KW) (ρ : List Addr) (H : Hp) : List (List (List Int) × D) → List (List (List Int) × V) → Prop
  | nil : NKs K ρ H [] []
  | cons {k : List (List Int)} {d : D} {v : V} {ds : List (List (List Int) × D)} {vs : List (List (List Int) × V)} (h : RD K ρ H d v) (t : NKs K ρ H ds vs) : NKs K ρ H ((k, d) :: ds) ((k, v) :: vs)
inductive K3s (K : KW) (ρ : List Addr) (H : Hp) : List (List (List (List Int)) × D) → List (List (List (List Int)) × V) → Prop
  | nil : K3s K ρ H [] []
  | cons {k : List (List (List Int))} {d : D} {v : V} {ds : List (List (List (List Int)) × D)} {vs : List (List (List (List Int)) × V)} (h : RD K ρ H d v) (t : K3s K ρ H ds vs) : K3s K ρ H ((k, d) :: ds) ((k, v) :: vs)
def RoL (K : KW) (H : Hp) (a : Addr) (xs : List V) : Prop := (∃ o, H a = some (.frz o (.lst xs))) ∨
    ∃ (o : Obj) (its : Array Value) (n : Nat), K.K.lookup a = some o ∧ o.cls = .type "list" ∧ o.dict = none ∧ o.data = .seq its n ∧ its.size ≤ sizeLine ∧ Vals xs its.toList
theorem RoL.sq {K : KW} {H : Hp} {a : Addr} {xs : List V} (h : RoL K H a xs) : SqL K H a xs := by
  rcases h with h | h
  · exact .inl (.inr h)
  · exact .inr h
def OK (K : KW) (ρ : List Addr) (H : Hp) (a : Addr) : O → Prop
  | .lst ds => ∃ xs, H a = some (.lst xs) ∧ RDs K ρ H ds xs
  | .ro ds => ∃ xs, RoL K H a xs ∧ RDs K ρ H ds xs
  | .dic kvs => ∃ xs, H a = some (.dT xs) ∧ KVs K ρ H kvs xs
  | .set ks => ST.SOK K.tx H a ks
  | .dfr kvs => ∃ o xs, H a = some (.frz o (.dT xs)) ∧ KVs K ρ H kvs xs
  | .dcn kvs => ∃ xs, NT.DN H a xs ∧ NKs K ρ H kvs xs
  | .stn ks => NT.SOKN K.tx H a ks
  | .dnf kvs => ∃ o xs, NT.DF H a o xs ∧ NKs K ρ H kvs xs
  | .dd kvs => ∃ xs, N3.DD H a xs ∧ K3s K ρ H kvs xs
structure Sim (K : KW) (ρ : List Addr) (S : Store) (H : Hp) : Prop where
  len : ρ.length = S.length
  ok : ∀ (n : Nat) (a : Addr) (o : O), ρ[n]? = some a → S[n]? = some o → OK K ρ H a o
  hd : ∃ xs l, S = .ro xs :: l ∧ ∀ o ∈ l, o.mut
  inj : ∀ (n m : Nat) (a : Addr) (o o' : O), ρ[n]? = some a → ρ[m]? = some a → S[n]? = some o → S[m]? = some o' → o.mut → o'.mut → n = m
structure Ex0 (ρ : List Addr) (H : Hp) (ρ' : List Addr) (H' : Hp) : Prop where
  pre : ∃ τ, ρ' = ρ ++ τ
  tup : ∀ b xs, H b = some (.tup xs) → H' b = some (.tup xs)
  frz : ∀ b o u, H b = some (.frz o u) → H' b = some (.frz o u)
  ins : ∀ b C dx fs, H b = some (.ins C dx fs) → H' b = some (.ins C dx fs)
structure Ext (ρ : List Addr) (H : Hp) (ρ' : List Addr) (H' : Hp) : Prop extends Ex0 ρ H ρ' H' where
  oth : ∀ b o, H b = some o → b ∉ ρ.tail → H' b = some o ∧ b ∉ ρ'.tail
instance {ρ : List Addr} {H : Hp} {ρ' : List Addr} {H' : Hp} : CoeOut (Ext ρ H ρ' H') (Ex0 ρ H ρ' H') := ⟨Ext.toEx0⟩
theorem Ext.refl (ρ : List Addr) (H : Hp) : Ext ρ H ρ H := ⟨⟨⟨[], by simp⟩, fun _ _ h => h, fun _ _ _ h => h, fun _ _ _ _ h => h⟩, fun _ _ h n => ⟨h, n⟩⟩
theorem Ext.trans {ρ ρ1 ρ2 : List Addr} {H H1 H2 : Hp} (a : Ext ρ H ρ1 H1) (b : Ext ρ1 H1 ρ2 H2) : Ext ρ H ρ2 H2 := by
  obtain ⟨τ, rfl⟩ := a.pre
  obtain ⟨υ, rfl⟩ := b.pre
  exact ⟨⟨⟨τ ++ υ, by simp⟩, fun c xs h => b.tup c xs (a.tup c xs h), fun c o u h => b.frz c o u (a.frz c o u h), fun c C dx fs h => b.ins c C dx fs (a.ins c C dx fs h)⟩, fun c o h n => let ⟨h1, n1⟩ := a.oth c o h n; b.oth c o h1 n1⟩
theorem Ex0.at {ρ ρ' : List Addr} {H H' : Hp} (e : Ex0 ρ H ρ' H') {n : Nat} {a : Addr} (h : ρ[n]? = some a) : ρ'[n]? = some a := by
  obtain ⟨τ, rfl⟩ := e.pre
  have : n < ρ.length := (List.getElem?_eq_some_iff.mp h).1
  rw [List.getElem?_append_left this]; exact h
mutual
theorem RD.mono {K : KW} {ρ ρ' : List Addr} {H H' : Hp} (e : Ex0 ρ H ρ' H') : ∀ {d : D} {v : V}, RD K ρ H d v → RD K ρ' H' d v
  | _, _, .non => .non
  | _, _, .bl b => .bl b
  | _, _, .int i => .int i
  | _, _, .str x => .str x
  | _, _, .ty n => .ty n
  | _, _, .tup h r => .tup (e.tup _ _ h) (RDs.mono e r)
  | _, _, .ref h => .ref (e.at h)
  | _, _, .exc h hc hn => .exc (e.frz _ _ _ h) hc hn
  | _, _, .cls hn => .cls hn
  | _, _, .mv h hl hn r => .mv (e.ins _ _ _ _ h) hl hn (RDs.mono e r)
theorem RDs.mono {K : KW} {ρ ρ' : List Addr} {H H' : Hp} (e : Ex0 ρ H ρ' H') : ∀ {ds : List D} {vs : List V}, RDs K ρ H ds vs → RDs K ρ' H' ds vs
  | _, _, .nil => .nil
  | _, _, .cons h t => .cons (RD.mono e h) (RDs.mono e t)
end
theorem KVs.mono {K : KW} {ρ ρ' : List Addr} {H H' : Hp} (e : Ex0 ρ H ρ' H') : ∀ {ds : List (List Key × D)} {vs : List (List Key × V)}, KVs K ρ H ds vs → KVs K ρ' H' ds vs
  | _, _, .nil => .nil
  | _, _, .cons h t => .cons (h.mono e) (KVs.mono e t)
theorem NKs.mono {K : KW} {ρ ρ' : List Addr} {H H' : Hp} (e : Ex0 ρ H ρ' H') : ∀ {ds : List (List (List Int) × D)} {vs : List (List (List Int) × V)}, NKs K ρ H ds vs → NKs K ρ' H' ds vs
  | _, _, .nil => .nil
  | _, _, .cons h t => .cons (h.mono e) (NKs.mono e t)
theorem K3s.mono {K : KW} {ρ ρ' : List Addr} {H H' : Hp} (e : Ex0 ρ H ρ' H') : ∀ {ds : List (List (List (List Int)) × D)} {vs : List (List (List (List Int)) × V)}, K3s K ρ H ds vs → K3s K ρ' H' ds vs
  | _, _, .nil => .nil
  | _, _, .cons h t => .cons (h.mono e) (K3s.mono e t)
theorem RDs.len {K : KW} {ρ : List Addr} {H : Hp} : ∀ {ds : List D} {vs : List V}, RDs K ρ H ds vs → ds.length = vs.length
  | _, _, .nil => rfl
  | _, _, .cons _ t => by simp [RDs.len t]
theorem RDs.get {K : KW} {ρ : List Addr} {H : Hp} : ∀ {ds : List D} {vs : List V} {i : Nat} {d : D}, RDs K ρ H ds vs → ds[i]? = some d → ∃ v, vs[i]? = some v ∧ RD K ρ H d v
  | _, _, _, _, .nil, e => by simp at e
  | _, _, 0, _, .cons h _, e => by simp at e; subst e; exact ⟨_, rfl, h⟩
  | _, _, i + 1, d, .cons _ t, e => by
    obtain ⟨u, h1, h2⟩ := RDs.get (i := i) (d := d) t (by simpa using e)
    exact ⟨u, by simpa using h1, h2⟩
theorem RDs.append {K : KW} {ρ : List Addr} {H : Hp} : ∀ {ds es : List D} {vs us : List V}, RDs K ρ H ds vs → RDs K ρ H es us → RDs K ρ H (ds ++ es) (vs ++ us)
  | _, _, _, _, .nil, s => s
  | _, _, _, _, .cons h t, s => .cons h (RDs.append t s)
theorem ext_new {ρ : List Addr} {H : Hp} {p : Addr} {o : HO} (n : H p = none) (τ : List Addr) (hτ : ∀ x ∈ τ, x = p := by simp) : Ext ρ H (ρ ++ τ) (upd H p o) := ⟨⟨⟨τ, rfl⟩, fun b xs h => by rw [upd_ne (ne_of_none h n)]; exact h, fun b o u h => by rw [upd_ne (ne_of_none h n)]; exact h, fun b C dx fs h => by rw [upd_ne (ne_of_none h n)]; exact h⟩, fun b u h m => ⟨by rw [upd_ne (ne_of_none h n)]; exact h, fun z => by
    cases ρ with
    | nil => exact ne_of_none h n (hτ b (List.mem_of_mem_tail z))
    | cons r ρ =>
      rcases List.mem_append.mp (show b ∈ ρ ++ τ from z) with z | z
      · exact m z
      · exact ne_of_none h n (hτ b z)⟩⟩
theorem ext_new0 {ρ : List Addr} {H : Hp} {p : Addr} {o : HO} (n : H p = none) : Ext ρ H ρ (upd H p o) := by
  have := ext_new (ρ := ρ) (o := o) n []
  simpa using this
theorem OK.upd {K : KW} {ρ ρ' : List Addr} {H : Hp} {a p : Addr} {o : O} {u : HO} (e : Ex0 ρ H ρ' (upd H p u)) (hne : o.mut → a ≠ p) (hp : ∀ ob xs, H p ≠ some (.frz ob (.lst xs))) (h : OK K ρ H a o) : OK K ρ' (L2.upd H p u) a o := by
  cases o with
  | lst ds =>
    obtain ⟨xs, h1, r⟩ := h
    exact ⟨xs, by rw [upd_ne (hne trivial)]; exact h1, r.mono e⟩
  | ro ds =>
    obtain ⟨xs, h1, r⟩ := h
    refine ⟨xs, ?_, r.mono e⟩
    rcases h1 with ⟨ob, h1⟩ | h1
    · have : a ≠ p := by rintro rfl; exact hp ob xs h1
      exact .inl ⟨ob, by rw [upd_ne this]; exact h1⟩
    · exact .inr h1
  | dic kvs =>
    obtain ⟨xs, h1, r⟩ := h
    exact ⟨xs, by rw [upd_ne (hne trivial)]; exact h1, r.mono e⟩
  | set ks => exact ST.SOK.upd h (hne trivial) e.tup
  | dfr kvs =>
    obtain ⟨ob, xs, h1, r⟩ := h
    exact ⟨ob, xs, e.frz _ _ _ h1, r.mono e⟩
  | dcn kvs =>
    obtain ⟨xs, h1, r⟩ := h
    exact ⟨xs, h1.upd (hne trivial) e.tup, r.mono e⟩
  | stn ks => exact NT.SOKN.upd h (hne trivial) e.tup
  | dnf kvs => obtain ⟨ob, xs, h1, r⟩ := h; exact ⟨ob, xs, h1.keeps e.frz e.tup, r.mono e⟩
  | dd kvs =>
    obtain ⟨xs, h1, r⟩ := h
    exact ⟨xs, h1.upd (hne trivial) e.tup, r.mono e⟩
theorem OK.ne_none {K : KW} {ρ : List Addr} {H : Hp} {a p : Addr} {o : O} (h : OK K ρ H a o) (m : o.mut) (n : H p = none) : a ≠ p := by
  cases o with
  | lst ds => obtain ⟨xs, h1, _⟩ := h; exact ne_of_none h1 n
  | ro ds => exact m.elim
  | dic kvs => obtain ⟨xs, h1, _⟩ := h; exact ne_of_none h1 n
  | set ks => obtain ⟨φ, h1⟩ := ST.SOK.there h; exact ne_of_none h1 n
  | dfr kvs => obtain ⟨ob, xs, h1, _⟩ := h; exact ne_of_none h1 n
  | dcn kvs => obtain ⟨xs, h1, _⟩ := h; obtain ⟨φ, h1⟩ := h1.there; exact ne_of_none h1 n
  | stn ks => obtain ⟨φ, h1⟩ := NT.SOKN.there h; exact ne_of_none h1 n
  | dnf kvs => obtain ⟨ob, xs, h1, _⟩ := h; exact ne_of_none h1.there n
  | dd kvs => obtain ⟨xs, h1, _⟩ := h; obtain ⟨φ, h1⟩ := h1.there; exact ne_of_none h1 n
theorem Sim.tuple {K : KW} {ρ : List Addr} {S : Store} {H : Hp} {p : Addr} {o : HO} (s : Sim K ρ S H) (n : H p = none) : Sim K ρ S (upd H p o) :=
  ⟨s.len, fun k a ob h1 h2 => (s.ok k a ob h1 h2).upd (ext_new0 n).toEx0 (fun m => (s.ok k a ob h1 h2).ne_none m n) (fun ob xs z => by rw [n] at z; cases z), s.hd, s.inj⟩
theorem Sim.alloc {K : KW} {ρ : List Addr} {S : Store} {H : Hp} {p : Addr} {o : HO} {ob : O} (s : Sim K ρ S H) (n : H p = none) (hn : OK K (ρ ++ [p]) (upd H p o) p ob) (hmu : ob.mut := by trivial) : Sim K (ρ ++ [p]) (S ++ [ob]) (upd H p o) := by
  have key : ∀ (k : Nat) (a : Addr) (u : O), (ρ ++ [p])[k]? = some a → (S ++ [ob])[k]? = some u → (ρ[k]? = some a ∧ S[k]? = some u) ∨ (k = S.length ∧ a = p ∧ u = ob) := fun k a u h1 h2 => by
    by_cases hk : k < S.length
    · rw [List.getElem?_append_left (by rw [s.len]; exact hk)] at h1
      rw [List.getElem?_append_left hk] at h2
      exact .inl ⟨h1, h2⟩
    · rw [List.getElem?_append_right (by omega)] at h2
      rw [List.getElem?_append_right (by rw [s.len]; omega)] at h1
      have : k - S.length = 0 := by
        have := (List.getElem?_eq_some_iff.mp h2).1
        simp at this; omega
      rw [this] at h2
      rw [s.len, this] at h1
      simp at h1 h2
      exact .inr ⟨by omega, h1.symm, h2.symm⟩
  refine ⟨by simp [s.len], fun k a u h1 h2 => ?_, by
    obtain ⟨xs, l, rfl, hl⟩ := s.hd
    exact ⟨xs, l ++ [ob], rfl, fun o ho => by
      rcases List.mem_append.mp ho with z | z
      · exact hl o z
      · rw [List.mem_singleton.mp z]; exact hmu⟩, fun k m a u u' h1 h2 h3 h4 m1 m2 => ?_⟩
  · rcases key k a u h1 h2 with ⟨e1, e2⟩ | ⟨rfl, rfl, rfl⟩
    · exact (s.ok k a u e1 e2).upd (ext_new n [p]).toEx0 (fun m => (s.ok k a u e1 e2).ne_none m n) (fun ob xs z => by rw [n] at z; cases z)
    · exact hn
  · rcases key k a u h1 h3 with ⟨e1, e3⟩ | ⟨rfl, rfl, rfl⟩ <;> rcases key m a u' h2 h4 with ⟨e2, e4⟩ | ⟨hm, hp, hu⟩
    · exact s.inj k m a u u' e1 e2 e3 e4 m1 m2
    · subst hp; exact absurd rfl ((s.ok k a u e1 e3).ne_none m1 n)
    · exact absurd rfl ((s.ok m _ u' e2 e4).ne_none m2 n)
    · exact hm.symm
theorem Sim.set {K : KW} {ρ : List Addr} {S : Store} {H : Hp} {p : Addr} {o : HO} {n : Nat} {ob ob' : O} (s : Sim K ρ S H) (hn : ρ[n]? = some p) (hS : S[n]? = some ob) (m : ob.mut) (e : Ex0 ρ H ρ (upd H p o)) (hf : ∀ ob xs, H p ≠ some (.frz ob (.lst xs)))
    (hq : OK K ρ (upd H p o) p ob') (m' : ob'.mut) : Sim K ρ (S.set n ob') (upd H p o) := by
  have hl : n < S.length := (List.getElem?_eq_some_iff.mp hS).1
  refine ⟨by simp [s.len], fun k a u h1 h2 => ?_, by
    obtain ⟨xs, l, rfl, hl'⟩ := s.hd
    cases n with
    | zero => cases hS; exact m.elim
    | succ n =>
      refine ⟨xs, l.set n ob', rfl, fun o ho => ?_⟩
      rcases List.mem_or_eq_of_mem_set ho with z | z
      · exact hl' o z
      · rw [z]; exact m', fun k j a u u' h1 h2 h3 h4 m1 m2 => ?_⟩
  · by_cases hk : k = n
    · subst hk
      rw [hn] at h1; cases h1
      rw [List.getElem?_set_self hl] at h2; cases h2
      exact hq
    · rw [List.getElem?_set_ne (Ne.symm hk)] at h2
      exact (s.ok k a u h1 h2).upd e (fun mu z => hk (s.inj k n a u ob h1 (z ▸ hn) h2 hS mu m)) hf
  · have old : ∀ (k : Nat) (a : Addr) (u : O), (S.set n ob')[k]? = some u → u.mut → ∃ w, S[k]? = some w ∧ w.mut := fun k a u h mu => by
      by_cases hk : k = n
      · subst hk; exact ⟨ob, hS, m⟩
      · rw [List.getElem?_set_ne (Ne.symm hk)] at h; exact ⟨u, h, mu⟩
    obtain ⟨w1, e1, q1⟩ := old k a u h3 m1
    obtain ⟨w2, e2, q2⟩ := old j a u' h4 m2
    exact s.inj k j a w1 w2 h1 h2 e1 e2 q1 q2
structure REnv (K : KW) (ρ : List Addr) (H : Hp) (σ : Ev) (σV : St) : Prop where
  len : σ.length = σV.length
  at_ : ∀ (i : Nat) (d : D), σ[i]? = some (some d) → ∃ v, σV[i]? = some (some v) ∧ RD K ρ H d v
theorem REnv.mono {K : KW} {ρ ρ' : List Addr} {H H' : Hp} {σ : Ev} {σV : St} (e : Ex0 ρ H ρ' H') (r : REnv K ρ H σ σV) : REnv K ρ' H' σ σV :=
  ⟨r.len, fun i d h => let ⟨v, h1, h2⟩ := r.at_ i d h; ⟨v, h1, h2.mono e⟩⟩
theorem REnv.set {K : KW} {ρ : List Addr} {H : Hp} {σ : Ev} {σV : St} (r : REnv K ρ H σ σV) (i : Nat) {d : D} {v : V} (h : RD K ρ H d v) : REnv K ρ H (σ.set i (some d)) (σV.set i (some v)) := by
  refine ⟨by simp [r.len], fun j e q => ?_⟩
  by_cases hj : i = j
  · subst hj
    have hi : i < σ.length := by
      have := (List.getElem?_eq_some_iff.mp q).1
      simpa using this
    rw [List.getElem?_set_self hi] at q
    cases q
    exact ⟨v, List.getElem?_set_self (by rw [← r.len]; exact hi), h⟩
  · rw [List.getElem?_set_ne hj] at q
    obtain ⟨u, h1, h2⟩ := r.at_ j e q
    exact ⟨u, by rw [List.getElem?_set_ne hj]; exact h1, h2⟩
end Mir

namespace Mir
open PySem L2
abbrev R (α : Type) := Option (Except String α × Store)
def bnd {α β : Type} (x : R α) (k : α → Store → R β) : R β := match x with
  | none => none
  | some (.error c, S) => some (.error c, S)
  | some (.ok a, S) => k a S
def ret {α : Type} (a : α) (S : Store) : R α := some (.ok a, S)
theorem bnd_ok {α β : Type} (a : α) (S : Store) (k : α → Store → R β) : bnd (some (.ok a, S)) k = k a S := rfl
abbrev FE := Ev → Store → R D
abbrev FA := Ev → Store → R (List D)
abbrev FT := Ev → Store → R Bool
abbrev XEt := String → Hp → Prop
def Pst {α : Type} (K : KW) (XE : XEt) (Q : List Addr → Hp → α → Prop) (ρ : List Addr) (H : Hp) (r : Except String α) (S' : Store) : Prop :=
  ∀ (H' : Hp) (ρ' : List Addr), Ext ρ H ρ' H' → Sim K ρ' S' H' → match r with
    | .ok a => Q ρ' H' a
    | .error c => XE c H'
def qE (K : KW) (Q : VK) : List Addr → Hp → D → Prop := fun ρ H d => ∀ v, RD K ρ H d v → Q v H
def qA (K : KW) (Q : List V → Hp → Prop) : List Addr → Hp → List D → Prop := fun ρ H ds => ∀ vs, RDs K ρ H ds vs → Q vs H
def qT (Q : Bool → Hp → Prop) : List Addr → Hp → Bool → Prop := fun _ H b => Q b H
def tE (K : KW) (XE : XEt) (f : FE) : TE := fun σV H Q => ∃ (ρ : List Addr) (S : Store) (σ : Ev) (r : Except String D) (S' : Store), Sim K ρ S H ∧ REnv K ρ H σ σV ∧ f σ S = some (r, S') ∧ Pst K XE (qE K Q) ρ H r S'
def tAs (K : KW) (XE : XEt) (f : FA) : TA := fun σV H Q => ∃ (ρ : List Addr) (S : Store) (σ : Ev) (r : Except String (List D)) (S' : Store), Sim K ρ S H ∧ REnv K ρ H σ σV ∧ f σ S = some (r, S') ∧ Pst K XE (qA K Q) ρ H r S'
def tTs (K : KW) (XE : XEt) (f : FT) : TT := fun σV H Q => ∃ (ρ : List Addr) (S : Store) (σ : Ev) (r : Except String Bool) (S' : Store), Sim K ρ S H ∧ REnv K ρ H σ σV ∧ f σ S = some (r, S') ∧ Pst K XE (qT Q) ρ H r S'
structure DE (X : Cx) (XE : XEt) (e : Expr) (f : FE) : Prop where
  h : PE X e (tE (kw X) XE f)
structure DA (X : Cx) (XE : XEt) (es : List Expr) (f : FA) : Prop where
  h : PA X es (tAs (kw X) XE f)
structure DT (X : Cx) (XE : XEt) (e : Expr) (f : FT) : Prop where
  h : PT X e (tTs (kw X) XE f)
structure DW (X : Cx) (XE : XEt) (e : Expr) (f : FT) : Prop where
  h : PW X e (tTs (kw X) XE f)
section
variable {X : Cx} {XE : XEt} {e a b : Expr} {K : KW} {σV : St} {H : Hp} {Q : VK} {pos : Pos} {ρ : List Addr} {S S' : Store} {σ : Ev} {α : Type} {r : Except String α} {QR : List Addr → Hp → α → Prop}
theorem PE.mono {t t' : TE} (h : PE X e t) (m : ∀ σ H Q, t' σ H Q → t σ H Q) : PE X e t' := fun pins s σ H Q I q => h pins s σ H Q I (m σ H Q q)
theorem PT.mono {t t' : TT} (h : PT X e t) (m : ∀ σ H Q, t' σ H Q → t σ H Q) : PT X e t' := fun pins s σ H Q I q => h pins s σ H Q I (m σ H Q q)
theorem PW.mono {t t' : TT} (h : PW X e t) (m : ∀ σ H Q, t' σ H Q → t σ H Q) : PW X e t' := fun wh pins s σ H Q I q => h wh pins s σ H Q I (m σ H Q q)
theorem PA.mono {es : List Expr} {t t' : TA} (h : PA X es t) (m : ∀ σ H Q, t' σ H Q → t σ H Q) : PA X es t' := fun p pins s σ H Q I q => h p pins s σ H Q I (m σ H Q q)
theorem DW.pt {f : FT} (h : DW X XE e f) : DT X XE e f := ⟨h.h _⟩
theorem Pst.mono {ρ' : List Addr} {H' : Hp} (x : Ext ρ H ρ' H') (p : Pst K XE QR ρ H r S') : Pst K XE QR ρ' H' r S' := fun H2 ρ2 x2 s2 => p H2 ρ2 (x.trans x2) s2
theorem Pst.here {a : α} (p : Pst K XE QR ρ H (.ok a) S) (s : Sim K ρ S H) : QR ρ H a := p H ρ (Ext.refl _ _) s
def Rest (K : KW) (XE : XEt) {β : Type} (QR : List Addr → Hp → β → Prop) (g : α → Store → R β) (r : Except String β) (S' : Store) (ρ : List Addr) (H : Hp) (ρ1 : List Addr) (H1 : Hp) (d : α) : Prop :=
  ∃ S1, Ext ρ H ρ1 H1 ∧ Sim K ρ1 S1 H1 ∧ g d S1 = some (r, S') ∧ Pst K XE QR ρ1 H1 r S'
theorem seqE {β : Type} {r : Except String β} {QR : List Addr → Hp → β → Prop} {f : FE} {g : D → Store → R β} (s : Sim K ρ S H) (re : REnv K ρ H σ σV) (e : bnd (f σ S) g = some (r, S')) (p : Pst K XE QR ρ H r S') (h : ∀ v H1 ρ1 d, RD K ρ1 H1 d v → Rest K XE QR g r S' ρ H ρ1 H1 d → Q v H1) : tE K XE f σV H Q := by
  cases e1 : f σ S with
  | none => rw [e1] at e; cases e
  | some z =>
    obtain ⟨q, S1⟩ := z
    rw [e1] at e
    refine ⟨ρ, S, σ, q, S1, s, re, e1, fun H1 ρ1 x1 s1 => ?_⟩
    cases q with
    | error c => cases e; exact p H1 ρ1 x1 s1
    | ok d => exact fun v rv => h v H1 ρ1 d rv ⟨S1, x1, s1, e, p.mono x1⟩
theorem seqA {β : Type} {r : Except String β} {QR : List Addr → Hp → β → Prop} {QA : List V → Hp → Prop} {f : FA} {g : List D → Store → R β} (s : Sim K ρ S H) (re : REnv K ρ H σ σV) (e : bnd (f σ S) g = some (r, S')) (p : Pst K XE QR ρ H r S') (h : ∀ vs H1 ρ1 ds, RDs K ρ1 H1 ds vs → Rest K XE QR g r S' ρ H ρ1 H1 ds → QA vs H1) : tAs K XE f σV H QA := by
  cases e1 : f σ S with
  | none => rw [e1] at e; cases e
  | some z =>
    obtain ⟨q, S1⟩ := z
    rw [e1] at e
    refine ⟨ρ, S, σ, q, S1, s, re, e1, fun H1 ρ1 x1 s1 => ?_⟩
    cases q with
    | error c => cases e; exact p H1 ρ1 x1 s1
    | ok d => exact fun v rv => h v H1 ρ1 d rv ⟨S1, x1, s1, e, p.mono x1⟩
theorem seqT {β : Type} {r : Except String β} {QR : List Addr → Hp → β → Prop} {QT : Bool → Hp → Prop} {f : FT} {g : Bool → Store → R β} (s : Sim K ρ S H) (re : REnv K ρ H σ σV) (e : bnd (f σ S) g = some (r, S')) (p : Pst K XE QR ρ H r S') (h : ∀ H1 ρ1 c, Rest K XE QR g r S' ρ H ρ1 H1 c → QT c H1) : tTs K XE f σV H QT := by
  cases e1 : f σ S with
  | none => rw [e1] at e; cases e
  | some z =>
    obtain ⟨q, S1⟩ := z
    rw [e1] at e
    refine ⟨ρ, S, σ, q, S1, s, re, e1, fun H1 ρ1 x1 s1 => ?_⟩
    cases q with
    | error c => cases e; exact p H1 ρ1 x1 s1
    | ok d => exact h H1 ρ1 d ⟨S1, x1, s1, e, p.mono x1⟩
def eVar (i : Nat) : FE := fun σ S => match σ[i]? with
  | some (some d) => ret d S
  | _ => none
def eC (d : D) : FE := fun _ S => ret d S
theorem eVar_some {i : Nat} {r : Except String D} (h : eVar i σ S = some (r, S')) : ∃ d, r = .ok d ∧ σ[i]? = some (some d) ∧ S' = S := by
  unfold eVar at h
  split at h
  · rename_i d' e; cases h; exact ⟨d', rfl, e, rfl⟩
  · cases h
theorem de_var (i : Nat) {x : Str} (hN : X.N[i]? = some x := by rfl) (hv : Vis X.env.scope x := by first | exact Or.inl rfl | exact Or.inr (Or.inl rfl) | exact Or.inr (Or.inr rfl)) (hd : (x == ("__debug__" : Str)) = false := by decide)
    (hcd : (x == ("__classdict__" : Str)) = false := by decide) : DE X XE (.Name x pos) (eVar i) := .mk <| PE.mono (pv i hN hv hd hcd) fun σV H Q ⟨ρ, S, σ, r, S', sm, re, e, p⟩ => by
  obtain ⟨d, rfl, e1, rfl⟩ := eVar_some e
  obtain ⟨v, h1, h2⟩ := re.at_ i d e1
  exact ⟨v, h1, p.here sm v h2⟩
theorem tE_c {v : V} {d : D} (hv : ∀ K ρ H, RD K ρ H d v) : tE K XE (eC d) σV H Q → tC v σV H Q := fun ⟨ρ, S, σ, r, S', sm, re, e, p⟩ => by
  cases e
  exact p.here sm v (hv _ _ _)
theorem de_int {i : Int} {j} : DE X XE (.Constant (.int i) j pos) (eC (.int i)) := .mk <| PE.mono pe_int fun _ _ _ => tE_c fun _ _ _ => .int i
theorem de_bl {i : Bool} {j} : DE X XE (.Constant (.bool i) j pos) (eC (.bl i)) := .mk <| PE.mono pe_bl fun _ _ _ => tE_c fun _ _ _ => .bl i
theorem de_ty {x : Str} (n : TN) (hg : Gl X x) (hm : X.mg x = none) (hv : bootBuiltins x = some (.type n.nm)) (hn : x ≠ "__name__" := by decide) (hd : (x == ("__debug__" : Str)) = false := by decide) : DE X XE (.Name x pos) (eC (.ty n)) :=
  .mk <| PE.mono (pe_bltn (v := .ty n.nm) hg hm hv rfl hn hd) fun _ _ _ => tE_c fun _ _ _ => .ty n
abbrev F2 := D → D → Store → Option (D × Store)
def lft {α : Type} : Option (α × Store) → R α
  | some (a, S) => some (.ok a, S)
  | none => none
theorem lft_some {x : Option (α × Store)} {r : Except String α} (h : lft x = some (r, S)) : ∃ a, r = .ok a ∧ x = some (a, S) := by
  cases x with
  | none => cases h
  | some p => cases h; exact ⟨_, rfl, rfl⟩
def e2 (F : F2) (f g : FE) : FE := fun σ S => bnd (f σ S) fun x S1 => bnd (g σ S1) fun y S2 => lft (F x y S2)
def Snd2 (K : KW) (r : R2) (F : F2) : Prop := ∀ (ρ : List Addr) (S : Store) (H : Hp) (x y : D) (v u : V) (d : D) (S' : Store) (Q : VK), Sim K ρ S H → RD K ρ H x v → RD K ρ H y u → F x y S = some (d, S') →
  (∀ (v' : V) (H' : Hp) (ρ' : List Addr), Ext ρ H ρ' H' → Sim K ρ' S' H' → RD K ρ' H' d v' → Q v' H') → r v u H Q
theorem tE_2 {r : R2} {F : F2} {f g : FE} (h : Snd2 K r F) : tE K XE (e2 F f g) σV H Q → tOp r (tE K XE f) (tE K XE g) σV H Q := fun ⟨ρ, S, σ, q, S', sm, re, e, p⟩ =>
  seqE sm re e p fun v H1 ρ1 x rx ⟨S1, x1, s1, e1, p1⟩ => seqE s1 (re.mono x1) e1 p1 fun u H2 ρ2 y ry ⟨S2, x2, s2, e3, p2⟩ => by
    obtain ⟨d, rfl, e4⟩ := lft_some e3
    exact h ρ2 S2 H2 x y v u d S' Q s2 (rx.mono x2) ry e4 fun v' H' ρ' x3 s3 r3 => p2 H' ρ' x3 s3 v' r3
theorem de_op {op : Operator} {r : R2} {F : F2} {f g : FE} (ho : OpR X (binaryOp op) r) (hs : Snd2 (kw X) r F) (ha : DE X XE a f) (hb : DE X XE b g) : DE X XE (.BinOp a op b pos) (e2 F f g) := .mk <| PE.mono (pe_op ho ha.h hb.h) fun _ _ _ => tE_2 hs
theorem de_cmp {op : CmpOp} {r : R2} {F : F2} {f g : FE} (ho : OpR X (compareOp op) r) (hs : Snd2 (kw X) r F) (ha : DE X XE a f) (hb : DE X XE b g) (hm : behindInMarks op b = false) : DE X XE (.Compare a [op] [b] pos) (e2 F f g) := .mk <| PE.mono (pe_cmpR ho ha.h hb.h hm) fun _ _ _ => tE_2 hs
end
end Mir

namespace Mir
open PySem L2
section
variable {X : Cx} {e a b : Expr} {K : KW} {σV : St} {H : Hp} {Q : VK} {pos : Pos}
def rOr (r q : R2) : R2 := fun x y H Q => r x y H Q ∨ q x y H Q
theorem OpR.or {f : Value → Value → Sem Value} {r q : R2} (h : OpR X f r) (h' : OpR X f q) : OpR X f (rOr r q) := fun pins s σ H x y v u Q I rx ry z => by
  rcases z with z | z
  · exact h pins s σ H x y v u Q I rx ry z
  · exact h' pins s σ H x y v u Q I rx ry z
def orF (F G : F2) : F2 := fun x y S => match F x y S with
  | some r => some r
  | none => G x y S
theorem Snd2.or {r q : R2} {F G : F2} (h : Snd2 K r F) (h' : Snd2 K q G) : Snd2 K (rOr r q) (orF F G) := fun ρ S H x y v u d S' Q s rx ry e k => by
  unfold orF at e
  cases z : F x y S with
  | some p => rw [z] at e; cases e; exact .inl (h ρ S H x y v u d S' Q s rx ry z k)
  | none => rw [z] at e; exact .inr (h' ρ S H x y v u d S' Q s rx ry e k)
def fI (C : Int → Int → Bool) (g : Int → Int → D) : F2 := fun x y S => match x, y with
  | .int i, .int j => if C i j = true then some (g i j, S) else none
  | _, _ => none
theorem fI_some {C : Int → Int → Bool} {g : Int → Int → D} {x y : D} {S : Store} {d : D} {S' : Store} (h : fI C g x y S = some (d, S')) : ∃ i j, x = .int i ∧ y = .int j ∧ C i j = true ∧ d = g i j ∧ S' = S := by
  unfold fI at h
  split at h
  · split at h
    · rename_i i j c; cases h; exact ⟨i, j, rfl, rfl, c, rfl, rfl⟩
    · cases h
  · cases h
theorem snd_I {C : Int → Int → Bool} {C' : Int → Int → Prop} {g : Int → Int → D} {g' : Int → Int → V} (hC : ∀ i j, C i j = true → C' i j) (hg : ∀ i j K ρ H, RD K ρ H (g i j) (g' i j)) : Snd2 K (rI C' g') (fI C g) := fun ρ S H x y v u d S' Q s rx ry e k => by
  obtain ⟨i, j, rfl, rfl, c, rfl, rfl⟩ := fI_some e
  cases rx; cases ry
  exact ⟨i, j, rfl, rfl, hC i j c, k _ _ _ (Ext.refl _ _) s (hg i j _ _ _)⟩
theorem snd_I0 {g : Int → Int → D} {g' : Int → Int → V} (hg : ∀ i j K ρ H, RD K ρ H (g i j) (g' i j)) : Snd2 K (rI0 g') (fI (fun _ _ => true) g) := fun ρ S H x y v u d S' Q s rx ry e k => by
  obtain ⟨i, j, rfl, rfl, c, rfl, rfl⟩ := fI_some e
  cases rx; cases ry
  exact ⟨i, j, rfl, rfl, k _ _ _ (Ext.refl _ _) s (hg i j _ _ _)⟩
def fSub : F2 := fI (fun _ _ => true) fun i j => .int (i - j)
theorem snd_sub : Snd2 K (rI0 fun i j => .int (i - j)) fSub := snd_I0 fun i j _ _ _ => .int _
def fMul : F2 := fI (fun i j => decide ((-(2 ^ 64) < i ∧ i < 2 ^ 64) ∨ (-(2 ^ 64) < j ∧ j < 2 ^ 64))) fun i j => .int (i * j)
theorem snd_mul : Snd2 K (rI CMul fun i j => .int (i * j)) fMul := snd_I (fun i j h => by unfold CMul; exact of_decide_eq_true h) fun i j _ _ _ => .int _
def fDiv : F2 := fI (fun i j => decide (0 < j ∧ j < 2 ^ 200)) fun i j => .int (i / j)
theorem op_fdivB : OpR X (binaryOp .FloorDiv) (rI (fun _ j => 0 < j ∧ j < 2 ^ 200) fun i j => .int (i / j)) := opI fun i j _ _ _ _ _ hc q => by
  have h1 : (0 : Int) < j := hc.1
  have h2 : j < 2 ^ 200 := hc.2
  refine PyProof.Rows.floordiv_int (by omega) (by rw [Int.fdiv_eq_ediv_of_nonneg i (by omega)]; exact q) (.inl (PyProof.noPylong_of_log2 ?_))
  have h0 : j.natAbs ≠ 0 := by omega
  have : j.natAbs.log2 < 200 := (Nat.log2_lt h0).mpr (by omega)
  omega
theorem snd_div : Snd2 K (rI (fun _ j => 0 < j ∧ j < 2 ^ 200) fun i j => .int (i / j)) fDiv := snd_I (fun i j h => of_decide_eq_true h) fun i j _ _ _ => .int _
def fMod : F2 := fI (fun i j => decide (0 < j)) fun i j => .int (i % j)
theorem snd_mod : Snd2 K (rI (fun _ j => 0 < j) fun i j => .int (i % j)) fMod := snd_I (fun i j h => of_decide_eq_true h) fun i j _ _ _ => .int _
def fPow : F2 := fI (fun i j => decide (0 ≤ j ∧ j ≤ 1000000 ∧ i.natAbs < 2 ^ 64)) fun i j => .int (i ^ j.toNat)
theorem snd_pow : Snd2 K (rI CPow fun i j => .int (i ^ j.toNat)) fPow := snd_I (fun i j h => by unfold CPow; exact of_decide_eq_true h) fun i j _ _ _ => .int _
def lst? (S : Store) (n : Nat) : Option (List D) := match S[n]? with
  | some (.lst xs) => some xs
  | some (.ro xs) => some xs
  | _ => none
theorem Sim.list {ρ : List Addr} {S : Store} {n : Nat} {a : Addr} {ds : List D} (s : Sim K ρ S H) (r : ρ[n]? = some a) (h : lst? S n = some ds) : ∃ xs, SqL K H a xs ∧ RDs K ρ H ds xs := by
  unfold lst? at h
  split at h
  · rename_i xs e; cases h
    obtain ⟨xs, h1, h2⟩ := s.ok n a _ r e
    exact ⟨xs, SqL.of h1, h2⟩
  · rename_i xs e; cases h
    obtain ⟨xs, h1, h2⟩ := s.ok n a _ r e
    exact ⟨xs, h1.sq, h2⟩
  · cases h
def newL (S : Store) (xs : List D) : Option (D × Store) := some (.ref S.length, S ++ [.lst xs])
theorem Sim.newL {ρ : List Addr} {S : Store} {ds : List D} {xs : List V} {p : Addr} (s : Sim K ρ S H) (n : H p = none) (r : RDs K ρ H ds xs) : Sim K (ρ ++ [p]) (S ++ [.lst ds]) (upd H p (.lst xs)) :=
  s.alloc n ⟨xs, upd_same, r.mono (ext_new n [p]).toEx0⟩
theorem rd_new {ρ : List Addr} {S : Store} {p : Addr} {H' : Hp} (s : Sim K ρ S H) : RD K (ρ ++ [p]) H' (.ref S.length) (.ref p) := .ref (by rw [List.getElem?_append_right (by rw [s.len]; exact Nat.le_refl _), s.len, Nat.sub_self]; rfl)
def ints? : List D → Option (List Int)
  | [] => some []
  | .int i :: r => (ints? r).map (i :: ·)
  | _ => none
theorem ints_some : ∀ {ds : List D} {ns : List Int}, ints? ds = some ns → ds = ns.map D.int
  | [], ns, h => by cases h; rfl
  | d :: r, ns, h => by
    cases d with
    | int i =>
      unfold ints? at h
      cases e : ints? r with
      | none => rw [e] at h; cases h
      | some ms => rw [e] at h; cases h; rw [List.map_cons, ← ints_some e]
    | _ => simp [ints?] at h
theorem rds_ints {ρ : List Addr} : ∀ {ns : List Int} {xs : List V}, RDs K ρ H (ns.map D.int) xs → xs = ns.map V.int
  | [], _, h => by cases h; rfl
  | n :: r, _, h => by cases h with | cons h t => cases h; rw [rds_ints t]; rfl
def fLtT : F2 := fun x y S => match x, y with
  | .tup xs, .tup ys => (ints? xs).bind fun ns => (ints? ys).bind fun ms => some (.bl (HT.lexLt ns ms), S)
  | _, _ => none
theorem snd_ltT : Snd2 K (rLtT K) fLtT := fun ρ S H x y v u d S' Q s rx ry e k => by
  unfold fLtT at e
  split at e
  · rename_i xs ys
    cases e1 : ints? xs with
    | none => rw [e1] at e; cases e
    | some ns =>
      cases e2 : ints? ys with
      | none => simp [e1, e2] at e
      | some ms =>
        simp only [e1, e2, Option.bind_some] at e
        cases e
        have q1 := ints_some e1
        have q2 := ints_some e2
        subst q1 q2
        cases rx with | tup a1 b1 => cases ry with | tup a2 b2 =>
        have := rds_ints b1; subst this
        have := rds_ints b2; subst this
        exact ⟨_, _, ns, ms, rfl, rfl, SqT.of a1, SqT.of a2, k _ _ _ (Ext.refl _ _) s (.bl _)⟩
  · cases e
def fLt : F2 := orF (fI (fun _ _ => true) fun i j => .bl (decide (i < j))) fLtT
theorem op_ltU (hu : X.A.units < cLine) : OpR X (compareOp .Lt) (rOr (rI0 fun i j => .bl (decide (i < j))) (rLtT X.K)) := op_lt.or (op_ltT hu)
theorem snd_lt : Snd2 K (rOr (rI0 fun i j => .bl (decide (i < j))) (rLtT K)) fLt := (snd_I0 fun i j _ _ _ => .bl _).or snd_ltT
mutual
def pyG (g : Nat → Option PyData) : D → Option PyData
  | .non => some .none
  | .bl b => some (.bool b)
  | .int i => some (.int i)
  | .str x => some (.str x)
  | .ty _ => none
  | .tup ds => (pyGs g ds).map .tuple
  | .ref n => g n
  | .exc _ => none
  | .cls _ => none
  | .mv _ _ _ => none
def pyGs (g : Nat → Option PyData) : List D → Option (List PyData)
  | [] => some []
  | d :: r => (pyG g d).bind fun p => (pyGs g r).map (p :: ·)
end
def pyL (S : Store) : Nat → Nat → Option PyData
  | 0, _ => none
  | k + 1, n => (lst? S n).bind fun ds => (pyGs (pyL S k) ds).map .list
def py (S : Store) : D → Option PyData := pyG (pyL S 3)
mutual
theorem pyG_dp {g : Nat → Option PyData} {ρ : List Addr} (hg : ∀ n a p, ρ[n]? = some a → g n = some p → Dp K H (.ref a) p) : ∀ {d : D} {v : V} {p : PyData}, RD K ρ H d v → pyG g d = some p → Dp K H v p
  | _, _, _, .non, e => by cases e; exact .non
  | _, _, _, .bl b, e => by cases e; exact .bl b
  | _, _, _, .int i, e => by cases e; exact .int i
  | _, _, _, .str x, e => by cases e; exact .str x
  | _, _, _, .ty n, e => by cases e
  | _, _, p, .tup (ds := ds) h r, e => by
    unfold pyG at e
    cases q : pyGs g ds with
    | none => rw [q] at e; cases e
    | some ps => rw [q] at e; cases e; exact .tup (SqT.of h) (pyGs_dp hg r q)
  | _, _, _, .ref h, e => hg _ _ _ h e
  | _, _, _, .exc _ _ _, e => by cases e
  | _, _, _, .cls _, e => by cases e
  | _, _, _, .mv _ _ _ _, e => by cases e
theorem pyGs_dp {g : Nat → Option PyData} {ρ : List Addr} (hg : ∀ n a p, ρ[n]? = some a → g n = some p → Dp K H (.ref a) p) : ∀ {ds : List D} {vs : List V} {ps : List PyData}, RDs K ρ H ds vs → pyGs g ds = some ps → DpAll K H vs ps
  | _, _, _, .nil, e => by cases e; exact .nil
  | _, _, ps, .cons (d := d) (ds := ds) h t, e => by
    unfold pyGs at e
    cases q : pyG g d with
    | none => rw [q] at e; cases e
    | some p =>
      cases q2 : pyGs g ds with
      | none => simp [q, q2] at e
      | some r => simp only [q, q2, Option.bind_some, Option.map_some] at e; cases e; exact .cons (pyG_dp hg h q) (pyGs_dp hg t q2)
end
theorem pyL_dp {ρ : List Addr} {S : Store} (s : Sim K ρ S H) : ∀ (k n : Nat) (a : Addr) (p : PyData), ρ[n]? = some a → pyL S k n = some p → Dp K H (.ref a) p
  | 0, _, _, _, _, e => by cases e
  | k + 1, n, a, p, r, e => by
    unfold pyL at e
    cases q : lst? S n with
    | none => rw [q] at e; cases e
    | some ds =>
      cases q2 : pyGs (pyL S k) ds with
      | none => simp [q, q2] at e
      | some ps =>
        simp only [q, q2, Option.bind_some, Option.map_some] at e; cases e
        obtain ⟨xs, h1, h2⟩ := s.list r q
        exact .lst h1 (pyGs_dp (pyL_dp s k) h2 q2)
theorem py_dp {ρ : List Addr} {S : Store} (s : Sim K ρ S H) {d : D} {v : V} {p : PyData} (r : RD K ρ H d v) (e : py S d = some p) : Dp K H v p := pyG_dp (pyL_dp s 3) r e
def fEqN (neg : Bool) : F2 := fun x y S => (py S x).bind fun d => (py S y).bind fun e => if SeqAt.shaped d = true ∧ SeqAt.shaped e = true then some (.bl (xor neg (PyData.eqv d e)), S) else none
theorem fEqN_some {neg : Bool} {x y : D} {S : Store} {d : D} {S' : Store} (h : fEqN neg x y S = some (d, S')) : ∃ p q, py S x = some p ∧ py S y = some q ∧ SeqAt.shaped p = true ∧ SeqAt.shaped q = true ∧ d = .bl (xor neg (PyData.eqv p q)) ∧ S' = S := by
  unfold fEqN at h
  cases e1 : py S x with
  | none => rw [e1] at h; cases h
  | some p =>
    cases e2 : py S y with
    | none => simp [e1, e2] at h
    | some q =>
      simp only [e1, e2, Option.bind_some] at h
      split at h
      · rename_i c; cases h; exact ⟨p, q, rfl, rfl, c.1, c.2, rfl, rfl⟩
      · cases h
def fEq : F2 := fEqN false
def fNe : F2 := fEqN true
theorem snd_eq : Snd2 K (rEqD K) fEq := fun ρ S H x y v u d S' Q s rx ry e k => by
  obtain ⟨p, q, e1, e2, h1, h2, rfl, rfl⟩ := fEqN_some e
  refine ⟨p, q, py_dp s rx e1, py_dp s ry e2, h1, h2, k _ _ _ (Ext.refl _ _) s ?_⟩
  rw [Bool.false_xor]; exact .bl _
theorem snd_ne : Snd2 K (rNeD K) fNe := fun ρ S H x y v u d S' Q s rx ry e k => by
  obtain ⟨p, q, e1, e2, h1, h2, rfl, rfl⟩ := fEqN_some e
  refine ⟨p, q, py_dp s rx e1, py_dp s ry e2, h1, h2, k _ _ _ (Ext.refl _ _) s ?_⟩
  rw [Bool.true_xor]; exact .bl _
def fIx : F2 := fun x y S => match x, y with
  | .tup xs, .int i => (atI xs i).map fun d => (d, S)
  | .ref n, .int i => (lst? S n).bind fun xs => (atI xs i).map fun d => (d, S)
  | _, _ => none
theorem atI_rd {ρ : List Addr} {ds : List D} {vs : List V} {i : Int} {d : D} (r : RDs K ρ H ds vs) (h : atI ds i = some d) : ∃ v, atI vs i = some v ∧ RD K ρ H d v := by
  unfold atI at h ⊢
  rw [r.len] at h
  cases e : ixN vs.length i with
  | none => rw [e] at h; cases h
  | some j => rw [e] at h; exact r.get h
theorem snd_ix : Snd2 K (rIx K) fIx := fun ρ S H x y v u d S' Q s rx ry e k => by
  unfold fIx at e
  split at e
  · rename_i xs i
    cases e1 : atI xs i with
    | none => rw [e1] at e; cases e
    | some w =>
      rw [e1] at e; cases e
      cases rx with | tup h r =>
      cases ry
      obtain ⟨z, h1, h2⟩ := atI_rd r e1
      exact .inr (.inl ⟨_, _, i, z, rfl, rfl, SqT.of h, h1, k _ _ _ (Ext.refl _ _) s h2⟩)
  · rename_i n i
    cases e0 : lst? S n with
    | none => rw [e0] at e; cases e
    | some xs =>
      cases e1 : atI xs i with
      | none => simp [e0, e1] at e
      | some w =>
        simp only [e0, e1, Option.bind_some, Option.map_some] at e; cases e
        cases rx with | ref h =>
        cases ry
        obtain ⟨vs, h3, r⟩ := s.list h e0
        obtain ⟨z, h1, h2⟩ := atI_rd r e1
        exact .inl ⟨_, _, i, z, rfl, rfl, h3, h1, k _ _ _ (Ext.refl _ _) s h2⟩
  · cases e
abbrev FB0 := List D → Store → Option (D × Store)
def SndB (K : KW) (r : List V → Hp → VK → Prop) (F : FB0) : Prop := ∀ (ρ : List Addr) (S : Store) (H : Hp) (ds : List D) (vs : List V) (d : D) (S' : Store) (Q : VK), Sim K ρ S H → RDs K ρ H ds vs → F ds S = some (d, S') →
  (∀ (v' : V) (H' : Hp) (ρ' : List Addr), Ext ρ H ρ' H' → Sim K ρ' S' H' → RD K ρ' H' d v' → Q v' H') → r vs H Q
def bLen : FB0 := fun ds S => match ds with
  | [.ref n] => (lst? S n).map fun xs => (.int xs.length, S)
  | [.tup xs] => some (.int xs.length, S)
  | _ => none
theorem snd_len : SndB K (fun xs H Q => ∃ p ys, xs = [.ref p] ∧ (SqL K H p ys ∨ SqT K H p ys) ∧ Q (.int ys.length) H) bLen := fun ρ S H ds vs d S' Q s rs e k => by
  unfold bLen at e
  split at e
  · rename_i n
    cases e1 : lst? S n with
    | none => rw [e1] at e; cases e
    | some xs =>
      rw [e1] at e; cases e
      cases rs with | cons h t => cases t; cases h with | ref h =>
      obtain ⟨ys, h1, h2⟩ := s.list h e1
      exact ⟨_, ys, rfl, .inl h1, by rw [← h2.len]; exact k _ _ _ (Ext.refl _ _) s (.int _)⟩
  · cases e
    cases rs with | cons h t => cases t; cases h with | tup h r =>
    exact ⟨_, _, rfl, .inr (SqT.of h), by rw [← r.len]; exact k _ _ _ (Ext.refl _ _) s (.int _)⟩
  · cases e
def tyN (S : Store) : D → Option TN
  | .non => some .non
  | .bl _ => some .bl
  | .int _ => some .int
  | .str _ => some .str
  | .tup _ => some .tup
  | .ref n => (lst? S n).map fun _ => .lst
  | .ty _ => none
  | .exc _ => none
  | .cls _ => none
  | .mv _ _ _ => none
def isT : TN → TN → Bool
  | .non, .non => true | .bl, .bl => true | .bl, .int => true | .int, .int => true | .str, .str => true | .tup, .tup => true | .lst, .lst => true | .dic, .dic => true | .set, .set => true | .verr, .verr => true
  | _, _ => false
theorem isT_ok (t n : TN) : PySem.W.kitOne K (.type t.nm) (.type n.nm) = some (isT t n) := by cases t <;> cases n <;> rfl
inductive TyS (K : PySem.W.Frag) (H : Hp) : V → TN → Prop where
  | non : TyS K H .non .non
  | bl (x : Bool) : TyS K H (.bl x) .bl
  | int (i : Int) : TyS K H (.int i) .int
  | str (x : Str) : TyS K H (.str x) .str
  | lst {a : Addr} {xs : List V} (e : SqL K H a xs) : TyS K H (.ref a) .lst
  | tup {a : Addr} {xs : List V} (e : SqT K H a xs) : TyS K H (.ref a) .tup
theorem cr_isi : CallR X (.builtin "isinstance") (fun xs H Q => ∃ x n t c, xs = [x, .ty n] ∧ TyS X.K H x t ∧ PySem.W.kitOne X.K (.type t.nm) (.type n) = some c ∧ Q (.bl c) H) := by
  intro pins s σ H xs us Q I r h
  obtain ⟨x, n, t, b, rfl, ty, e, q⟩ := h
  obtain ⟨u, c, rfl, rx, rc⟩ := vals2 r
  obtain rfl : c = Value.type n := rc
  have k : ∀ tk, EP X pins σ Q (.bool b) { s with toks := tk } := fun tk => ⟨.bl b, H, I.tok tk, rfl, q⟩
  cases ty with
  | non => cases (show u = Value.none from rx); exact PySem.W.kia_one PySem.W.kitx_none I.kIn True.intro e (fun z => nomatch z) k
  | bl y => cases (show u = Value.bool y from rx); exact PySem.W.kia_one PySem.W.kitx_bool I.kIn True.intro e (fun z => nomatch z) k
  | int i => obtain ⟨t, q⟩ := (show ∃ t, u = Value.int i t from rx); cases q; exact PySem.W.kia_one PySem.W.kitx_int I.kIn True.intro e (fun z => nomatch z) k
  | str y => obtain ⟨t, q⟩ := (show ∃ t, u = Value.str y t from rx); cases q; exact PySem.W.kia_one PySem.W.kitx_str I.kIn True.intro e (fun z => nomatch z) k
  | @lst a xs ea =>
    cases (show u = Value.ref a from rx)
    obtain ⟨_, _, ⟨o, n, h1, h2, _⟩, _⟩ := I.list ea
    exact PySem.W.kia_one PySem.W.kitx_list I.kIn ⟨o, h1, h2⟩ e (fun z => nomatch z) k
  | @tup a xs ea =>
    cases (show u = Value.ref a from rx)
    obtain ⟨_, _, ⟨o, h1, h2, _⟩, _⟩ := I.tuple ea
    exact PySem.W.kia_one PySem.W.kitx_tuple I.kIn ⟨o, h1, h2⟩ e (fun z => nomatch z) k
theorem tyN_ok {ρ : List Addr} {S : Store} {d : D} {v : V} {t : TN} (s : Sim K ρ S H) (r : RD K ρ H d v) (h : tyN S d = some t) : TyS K H v t := by
  cases r with
  | non => cases h; exact .non
  | bl b => cases h; exact .bl b
  | int b => cases h; exact .int b
  | str b => cases h; exact .str b
  | ty b => cases h
  | exc _ _ _ => cases h
  | cls _ => cases h
  | mv _ _ _ _ => cases h
  | tup a _ => cases h; exact .tup (SqT.of a)
  | ref a =>
    rename_i n _
    have h : (lst? S n).map (fun _ => TN.lst) = some t := h
    cases e : lst? S n with
    | none => rw [e] at h; cases h
    | some xs => rw [e] at h; cases h; obtain ⟨ys, h1, _⟩ := s.list a e; exact .lst h1
def bIsi : FB0 := fun ds S => match ds with
  | [x, .ty n] => (tyN S x).map fun t => (.bl (isT t n), S)
  | _ => none
theorem snd_isi : SndB K (fun xs H Q => ∃ x n t c, xs = [x, .ty n] ∧ TyS K H x t ∧ PySem.W.kitOne K (.type t.nm) (.type n) = some c ∧ Q (.bl c) H) bIsi := fun ρ S H ds vs d S' Q s rs e k => by
  unfold bIsi at e
  split at e
  · rename_i x n
    cases e1 : tyN S x with
    | none => rw [e1] at e; cases e
    | some t =>
      rw [e1] at e; cases e
      cases rs with | cons h t => cases t with | cons h2 t2 =>
      cases t2; cases h2
      exact ⟨_, n.nm, _, _, rfl, tyN_ok s h e1, isT_ok _ _, k _ _ _ (Ext.refl _ _) s (.bl _)⟩
  · cases e
end
end Mir

namespace Mir
open PySem L2
section
variable {X : Cx} {XE : XEt} {e a b o : Expr} {es : List Expr} {K : KW} {σV : St} {H : Hp} {Q : VK} {QA : List V → Hp → Prop} {QT : Bool → Hp → Prop} {pos apos cpos : Pos} {S S' : Store} {σ : Ev}
def aNil : FA := fun _ S => ret [] S
def aCons (f : FE) (g : FA) : FA := fun σ S => bnd (f σ S) fun x S1 => bnd (g σ S1) fun xs S2 => ret (x :: xs) S2
theorem da_nil : DA X XE [] aNil := .mk <| PA.mono pa_nil fun σV H QA ⟨ρ, S, σ, r, S', sm, re, e, p⟩ => by
  cases e
  exact p.here sm [] .nil
theorem da_cons {f : FE} {g : FA} (ha : DE X XE e f) (hr : DA X XE es g) (hs : starEach (e :: es) X.env = (false, eval e X.env) :: starEach es X.env := by rfl) : DA X XE (e :: es) (aCons f g) :=
  .mk <| PA.mono (pa_cons ha.h hr.h hs) fun σV H QA ⟨ρ, S, σ, r, S', sm, re, e, p⟩ =>
    seqE sm re e p fun v H1 ρ1 x rx ⟨S1, x1, s1, e1, p1⟩ => seqA s1 (re.mono x1) e1 p1 fun us H2 ρ2 ys ry ⟨S2, x2, s2, e2, p2⟩ => by
      cases e2
      exact p2.here s2 (v :: us) (.cons (rx.mono x2) ry)
def eTup (f : FA) : FE := fun σ S => bnd (f σ S) fun xs S1 => if xs.length ≤ sizeLine then ret (.tup xs) S1 else none
def eLst (f : FA) : FE := fun σ S => bnd (f σ S) fun xs S1 => if xs.length ≤ sizeLine then lft (newL S1 xs) else none
theorem de_tup {x1} {f : FA} (h : DA X XE es f) : DE X XE (.Tuple es x1 pos) (eTup f) := .mk <| PE.mono (pe_tup h.h) fun σV H Q ⟨ρ, S, σ, r, S', sm, re, e, p⟩ =>
  seqA sm re e p fun vs H1 ρ1 xs rx ⟨S1, x1, s1, e1, p1⟩ => by
    dsimp only at e1
    split at e1
    · rename_i hl; cases e1
      exact ⟨by rw [← rx.len]; exact hl, fun q n => p1 _ ρ1 (ext_new0 n) (s1.tuple n) _ (.tup upd_same (rx.mono (ext_new0 n).toEx0))⟩
    · cases e1
theorem de_lst {f : FA} (h : DA X XE es f) : DE X XE (.List es pos) (eLst f) := .mk <| PE.mono (pe_lst h.h) fun σV H Q ⟨ρ, S, σ, r, S', sm, re, e, p⟩ =>
  seqA sm re e p fun vs H1 ρ1 xs rx ⟨S1, x1, s1, e1, p1⟩ => by
    dsimp only at e1
    split at e1
    · rename_i hl; cases e1
      exact ⟨by rw [← rx.len]; exact hl, fun q n => p1 _ (ρ1 ++ [q]) (ext_new n [q]) (s1.newL n rx) _ (rd_new s1)⟩
    · cases e1
def eAnd (f g : FE) : FE := fun σ S => bnd (f σ S) fun x S1 => match x with
  | .bl true => g σ S1
  | .bl false => ret (.bl false) S1
  | _ => none
def eNot (f : FE) : FE := fun σ S => bnd (f σ S) fun x S1 => match x with
  | .bl c => ret (.bl (!c)) S1
  | _ => none
theorem de_and {f g : FE} {rest : List Expr} (ha : DE X XE a f) (hb : DE X XE (.BoolOp .And (b :: rest) pos) g) : DE X XE (.BoolOp .And (a :: b :: rest) pos) (eAnd f g) := .mk <| PE.mono (pe_and ha.h hb.h) fun σV H Q ⟨ρ, S, σ, r, S', sm, re, e, p⟩ =>
  seqE sm re e p fun v H1 ρ1 x rx ⟨S1, x1, s1, e1, p1⟩ => by
    dsimp only at e1
    split at e1
    · cases rx; exact ⟨true, rfl, iteT ⟨ρ1, S1, σ, r, S', s1, re.mono x1, e1, p1⟩⟩
    · cases rx; cases e1; exact ⟨false, rfl, iteF (p1.here s1 _ (.bl false))⟩
    · cases e1
theorem de_one {op} {f : FE} (h : DE X XE a f) : DE X XE (.BoolOp op [a] pos) f := ⟨pe_one h.h⟩
theorem de_not {f : FE} (h : DE X XE a f) : DE X XE (.UnaryOp .Not a pos) (eNot f) := .mk <| PE.mono (pe_not h.h) fun σV H Q ⟨ρ, S, σ, r, S', sm, re, e, p⟩ =>
  seqE sm re e p fun v H1 ρ1 x rx ⟨S1, x1, s1, e1, p1⟩ => by
    dsimp only at e1
    split at e1
    · cases rx; cases e1; exact ⟨_, rfl, p1.here s1 _ (.bl _)⟩
    · cases e1
def tBl (f : FE) : FT := fun σ S => bnd (f σ S) fun x S1 => match x with
  | .bl c => ret c S1
  | _ => none
theorem tBl_tB {f : FE} {σV : St} {H : Hp} {QT : Bool → Hp → Prop} : tTs K XE (tBl f) σV H QT → tE K XE f σV H fun x H' => ∃ k, x = .bl k ∧ QT k H' := fun ⟨ρ, S, σ, r, S', sm, re, e, p⟩ =>
  seqE sm re e p fun v H1 ρ1 x rx ⟨S1, x1, s1, e1, p1⟩ => by
    dsimp only at e1
    split at e1
    · cases rx; cases e1; exact ⟨_, rfl, p1.here s1⟩
    · cases e1
theorem dt_val {f : FE} (h : DE X XE e f) (he : ∀ whole, isTrue e X.env whole = (do let v ← whole; standAt e.pos; holding [v] (truthy v)) := by intro _; rfl) : DT X XE e (tBl f) := .mk <| PT.mono (pt_val h.h he) fun _ _ _ => tBl_tB
theorem dt_cmp {op : CmpOp} {r : R2} {F : F2} {f g : FE} (ho : OpR X (compareOp op) r) (hs : Snd2 (kw X) r F) (ha : DE X XE a f) (hb : DE X XE b g) (hm : behindInMarks op b = false) : DT X XE (.Compare a [op] [b] pos) (tBl (e2 F f g)) :=
  .mk <| PT.mono (pt_cmpR ho ha.h hb.h hm) fun σV H QT h => tE_2 hs (tBl_tB h)
def tNo (f : FT) : FT := fun σ S => bnd (f σ S) fun c S1 => ret (!c) S1
def tOrr (f g : FT) : FT := fun σ S => bnd (f σ S) fun c S1 => if c = true then ret true S1 else g σ S1
theorem dt_not {f : FT} (h : DT X XE a f) : DT X XE (.UnaryOp .Not a pos) (tNo f) := .mk <| PT.mono (pt_not h.h) fun σV H Q ⟨ρ, S, σ, r, S', sm, re, e, p⟩ =>
  seqT sm re e p fun H1 ρ1 c ⟨S1, x1, s1, e1, p1⟩ => by
    cases e1; exact p1.here s1
theorem dw_or1 {f : FT} (h : DT X XE a f) : DW X XE (.BoolOp .Or [a] pos) f := ⟨pw_or1 h.h⟩
theorem dw_or {f g : FT} {rest : List Expr} (ha : DT X XE a f) (hb : DW X XE (.BoolOp .Or (b :: rest) pos) g) : DW X XE (.BoolOp .Or (a :: b :: rest) pos) (tOrr f g) := .mk <| PW.mono (pw_or ha.h hb.h) fun σV H Q ⟨ρ, S, σ, r, S', sm, re, e, p⟩ =>
  seqT sm re e p fun H1 ρ1 c ⟨S1, x1, s1, e1, p1⟩ => by
    dsimp only at e1
    by_cases hc : c = true
    · rw [if_pos hc] at e1; rw [if_pos hc]
      cases e1; exact p1.here s1
    · rw [if_neg hc] at e1; rw [if_neg hc]
      exact ⟨ρ1, S1, σ, r, S', s1, re.mono x1, e1, p1⟩
def eB (F : FB0) (f : FA) : FE := fun σ S => bnd (f σ S) fun xs S1 => lft (F xs S1)
theorem tE_B {r : List V → Hp → VK → Prop} {F : FB0} {f : FA} (h : SndB K r F) : tE K XE (eB F f) σV H Q → tAs K XE f σV H fun vs H1 => r vs H1 Q := fun ⟨ρ, S, σ, q, S', sm, re, e, p⟩ =>
  seqA sm re e p fun vs H1 ρ1 xs rx ⟨S1, x1, s1, e1, p1⟩ => by
    obtain ⟨d, rfl, e4⟩ := lft_some e1
    exact h ρ1 S1 H1 xs vs d S' Q s1 rx e4 fun v' H' ρ' x3 s3 r3 => p1 H' ρ' x3 s3 v' r3
section
variable {id T : String} {r : List V → Hp → VK → Prop} {F : FB0} {f : FA} {x : Str} {p : Pos}
theorem de_callB (hc : CallR X (.builtin id) r) (hS : SndB (kw X) r F) (hg : Gl X x) (hm : X.mg x = none) (hv : bootBuiltins x = some (.builtin id)) (ha : DA X XE (e :: es) f) (hn : x ≠ "__name__" := by decide) (hdb : (x == ("__debug__" : Str)) = false := by decide)
    (he : starEach (e :: es) X.env = (false, eval e X.env) :: starEach es X.env := by rfl) (hpl : (backTo pos (starEach es X.env)).any (·.1) = false := by rfl) : DE X XE (.Call (.Name x p) (e :: es) [] pos) (eB F f) :=
  .mk <| PE.mono (pe_callB hc hg hm hv ha.h hn hdb he hpl) fun _ _ _ h => tE_B hS h
end
abbrev FB := List D → Store → R D
abbrev Cls := String → Option Addr
def xE (cl : Cls) (E : XK) : XEt := fun c H => ∃ C, cl c = some C ∧ E (.ref C) none H
def spF (K : KW) (cl : Cls) (n : Nat) (F : FB) : Sp := fun vs H Q E => vs.length = n ∧ ∃ (ρ : List Addr) (S : Store) (ds : List D) (r : Except String D) (S' : Store), Sim K ρ S H ∧ RDs K ρ H ds vs ∧ F ds S = some (r, S') ∧ Pst K (xE cl E) (qE K Q) ρ H r S'
def arity (n : Nat) (F : FB) : FB := fun ds S => if ds.length = n then F ds S else none
def eF (F : FB) (f : FA) : FE := fun σ S => bnd (f σ S) fun xs S1 => F xs S1
theorem de_call {k n : Nat} {f : Addr} {fd : FuncData} {ps : List Str} {x : Str} {p : Pos} {F : FB} {g : FA} {CX : CXT} {cl : Cls} {E : XK} (G : FnOk X.prog X.w X.K X.mg X.base CX k f fd ps (spF (kw X) cl n F)) (hr : Room k X.A) (hg : Gl X x) (hm : X.mg x = some (.ref f)) (hk : PySem.W.keepIn X.K (.ref f) = true) (hb : Binds X.K fd ps []) (hx : Passes CX X E)
    (hE : ∀ c H, XE c H → xE cl E c H)
    (ha : DA X XE (e :: es) g) (hdb : (x == ("__debug__" : Str)) = false := by decide) (he : starEach (e :: es) X.env = (false, eval e X.env) :: starEach es X.env := by rfl) (hpl : (backTo pos (starEach es X.env)).any (·.1) = false := by rfl) :
    DE X XE (.Call (.Name x p) (e :: es) [] pos) (eF (arity n F) g) :=
  .mk <| PE.mono (pe_call G hr hg hm hk hb .nil hx ha.h hdb he hpl) fun σV H Q ⟨ρ, S, σ, r, S', sm, re, e, p⟩ =>
    seqA sm re e p fun vs H1 ρ1 xs rx ⟨S1, x1, s1, e1, p1⟩ => by
      unfold arity at e1
      dsimp only at e1
      split at e1
      · rename_i hl
        show spF (kw X) cl n F (vs ++ []) H1 Q E
        rw [List.append_nil]
        refine ⟨by rw [← rx.len]; exact hl, ρ1, S1, xs, r, S', s1, rx, e1, fun H2 ρ2 x2 s2 => ?_⟩
        have z := p1 H2 ρ2 x2 s2
        cases r with
        | ok d => exact z
        | error c => exact hE c H2 z
      · cases e1
end
end Mir

namespace Mir
open PySem L2
section
variable {X : Cx} {XE : XEt} {e a b o tg : Expr} {es : List Expr} {K : KW} {σV : St} {H : Hp} {Q : VK} {pos : Pos} {S S' : Store} {σ : Ev}
inductive Out where
  | nx | rt (d : D) | bk | ct
abbrev FS := Ev → Store → R (Out × Ev)
def Fin (K : KW) (E : Ends) (ρ : List Addr) (H : Hp) : Out × Ev → Prop
  | (.nx, σ) => ∀ σV, REnv K ρ H σ σV → E.nx σV H
  | (.rt d, _) => ∀ v, RD K ρ H d v → E.rt v H
  | (.bk, σ) => ∀ σV, REnv K ρ H σ σV → E.bk σV H
  | (.ct, σ) => ∀ σV, REnv K ρ H σ σV → E.ct σV H
def tSt (K : KW) (XE : XEt) (f : FS) : TS := fun E σV H => ∃ (ρ : List Addr) (S : Store) (σ : Ev) (r : Except String (Out × Ev)) (S' : Store), Sim K ρ S H ∧ REnv K ρ H σ σV ∧ f σ S = some (r, S') ∧ Pst K XE (Fin K E) ρ H r S'
structure DS (X : Cx) (XE : XEt) (st : Stmt) (f : FS) : Prop where
  h : PS X st (tSt (kw X) XE f)
structure DSs (X : Cx) (XE : XEt) (st : List Stmt) (f : FS) : Prop where
  h : PSs X st (tSt (kw X) XE f)
theorem PS.mono {st : Stmt} {t t' : TS} (h : PS X st t) (m : ∀ E σ H, t' E σ H → t E σ H) : PS X st t' := fun pins s σ H E I q => h pins s σ H E I (m E σ H q)
theorem PSs.mono {st : List Stmt} {t t' : TS} (h : PSs X st t) (m : ∀ E σ H, t' E σ H → t E σ H) : PSs X st t' := fun pins s σ H E I q => h pins s σ H E I (m E σ H q)
def sNil : FS := fun σ S => ret (.nx, σ) S
def sSeq (f g : FS) : FS := fun σ S => bnd (f σ S) fun p S1 => match p with
  | (.nx, σ1) => g σ1 S1
  | p => ret p S1
theorem dss_nil : DSs X XE [] sNil := .mk <| PSs.mono pss_nil fun E σV H ⟨ρ, S, σ, r, S', sm, re, e, k⟩ => by
  cases e
  exact k.here sm σV re
theorem dss_one {st : Stmt} {f : FS} (h : DS X XE st f) : DSs X XE [st] f := ⟨pss_one h.h⟩
theorem seqS {β : Type} {E : Ends} {QR : List Addr → Hp → β → Prop} {r : Except String β} {f : FS} {g : Out × Ev → Store → R β} {ρ : List Addr} (s : Sim K ρ S H) (re : REnv K ρ H σ σV) (e : bnd (f σ S) g = some (r, S')) (p : Pst K XE QR ρ H r S') (h : ∀ H1 ρ1 c, Rest K XE QR g r S' ρ H ρ1 H1 c → Fin K E ρ1 H1 c) : tSt K XE f E σV H := by
  cases e1 : f σ S with
  | none => rw [e1] at e; cases e
  | some z =>
    obtain ⟨q, S1⟩ := z
    rw [e1] at e
    refine ⟨ρ, S, σ, q, S1, s, re, e1, fun H1 ρ1 x1 s1 => ?_⟩
    cases q with
    | error c => cases e; exact p H1 ρ1 x1 s1
    | ok d => exact h H1 ρ1 d ⟨S1, x1, s1, e, p.mono x1⟩
theorem dss_cons {st : Stmt} {rest : List Stmt} {f g : FS} (h : DS X XE st f) (h2 : DSs X XE rest g) : DSs X XE (st :: rest) (sSeq f g) := .mk <| PSs.mono (pss_cons h.h h2.h) fun E σV H ⟨ρ, S, σ, r, S', sm, re, e, p⟩ =>
  seqS sm re e p fun H1 ρ1 c ⟨S1, x1, s1, e1, p1⟩ => by
    obtain ⟨o1, σ1⟩ := c
    cases o1 with
    | nx => exact fun σV1 re1 => ⟨ρ1, S1, σ1, r, S', s1, re1, e1, p1⟩
    | rt d => cases e1; exact p1.here s1
    | bk => cases e1; exact p1.here s1
    | ct => cases e1; exact p1.here s1
def sRet (f : FE) : FS := fun σ S => bnd (f σ S) fun d S1 => ret (.rt d, σ) S1
theorem ds_ret {f : FE} (h : DE X XE e f) : DS X XE (.Return (some e) pos) (sRet f) := .mk <| PS.mono (ps_ret h.h) fun E σV H ⟨ρ, S, σ, r, S', sm, re, e, p⟩ =>
  seqE sm re e p fun v H1 ρ1 x rx ⟨S1, x1, s1, e1, p1⟩ => by
    cases e1; exact p1.here s1 v rx
def sIf (c : FT) (f g : FS) : FS := fun σ S => bnd (c σ S) fun b S1 => if b = true then f σ S1 else g σ S1
theorem ds_if {c : Expr} {a b : List Stmt} {tc : FT} {f g : FS} (hc : DT X XE c tc) (ha : DSs X XE a f) (hb : DSs X XE b g) : DS X XE (.If c a b pos) (sIf tc f g) := .mk <| PS.mono (ps_if hc.h ha.h hb.h) fun E σV H ⟨ρ, S, σ, r, S', sm, re, e, p⟩ =>
  seqT sm re e p fun H1 ρ1 c ⟨S1, x1, s1, e1, p1⟩ => by
    dsimp only at e1
    by_cases hc : c = true
    · rw [if_pos hc] at e1; rw [if_pos hc]
      exact ⟨ρ1, S1, σ, r, S', s1, re.mono x1, e1, p1⟩
    · rw [if_neg hc] at e1; rw [if_neg hc]
      exact ⟨ρ1, S1, σ, r, S', s1, re.mono x1, e1, p1⟩
abbrev FG := D → Ev → Option Ev
def SndG (K : KW) (g : TG) (G : FG) : Prop := ∀ (ρ : List Addr) (S : Store) (H : Hp) (d : D) (v : V) (σ : Ev) (σV : St) (σ' : Ev) (QS : St → Hp → Prop), Sim K ρ S H → REnv K ρ H σ σV → RD K ρ H d v → G d σ = some σ' →
  (∀ σV', REnv K ρ H σ' σV' → QS σV' H) → g v σV H QS
def SndGs (K : KW) (g : TGs) (G : List D → Ev → Option Ev) : Prop := ∀ (ρ : List Addr) (S : Store) (H : Hp) (ds : List D) (vs : List V) (σ : Ev) (σV : St) (σ' : Ev) (QS : St → Hp → Prop), Sim K ρ S H → REnv K ρ H σ σV → RDs K ρ H ds vs → G ds σ = some σ' →
  (∀ σV', REnv K ρ H σ' σV' → QS σV' H) → g vs σV H QS
def gN (i : Nat) : FG := fun d σ => some (σ.set i (some d))
theorem snd_gN (i : Nat) : SndG K (gName i) (gN i) := fun ρ S H d v σ σV σ' QS s re r e k => by
  cases e
  exact k _ (re.set i r)
def gsNil : List D → Ev → Option Ev := fun ds σ => match ds with
  | [] => some σ
  | _ => none
def gsCons (G : FG) (Gs : List D → Ev → Option Ev) : List D → Ev → Option Ev := fun ds σ => match ds with
  | d :: r => (G d σ).bind fun σ' => Gs r σ'
  | [] => none
def gT (n : Nat) (Gs : List D → Ev → Option Ev) : FG := fun d σ => match d with
  | .tup ds => if ds.length = n then Gs ds σ else none
  | _ => none
theorem snd_gsNil : SndGs K gNil gsNil := fun ρ S H ds vs σ σV σ' QS s re r e k => by
  cases r with
  | nil => cases e; exact ⟨rfl, k _ re⟩
  | cons _ _ => cases e
theorem snd_gsCons {g : TG} {gs : TGs} {G : FG} {Gs : List D → Ev → Option Ev} (h : SndG K g G) (hs : SndGs K gs Gs) : SndGs K (gCons g gs) (gsCons G Gs) := fun ρ S H ds vs σ σV σ' QS s re r e k => by
  cases r with
  | nil => cases e
  | cons hd tl =>
    rename_i d v ds vs
    unfold gsCons at e
    cases e1 : G d σ with
    | none => simp [e1] at e
    | some σ1 =>
      simp only [e1, Option.bind_some] at e
      exact ⟨v, vs, rfl, h ρ S H d v σ σV σ1 _ s re hd e1 fun σV1 re1 => hs ρ S H ds vs σ1 σV1 σ' QS s re1 tl e k⟩
theorem snd_gT {n : Nat} {gs : TGs} {Gs : List D → Ev → Option Ev} (hs : SndGs K gs Gs) : SndG K (gTup K n gs) (gT n Gs) := fun ρ S H d v σ σV σ' QS s re r e k => by
  unfold gT at e
  split at e
  · split at e
    · rename_i hl
      cases r with | tup h q =>
      exact ⟨_, _, rfl, SqT.of h, by rw [← q.len]; exact hl, hs ρ S H _ _ σ σV σ' QS s re q e k⟩
    · cases e
  · cases e
def sAsg (f : FE) (G : FG) : FS := fun σ S => bnd (f σ S) fun d S1 => match G d σ with
  | some σ' => ret (.nx, σ') S1
  | none => none
theorem tS_asg {f : FE} {g : TG} {G : FG} {E : Ends} {σV : St} {H : Hp} (hs : SndG K g G) : tSt K XE (sAsg f G) E σV H → tAsg (tE K XE f) g E σV H := fun ⟨ρ, S, σ, r, S', sm, re, e, p⟩ =>
  seqE sm re e p fun v H1 ρ1 x rx ⟨S1, x1, s1, e1, p1⟩ => by
    dsimp only at e1
    cases e2 : G x σ with
    | none => rw [e2] at e1; cases e1
    | some σ1 =>
      rw [e2] at e1; cases e1
      exact hs ρ1 _ H1 x v σ σV _ _ s1 (re.mono x1) rx e2 fun σV' re' => p1.here s1 σV' re'
theorem ds_asg {tg : Expr} {f : FE} {g : TG} {G : FG} (he : DE X XE e f) (hg : PG X tg g) (hS : SndG (kw X) g G) (hs : swapsWithSole [tg] e pos.line X.env = pure false := by rfl) (hw : swappedStores [tg] e X.env = pure none := by rfl)
    (h1 : (assignEach [tg] X.env).map (·.2) = [assign tg X.env] := by rfl) : DS X XE (.Assign [tg] e pos) (sAsg f G) := .mk <| PS.mono (ps_asg he.h hg hs hw h1) fun _ _ _ => tS_asg hS
theorem ds_set {i : Nat} {x : Str} {f : FE} {pos' : Pos} (hN : X.N.Nodup) (hi : X.N[i]? = some x) (hx : Loc X.env.scope x) (he : DE X XE e f) (hs : swapsWith e (some (.Name x pos')) pos.line X.env = pure false := by rfl) (hf : X.fn x = true ∨ X.env.scope.names.lookup x = some .local := by first | exact .inl rfl | exact .inr rfl | assumption) :
    DS X XE (.Assign [.Name x pos'] e pos) (sAsg f (gN i)) := .mk <| PS.mono (ps_set hN hi hx he.h hs hf) fun _ _ _ => tS_asg (snd_gN i)
inductive Src where
  | rng (lo : Int) (n : Nat)
  | lst (n : Nat)
  | tup (xs : List D)
  | enm (n : Nat)
  | zip (m n : Nat)
  | zp3 (m n k : Nat)
  | key (n : Nat)
  | kyn (n : Nat)
def It3 (K : PySem.W.Frag) (a b c : Addr) : It :=
  ⟨fun i H => ∃ (xs ys zs : List V) (x y z : V), SqL K H a xs ∧ SqL K H b ys ∧ SqL K H c zs ∧ xs[i]? = some x ∧ ys[i]? = some y ∧ zs[i]? = some z,
    fun i H v H' => ∃ T x y z, v = .ref T ∧ H T = none ∧ H' = upd H T (.tup [x, y, z]) ∧ (∀ xs, SqL K H a xs → xs[i]? = some x) ∧ (∀ ys, SqL K H b ys → ys[i]? = some y) ∧ ∀ zs, SqL K H c zs → zs[i]? = some z,
    fun i H => ∃ xs ys zs : List V, SqL K H a xs ∧ SqL K H b ys ∧ SqL K H c zs ∧ xs.length ≤ i ∧ ys.length ≤ i ∧ zs.length ≤ i⟩
def dfr? (S : Store) (n : Nat) : Option (List (List Key × D)) := match S[n]? with
  | some (.dfr kvs) => some kvs
  | _ => none
theorem dfr_some {S : Store} {n : Nat} {kvs : List (List Key × D)} (h : dfr? S n = some kvs) : S[n]? = some (.dfr kvs) := by
  unfold dfr? at h
  split at h
  · rename_i e; cases h; exact e
  · cases h
theorem KVs.len {K : KW} {ρ : List Addr} {H : Hp} : ∀ {kvs : List (List Key × D)} {xs : List (List Key × V)}, KVs K ρ H kvs xs → kvs.length = xs.length
  | _, _, .nil => rfl
  | _, _, .cons _ t => by simp [KVs.len t]
theorem KVs.at {K : KW} {ρ : List Addr} {H : Hp} : ∀ {kvs : List (List Key × D)} {xs : List (List Key × V)} {i : Nat} {k : List Key} {d : D}, KVs K ρ H kvs xs → kvs[i]? = some (k, d) → ∃ v, xs[i]? = some (k, v) ∧ RD K ρ H d v
  | _, _, i, _, _, .nil, h => by simp at h
  | _, _, 0, _, _, .cons r _, h => by cases h; exact ⟨_, rfl, r⟩
  | _, _, i + 1, _, _, .cons _ t, h => KVs.at (i := i) t h
theorem rds_keys {K : KW} {ρ : List Addr} {H : Hp} : ∀ k : List Key, RDs K ρ H (k.map kD) (k.map kV)
  | [] => .nil
  | .inl i :: r => .cons (.int i) (rds_keys r)
  | .inr x :: r => .cons (.str x) (rds_keys r)
def dnf? (S : Store) (n : Nat) : Option (List (List (List Int) × D)) := match S[n]? with
  | some (.dnf kvs) => some kvs
  | _ => none
theorem dnf_some {S : Store} {n : Nat} {kvs : List (List (List Int) × D)} (h : dnf? S n = some kvs) : S[n]? = some (.dnf kvs) := by
  unfold dnf? at h
  split at h
  · rename_i e; cases h; exact e
  · cases h
def nD (k : List (List Int)) : D := .tup (k.map fun t => .tup (t.map .int))
theorem NKs.len0 {K : KW} {ρ : List Addr} {H : Hp} : ∀ {kvs : List (List (List Int) × D)} {xs : List (List (List Int) × V)}, NKs K ρ H kvs xs → kvs.length = xs.length
  | _, _, .nil => rfl
  | _, _, .cons _ t => by simp [NKs.len0 t]
theorem NKs.at {K : KW} {ρ : List Addr} {H : Hp} : ∀ {kvs : List (List (List Int) × D)} {xs : List (List (List Int) × V)} {i : Nat} {k : List (List Int)} {d : D}, NKs K ρ H kvs xs → kvs[i]? = some (k, d) → ∃ v, xs[i]? = some (k, v) ∧ RD K ρ H d v
  | _, _, i, _, _, .nil, h => by simp at h
  | _, _, 0, _, _, .cons r _, h => by cases h; exact ⟨_, rfl, r⟩
  | _, _, i + 1, _, _, .cons _ t, h => NKs.at (i := i) t h
theorem rds_intsN {K : KW} {ρ : List Addr} {H : Hp} : ∀ k : List Int, RDs K ρ H (k.map .int) (k.map .int)
  | [] => .nil
  | i :: r => .cons (.int i) (rds_intsN r)
theorem rd_nD {K : KW} {ρ : List Addr} {H : Hp} {q : Addr} {k : List (List Int)} (h : NT.NTup H q k) : RD K ρ H (nD k) (.ref q) := by
  obtain ⟨as, h1, h2⟩ := h
  refine .tup h1 ?_
  clear h1
  induction h2 with
  | nil => exact .nil
  | cons hd _ ih => exact .cons (.tup hd (rds_intsN _)) ih
def Src.at : Src → Store → Nat → Option (Option D)
  | .rng lo n, _, i => some (if i < n then some (.int (lo + i)) else none)
  | .lst n, S, i => (lst? S n).map fun xs => xs[i]?
  | .tup xs, _, i => some xs[i]?
  | .enm n, S, i => (lst? S n).map fun xs => xs[i]?.map fun x => .tup [.int (i : Nat), x]
  | .key n, S, i => (dfr? S n).map fun kvs => kvs[i]?.map fun kv => .tup (kv.1.map kD)
  | .kyn n, S, i => (dnf? S n).map fun kvs => kvs[i]?.map fun kv => nD kv.1
  | .zp3 m n k, S, i => (lst? S m).bind fun xs => (lst? S n).bind fun ys => (lst? S k).bind fun zs => if xs.length = ys.length ∧ ys.length = zs.length then some (xs[i]?.bind fun x => ys[i]?.bind fun y => zs[i]?.map fun z => .tup [x, y, z]) else none
  | .zip m n, S, i => (lst? S m).bind fun xs => (lst? S n).map fun ys => xs[i]?.bind fun x => ys[i]?.map fun y => .tup [x, y]
def loop (G : FG) (f : FS) (J : Src) : Nat → Nat → FS
  | 0, _, _, _ => none
  | k + 1, i, σ, S => match J.at S i with
    | none => none
    | some none => ret (.nx, σ) S
    | some (some d) => match G d σ with
      | none => none
      | some σ1 => bnd (f σ1 S) fun p S1 => match p with
        | (.nx, σ2) => loop G f J k (i + 1) σ2 S1
        | (.ct, σ2) => loop G f J k (i + 1) σ2 S1
        | (.bk, σ2) => ret (.nx, σ2) S1
        | (.rt d, σ2) => ret (.rt d, σ2) S1
def Src.len : Src → Store → Nat
  | .rng _ n, _ => n
  | .lst n, S => match lst? S n with
    | some xs => xs.length
    | none => 0
  | .tup xs, _ => xs.length
  | .enm n, S => match lst? S n with
    | some xs => xs.length
    | none => 0
  | .zp3 n _ _, S => match lst? S n with
    | some xs => xs.length
    | none => 0
  | .zip n _, S => match lst? S n with
    | some xs => xs.length
    | none => 0
  | .key n, S => match dfr? S n with
    | some xs => xs.length
    | none => 0
  | .kyn n, S => match dnf? S n with
    | some xs => xs.length
    | none => 0
abbrev FI := Ev → Store → R Src
def sFor (fi : FI) (G : FG) (f : FS) : FS := fun σ S => bnd (fi σ S) fun J S1 => loop G f J (J.len S1 + 1) 0 σ S1
def SrcIs (K : KW) (ρ : List Addr) (H : Hp) (J : Src) (I : It) : Prop := match J with
  | .rng lo n => I = Itr lo n
  | .lst n => ∃ a, ρ[n]? = some a ∧ I = Itl K a
  | .tup ds => ∃ a xs, H a = some (.tup xs) ∧ RDs K ρ H ds xs ∧ I = Itt K a
  | .enm n => ∃ a, ρ[n]? = some a ∧ I = Ite K a
  | .zip m n => ∃ a b, ρ[m]? = some a ∧ ρ[n]? = some b ∧ I = Itz K a b
  | .zp3 m n k => ∃ a b c, ρ[m]? = some a ∧ ρ[n]? = some b ∧ ρ[k]? = some c ∧ I = It3 K a b c
  | .key n => ∃ a o xs, ρ[n]? = some a ∧ H a = some (.frz o (.dT xs)) ∧ I = Itkt a o xs
  | .kyn n => ∃ a o, ρ[n]? = some a ∧ H a = some (.frz o (.ext fun h => h.get? a = some o)) ∧ I = NT.Itkn a o
def qI (K : KW) (Q : It → Hp → Prop) : List Addr → Hp → Src → Prop := fun ρ H J => ∀ I, SrcIs K ρ H J I → Q I H
def tFI (K : KW) (XE : XEt) (fi : FI) : TI := fun σV H R => ∃ (ρ : List Addr) (S : Store) (σ : Ev) (r : Except String Src) (S' : Store), Sim K ρ S H ∧ REnv K ρ H σ σV ∧ fi σ S = some (r, S') ∧ Pst K XE (qI K R) ρ H r S'
structure DI (X : Cx) (XE : XEt) (tg e : Expr) (fi : FI) : Prop where
  h : PI X tg e (tFI (kw X) XE fi)
theorem SrcIs.mono {ρ ρ' : List Addr} {H H' : Hp} {J : Src} {I : It} (x : Ex0 ρ H ρ' H') (h : SrcIs K ρ H J I) : SrcIs K ρ' H' J I := by
  cases J with
  | rng lo n => exact h
  | lst n => obtain ⟨a, h1, h2⟩ := h; exact ⟨a, x.at h1, h2⟩
  | tup ds => obtain ⟨a, xs, h1, h2, h3⟩ := h; exact ⟨a, xs, x.tup _ _ h1, h2.mono x, h3⟩
  | enm n => obtain ⟨a, h1, h2⟩ := h; exact ⟨a, x.at h1, h2⟩
  | zip m n => obtain ⟨a, b, h1, h2, h3⟩ := h; exact ⟨a, b, x.at h1, x.at h2, h3⟩
  | zp3 m n k => obtain ⟨a, b, c, h1, h2, h3, h4⟩ := h; exact ⟨a, b, c, x.at h1, x.at h2, x.at h3, h4⟩
  | key n => obtain ⟨a, o, xs, h1, h2, h3⟩ := h; exact ⟨a, o, xs, x.at h1, x.frz _ _ _ h2, h3⟩
  | kyn n => obtain ⟨a, o, h1, h2, h3⟩ := h; exact ⟨a, o, x.at h1, x.frz _ _ _ h2, h3⟩
theorem src_stop {ρ : List Addr} {S : Store} {H : Hp} {J : Src} {I : It} {i : Nat} (s : Sim K ρ S H) (h : SrcIs K ρ H J I) (e : J.at S i = some none) : I.stop i H := by
  cases J with
  | rng lo n =>
    cases h
    simp only [Src.at] at e
    by_cases c : i < n
    · rw [if_pos c] at e; cases e
    · exact Nat.le_of_not_lt c
  | lst n =>
    obtain ⟨a, h1, rfl⟩ := h
    simp only [Src.at] at e
    cases q : lst? S n with
    | none => rw [q] at e; cases e
    | some xs =>
      rw [q] at e
      obtain ⟨ys, h2, h3⟩ := s.list h1 q
      have e' : xs[i]? = none := Option.some.inj e
      exact ⟨ys, h2, by rw [← h3.len]; exact List.getElem?_eq_none_iff.mp e'⟩
  | tup ds =>
    obtain ⟨a, xs, h1, h2, rfl⟩ := h
    have e' : ds[i]? = none := Option.some.inj e
    exact ⟨xs, SqT.of h1, by rw [← h2.len]; exact List.getElem?_eq_none_iff.mp e'⟩
  | enm n =>
    obtain ⟨a, h1, rfl⟩ := h
    simp only [Src.at] at e
    cases q : lst? S n with
    | none => rw [q] at e; cases e
    | some xs =>
      rw [q] at e
      obtain ⟨ys, h2, h3⟩ := s.list h1 q
      have e' : (xs[i]?).map (fun x => D.tup [.int (i : Nat), x]) = none := Option.some.inj e
      exact ⟨ys, h2, by rw [← h3.len]; exact List.getElem?_eq_none_iff.mp (Option.map_eq_none_iff.mp e')⟩
  | zip m n =>
    obtain ⟨a, b, h1, hb, rfl⟩ := h
    simp only [Src.at] at e
    cases q : lst? S m with
    | none => rw [q] at e; cases e
    | some xs =>
      cases q2 : lst? S n with
      | none => rw [q, q2] at e; cases e
      | some zs =>
        rw [q, q2] at e
        obtain ⟨ys, h2, h3⟩ := s.list h1 q
        obtain ⟨us, h4, h5⟩ := s.list hb q2
        have e' : (xs[i]?).bind (fun x => (zs[i]?).map fun y => D.tup [x, y]) = none := Option.some.inj e
        refine ⟨ys, us, h2, h4, ?_⟩
        rw [← h3.len, ← h5.len]
        cases c : xs[i]? with
        | none => exact .inl (List.getElem?_eq_none_iff.mp c)
        | some x =>
          rw [c] at e'
          exact .inr (List.getElem?_eq_none_iff.mp (Option.map_eq_none_iff.mp e'))
  | zp3 m n k =>
    obtain ⟨a, b, c, h1, hb, hc, rfl⟩ := h
    simp only [Src.at] at e
    cases q : lst? S m with
    | none => rw [q] at e; cases e
    | some xs =>
      cases q2 : lst? S n with
      | none => rw [q, q2] at e; cases e
      | some zs =>
        cases q3 : lst? S k with
        | none => rw [q, q2, q3] at e; cases e
        | some ts =>
          rw [q, q2, q3] at e
          simp only [Option.bind_some] at e
          split at e
          · rename_i hl
            obtain ⟨ys, h2, h3⟩ := s.list h1 q
            obtain ⟨us, h4, h5⟩ := s.list hb q2
            obtain ⟨ws, h6, h7⟩ := s.list hc q3
            have e' := Option.some.inj e
            refine ⟨ys, us, ws, h2, h4, h6, ?_⟩
            rw [← h3.len, ← h5.len, ← h7.len]
            have : xs.length ≤ i := by
              refine Nat.le_of_not_lt fun g => ?_
              rw [List.getElem?_eq_getElem g, List.getElem?_eq_getElem (show i < zs.length by omega), List.getElem?_eq_getElem (show i < ts.length by omega)] at e'
              cases e'
            omega
          · cases e
  | key n =>
    obtain ⟨a, o, xs, h1, hH, rfl⟩ := h
    simp only [Src.at] at e
    cases q : dfr? S n with
    | none => rw [q] at e; cases e
    | some kvs =>
      rw [q] at e
      obtain ⟨o', xs', h2, h3⟩ := s.ok n a _ h1 (dfr_some q)
      rw [hH] at h2
      cases h2
      have e' : (kvs[i]?).map (fun kv => D.tup (kv.1.map kD)) = none := Option.some.inj e
      exact ⟨hH, by rw [← h3.len]; exact List.getElem?_eq_none_iff.mp (Option.map_eq_none_iff.mp e')⟩
  | kyn n =>
    obtain ⟨a, o, h1, hH, rfl⟩ := h
    simp only [Src.at] at e
    cases q : dnf? S n with
    | none => rw [q] at e; cases e
    | some kvs =>
      rw [q] at e
      obtain ⟨o', xs', h2, h3⟩ := s.ok n a _ h1 (dnf_some q)
      have h4 := h2.there
      rw [hH] at h4
      obtain rfl : o = o' := by cases h4; rfl
      have e' : (kvs[i]?).map (fun kv => nD kv.1) = none := Option.some.inj e
      exact ⟨xs', h2, by rw [← h3.len0]; exact List.getElem?_eq_none_iff.mp (Option.map_eq_none_iff.mp e')⟩
theorem src_go {ρ : List Addr} {S : Store} {H : Hp} {J : Src} {I : It} {i : Nat} {d : D} (s : Sim K ρ S H) (h : SrcIs K ρ H J I) (e : J.at S i = some (some d)) : I.go i H ∧ ∀ x H', I.yld i H x H' → Ext ρ H ρ H' ∧ Sim K ρ S H' ∧ RD K ρ H' d x := by
  cases J with
  | rng lo n =>
    cases h
    simp only [Src.at] at e
    by_cases c : i < n
    · rw [if_pos c] at e; cases e
      exact ⟨c, fun x H' ⟨h1, h2⟩ => by rw [h1, h2]; exact ⟨Ext.refl _ _, s, .int _⟩⟩
    · rw [if_neg c] at e; cases e
  | lst n =>
    obtain ⟨a, h1, rfl⟩ := h
    simp only [Src.at] at e
    cases q : lst? S n with
    | none => rw [q] at e; cases e
    | some xs =>
      rw [q] at e
      obtain ⟨ys, h2, h3⟩ := s.list h1 q
      obtain ⟨v, h4, h5⟩ := h3.get (show xs[i]? = some d from Option.some.inj e)
      refine ⟨⟨ys, v, h2, h4⟩, fun x H' ⟨z1, z2⟩ => ?_⟩
      have := z2 ys h2
      rw [h4] at this; cases this; rw [z1]; exact ⟨Ext.refl _ _, s, h5⟩
  | tup ds =>
    obtain ⟨a, xs, h1, h2, rfl⟩ := h
    obtain ⟨v, h4, h5⟩ := h2.get (show ds[i]? = some d from Option.some.inj e)
    refine ⟨⟨xs, v, SqT.of h1, h4⟩, fun x H' ⟨z1, z2⟩ => ?_⟩
    have := z2 xs (SqT.of h1)
    rw [h4] at this; cases this; rw [z1]; exact ⟨Ext.refl _ _, s, h5⟩
  | enm n =>
    obtain ⟨a, h1, rfl⟩ := h
    simp only [Src.at] at e
    cases q : lst? S n with
    | none => rw [q] at e; cases e
    | some xs =>
      rw [q] at e
      have e : (xs[i]?).map (fun x => D.tup [.int (i : Nat), x]) = some d := Option.some.inj e
      obtain ⟨y, hy, rfl⟩ := Option.map_eq_some_iff.mp e
      obtain ⟨ys, h2, h3⟩ := s.list h1 q
      obtain ⟨v, h4, h5⟩ := h3.get hy
      refine ⟨⟨ys, v, h2, h4⟩, ?_⟩
      rintro x H' ⟨T, x', rfl, z1, rfl, z2⟩
      have := z2 ys h2
      rw [h4] at this; cases this
      exact ⟨ext_new0 z1, s.tuple z1, .tup upd_same (.cons (.int _) (.cons (h5.mono (ext_new0 z1).toEx0) .nil))⟩
  | zip m n =>
    obtain ⟨a, b, h1, hb, rfl⟩ := h
    simp only [Src.at] at e
    cases q : lst? S m with
    | none => rw [q] at e; cases e
    | some xs =>
      cases q2 : lst? S n with
      | none => rw [q, q2] at e; cases e
      | some zs =>
        rw [q, q2] at e
        have e : (xs[i]?).bind (fun x => (zs[i]?).map fun y => D.tup [x, y]) = some d := Option.some.inj e
        obtain ⟨x, hx, e⟩ := Option.bind_eq_some_iff.mp e
        obtain ⟨y, hy, rfl⟩ := Option.map_eq_some_iff.mp e
        obtain ⟨ys, h2, h3⟩ := s.list h1 q
        obtain ⟨us, g2, g3⟩ := s.list hb q2
        obtain ⟨v, h4, h5⟩ := h3.get hx
        obtain ⟨v', g4, g5⟩ := g3.get hy
        refine ⟨⟨ys, us, v, v', h2, g2, h4, g4⟩, ?_⟩
        rintro x H' ⟨T, x', y', rfl, z1, rfl, z2, z3⟩
        have := z2 ys h2
        rw [h4] at this; cases this
        have := z3 us g2
        rw [g4] at this; cases this
        exact ⟨ext_new0 z1, s.tuple z1, .tup upd_same (.cons (h5.mono (ext_new0 z1).toEx0) (.cons (g5.mono (ext_new0 z1).toEx0) .nil))⟩
  | zp3 m n k =>
    obtain ⟨a, b, c, h1, hb, hc, rfl⟩ := h
    simp only [Src.at] at e
    cases q : lst? S m with
    | none => rw [q] at e; cases e
    | some xs =>
      cases q2 : lst? S n with
      | none => rw [q, q2] at e; cases e
      | some zs =>
        cases q3 : lst? S k with
        | none => rw [q, q2, q3] at e; cases e
        | some ts =>
          rw [q, q2, q3] at e
          simp only [Option.bind_some] at e
          split at e
          · have e := Option.some.inj e
            obtain ⟨x, hx, e⟩ := Option.bind_eq_some_iff.mp e
            obtain ⟨y, hy, e⟩ := Option.bind_eq_some_iff.mp e
            obtain ⟨z, hz, rfl⟩ := Option.map_eq_some_iff.mp e
            obtain ⟨ys, h2, h3⟩ := s.list h1 q
            obtain ⟨us, h4, h5⟩ := s.list hb q2
            obtain ⟨ws, h6, h7⟩ := s.list hc q3
            obtain ⟨v1, g1, r1⟩ := h3.get hx
            obtain ⟨v2, g2, r2⟩ := h5.get hy
            obtain ⟨v3, g3, r3⟩ := h7.get hz
            refine ⟨⟨ys, us, ws, v1, v2, v3, h2, h4, h6, g1, g2, g3⟩, ?_⟩
            rintro x' H' ⟨T, x1, x2, x3, rfl, z1, rfl, z2, z3, z4⟩
            have k1 := z2 ys h2
            rw [g1] at k1; cases k1
            have k2 := z3 us h4
            rw [g2] at k2; cases k2
            have k3 := z4 ws h6
            rw [g3] at k3; cases k3
            exact ⟨ext_new0 z1, s.tuple z1, .tup upd_same (.cons (r1.mono (ext_new0 z1).toEx0) (.cons (r2.mono (ext_new0 z1).toEx0) (.cons (r3.mono (ext_new0 z1).toEx0) .nil)))⟩
          · cases e
  | key n =>
    obtain ⟨a, o, xs, h1, hH, rfl⟩ := h
    simp only [Src.at] at e
    cases q : dfr? S n with
    | none => rw [q] at e; cases e
    | some kvs =>
      rw [q] at e
      obtain ⟨o', xs', h2, h3⟩ := s.ok n a _ h1 (dfr_some q)
      rw [hH] at h2
      cases h2
      have e : (kvs[i]?).map (fun kv => D.tup (kv.1.map kD)) = some d := Option.some.inj e
      obtain ⟨⟨k, dv⟩, hk, rfl⟩ := Option.map_eq_some_iff.mp e
      obtain ⟨v, h4, h5⟩ := h3.at hk
      refine ⟨⟨hH, (List.getElem?_eq_some_iff.mp h4).1⟩, ?_⟩
      rintro x H' ⟨rfl, k', v', p, z1, rfl, z2⟩
      rw [h4] at z1
      cases z1
      exact ⟨Ext.refl _ _, s, .tup z2 (rds_keys k)⟩
  | kyn n =>
    obtain ⟨a, o, h1, hH, rfl⟩ := h
    simp only [Src.at] at e
    cases q : dnf? S n with
    | none => rw [q] at e; cases e
    | some kvs =>
      rw [q] at e
      obtain ⟨o', xs', h2, h3⟩ := s.ok n a _ h1 (dnf_some q)
      have h4 := h2.there
      rw [hH] at h4
      obtain rfl : o = o' := by cases h4; rfl
      have e : (kvs[i]?).map (fun kv => nD kv.1) = some d := Option.some.inj e
      obtain ⟨⟨k, dv⟩, hk, rfl⟩ := Option.map_eq_some_iff.mp e
      obtain ⟨v, h4, h5⟩ := h3.at hk
      refine ⟨⟨xs', h2, (List.getElem?_eq_some_iff.mp h4).1⟩, ?_⟩
      rintro x H' ⟨rfl, p, rfl, z2⟩
      obtain ⟨k', v', z1, z3⟩ := z2 xs' h2
      rw [h4] at z1
      cases z1
      exact ⟨Ext.refl _ _, s, rd_nD z3⟩
theorem tS_for {fi : FI} {g : TG} {G : FG} {f : FS} {E : Ends} {σV : St} {H : Hp} (hG : SndG K g G) : tSt K XE (sFor fi G f) E σV H → tFor (tFI K XE fi) g (tSt K XE f) E σV H := fun ⟨ρ, S, σ, r, S', sm, re, e, p⟩ => by
  unfold sFor at e
  cases e1 : fi σ S with
  | none => rw [e1] at e; cases e
  | some z =>
    obtain ⟨q, S1⟩ := z
    rw [e1] at e
    refine ⟨ρ, S, σ, q, S1, sm, re, e1, fun H1 ρ1 x1 s1 => ?_⟩
    cases q with
    | error c => cases e; exact p H1 ρ1 x1 s1
    | ok J =>
      intro I hJ
      have p1 := p.mono x1
      have e : loop G f J (J.len S1 + 1) 0 σ S1 = some (r, S') := e
      refine ⟨fun i m σV2 H2 => ∃ (ρ2 : List Addr) (S2 : Store) (σ2 : Ev), Ext ρ1 H1 ρ2 H2 ∧ Sim K ρ2 S2 H2 ∧ REnv K ρ2 H2 σ2 σV2 ∧ loop G f J m i σ2 S2 = some (r, S'),
        ⟨_, ρ1, S1, σ, Ext.refl _ _, s1, re.mono x1, e⟩, ?_⟩
      rintro i m σV2 H2 ⟨ρ2, S2, σ2, x2, s2, re2, e2⟩
      cases m with
      | zero => cases e2
      | succ m =>
        unfold loop at e2
        cases e3 : J.at S2 i with
        | none => rw [e3] at e2; cases e2
        | some x =>
          rw [e3] at e2
          cases x with
          | none =>
            cases e2
            exact .inl ⟨src_stop s2 (hJ.mono x2) e3, (p1.mono x2).here s2 σV2 re2⟩
          | some d =>
            obtain ⟨hgo, hy⟩ := src_go s2 (hJ.mono x2) e3
            refine .inr ⟨hgo, fun σV3 H3 => ∃ (ρ3 : List Addr) (S3 : Store) (σ3 : Ev), Ext ρ1 H1 ρ3 H3 ∧ Sim K ρ3 S3 H3 ∧ REnv K ρ3 H3 σ3 σV3 ∧ loop G f J m (i + 1) σ3 S3 = some (r, S'),
              fun σV3 H3 q => ⟨m, Nat.lt_succ_self _, q⟩, fun x H' yl => ?_⟩
            obtain ⟨x3, s3, rx⟩ := hy x H' yl
            dsimp only at e2
            cases e4 : G d σ2 with
            | none => rw [e4] at e2; cases e2
            | some σ3 =>
              rw [e4] at e2
              dsimp only at e2
              refine hG ρ2 S2 H' d x σ2 σV2 σ3 _ s3 (re2.mono x3.toEx0) rx e4 fun σV3 re3 => ?_
              refine seqS s3 re3 e2 (p1.mono (x2.trans x3)) fun H4 ρ4 c ⟨S4, x4, s4, e5, p4⟩ => ?_
              obtain ⟨o1, σ4⟩ := c
              cases o1 with
              | nx => exact fun σV4 re4 => ⟨ρ4, S4, σ4, (x2.trans x3).trans x4, s4, re4, e5⟩
              | ct => exact fun σV4 re4 => ⟨ρ4, S4, σ4, (x2.trans x3).trans x4, s4, re4, e5⟩
              | bk => cases e5; exact p4.here s4
              | rt d => cases e5; exact p4.here s4
theorem ds_for {iter : Expr} {body : List Stmt} {fi : FI} {g : TG} {G : FG} {f : FS} (hp : PassesOwn (model X.prog X.w) X.A X.env X.xe) (hc : X.calm = true) (hi : DI X XE tg iter fi) (hg : PG X tg g) (hG : SndG (kw X) g G) (hb : DSs X XE body f)
    (hs : ∀ x, foldedSetIterable iter X.env x = pure x := by intro _; rfl) : DS X XE (.For tg iter body [] pos) (sFor fi G f) := .mk <| PS.mono (ps_for hp hc hi.h hg hb.h hs) fun _ _ _ => tS_for hG
def iL (f : FE) : FI := fun σ S => bnd (f σ S) fun x S1 => match x with
  | .ref n => if (lst? S1 n).isSome = true then ret (.lst n) S1 else none
  | _ => none
theorem PI.mono {t t' : TI} (h : PI X tg e t) (m : ∀ σ H R, t' σ H R → t σ H R) : PI X tg e t' := fun pins s σ H R I q => h pins s σ H R I (m σ H R q)
theorem di_list {f : FE} (h : DE X XE e f) : DI X XE tg e (iL f) := .mk <| PI.mono (pi_list h.h) fun σV H R ⟨ρ, S, σ, r, S', sm, re, e, p⟩ =>
  seqE sm re e p fun v H1 ρ1 x rx ⟨S1, x1, s1, e1, p1⟩ => by
    cases x with
    | ref n =>
      dsimp only at e1
      cases q : lst? S1 n with
      | none => rw [q] at e1; cases e1
      | some xs =>
        rw [q, if_pos (show (some xs).isSome = true from rfl)] at e1; cases e1
        cases rx with | ref h1 =>
        obtain ⟨ys, h2, _⟩ := s1.list h1 q
        exact ⟨_, rfl, ⟨ys, h2⟩, p1.here s1 _ ⟨_, h1, rfl⟩⟩
    | _ => cases e1
def iR1 (f : FA) : FI := fun σ S => bnd (f σ S) fun xs S1 => match xs with
  | [.int j] => if -(2 ^ 62) ≤ j ∧ j < 2 ^ 62 then ret (.rng 0 j.toNat) S1 else none
  | _ => none
theorem di_range1 {f : FA} {p : Pos} (hg : Gl X "range") (hm : X.mg "range" = none) (ha : DA X XE [a] f) (hs : starEach [a] X.env = [(false, eval a X.env)] := by rfl) : DI X XE tg (.Call (.Name "range" p) [a] [] pos) (iR1 f) :=
  .mk <| PI.mono (pi_range1 hg hm ha.h hs) fun σV H R ⟨ρ, S, σ, r, S', sm, re, e, p⟩ =>
    seqA sm re e p fun vs H1 ρ1 xs rx ⟨S1, x1, s1, e1, p1⟩ => by
      dsimp only at e1
      split at e1
      · split at e1
        · rename_i c
          cases e1
          cases rx with | cons h t =>
          cases t; cases h
          exact ⟨_, rfl, c.1, c.2, p1.here s1 _ rfl⟩
        · cases e1
      · cases e1
end
def mk (n : Nat) (f : FS) : FB := fun ds S => bnd (f (ds.map some ++ List.replicate (n - ds.length) none) S) fun p S1 => match p with
  | (.rt d, _) => ret d S1
  | (.nx, _) => ret .non S1
  | _ => none
theorem renv_start {K : KW} {ρ : List Addr} {H : Hp} {N : List Str} {ds : List D} {vs : List V} (r : RDs K ρ H ds vs) : REnv K ρ H (ds.map some ++ List.replicate (N.length - ds.length) none) (L2.start N vs) := by
  refine ⟨?_, fun i d h => ?_⟩
  · unfold L2.start; rw [List.length_append, List.length_append, List.length_map, List.length_map, List.length_replicate, List.length_replicate, r.len]
  · by_cases c : i < ds.length
    · rw [List.getElem?_append_left (by simpa using c), List.getElem?_map] at h
      cases q : ds[i]? with
      | none => rw [q] at h; cases h
      | some d' =>
        rw [q] at h; cases h
        obtain ⟨v, h1, h2⟩ := r.get q
        refine ⟨v, ?_, h2⟩
        unfold L2.start
        rw [List.getElem?_append_left (by rw [List.length_map, ← r.len]; exact c), List.getElem?_map, h1]; rfl
    · rw [List.getElem?_append_right (by simpa using Nat.le_of_not_lt c), List.getElem?_replicate] at h
      split at h <;> cases h
end Mir

namespace Mir
open PySem L2
section
open PySem.W
variable {K : Frag}
structure ExcC (K : Frag) (D : Addr) : Prop where
  hg : findIn K (.ref D) "__getattribute__" = some (some (.builtin "BaseException.__getattribute__"))
  hg2 : findIn K (.ref D) "__getattr__" = some none
  hb : mroIn K D (.type "BaseException") = some true
  hdct : hasDictIn K D = true
  ha : findIn K (.ref D) "__class__" = some (some (.builtin "object.__class__"))
  hn : specialIn K (.builtin "object.__class__") "__get__" = some (some (.builtin "getset_descriptor.__get__"))
  htk : takesIn K (.builtin "object.__class__") = some true
  hm : mroIn K D (.type "object") = some true
section
variable {prog : Program} {w : World} {A : Around} {E : Value → Shared → Prop} {st : Shared} {x D : Addr}
end
end
structure Left (P : Program) (w : World) (outer : List Env) (H0 : Hp) (s0 : Shared) (C : Addr) (H' : Hp) (e : Addr) (s' : Shared) : Prop where
  ex : ∃ (hr : Heap) (fr : List Addr) (a0 : Value), Un (frs outer) [] H0 H' s0.heap hr ∧ HOk P w H' hr ∧ (∀ b ∈ fr, H' b = none) ∧ (∀ b ∈ frs outer, b ∈ fr) ∧ (∀ b ∈ fr, b ∈ frs outer ∨ s0.heap.get? b = none) ∧
    Heap.FlyingW (PySem.W.hideAll hr fr) outer e (.ref C) a0 s'.heap ∧ hr.UpToSlots s'.heap ∧ (∀ b ∈ fr, ∀ o vs, hr.get? b = some o → o.data ≠ .fields vs)
  os : s'.os = s0.os
  bare : PyProof.Rows.AllBare s'.gens
def CXm (P : Program) (w : World) : CXT := fun outer H s E e s' => ∃ (ea C : Addr) (H' : Hp), e = .ref ea ∧ Left P w outer H s C H' ea s' ∧ E (.ref C) none H'
section
variable {P : Program} {w : World} {K : PySem.W.Frag} {mg : Str → Option Value} {base : Heap} {N : List Str} {qual : Str} {scope : Scope} {f : Addr} {cd : Value} {A : Around} {outer : List Env} {s : Shared} {H : Hp} {E : XK}
abbrev cxM (P : Program) (w : World) (K : PySem.W.Frag) (mg : Str → Option Value) (base : Heap) (N : List Str) (qual : Str) (scope : Scope) (f : Addr) (cd : Value) (A : Around) (outer : List Env) (s : Shared) (H : Hp) (E : XK) : Cx := cxOf (CXm P w) P w K mg base N qual scope f cd A outer s H E
theorem pass_out : Passes (CXm P w) (cxM P w K mg base N qual scope f cd A outer s H E) E := by
  rintro pins σ H1 s1 e s' I ⟨ea, C, H', rfl, ⟨⟨hr, fr, a0, un, hok, hfn, hsub, hnew, hfl, hsl, hnf⟩, hos, hbare⟩, hE⟩
  have J := I.call (h' := hr) (g' := s1.gens) (d' := s1.drawn) (t' := s1.toks) (ch := []) un hok I.bare (fun b z => absurd z (by simp))
  refine PySem.wpAny_leaves_onW I.ok.frames rfl hfl fun h'' x1 x2 => ?_
  refine ⟨ea, C, H', rfl, ⟨⟨hr, fr, a0, J.base, hok, hfn, fun b hb => hsub b ?_, fun b hb => ?_, x1, hsl.trans x2, hnf⟩, hos.trans I.os, hbare⟩, hE⟩
  · show b ∈ frs (PyProof.Rows.envOfC qual scope s.heap.objs.size f cd :: outer)
    unfold frs
    rw [List.filterMap_cons]
    exact List.mem_cons_of_mem _ hb
  · rcases hnew b hb with z | z
    · have z : b ∈ frs (PyProof.Rows.envOfC qual scope s.heap.objs.size f cd :: outer) := z
      unfold frs at z
      rw [List.filterMap_cons] at z
      rcases List.mem_cons.mp z with z | z
      · exact .inr (by rw [z]; exact Heap.get?_none_of_le (Nat.le_refl _))
      · exact .inl z
    · refine .inr ?_
      cases q : s.heap.get? b with
      | none => rfl
      | some o =>
        obtain ⟨o', h'⟩ := I.base.there b o q (fun z => absurd (show b ∈ ([] : List Addr) from z) (by simp))
        rw [z] at h'; cases h'
theorem fn_okX {x : Str} {st : Stmt} {fd : FuncData} {ps : List Str} {k : Nat} {m : Nat} {fb : FS} {cl : Cls} (F : Fun K x qual st f fd) (SC : FnScope N ps (defScope st)) (hm : N.length = m)
    (hb : ∀ (cdv : Value) (A : Around) (outer : List Env) (s : Shared) (H : Hp) (E : XK), Room k (A.deeper (PyProof.Rows.envOfC qual (defScope st) s.heap.objs.size f cdv)) → DSs (cxM P w K mg base N qual (defScope st) f cdv A outer s H E) (xE cl E) (defBody st) fb) :
    FnOk P w K mg base (CXm P w) (k + 1) f fd ps (spF ⟨K, ST.byText w⟩ cl ps.length (mk m fb)) := by
  obtain ⟨oc, od, kV, doc, pm, an, cdv, ct, osl, rfl, lk, hcd⟩ := F.ex
  refine fn_of lk hcd SC (fun vs H Q E h => h.1) fun A outer s H vs Q E hr h => ⟨_, (hb cdv A outer s H E hr).h, ?_⟩
  obtain ⟨hl, ρ, S, ds, r, S', sm, rd, e, p⟩ := h
  subst hm
  unfold mk at e
  refine seqS sm (renv_start rd) e p fun H1 ρ1 c ⟨S1, x1, s1, e1, p1⟩ => ?_
  obtain ⟨o, σ'⟩ := c
  cases o with
  | nx => cases e1; exact fun σV re => p1.here s1 .non .non
  | rt d' => cases e1; exact fun v rv => p1.here s1 v rv
  | bk => cases e1
  | ct => cases e1
end
structure OwnX (K : PySem.W.Frag) (x : Str) (C : Addr) : Prop where
  nm : PySem.W.nsIn K mainGlobals x = some (some (.ref C))
  ex : PySem.W.excIn K C [.type "ValueError", .type "Exception", .type "BaseException", .type "object"] "ValueError.__new__" = true
section
variable {X : Cx} {XE : XEt} {es : List Expr} {e₀ : Expr} {pos np cpos : Pos}
end
end Mir

namespace Mir
open PySem L2
section
variable {P : Program} {w : World} {K : PySem.W.Frag} {mg : Str → Option Value} {base : Heap} {N : List Str} {qual : Str} {scope : Scope} {f : Addr} {cd : Value} {A : Around} {outer : List Env} {s : Shared} {H : Hp} {E : XK}
end
end Mir

namespace Mir
open PySem L2
abbrev hnd (X : Cx) (e : Value) : Cx := { X with A := X.A.mark (some e), calm := false, xe := fun _ _ => False }
section
variable {X : Cx} {pins : List (Addr × Obj)} {σ : St} {H : Hp} {s : Shared}
end
section
variable {P : Program} {w : World} {K : PySem.W.Frag} {mg : Str → Option Value} {base : Heap} {N : List Str} {qual : Str} {scope : Scope} {f : Addr} {cd : Value} {A : Around} {outer : List Env} {s : Shared} {H : Hp} {E : XK} {XE : XEt}
end
end Mir

namespace HT
open PySem PyProof.Rows
section
open PySem.SeqAt
open PySem.AutoSeq1 (wpAny_loadPart')
open PySem.MeetsSeq PySem.MeetsSeq2 PySem.MeetsSeq3
end
section
variable {prog : Program} {w : World} {A : Around} {E : Value → Shared → Prop} {s : Shared}
end
end HT

namespace Mir
open PySem PyProof.Rows
section
variable {prog : Program} {w : World} {A : Around} {E : Value → Shared → Prop} {s : Shared}
end
end Mir

namespace Mir
open PySem L2
section
variable {X : Cx} {XE : XEt} {K : KW} {H : Hp} {pos : Pos}
def rCatR (K : PySem.W.Frag) : R2 := fun x y H Q => ∃ l b xs zs, x = .ref l ∧ y = .ref b ∧ SqL K H l xs ∧ SqL K H b zs ∧ xs.length + zs.length ≤ sizeLine ∧ ∀ p, H p = none → Q (.ref p) (upd H p (.lst (xs ++ zs)))
theorem list_add_any (l b : Addr) (items items2 : Array Value) (n n2 : Nat) (dd dd2 : Option Addr) (sl sl2 : Array (Option Value)) (hz : items.size + items2.size ≤ sizeLine) :
    Meets (Builtin.«list.__add__» ⟨[.ref l, .ref b], []⟩)
      (fun _ R s => s.heap.get? l = some { cls := .type "list", dict := dd, data := .seq items n, slots := sl } ∧ s.heap.get? b = some { cls := .type "list", dict := dd2, data := .seq items2 n2, slots := sl2 } ∧
        R (.ok (.ret (.ref s.heap.objs.size))) { s with heap := s.heap.push { cls := .type "list", data := .seq (items ++ items2) } }) :=
  .of_wp fun prog w A R s h => by
    obtain ⟨hp, g, d, tk, os⟩ := s; obtain ⟨hl, hb, h⟩ := h
    have f2 := AutoSeq1.sub_list_list
    wp_walk using AutoSeq1.wpAny_loadPart' hl, AutoSeq1.wpAny_loadPart' hb
    exact ⟨_, rfl, h⟩
theorem op_catR : OpR X (binaryOp .Add) (rCatR X.K) := by
  intro pins s σ H x y v u Q I rx ry h
  obtain ⟨l, b, xs, zs, rfl, rfl, hH, hB, hz, q⟩ := h
  cases rx
  cases ry
  obtain ⟨its, r, p1, z⟩ := I.list hH
  obtain ⟨its2, r2, p2, z2⟩ := I.list hB
  obtain ⟨⟨c1, d1, dt1, sl1⟩, n1, g1, hc1, _, hd1⟩ := p1
  obtain ⟨⟨c2, d2, dt2, sl2⟩, n2, g2, hc2, _, hd2⟩ := p2
  simp only at hc1 hd1 hc2 hd2
  subst hc1 hd1 hc2 hd2
  refine concat_meets ⟨_, g1, rfl⟩ ⟨_, g2, rfl⟩ noFill_list_add seq_list_add F.slot_list_add F.entry_list_add (F.args_list_add_2 (Value.ref l) (Value.ref b)) (list_add_any l b _ _ _ _ _ _ _ _ (by rw [List.size_toArray, List.size_toArray, ← r.length, ← r2.length]; omega)) ⟨g1, g2, ?_⟩
  show EP X pins σ Q (.ref s.heap.objs.size) _
  have ea : its.toArray ++ its2.toArray = (its ++ its2).toArray := by simp
  rw [ea]
  exact ⟨.ref _, _, I.lnew (t' := s.toks) (r.append r2) (by rw [List.length_append]; omega), rfl, q _ I.fresh⟩
def fCatR : F2 := fun x y S => match x, y with
  | .ref n, .ref m => (lst? S n).bind fun xs => (lst? S m).bind fun ys => if xs.length + ys.length ≤ sizeLine then newL S (xs ++ ys) else none
  | _, _ => none
theorem snd_catR : Snd2 K (rCatR K) fCatR := fun ρ S H x y v u d S' Q s rx ry e k => by
  unfold fCatR at e
  split at e
  · rename_i n m
    cases e1 : lst? S n with
    | none => rw [e1] at e; cases e
    | some xs =>
      cases e2 : lst? S m with
      | none => simp [e1, e2] at e
      | some ys =>
        simp only [e1, e2, Option.bind_some] at e
        split at e
        · rename_i hl
          cases e
          cases rx with | ref rn => cases ry with | ref rm =>
          obtain ⟨vs, h1, h2⟩ := s.list rn e1
          obtain ⟨us, h3, h4⟩ := s.list rm e2
          refine ⟨_, _, vs, us, rfl, rfl, h1, h3, by rw [← h2.len, ← h4.len]; exact hl, fun p n => ?_⟩
          exact k _ _ (ρ ++ [p]) (ext_new n [p]) (s.newL n (h2.append h4)) (rd_new s)
        · cases e
  · cases e
def fAddR : F2 := orF (fI (fun _ _ => true) fun i j => .int (i + j)) fCatR
theorem op_addR : OpR X (binaryOp .Add) (rOr (rI0 fun i j => .int (i + j)) (rCatR X.K)) := OpR.or op_add op_catR
theorem snd_addR : Snd2 K (rOr (rI0 fun i j => .int (i + j)) (rCatR K)) fAddR := Snd2.or (snd_I0 fun i j _ _ _ => .int _) snd_catR
theorem de_cls {c : String} {C : Addr} (hn : PySem.W.nsIn X.K mainGlobals (Str.ofString c) = some (some (.ref C))) (hg : Gl X (Str.ofString c)) (hm : X.mg (Str.ofString c) = some (.ref C)) (hd : ((Str.ofString c) == ("__debug__" : Str)) = false := by decide) :
    DE X XE (.Name (Str.ofString c) pos) (eC (.cls c)) := .mk <| PE.mono (pe_glob (v := .ref C) hg hm rfl hd) fun σV H Q ⟨ρ, S, σ, r, S', sm, re, e, p⟩ => by
  cases e
  exact p.here sm _ (.cls hn)
def isC (c d : String) : Bool := c == d || d == "TileError"
structure XF (K : PySem.W.Frag) (ps : List (String × String)) (vs : List String) : Prop where
  pr : ∀ c d C D, ps.contains (c, d) = true → PySem.W.nsIn K mainGlobals (Str.ofString c) = some (some (.ref C)) → PySem.W.nsIn K mainGlobals (Str.ofString d) = some (some (.ref D)) → ExcC K C ∧ PySem.W.kitOne K (.ref C) (.ref D) = some (isC c d)
  vr : ∀ c C, vs.contains c = true → PySem.W.nsIn K mainGlobals (Str.ofString c) = some (some (.ref C)) → ExcC K C ∧ PySem.W.kitOne K (.ref C) (.type "ValueError") = some true
end
end Mir

namespace Mir
open PySem L2
theorem Room.units65 {k : Nat} {A : Around} (r : Room k A) : A.units + 65 < cLine := by have := r.un; omega
theorem rds_intsOf {K : KW} {ρ : List Addr} {H : Hp} : ∀ (ns : List Int), RDs K ρ H (ns.map D.int) (ns.map V.int)
  | [] => .nil
  | n :: r => .cons (.int n) (rds_intsOf r)
def spOk (K : KW) (n : Nat) (F : FB) : Sp := fun vs H Q E => vs.length = n ∧ ∃ (ρ : List Addr) (S : Store) (ds : List D) (d : D) (S' : Store), Sim K ρ S H ∧ RDs K ρ H ds vs ∧ F ds S = some (.ok d, S') ∧ Pst K (fun _ _ => False) (qE K Q) ρ H (.ok d) S'
theorem spOk_spF {K : KW} {cl : Cls} {n : Nat} {F : FB} : ∀ vs H Q E, spOk K n F vs H Q E → spF K cl n F vs H Q E := fun vs H Q E ⟨h1, ρ, S, ds, d, S', h2, h3, h4, p⟩ =>
  ⟨h1, ρ, S, ds, .ok d, S', h2, h3, h4, fun H' ρ' x s => p H' ρ' x s⟩
theorem law_sp {K : KW} {H : Hp} {a : Addr} {ns : List Int} {F : FB} (hO : Only H) (hS : SqL K H a (ns.map V.int)) (hF : ∃ S', F [.ref 0] [.ro (ns.map D.int)] = some (.ok (.bl true), S')) : spOk K 1 F [.ref a] H (fun v _ => v = .bl true) fun _ _ _ => False := by
  obtain ⟨S', e⟩ := hF
  have hr : RoL K H a (ns.map V.int) := by
    rcases hS with (h | ⟨o, h⟩) | h
    · rcases hO a with z | ⟨o, xs, z⟩ <;> (rw [h] at z; cases z)
    · exact .inl ⟨o, h⟩
    · exact .inr h
  refine ⟨rfl, [a], [.ro (ns.map D.int)], [.ref 0], .bl true, S', ⟨rfl, fun n b o h1 h2 => ?_, ⟨_, [], rfl, fun _ z => nomatch z⟩, fun n m b o o' h1 h2 h3 h4 m1 m2 => ?_⟩, .cons (.ref rfl) .nil, e, fun H' ρ' _ _ v r => by cases r; rfl⟩
  · cases n with
    | zero => cases h1; cases h2; exact ⟨_, hr, rds_intsOf ns⟩
    | succ n => cases h1
  · cases n with
    | zero => cases h3; exact m1.elim
    | succ n => cases h1
theorem law_walk {l : PySem.W.OpenLaw} {k : Nat} {q : Program} {loose : List Str} {XP : (Str → Option Value) → Heap → Prop} {YP : World → Heap → Prop} {d : DefRec} {K : Params → PySem.W.Frag} {x : Str} {F : FB} (hn : l.most = some 63) (hdf : d.params.defaults = []) (hr : Room k callerA)
    (hY : ∀ (w : World) (h : Heap), YP w h → (K w.params).In h)
    (hF : ∀ (w : World) (mg : Str → Option Value) (fa : Addr) (h : Heap), (K w.params).In h → h.Ns mainGlobals mg → mg d.name = some (.ref fa) →
      ∃ fd : FuncData, (∀ (s : Shared) (u : Value), BindsTo s fd ⟨[u], []⟩ [(x, u)]) ∧ ∀ base : Heap, (K w.params).In base → base.Ns mainGlobals mg → FnOk l.prog w (K w.params) mg base (CXm l.prog w) k fa fd [x] (spOk ⟨K w.params, ST.byText w⟩ 1 F))
    (hlaw : ∀ ns : List Int, ns.length ≤ 63 → ∃ S', F [.ref 0] [.ro (ns.map D.int)] = some (.ok (.bl true), S')) :
    PySem.W.WalkO q loose XP YP l.row.toRowW d [] (fun f vs => PySem.call f vs) :=
  L2.walk_of (n := 63) (k := k) (x := x) (CX := fun w => CXm l.prog w) (sp := fun w => spOk ⟨K w.params, ST.byText w⟩ 1 F) hn (by decide) hdf hr hY hF (fun w H a ns hl hO hS => law_sp hO hS (hlaw ns hl)) fun _ _ _ _ _ z => by
    obtain ⟨_, _, _, _, _, z⟩ := z; exact z
section
variable {K : PySem.W.Frag}
structure PairOk (K : PySem.W.Frag) (c d : String) : Prop where
  ex : ∃ C D, PySem.W.nsIn K mainGlobals (Str.ofString c) = some (some (.ref C)) ∧ PySem.W.nsIn K mainGlobals (Str.ofString d) = some (some (.ref D)) ∧ ExcC K C ∧ PySem.W.kitOne K (.ref C) (.ref D) = some (isC c d)
structure ValOk (K : PySem.W.Frag) (c : String) : Prop where
  ex : ∃ C, PySem.W.nsIn K mainGlobals (Str.ofString c) = some (some (.ref C)) ∧ ExcC K C ∧ PySem.W.kitOne K (.ref C) (.type "ValueError") = some true
end
theorem st_get (S l : Store) (k : Nat) : (S ++ l)[S.length + k]? = l[k]? := by
  rw [List.getElem?_append_right (Nat.le_add_right _ _), Nat.add_sub_cancel_left]
theorem st_get0 (S l : Store) : (S ++ l)[S.length]? = l[0]? := st_get S l 0
theorem st_old {S l : Store} {n : Nat} (h : n < S.length) : (S ++ l)[n]? = S[n]? := List.getElem?_append_left h
theorem lst_old {S l : Store} {n : Nat} {xs : List D} (h : lst? S n = some xs) : lst? (S ++ l) n = some xs := by
  have hn : n < S.length := by
    by_cases c : n < S.length
    · exact c
    · unfold lst? at h; rw [List.getElem?_eq_none (Nat.le_of_not_lt c)] at h; cases h
  unfold lst? at h ⊢; rw [st_old hn]; exact h
theorem loop_inv {G : FG} {f : FS} {J : Src} (P : Nat → Ev → Store → Prop) (n : Nat)
    (hs : ∀ i σ S, i < n → P i σ S → ∃ d σ1 σ2 S2 o, J.at S i = some (some d) ∧ G d σ = some σ1 ∧ f σ1 S = some (.ok (o, σ2), S2) ∧ (o = .nx ∨ o = .ct) ∧ P (i + 1) σ2 S2)
    (he : ∀ σ S, P n σ S → J.at S n = some none) : ∀ (k i : Nat) (σ : Ev) (S : Store), P i σ S → i ≤ n → n < i + k → ∃ σ' S', loop G f J k i σ S = some (.ok (.nx, σ'), S') ∧ P n σ' S'
  | 0, i, σ, S, _, h1, h2 => by omega
  | k + 1, i, σ, S, h, h1, h2 => by
    by_cases c : i = n
    · subst c
      refine ⟨σ, S, ?_, h⟩
      unfold loop
      rw [he σ S h]; rfl
    · obtain ⟨d, σ1, σ2, S2, o, e1, e2, e3, ho, hp⟩ := hs i σ S (by omega) h
      obtain ⟨σ', S', q1, q2⟩ := loop_inv P n hs he k (i + 1) σ2 S2 hp (by omega) (by omega)
      refine ⟨σ', S', ?_, q2⟩
      unfold loop
      rw [e1]
      dsimp only
      rw [e2]
      dsimp only
      rw [e3]
      rcases ho with rfl | rfl <;> exact q1
theorem for_lst {fi : FI} {G : FG} {f : FS} {σ : Ev} {S S1 : Store} {n : Nat} {xs : List D} (hi : fi σ S = some (.ok (.lst n), S1)) (hx : lst? S1 n = some xs) (P : Nat → Ev → Store → Prop) (h0 : P 0 σ S1) (hP : ∀ i σ S, P i σ S → lst? S n = some xs)
    (hs : ∀ i σ S d, xs[i]? = some d → P i σ S → ∃ σ1 σ2 S2 o, G d σ = some σ1 ∧ f σ1 S = some (.ok (o, σ2), S2) ∧ (o = .nx ∨ o = .ct) ∧ P (i + 1) σ2 S2) :
    ∃ σ' S', sFor fi G f σ S = some (.ok (.nx, σ'), S') ∧ P xs.length σ' S' := by
  unfold sFor
  rw [hi, bnd_ok]
  refine loop_inv P xs.length (fun i σ S hi h => ?_) (fun σ S h => ?_) _ 0 σ S1 h0 (Nat.zero_le _) (by simp [Src.len, hx])
  · have hd : xs[i]? = some xs[i] := List.getElem?_eq_getElem hi
    obtain ⟨σ1, σ2, S2, o, h1, h2, h3, h4⟩ := hs i σ S _ hd h
    exact ⟨_, σ1, σ2, S2, o, by simp only [Src.at]; rw [hP i σ S h, Option.map_some, hd], h1, h2, h3, h4⟩
  · simp only [Src.at]; rw [hP _ σ S h, Option.map_some, List.getElem?_eq_none (Nat.le_refl _)]
theorem eqv_int (a b : Int) : PyData.eqv (.int a) (.int b) = decide (a = b) := by
  simp only [PyData.eqv]; rfl
theorem fEq_int (a b : Int) (S : Store) : fEq (.int a) (.int b) S = some (.bl (decide (a = b)), S) := by
  show some (D.bl (xor false (PyData.eqv (.int a) (.int b))), S) = _
  rw [eqv_int, Bool.false_xor]
theorem lst_last (S : Store) (xs : List D) : lst? (S ++ [.lst xs]) S.length = some xs := by
  unfold lst?; rw [st_get0]; rfl
theorem lex2 {a b a' b' : Int} : HT.lexLt [a, b] [a', b'] = decide (a < a' ∨ (a = a' ∧ b < b')) := by
  have : HT.lexLt [a, b] [a', b'] = true ↔ (a < a' ∨ (a = a' ∧ b < b')) := by
    simp only [HT.lexLt]
    by_cases c : a = a'
    · by_cases c2 : b = b'
      · simp [c, c2]
      · simp [c, c2]
    · simp [c]
  by_cases c : HT.lexLt [a, b] [a', b'] = true
  · rw [c, decide_eq_true (this.mp c)]
  · rw [Bool.eq_false_iff.mpr c, decide_eq_false (fun z => c (this.mpr z))]
theorem seq_nx {f g : FS} {σ σ1 : Ev} {S S1 : Store} (h : f σ S = some (.ok (.nx, σ1), S1)) : sSeq f g σ S = g σ1 S1 := by
  unfold sSeq; rw [h]; rfl
theorem seq_rt {f g : FS} {σ σ1 : Ev} {S S1 : Store} {d : D} (h : f σ S = some (.ok (.rt d, σ1), S1)) : sSeq f g σ S = some (.ok (.rt d, σ1), S1) := by
  unfold sSeq; rw [h]; rfl
theorem mk_rt {n : Nat} {f : FS} {ds : List D} {S S1 : Store} {σ1 : Ev} {d : D} (h : f (ds.map some ++ List.replicate (n - ds.length) none) S = some (.ok (.rt d, σ1), S1)) : mk n f ds S = some (.ok d, S1) := by
  unfold mk; rw [h]; rfl
end Mir

namespace Mir
open PySem L2
section
variable {X : Cx} {XE : XEt} {e a b o tg : Expr} {es : List Expr} {K : KW} {σV : St} {H : Hp} {Q : VK} {pos apos cpos : Pos} {S S' : Store} {σ : Ev}
def eNeg (f : FE) : FE := fun σ S => bnd (f σ S) fun x S1 => match x with
  | .int i => ret (.int (-i)) S1
  | _ => none
theorem de_neg {f : FE} (h : DE X XE a f) : DE X XE (.UnaryOp .USub a pos) (eNeg f) := .mk <| PE.mono (pe_un un_neg h.h) fun σV H Q ⟨ρ, S, σ, r, S', sm, re, e, p⟩ =>
  seqE sm re e p fun v H1 ρ1 x rx ⟨S1, x1, s1, e1, p1⟩ => by
    dsimp only at e1
    split at e1
    · cases rx; cases e1; exact ⟨_, rfl, p1.here s1 _ (.int _)⟩
    · cases e1
abbrev FO := Ev → Store → R (Option Int)
def tOs (K : KW) (XE : XEt) (f : FO) : TO := fun σV H Q => ∃ (ρ : List Addr) (S : Store) (σ : Ev) (r : Except String (Option Int)) (S' : Store), Sim K ρ S H ∧ REnv K ρ H σ σV ∧ f σ S = some (r, S') ∧ Pst K XE (fun _ H o => Q o H) ρ H r S'
structure DO (X : Cx) (XE : XEt) (e : Option Expr) (f : FO) : Prop where
  h : PO X e (tOs (kw X) XE f)
theorem PO.mono {e : Option Expr} {t t' : TO} (h : PO X e t) (m : ∀ σ H Q, t' σ H Q → t σ H Q) : PO X e t' := fun pins s σ H Q I q => h pins s σ H Q I (m σ H Q q)
theorem seqO {β : Type} {r : Except String β} {QR : List Addr → Hp → β → Prop} {QO : Option Int → Hp → Prop} {f : FO} {g : Option Int → Store → R β} {ρ : List Addr} (s : Sim K ρ S H) (re : REnv K ρ H σ σV) (e : bnd (f σ S) g = some (r, S')) (p : Pst K XE QR ρ H r S') (h : ∀ H1 ρ1 c, Rest K XE QR g r S' ρ H ρ1 H1 c → QO c H1) : tOs K XE f σV H QO := by
  cases e1 : f σ S with
  | none => rw [e1] at e; cases e
  | some z =>
    obtain ⟨q, S1⟩ := z
    rw [e1] at e
    refine ⟨ρ, S, σ, q, S1, s, re, e1, fun H1 ρ1 x1 s1 => ?_⟩
    cases q with
    | error c => cases e; exact p H1 ρ1 x1 s1
    | ok d => exact h H1 ρ1 d ⟨S1, x1, s1, e, p.mono x1⟩
def oNone : FO := fun _ S => ret none S
def oSome (f : FE) : FO := fun σ S => bnd (f σ S) fun x S1 => match x with
  | .int i => ret (some i) S1
  | _ => none
theorem do_none : DO X XE none oNone := .mk <| PO.mono po_none fun σV H Q ⟨ρ, S, σ, r, S', sm, re, e, p⟩ => by
  cases e
  exact p.here sm
theorem do_some {f : FE} (h : DE X XE e f) : DO X XE (some e) (oSome f) := .mk <| PO.mono (po_some h.h) fun σV H Q ⟨ρ, S, σ, r, S', sm, re, e, p⟩ =>
  seqE sm re e p fun v H1 ρ1 x rx ⟨S1, x1, s1, e1, p1⟩ => by
    dsimp only at e1
    split at e1
    · cases rx; cases e1; exact ⟨_, rfl, p1.here s1⟩
    · cases e1
def cutD (xs : List D) (lo hi : Option Int) : List D := (xs.drop (HT.sIx xs.length 0 lo)).take (HT.sIx xs.length xs.length hi - HT.sIx xs.length 0 lo)
def eSl (f : FE) (l h : FO) : FE := fun σ S => bnd (f σ S) fun x S1 => bnd (l σ S1) fun i S2 => bnd (h σ S2) fun j S3 => match x with
  | .ref n => match lst? S3 n with
    | some xs => lft (newL S3 (cutD xs i j))
    | none => none
  | _ => none
theorem RDs.drop {ρ : List Addr} : ∀ {ds : List D} {vs : List V} (n : Nat), RDs K ρ H ds vs → RDs K ρ H (ds.drop n) (vs.drop n)
  | _, _, 0, r => r
  | _, _, _ + 1, .nil => .nil
  | _, _, n + 1, .cons _ t => RDs.drop n t
theorem RDs.take {ρ : List Addr} : ∀ {ds : List D} {vs : List V} (n : Nat), RDs K ρ H ds vs → RDs K ρ H (ds.take n) (vs.take n)
  | _, _, 0, _ => .nil
  | _, _, _ + 1, .nil => .nil
  | _, _, n + 1, .cons h t => .cons h (RDs.take n t)
theorem RDs.cut {ρ : List Addr} {ds : List D} {vs : List V} (r : RDs K ρ H ds vs) (lo hi : Option Int) : RDs K ρ H (cutD ds lo hi) (cutV vs lo hi) := by
  unfold cutD cutV
  rw [r.len]
  exact (r.drop _).take _
theorem de_slice {f : FE} {l h : FO} {lo hi : Option Expr} {p2 : Pos} (he : DE X XE e f) (hl : DO X XE lo l) (hh : DO X XE hi h) : DE X XE (.Subscript e (.Slice lo hi none p2) pos) (eSl f l h) := .mk <| PE.mono (pe_slice sl_list he.h hl.h hh.h) fun σV H Q ⟨ρ, S, σ, r, S', sm, re, e, p⟩ =>
  seqE sm re e p fun v H1 ρ1 x rx ⟨S1, x1, s1, e1, p1⟩ => seqO s1 (re.mono x1) e1 p1 fun H2 ρ2 i ⟨S2, x2, s2, e2, p2⟩ => seqO s2 (re.mono (x1.trans x2).toEx0) e2 p2 fun H3 ρ3 j ⟨S3, x3, s3, e3, p3⟩ => by
    dsimp only at e3
    cases x with
    | ref n =>
      dsimp only at e3
      cases q : lst? S3 n with
      | none => rw [q] at e3; cases e3
      | some xs =>
        rw [q] at e3; cases e3
        cases (rx.mono (x2.trans x3).toEx0) with | ref h1 =>
        obtain ⟨ys, h2, h3⟩ := s3.list h1 q
        exact ⟨_, ys, rfl, h2, fun p n => p3 _ (ρ3 ++ [p]) (ext_new n [p]) (s3.newL n (h3.cut i j)) _ (rd_new s3)⟩
    | _ => cases e3
def keyI : D → Option Key
  | .int i => some (.inl i)
  | .str x => some (.inr x)
  | _ => none
def keys? : List D → Option (List Key)
  | [] => some []
  | d :: r => (keyI d).bind fun k => (keys? r).map (k :: ·)
def key? : D → Option (List Key)
  | .tup ds => keys? ds
  | _ => none
theorem keyI_rd {ρ : List Addr} {d : D} {v : V} {k : Key} (r : RD K ρ H d v) (h : keyI d = some k) : v = kV k := by
  cases r with
  | int i => cases h; rfl
  | str x => cases h; rfl
  | _ => cases h
theorem keys_rd {ρ : List Addr} : ∀ {ds : List D} {vs : List V} {ks : List Key}, RDs K ρ H ds vs → keys? ds = some ks → vs = ks.map kV
  | _, _, _, .nil, h => by cases h; rfl
  | _, _, ks, .cons (d := d) (ds := ds) h t, e => by
    unfold keys? at e
    cases q : keyI d with
    | none => rw [q] at e; cases e
    | some k =>
      cases q2 : keys? ds with
      | none => simp [q, q2] at e
      | some r => simp only [q, q2, Option.bind_some, Option.map_some] at e; cases e; rw [List.map_cons, keyI_rd h q, keys_rd t q2]
theorem key_rd {ρ : List Addr} {d : D} {v : V} {k : List Key} (r : RD K ρ H d v) (h : key? d = some k) : ∃ b, v = .ref b ∧ H b = some (.tup (k.map kV)) := by
  cases r with
  | tup h1 h2 => rw [keys_rd h2 h] at h1; exact ⟨_, rfl, h1⟩
  | _ => cases h
def dget (kvs : List (List Key × D)) (k : List Key) : Option D := (kvs.find? fun kv => decide (kv.1 = k)).map (·.2)
theorem KVs.get {ρ : List Addr} (k : List Key) : ∀ {kvs : List (List Key × D)} {xs : List (List Key × V)}, KVs K ρ H kvs xs → (dget kvs k = none ∧ valV xs k = none) ∨ ∃ d v, dget kvs k = some d ∧ valV xs k = some v ∧ RD K ρ H d v
  | _, _, .nil => .inl ⟨rfl, rfl⟩
  | _, _, .cons (k := k') h t => by
    by_cases c : k' = k
    · exact .inr ⟨_, _, by unfold dget; rw [List.find?_cons_of_pos (by simpa using c)]; rfl, by unfold valV; rw [List.find?_cons_of_pos (by simpa using c)]; rfl, h⟩
    · unfold dget valV
      rw [List.find?_cons_of_neg (by simpa using c), List.find?_cons_of_neg (by simpa using c)]
      exact KVs.get k t
theorem KVs.any {ρ : List Addr} (k : List Key) : ∀ {kvs : List (List Key × D)} {xs : List (List Key × V)}, KVs K ρ H kvs xs → (kvs.any fun kv => decide (kv.1 = k)) = xs.any fun kv => decide (kv.1 = k)
  | _, _, .nil => rfl
  | _, _, .cons h t => by rw [List.any_cons, List.any_cons, KVs.any k t]
def dic? (S : Store) (n : Nat) : Option (List (List Key × D)) := match S[n]? with
  | some (.dic kvs) => some kvs
  | _ => none
theorem dic_some {n : Nat} {kvs : List (List Key × D)} (h : dic? S n = some kvs) : S[n]? = some (.dic kvs) := by
  unfold dic? at h
  split at h
  · rename_i e; cases h; exact e
  · cases h
theorem Sim.dict {ρ : List Addr} {n : Nat} {a : Addr} {kvs : List (List Key × D)} (s : Sim K ρ S H) (r : ρ[n]? = some a) (h : dic? S n = some kvs) : ∃ xs, H a = some (.dT xs) ∧ KVs K ρ H kvs xs := s.ok n a _ r (dic_some h)
def rdic? (S : Store) (n : Nat) : Option (List (List Key × D)) := match S[n]? with
  | some (.dic kvs) => some kvs
  | some (.dfr kvs) => some kvs
  | _ => none
theorem Sim.rdict {ρ : List Addr} {n : Nat} {a : Addr} {kvs : List (List Key × D)} (s : Sim K ρ S H) (r : ρ[n]? = some a) (h : rdic? S n = some kvs) : ∃ xs, Rd H a (.dT xs) ∧ KVs K ρ H kvs xs := by
  unfold rdic? at h
  split at h
  · rename_i e; cases h
    obtain ⟨xs, h1, h2⟩ := s.ok n a _ r e
    exact ⟨xs, .inl h1, h2⟩
  · rename_i e; cases h
    obtain ⟨o, xs, h1, h2⟩ := s.ok n a _ r e
    exact ⟨xs, .inr ⟨o, h1⟩, h2⟩
  · cases h
def dAt (S : Store) (x y : D) : Option (Option D) := match x with
  | .ref n => (rdic? S n).bind fun kvs => (key? y).map fun k => dget kvs k
  | _ => none
theorem dAt_ok {ρ : List Addr} {x y : D} {v u : V} {r : Option D} (s : Sim K ρ S H) (rx : RD K ρ H x v) (ry : RD K ρ H y u) (h : dAt S x y = some r) : ∃ a ov, v = .ref a ∧ DGet H a u ov ∧ ((r = none ∧ ov = none) ∨ ∃ d w, r = some d ∧ ov = some w ∧ RD K ρ H d w) := by
  unfold dAt at h
  cases x with
  | ref n =>
    dsimp only at h
    cases q : rdic? S n with
    | none => rw [q] at h; cases h
    | some kvs =>
      cases q2 : key? y with
      | none => simp [q, q2] at h
      | some k =>
        simp only [q, q2, Option.bind_some, Option.map_some] at h
        cases h
        cases rx with | ref h1 =>
        obtain ⟨xs, h2, h3⟩ := s.rdict h1 q
        obtain ⟨c, rfl, h4⟩ := key_rd ry q2
        exact ⟨_, _, rfl, .inr ⟨xs, _, _, h2, rfl, h4, rfl⟩, h3.get k⟩
  | _ => cases h
def rIxD : R2 := fun x y H Q => ∃ a v, x = .ref a ∧ DGet H a y (some v) ∧ Q v H
theorem ix_dic (hu : X.A.units + 1 < cLine) : IxR X rIxD := by
  intro value slice pins s σ H x y v u Q I rx ry h hp
  obtain ⟨a, w', rfl, g, q⟩ := h
  obtain rfl : v = Value.ref a := rx
  exact PyProof.Rows.tail_any (dict_typeIs I g) PySem.F.slot_dict_getitem.lookup (d_getItem hu I g ry fun w2 s3 I3 rw' => ⟨_, H, I3, rw', q⟩) hp
theorem IxR.or {r q : R2} (h : IxR X r) (h' : IxR X q) : IxR X (rOr r q) := fun value slice pins s σ H x y v u Q I rx ry z hp => by
  rcases z with z | z
  · exact h value slice pins s σ H x y v u Q I rx ry z hp
  · exact h' value slice pins s σ H x y v u Q I rx ry z hp
def fIxD : F2 := fun x y S => match dAt S x y with
  | some (some d) => some (d, S)
  | _ => none
theorem snd_ixD : Snd2 K rIxD fIxD := fun ρ S H x y v u d S' Q s rx ry e k => by
  unfold fIxD at e
  split at e
  · rename_i d' q
    cases e
    obtain ⟨a, ov, rfl, g, h⟩ := dAt_ok s rx ry q
    rcases h with ⟨h, _⟩ | ⟨d2, w, h, rfl, h3⟩
    · cases h
    · cases h
      exact ⟨a, w, rfl, g, k _ _ _ (Ext.refl _ _) s h3⟩
  · cases e
def fIxA : F2 := orF fIx fIxD
theorem de_ixA {f g : FE} (hu : X.A.units + 65 < cLine) (ha : DE X XE a f) (hb : DE X XE b g) (hs : PlainIx b) : DE X XE (.Subscript a b pos) (e2 fIxA f g) := .mk <| PE.mono (pe_ix (IxR.or ix_seq (ix_dic (Nat.lt_of_le_of_lt (Nat.add_le_add_left (by decide) _) hu))) ha.h hb.h hs) fun _ _ _ => tE_2 (Snd2.or snd_ix snd_ixD)
end
end Mir

namespace Mir
open PySem L2
def bno {α β : Type} (x : R α) (k : α → Store → R β) : R β := match x with
  | some (.ok a, S) => k a S
  | _ => none
def GW (g : TG) (vs : List Nat) : Prop := ∀ x σV H QS, g x σV H QS → g x σV H fun σ2 H2 => (σ2.length = σV.length ∧ ∀ i, i ∉ vs → σ2[i]? = σV[i]?) ∧ QS σ2 H2
def GWs (g : TGs) (vs : List Nat) : Prop := ∀ x σV H QS, g x σV H QS → g x σV H fun σ2 H2 => (σ2.length = σV.length ∧ ∀ i, i ∉ vs → σ2[i]? = σV[i]?) ∧ QS σ2 H2
structure GM (g : TG) (vs : List Nat) : Prop where
  w : GW g vs
  m : ∀ x σV H (P P' : St → Hp → Prop), (∀ a b, P a b → P' a b) → g x σV H P → g x σV H P'
structure GMs (g : TGs) (vs : List Nat) : Prop where
  w : GWs g vs
  m : ∀ x σV H (P P' : St → Hp → Prop), (∀ a b, P a b → P' a b) → g x σV H P → g x σV H P'
section
variable {K : KW} {ρ ρ' : List Addr} {S : Store} {H H' : Hp}
end
def cl (G : FG) (c : FT) (f : FE) (J : Src) : Nat → Nat → Ev → List D → Store → R (List D)
  | 0, _, _, _, _ => none
  | k + 1, i, σ, acc, S => match J.at S i with
    | none => none
    | some none => ret acc S
    | some (some d) => match G d σ with
      | none => none
      | some σ1 => bno (c σ1 S) fun b S1 => if b = true then bno (f σ1 S1) fun x S2 => if acc.length < sizeLine then cl G c f J k (i + 1) σ (acc ++ [x]) S2 else none
        else cl G c f J k (i + 1) σ acc S1
end Mir

namespace Mir
open PySem L2
section
variable {X : Cx} {XE : XEt} {e a b o tg : Expr} {es : List Expr} {K : KW} {σV : St} {H : Hp} {Q : VK} {pos apos cpos : Pos} {S S' : Store} {σ : Ev}
theorem PTs.mono {ifs : List Expr} {t t' : TT} (h : PTs X ifs t) (m : ∀ σ H Q, t' σ H Q → t σ H Q) : PTs X ifs t' := fun pins s σ H Q I q => h pins s σ H Q I (m σ H Q q)
structure DTs (X : Cx) (XE : XEt) (ifs : List Expr) (f : FT) : Prop where
  h : PTs X ifs (tTs (kw X) XE f)
section
variable {elt iter iter1 tg1 : Expr} {ifs ifs1 : List Expr} {scope : Scope} {own : List (Str × Nat)} {vs1 : List Nat} {fi fi1 : FI} {g g1 : TG} {G G1 : FG} {c c1 : FT} {f : FE} {i : Nat} {y : Str} {py spos : Pos}
end
end
end Mir

namespace HT
open PySem PyProof.Rows
def lexG {α : Type} [DecidableEq α] (lt : α → α → Bool) : List α → List α → Bool
  | [], [] => false
  | [], _ :: _ => true
  | _ :: _, [] => false
  | x :: xs, y :: ys => if x = y then lexG lt xs ys else lt x y
section
open PySem.SeqAt
open PySem.AutoSeq1 (wpAny_loadPart')
open PySem.MeetsSeq PySem.MeetsSeq2 PySem.MeetsSeq3
variable {α : Type} [DecidableEq α]
inductive Its (P : α → Value → Prop) : List α → List Value → Prop
  | nil : Its P [] []
  | cons {a : α} {v : Value} {as : List α} {vs : List Value} (h : P a v) (t : Its P as vs) : Its P (a :: as) (v :: vs)
theorem Its.len {P : α → Value → Prop} : ∀ {as : List α} {vs : List Value}, Its P as vs → as.length = vs.length
  | _, _, .nil => rfl
  | _, _, .cons _ t => by simp [Its.len t]
def Cmp (lt : α → α → Bool) (P : α → Value → Prop) (A : Around) (s : Shared) : Prop := ∀ a b x y, P a x → P b y → SeqAt.EqAt A s x y (decide (a = b)) ∧ ∀ (prog : Program) (w : World) (E Q : Value → Shared → Prop), Q (.bool (lt a b)) s → wpAny (model prog w) A (richCompare .Lt x y) Q E s
theorem tuple_lt_G (lt : α → α → Bool) (P : α → Value → Prop) (l b : Addr) (items items2 : Array Value) (n n2 : Nat) (dd dd2 : Option Addr) (sl sl2 : Array (Option Value)) (ns ms : List α) (hi : Its P ns items.toList) (hj : Its P ms items2.toList) :
    Meets (Builtin.«tuple.__lt__» ⟨[.ref l, .ref b], []⟩)
      (fun A R s => s.heap.get? l = some { cls := .type "tuple", dict := dd, data := .seq items n, slots := sl } ∧ s.heap.get? b = some { cls := .type "tuple", dict := dd2, data := .seq items2 n2, slots := sl2 } ∧ Cmp lt P A.in1 s ∧
        R (.ok (.ret (.bool (lexG lt ns ms)))) s) :=
  .of_wp fun prog w A R s h => by
    obtain ⟨hp, g, d, tk, os⟩ := s; obtain ⟨hl, hb, hC, h⟩ := h
    have f2 := AutoSeq1.sub_tuple_tuple
    have z1 : items.size = ns.length := by rw [hi.len]; simp
    have z2 : items2.size = ms.length := by rw [hj.len]; simp
    wp_walk using wpAny_loadPart' hl, wpAny_loadPart' hb, wpAny_forIn_list _ (fun rest b s' => b.1 = none ∧ s' = ⟨hp, g, d, tk, os⟩ ∧ ∃ (vs ws : List Value) (ns' ms' : List α), rest = vs.zip ws ∧
      Its P ns' vs ∧ Its P ms' ws ∧ ns'.length + items2.size = ms'.length + items.size ∧ R (.ok (.ret (.bool (lexG lt ns' ms')))) ⟨hp, g, d, tk, os⟩) _
    case turn =>
      rintro ⟨y, x⟩ rest b s' ⟨hb', rfl, vs, ws, ns', ms', hz, hvi, hwi, hlen, hR⟩
      cases hvi with
      | nil => rw [List.zip_nil_left] at hz; cases hz
      | @cons a _ _ _ ha hvi' =>
        cases hwi with
        | nil => rw [List.zip_nil_right] at hz; cases hz
        | @cons c _ _ _ hc hwi' =>
          rw [List.zip_cons_cons] at hz
          injection hz with hyx hrest
          injection hyx with hy hx
          subst hy hx
          unfold lexG at hR
          simp only [List.length_cons] at hlen
          obtain ⟨he, hri⟩ := hC a c _ _ ha hc
          refine wpAny_bind (he prog w _ _ ?_)
          by_cases q : a = c
          · rw [decide_eq_true q]
            rw [if_pos q] at hR
            wp_walk
            exact ⟨rfl, rfl, _, _, _, _, hrest, hvi', hwi', by omega, hR⟩
          · rw [decide_eq_false q]
            rw [if_neg q] at hR
            have hri := hri prog w
            wp_walk using hri
            exact ⟨_, rfl, by simpa using hR⟩
    case fin =>
      rintro ⟨b1, b2⟩ s' ⟨hb', rfl, vs, ws, ns', ms', hz, hvi, hwi, hlen, hR⟩
      simp only at hb'
      subst hb'
      have hv : lexG lt ns' ms' = decide (items.size < items2.size) := by
        cases hvi with
        | nil =>
          cases hwi with
          | nil =>
            simp only [List.length_nil] at hlen
            exact (decide_eq_false (by omega)).symm
          | cons hc hw =>
            simp only [List.length_nil, List.length_cons] at hlen
            exact (decide_eq_true (by omega)).symm
        | cons ha hv =>
          cases hwi with
          | nil =>
            simp only [List.length_nil, List.length_cons] at hlen
            exact (decide_eq_false (by omega)).symm
          | cons hc hw =>
            rw [List.zip_cons_cons] at hz
            cases hz
      rw [hv] at hR
      wp_walk
      exact ⟨_, rfl, by simpa [Builtin.Tuple.tupleCompareSizes] using hR⟩
    case h =>
      exact ⟨rfl, rfl, items.toList, items2.toList, ns, ms, rfl, hi, hj, by omega, h⟩
end
section
variable {prog : Program} {w : World} {A : Around} {E : Value → Shared → Prop} {s : Shared} {α : Type} [DecidableEq α]
theorem lt_tupG {lt : α → α → Bool} {P : α → Value → Prop} {l b : Addr} {items items2 : Array Value} {ns ms : List α} {Q : Value → Shared → Prop} (hl : IsTup s.heap l items) (hb : IsTup s.heap b items2) (hi : Its P ns items.toList) (hj : Its P ms items2.toList)
    (hu : A.units < cLine) (hC : ∀ A' : Around, A'.units ≤ A.units + 1 → Cmp lt P A' s) (h : Q (.bool (lexG lt ns ms)) s) : wpAny (model prog w) A (compareOp .Lt (.ref l) (.ref b)) Q E s := by
  obtain ⟨⟨cls, dd, data, sl⟩, ho, hc, n, hd⟩ := id hl
  obtain ⟨⟨cls2, dd2, data2, sl2⟩, ho2, hc2, n2, hd2⟩ := id hb
  simp only at hc hd hc2 hd2
  subst hc hd hc2 hd2
  exact richCompare_meets_room (op := .Lt) ⟨_, ho, rfl⟩ ⟨_, ho2, rfl⟩ PySem.F.slot_tuple_lt PySem.F.entry_tuple_lt (PySem.F.args_tuple_lt_2 _ _) (tuple_lt_G lt P l b items items2 n n2 dd dd2 sl sl2 ns ms hi hj)
    ⟨ho, ho2, hC _ (Nat.le_refl _), show Value.bool (lexG lt ns ms) ≠ Value.notImplemented ∧ Q (.bool (lexG lt ns ms)) s from ⟨(fun x => nomatch x), h⟩⟩ hu
def IsTI (h : Heap) (ns : List Int) (v : Value) : Prop := ∃ a its, v = .ref a ∧ IsTup h a its ∧ IntsAre its.toList ns
theorem items_of : ∀ {vs : List Value} {ns : List Int}, IntsAre vs ns → ItemsAre (intKind prog w) ns vs
  | _, _, .nil => .nil
  | _, _, .cons n t h => .cons (by simp [intKind, Value.isInt]) (items_of h)
theorem isTI_key {h : Heap} {ns : List Int} {a : Addr} {its : Array Value} (x : IsTup h a its) (i : IntsAre its.toList ns) : IsTupleKey (intKind prog w) h ns a := by
  obtain ⟨o, ho, hc, n, hd⟩ := x
  exact ⟨o, its, n, ho, hc, hd, items_of i⟩
theorem cmp_TI {A' : Around} (hu : A'.units < cLine) : Cmp HT.lexLt (IsTI s.heap) A' s := by
  rintro a b x y ⟨p, its, rfl, h1, h2⟩ ⟨q, its2, rfl, h3, h4⟩
  refine ⟨fun prog w E Q h => wpAny_eqBool_tuple (knd := intKind prog w) hu (isTI_key h1 h2) (isTI_key h3 h4) h, fun prog w E Q h => ?_⟩
  exact (lt_tupInts h1 h3 h2 h4 hu h : wpAny (model prog w) A' (compareOp .Lt (.ref p) (.ref q)) Q E s)
end
end HT
namespace Mir
open PySem L2
section
variable {X : Cx} {XE : XEt} {K : KW} {H : Hp} {S : Store}
def TI (K : PySem.W.Frag) (H : Hp) (nss : List (List Int)) (xs : List V) : Prop := Paired (fun (v : V) (ns : List Int) => ∃ a, v = .ref a ∧ SqT K H a (ns.map V.int)) xs nss
def rLtTT (K : PySem.W.Frag) : R2 := fun x y H Q => ∃ a b xs ys nss mss, x = .ref a ∧ y = .ref b ∧ SqT K H a xs ∧ SqT K H b ys ∧ TI K H nss xs ∧ TI K H mss ys ∧ Q (.bl (HT.lexG HT.lexLt nss mss)) H
theorem its_of {pins : List (Addr × Obj)} {σ : St} {s : Shared} (I : Inv X pins σ H s) : ∀ {nss : List (List Int)} {xs : List V} {us : List Value}, TI X.K H nss xs → Vals xs us → HT.Its (HT.IsTI s.heap) nss us
  | _, _, _, .nil, .nil => .nil
  | _, _, _, .cons ⟨a, e, h⟩ t, .cons r rr => by
    subst e
    cases r
    obtain ⟨its, r1, p1, _⟩ := I.tuple h
    exact .cons ⟨a, its.toArray, rfl, p1, intsAre_of r1⟩ (its_of I t rr)
theorem op_ltTT (hu : X.A.units + 65 < cLine) : OpR X (compareOp .Lt) (rLtTT X.K) := by
  intro pins s σ H x y v u Q I rx ry h
  obtain ⟨a, b, xs, ys, nss, mss, rfl, rfl, ha, hb, t1, t2, q⟩ := h
  cases rx; cases ry
  obtain ⟨its, r1, p1, _⟩ := I.tuple ha
  obtain ⟨its2, r2, p2, _⟩ := I.tuple hb
  exact HT.lt_tupG p1 p2 (its_of I t1 r1) (its_of I t2 r2) (by omega) (fun A' h => HT.cmp_TI (by omega)) ⟨.bl _, H, I, rfl, q⟩
def intss? : List D → Option (List (List Int))
  | [] => some []
  | .tup ds :: r => (ints? ds).bind fun ns => (intss? r).map (ns :: ·)
  | _ => none
theorem intss_ti {ρ : List Addr} : ∀ {ds : List D} {vs : List V} {nss : List (List Int)}, RDs K ρ H ds vs → intss? ds = some nss → TI K H nss vs
  | _, _, _, .nil, h => by cases h; exact .nil
  | _, _, nss, .cons (d := d) (ds := ds) h t, e => by
    cases h with
    | @tup a xs ds' h1 h2 =>
      unfold intss? at e
      cases q : ints? ds' with
      | none => rw [q] at e; cases e
      | some ns =>
        cases q2 : intss? ds with
        | none => simp [q, q2] at e
        | some r =>
          simp only [q, q2, Option.bind_some, Option.map_some] at e
          cases e
          have := ints_some q; subst this
          have := rds_ints h2; subst this
          exact .cons ⟨a, rfl, SqT.of h1⟩ (intss_ti t q2)
    | _ => simp [intss?] at e
def fLtTT : F2 := fun x y S => match x, y with
  | .tup xs, .tup ys => (intss? xs).bind fun ns => (intss? ys).bind fun ms => some (.bl (HT.lexG HT.lexLt ns ms), S)
  | _, _ => none
theorem snd_ltTT : Snd2 K (rLtTT K) fLtTT := fun ρ S H x y v u d S' Q s rx ry e k => by
  unfold fLtTT at e
  split at e
  · rename_i xs ys
    cases e1 : intss? xs with
    | none => rw [e1] at e; cases e
    | some ns =>
      cases e2 : intss? ys with
      | none => simp [e1, e2] at e
      | some ms =>
        simp only [e1, e2, Option.bind_some] at e
        cases e
        cases rx with | tup a1 b1 => cases ry with | tup a2 b2 =>
        exact ⟨_, _, _, _, ns, ms, rfl, rfl, SqT.of a1, SqT.of a2, intss_ti b1 e1, intss_ti b2 e2, k _ _ _ (Ext.refl _ _) s (.bl _)⟩
  · cases e
def fLtA : F2 := orF fLt fLtTT
theorem op_ltA (hu : X.A.units + 65 < cLine) : OpR X (compareOp .Lt) (rOr (rOr (rI0 fun i j => .bl (decide (i < j))) (rLtT X.K)) (rLtTT X.K)) := OpR.or (op_ltU (by omega)) (op_ltTT hu)
theorem snd_ltA : Snd2 K (rOr (rOr (rI0 fun i j => .bl (decide (i < j))) (rLtT K)) (rLtTT K)) fLtA := Snd2.or snd_lt snd_ltTT
end
end Mir

namespace Mir
open PySem L2
theorem at_rng {S : Store} (lo : Int) (n : Nat) : ∀ l i, (Src.rng lo n).at (S ++ l) i = some (((List.range n).map fun k => D.int (lo + (k : Nat)))[i]?) := fun l i => by
  simp only [Src.at, List.getElem?_map]
  by_cases h : i < n
  · rw [if_pos h, List.getElem?_range h]; rfl
  · rw [if_neg h, List.getElem?_eq_none (by simpa using h)]; rfl
theorem len_rng {S : Store} (lo : Int) (n : Nat) : (Src.rng lo n).len S = ((List.range n).map fun k => D.int (lo + (k : Nat))).length := by simp [Src.len]
theorem for_src {fi : FI} {G : FG} {f : FS} {σ : Ev} {S S1 : Store} {J : Src} (xs : List D) (hi : fi σ S = some (.ok J, S1)) (hn : J.len S1 = xs.length) (P : Nat → Ev → Store → Prop) (h0 : P 0 σ S1) (hJ : ∀ i σ S, P i σ S → J.at S i = some xs[i]?)
    (hs : ∀ i σ S d, xs[i]? = some d → P i σ S → ∃ σ1 σ2 S2 o, G d σ = some σ1 ∧ f σ1 S = some (.ok (o, σ2), S2) ∧ (o = .nx ∨ o = .ct) ∧ P (i + 1) σ2 S2) :
    ∃ σ' S', sFor fi G f σ S = some (.ok (.nx, σ'), S') ∧ P xs.length σ' S' := by
  unfold sFor
  rw [hi, bnd_ok]
  refine loop_inv P xs.length (fun i σ S hi h => ?_) (fun σ S h => ?_) _ 0 σ S1 h0 (Nat.zero_le _) (by omega)
  · have hd : xs[i]? = some xs[i] := List.getElem?_eq_getElem hi
    obtain ⟨σ1, σ2, S2, o, h1, h2, h3, h4⟩ := hs i σ S _ hd h
    exact ⟨_, σ1, σ2, S2, o, by rw [hJ i σ S h, hd], h1, h2, h3, h4⟩
  · rw [hJ _ σ S h, List.getElem?_eq_none (Nat.le_refl _)]
abbrev Cell := Int × Int
def cD (p : Cell) : D := .tup [.int p.1, .int p.2]
def tD (t : Cell × Cell) : D := .tup [cD t.1, cD t.2]
def cLt (p q : Cell) : Prop := p.1 < q.1 ∨ (p.1 = q.1 ∧ p.2 < q.2)
instance (p q : Cell) : Decidable (cLt p q) := by unfold cLt; infer_instance
def tiLt (s t : Cell × Cell) : Prop := cLt s.1 t.1 ∨ (s.1 = t.1 ∧ cLt s.2 t.2)
instance (s t : Cell × Cell) : Decidable (tiLt s t) := by unfold tiLt; infer_instance
theorem fLtA_tile (s t : Cell × Cell) (S : Store) : fLtA (tD s) (tD t) S = some (.bl (decide (tiLt s t)), S) := by
  show some (D.bl (HT.lexG HT.lexLt [[s.1.1, s.1.2], [s.2.1, s.2.2]] [[t.1.1, t.1.2], [t.2.1, t.2.2]]), S) = _
  have e1 : ([s.1.1, s.1.2] = [t.1.1, t.1.2]) ↔ s.1 = t.1 := by
    rw [Prod.ext_iff]; simp
  have e2 : ([s.2.1, s.2.2] = [t.2.1, t.2.2]) ↔ s.2 = t.2 := by
    rw [Prod.ext_iff]; simp
  have : HT.lexG HT.lexLt [[s.1.1, s.1.2], [s.2.1, s.2.2]] [[t.1.1, t.1.2], [t.2.1, t.2.2]] = decide (tiLt s t) := by
    simp only [HT.lexG]
    by_cases c : s.1 = t.1
    · rw [if_pos (e1.mpr c)]
      have hz : ¬ cLt s.1 t.1 := by rw [c]; unfold cLt; omega
      by_cases c2 : s.2 = t.2
      · rw [if_pos (e2.mpr c2)]
        exact (decide_eq_false (fun z => by
          rcases z with z | ⟨_, z⟩
          · exact hz z
          · rw [c2] at z; unfold cLt at z; omega)).symm
      · rw [if_neg (fun z => c2 (e2.mp z)), lex2]
        refine decide_eq_decide.mpr ⟨fun z => .inr ⟨c, z⟩, fun z => ?_⟩
        rcases z with z | ⟨_, z⟩
        · exact absurd z hz
        · exact z
    · rw [if_neg (fun z => c (e1.mp z)), lex2]
      refine decide_eq_decide.mpr ⟨fun z => .inl z, fun z => ?_⟩
      rcases z with z | ⟨z, _⟩
      · exact z
      · exact absurd z c
  rw [this]
theorem eqv_cell (p q : Cell) : PyData.eqv (.tuple [.int p.1, .int p.2]) (.tuple [.int q.1, .int q.2]) = decide (p = q) := by
  rw [show PyData.eqv (.tuple [.int p.1, .int p.2]) (.tuple [.int q.1, .int q.2]) = PyData.eqvAll [.int p.1, .int p.2] [.int q.1, .int q.2] by simp only [PyData.eqv]]
  simp only [PyData.eqvAll, eqv_int]
  have : (p = q) ↔ (p.1 = q.1 ∧ p.2 = q.2) := Prod.ext_iff
  rw [Bool.and_true, ← Bool.decide_and]
  exact decide_eq_decide.mpr this.symm
def cP (p : Cell) : PyData := .tuple [.int p.1, .int p.2]
theorem shaped_cell (p : Cell) : SeqAt.shaped (cP p) = true := by simp [SeqAt.shaped, cP, PyData.canLay0, PyData.canLayAll0, PyData.depth, PyData.depthAll]
theorem e2_ok {F : F2} {f g : FE} {σ : Ev} {S S1 S2 S3 : Store} {x y d : D} (h1 : f σ S = some (.ok x, S1)) (h2 : g σ S1 = some (.ok y, S2)) (h3 : F x y S2 = some (d, S3)) : e2 F f g σ S = some (.ok d, S3) := by
  unfold e2; rw [h1, bnd_ok, h2, bnd_ok, h3]; rfl
theorem asg_ok {f : FE} {G : FG} {σ σ' : Ev} {S S1 : Store} {d : D} (h1 : f σ S = some (.ok d, S1)) (h2 : G d σ = some σ') : sAsg f G σ S = some (.ok (.nx, σ'), S1) := by
  unfold sAsg; rw [h1, bnd_ok, h2]; rfl
theorem tbl_ok {f : FE} {σ : Ev} {S S1 : Store} {b : Bool} (h1 : f σ S = some (.ok (.bl b), S1)) : tBl f σ S = some (.ok b, S1) := by
  unfold tBl; rw [h1, bnd_ok]; rfl
theorem if_t {c : FT} {f g : FS} {σ : Ev} {S S1 : Store} (h : c σ S = some (.ok true, S1)) : sIf c f g σ S = f σ S1 := by
  unfold sIf; rw [h, bnd_ok]; rfl
theorem if_f {c : FT} {f g : FS} {σ : Ev} {S S1 : Store} (h : c σ S = some (.ok false, S1)) : sIf c f g σ S = g σ S1 := by
  unfold sIf; rw [h, bnd_ok]; rfl
theorem no_ok {c : FT} {σ : Ev} {S S1 : Store} {b : Bool} (h : c σ S = some (.ok b, S1)) : tNo c σ S = some (.ok (!b), S1) := by
  unfold tNo; rw [h, bnd_ok]; rfl
theorem or_f {c d : FT} {σ : Ev} {S S1 : Store} (h : c σ S = some (.ok false, S1)) : tOrr c d σ S = d σ S1 := by
  unfold tOrr; rw [h, bnd_ok]; rfl
theorem ret_ok {f : FE} {σ : Ev} {S S1 : Store} {d : D} (h : f σ S = some (.ok d, S1)) : sRet f σ S = some (.ok (.rt d, σ), S1) := by
  unfold sRet; rw [h, bnd_ok]; rfl
theorem a0_ok {σ : Ev} {S : Store} : aNil σ S = some (.ok [], S) := rfl
theorem ac_ok {f : FE} {g : FA} {σ : Ev} {S S1 S2 : Store} {d : D} {ds : List D} (h1 : f σ S = some (.ok d, S1)) (h2 : g σ S1 = some (.ok ds, S2)) : aCons f g σ S = some (.ok (d :: ds), S2) := by
  unfold aCons; rw [h1, bnd_ok, h2, bnd_ok]; rfl
theorem a1_ok {f : FE} {σ : Ev} {S S1 : Store} {d : D} (h1 : f σ S = some (.ok d, S1)) : aCons f aNil σ S = some (.ok [d], S1) := ac_ok h1 a0_ok
theorem a2_ok {f g : FE} {σ : Ev} {S S1 S2 : Store} {d e : D} (h1 : f σ S = some (.ok d, S1)) (h2 : g σ S1 = some (.ok e, S2)) : aCons f (aCons g aNil) σ S = some (.ok [d, e], S2) := ac_ok h1 (a1_ok h2)
theorem call_ok {F : FB} {n : Nat} {f : FA} {σ : Ev} {S S1 S2 : Store} {ds : List D} {d : D} (h1 : f σ S = some (.ok ds, S1)) (hn : ds.length = n) (h2 : F ds S1 = some (.ok d, S2)) : eF (arity n F) f σ S = some (.ok d, S2) := by
  unfold eF arity; rw [h1, bnd_ok, if_pos hn, h2]
theorem b_ok {F : FB0} {f : FA} {σ : Ev} {S S1 S2 : Store} {ds : List D} {d : D} (h1 : f σ S = some (.ok ds, S1)) (h2 : F ds S1 = some (d, S2)) : eB F f σ S = some (.ok d, S2) := by
  unfold eB; rw [h1, bnd_ok, h2]; rfl
theorem len_list {S : Store} {n : Nat} {xs : List D} (h : lst? S n = some xs) : bLen [.ref n] S = some (.int xs.length, S) := by
  show (lst? S n).map (fun xs => (D.int xs.length, S)) = _
  rw [h]; rfl
theorem ix_list' {S : Store} {n : Nat} {xs : List D} {i : Nat} {d : D} (h : lst? S n = some xs) (hd : xs[i]? = some d) : fIxA (.ref n) (.int (i : Nat)) S = some (d, S) := by
  have : fIx (.ref n) (.int (i : Nat)) S = some (d, S) := by
    show (lst? S n).bind (fun xs => (atI xs (i : Nat)).map fun d => (d, S)) = _
    rw [h, Option.bind_some, L2.atI_nat hd]; rfl
  unfold fIxA orF; rw [this]
end Mir

namespace Mir
open PySem L2 ST
section
variable {X : Cx} {XE : XEt} {K : KW} {H : Hp} {S : Store} {pos : Pos}
def TIs (H : Hp) (ks : List (List Int)) (xs : List V) : Prop := Paired (fun (v : V) (k : List Int) => ∃ a, v = .ref a ∧ H a = some (.tup (k.map V.int))) xs ks
theorem TIs.len : ∀ {ks : List (List Int)} {xs : List V}, TIs H ks xs → ks.length = xs.length
  | _, _, .nil => rfl
  | _, _, .cons _ t => by simp [TIs.len t]
theorem TIs.get : ∀ {ks : List (List Int)} {xs : List V} {i : Nat} {v : V}, TIs H ks xs → xs[i]? = some v → ∃ a k, v = .ref a ∧ ks[i]? = some k ∧ H a = some (.tup (k.map V.int))
  | _, _, _, _, .nil, e => by simp at e
  | _, _, 0, _, .cons (b := k) ⟨a, h1, h2⟩ _, e => by simp at e; exact ⟨a, k, e ▸ h1, rfl, h2⟩
  | _, _, i + 1, v, .cons _ t, e => by
    obtain ⟨a, k, h1, h2, h3⟩ := TIs.get (i := i) (v := v) t (by simpa using e)
    exact ⟨a, k, h1, by simpa using h2, h3⟩
def set? (S : Store) (n : Nat) : Option (List (List Int)) := match S[n]? with
  | some (.set ks) => some ks
  | _ => none
theorem set_some {n : Nat} {ks : List (List Int)} (h : set? S n = some ks) : S[n]? = some (.set ks) := by
  unfold set? at h
  split at h
  · rename_i e; cases h; exact e
  · cases h
end
end Mir

namespace Mir
open PySem L2 ST
def ins (k : List Int) : List (List Int) → List (List Int)
  | [] => [k]
  | x :: r => if HT.lexLt x k = true then x :: ins k r else k :: x :: r
theorem sorted_one {α : Type} {le : α → α → Prop} (anti : ∀ a b, le a b → le b a → a = b) : ∀ {xs ys : List α}, xs.Perm ys → xs.Pairwise le → ys.Pairwise le → xs = ys
  | [], ys, h, _, _ => by rw [List.nil_perm.mp h]
  | x :: xs, [], h, _, _ => by cases h.length_eq
  | x :: xs, y :: ys, h, h1, h2 => by
    cases h1 with | cons a1 a2 => cases h2 with | cons b1 b2 =>
    have e : x = y := by
      rcases List.mem_cons.mp (h.mem_iff.mp List.mem_cons_self) with z | z
      · exact z
      · rcases List.mem_cons.mp (h.mem_iff.mpr (List.mem_cons_self (a := y) (l := ys))) with q | q
        · exact q.symm
        · exact anti _ _ (a1 y q) (b1 x z)
    subst e
    rw [sorted_one anti (List.perm_cons x |>.mp h) a2 b2]
section
variable {X : Cx} {XE : XEt} {K : KW} {H : Hp} {S : Store} {pos : Pos}
def tI (k : List Int) : D := .tup (k.map D.int)
theorem rds_tI {ρ : List Addr} : ∀ {ks : List (List Int)} {us : List V}, TIs H ks us → RDs K ρ H (ks.map tI) us
  | _, _, .nil => .nil
  | _, _, .cons (b := k) ⟨a, e, h⟩ t => by
    subst e
    exact .cons (.tup h (rds_intsOf k)) (rds_tI t)
end
end Mir

namespace Mir
open PySem L2 ST
section
variable {prog : Program} {w : World} {A : Around} {E : Value → Shared → Prop} {s : Shared}
theorem call_len_dictE {d : Addr} {o : Obj} {es : Array DictEntry} {ep : Nat} {Q : Value → Shared → Prop} (hd : (d == sysModules) = false) (ho : s.heap.get? d = some o) (hx : o.ExactDict) (hdat : o.data = .dict es ep) (hfit : (es.size : Int) < 2 ^ 63)
    (h : Q (.int es.size (s.toks + 1)) { s with toks := s.toks + 1 + 1 }) : wpAny (model prog w) A (call (.builtin "len") [.ref d]) Q E s := by
  have hT : s.TypeIs (.ref d) "dict" := ⟨o, ho, hx.1⟩
  refine Calls.call_function_entry kind_len plain_len entry_len (args_len1 _) ?_
  unfold Builtin.«len»
  refine wpAny_bind (m := oneArg "len" _) (wpAny_pure ?_)
  refine wpAny_bind (m := callSpecial? (.ref d) (Str.ofString "__len__")) (wpAny_callSpecial?_slot (name := Str.ofString "__len__") hT F.slot_dict_len
    (wpAny_call_entry F.slot_dict_len hT F.entry_dict_len ?_ (F.args_dict_len_1 _)))
  show wpAny _ _ (dictSize d >>= _) _ _ s
  unfold dictSize
  refine wpAny_bind (wpAny_bind (wpAny_dictEntries ho hdat (wpAny_pure ?_)))
  show wpAny _ _ (Builtin.Dict.pendingCount d >>= _) _ _ s
  refine wpAny_bind (wpAny_pendingCount_other hd ?_)
  unfold retInt
  refine wpAny_bind (wpAny_mkInt (wpAny_pure ⟨_, rfl, ?_⟩))
  refine wpAny_bind (wpAny_holding (wpAny_pure ?_))
  refine wpAny_bind (wpAny_letGo ?_)
  have e0 : ((es.size : Nat) : Int) + ((0 : Nat) : Int) = (es.size : Nat) := by omega
  show wpAny _ _ (if ((es.size : Nat) + 0 : Nat) < (0 : Int) then _ else _) _ _ _
  rw [if_neg (by omega)]
  show wpAny _ _ (if (((es.size : Nat) + 0 : Nat) : Int) ≥ 2 ^ 63 then _ else _) _ _ _
  rw [if_neg (by omega)]
  exact wpAny_bind (wpAny_mkInt (wpAny_pure ⟨_, rfl, h⟩))
end
section
variable {X : Cx} {XE : XEt} {K : KW} {H : Hp} {S : Store} {pos : Pos}
theorem call_lenT : CallR X (.builtin "len") (fun xs H Q => ∃ a kvs, xs = [V.ref a] ∧ H a = some (.dT kvs) ∧ Q (.int kvs.length) H) := by
  intro pins s σ H xs us Q I r h
  obtain ⟨a, kvs, rfl, ha, q⟩ := h
  obtain ⟨u, rfl, ru⟩ := vals1 r
  cases ru
  obtain ⟨z, hd, xs, rel, o, es, ep, ho, hx, hdat, hes, hnd⟩ := dt_of I.hok ha
  have hl : es.size = kvs.length := by
    rw [size_of_entries hes]
    exact (Paired.length rel).symm
  refine call_len_dictE hd ho hx hdat (by rw [hl]; rw [sizeLine_eq] at z; omega) ⟨.int kvs.length, H, I.tok _, ⟨s.toks + 1, by rw [hl]⟩, q⟩
theorem call_lenS : CallR X (.builtin "len") (fun xs H Q => ∃ a ks, xs = [V.ref a] ∧ SOK (byText X.w) H a ks ∧ ks.length < 1000000 ∧ Q (.int ks.length) H) := by
  intro pins s σ H xs us Q I r h
  obtain ⟨a, ks, rfl, ha, hz, q⟩ := h
  obtain ⟨u, rfl, ru⟩ := vals1 r
  cases ru
  obtain ⟨ks', hp, hS⟩ := SOK.setT I ha
  obtain ⟨es, ep, t, ⟨⟨o, ho, hx, hd⟩, tab, els⟩, _⟩ := hS.ex
  have hl : es.size = ks.length := by rw [← els.len, hp.length_eq]
  refine call_len_set ho hx hd tab.fits (by rw [hl]; omega) ⟨.int ks.length, H, I.tok _, ⟨s.toks + 1, by rw [hl]⟩, q⟩
theorem SndB.or {r q : List V → Hp → VK → Prop} {F G : FB0} (h : SndB K r F) (h' : SndB K q G) : SndB K (fun xs H Q => r xs H Q ∨ q xs H Q) (fun ds S => match F ds S with | some x => some x | none => G ds S) := fun ρ S H ds vs d S' Q s rs e k => by
  dsimp only at e
  cases z : F ds S with
  | some p => rw [z] at e; cases e; exact .inl (h ρ S H ds vs d S' Q s rs z k)
  | none => rw [z] at e; exact .inr (h' ρ S H ds vs d S' Q s rs e k)
def bLenT : FB0 := fun ds S => match ds with
  | [.ref n] => (dic? S n).map fun kvs => (.int kvs.length, S)
  | _ => none
def bLenS : FB0 := fun ds S => match ds with
  | [.ref n] => (set? S n).bind fun ks => if ks.length < 1000000 then some (.int ks.length, S) else none
  | _ => none
theorem snd_lenT : SndB K (fun xs H Q => ∃ a kvs, xs = [V.ref a] ∧ H a = some (.dT kvs) ∧ Q (.int kvs.length) H) bLenT := fun ρ S H ds vs d S' Q s rs e k => by
  unfold bLenT at e
  split at e
  · rename_i n
    cases e1 : dic? S n with
    | none => rw [e1] at e; cases e
    | some kvs =>
      rw [e1] at e; cases e
      cases rs with | cons h t => cases t; cases h with | ref h =>
      obtain ⟨xs, h1, h2⟩ := s.dict h e1
      exact ⟨_, xs, rfl, h1, by rw [← h2.len]; exact k _ _ _ (Ext.refl _ _) s (.int _)⟩
  · cases e
theorem snd_lenS : SndB (kw X) (fun xs H Q => ∃ a ks, xs = [V.ref a] ∧ SOK (byText X.w) H a ks ∧ ks.length < 1000000 ∧ Q (.int ks.length) H) bLenS := fun ρ S H ds vs d S' Q s rs e k => by
  unfold bLenS at e
  split at e
  · rename_i n
    cases e1 : set? S n with
    | none => rw [e1] at e; cases e
    | some ks =>
      simp only [e1, Option.bind_some] at e
      split at e
      · rename_i hz
        cases e
        cases rs with | cons h t => cases t; cases h with | ref h =>
        have hk : SOK (byText X.w) H _ ks := s.ok n _ _ h (set_some e1)
        exact ⟨_, ks, rfl, hk, hz, k _ _ _ (Ext.refl _ _) s (.int _)⟩
      · cases e
  · cases e
def bLenA : FB0 := fun ds S => match bLen ds S with
  | some x => some x
  | none => (match bLenT ds S with | some x => some x | none => bLenS ds S)
theorem call_lenA : CallR X (.builtin "len") (fun xs H Q => (∃ p ys, xs = [.ref p] ∧ (SqL X.K H p ys ∨ SqT X.K H p ys) ∧ Q (.int ys.length) H) ∨ (∃ a kvs, xs = [V.ref a] ∧ H a = some (.dT kvs) ∧ Q (.int kvs.length) H) ∨ (∃ a ks, xs = [V.ref a] ∧ SOK (byText X.w) H a ks ∧ ks.length < 1000000 ∧ Q (.int ks.length) H)) :=
  call_len_seq.or (call_lenT.or call_lenS)
theorem snd_lenA : SndB (kw X) (fun xs H Q => (∃ p ys, xs = [.ref p] ∧ (SqL X.K H p ys ∨ SqT X.K H p ys) ∧ Q (.int ys.length) H) ∨ (∃ a kvs, xs = [V.ref a] ∧ H a = some (.dT kvs) ∧ Q (.int kvs.length) H) ∨ (∃ a ks, xs = [V.ref a] ∧ SOK (byText X.w) H a ks ∧ ks.length < 1000000 ∧ Q (.int ks.length) H)) bLenA :=
  SndB.or snd_len (SndB.or snd_lenT snd_lenS)
def PJ (X : Cx) (es : List Expr) (t : Str → St → Hp → VK → Prop) : Prop := ∀ (out : Str) (pins : List (Addr × Obj)) (s : Shared) (σ : St) (H : Hp) (Q : VK), Inv X pins σ H s → t out σ H Q → wpAny (model X.prog X.w) X.A (joinParts out (evalEach es X.env)) (EP X pins σ Q) X.xe s
abbrev FJ := Str → Ev → Store → R D
def tJ (K : KW) (XE : XEt) (f : FJ) : Str → St → Hp → VK → Prop := fun out => tE K XE (f out)
structure DJ (X : Cx) (XE : XEt) (es : List Expr) (f : FJ) : Prop where
  h : PJ X es (tJ (kw X) XE f)
end
end Mir

namespace L2
open PySem PySem.Spec PyProof.Rows ST
section
variable {prog : Program} {w : World} {A : Around} {R : Result → Shared → Prop} {s : Shared} {elt t0 i0 t1 i1 : Expr} {ifs0 ifs1 : List Expr} {scope : Scope} {pos : Pos} {it acc : Value} {env : Env}
end
section
variable {X : Cx} {pins : List (Addr × Obj)} {σ : St} {H : Hp} {s : Shared}
end
section
variable {X : Cx}
end
end L2

namespace Mir
open PySem L2 ST
section
variable {tx : Bool} {H H' : Hp} {a : Addr} {ks ks' : List (List Int)}
end
section
variable {K : KW} {ρ ρ' : List Addr} {S : Store} {H H' : Hp}
end
section
variable {X : Cx} {XE : XEt} {tg : Expr} {σV : St} {H : Hp} {Q : VK} {pos : Pos}
variable {elt iter iter1 tg1 : Expr} {ifs ifs1 : List Expr} {scope : Scope} {own : List (Str × Nat)} {vs1 : List Nat} {fi fi1 : FI} {g g1 : TG} {G G1 : FG} {c c1 : FT} {f : FE}
end
end Mir

namespace Mir
open PySem L2 ST
section
variable {X : Cx} {XE : XEt} {a b : Expr} {pos : Pos}
variable {o e : Expr} {es : List Expr} {to : TE} {t : TA} {name : Str} {apos cpos : Pos} {id : String} {r : V → List V → Hp → VK → Prop}
end
end Mir

namespace Mir
open PySem L2 ST
section
variable {X : Cx} {XE : XEt} {pos : Pos} {K : KW}
end
end Mir

namespace Mir
open PySem L2 ST
section
variable {X : Cx} {XE : XEt} {pos : Pos} {K : KW} {o e : Expr} {es : List Expr} {apos cpos : Pos}
theorem vals2 {x y : V} {us : List Value} (h : Vals [x, y] us) : ∃ u v, us = [u, v] ∧ RelV x u ∧ RelV y v := by
  cases h with | cons h t => cases t with | cons h2 t2 => cases t2; exact ⟨_, _, rfl, h, h2⟩
end
end Mir

namespace ST
open PySem PySem.SetTable PyProof.Rows
section
variable {prog : Program} {w : World} {A : Around} {E : Value → Shared → Prop} {s : Shared}
end
end ST
namespace Mir
open PySem L2 ST
section
variable {X : Cx} {XE : XEt} {pos p : Pos} {K : KW}
end
end Mir

namespace L2
open PySem PySem.Spec PyProof.Rows ST
section
variable {X : Cx} {pins : List (Addr × Obj)} {σ : St} {H : Hp} {s : Shared}
end
section
variable {X : Cx} {e : Expr} {pos : Pos} {te : TE}
end
end L2
namespace Mir
open PySem L2 ST
section
variable {X : Cx} {XE : XEt} {e : Expr} {pos : Pos}
end
section
variable {P : Program} {w : World} {K : PySem.W.Frag} {mg : Str → Option Value} {base : Heap} {N : List Str} {qual : Str} {f : Addr}
end
end Mir

namespace L2
open PySem PySem.Spec PyProof.Rows ST
section
variable {X : Cx} {pins : List (Addr × Obj)} {σ : St} {H : Hp} {s : Shared} {a : Addr} {y v : V} {u r : Value} {A : Around} {E : Value → Shared → Prop}
end
section
variable {X : Cx} {k v : Expr} {pos : Pos} {tk tv : TE}
end
end L2
namespace Mir
open PySem L2 ST
section
variable {X : Cx} {XE : XEt} {K : KW} {k v : Expr} {pos : Pos} {ρ : List Addr} {S : Store} {H : Hp}
end
end Mir

namespace ST
open PySem PySem.SetTable PyProof.Rows
section
variable {prog : Program} {w : World} {A : Around} {E : Value → Shared → Prop} {s : Shared}
end
end ST
namespace Mir
open PySem L2 ST
section
variable {X : Cx} {XE : XEt} {K : KW} {H : Hp} {S : Store}
end
end Mir

namespace ST
open PySem PySem.SetTable PyProof.Rows
section
variable {prog : Program} {w : World} {A : Around} {E : Value → Shared → Prop} {s : Shared} {d : Addr} {o : Obj} {es : Array DictEntry} {ep : Nat}
end
end ST
namespace Mir
open PySem L2 ST
section
variable {X : Cx} {XE : XEt} {K : KW} {S : Store}
end
end Mir

namespace Mir
open PySem L2
section
variable {X : Cx} {XE : XEt} {e a b o tg c : Expr} {es : List Expr} {K : KW} {σV : St} {H : Hp} {Q : VK} {pos apos cpos : Pos} {S S' : Store} {σ : Ev}
end
end Mir

namespace Mir
open PySem L2
theorem lenA_list {S : Store} {n : Nat} {xs : List D} (h : lst? S n = some xs) : bLenA [.ref n] S = some (.int xs.length, S) := by
  unfold bLenA; rw [len_list h]
end Mir

namespace TS
open PySem PyProof.Rows
set_option autoImplicit false
abbrev LG := HT.lexG HT.lexLt
theorem lg_cons (x y : List Int) (xs ys : List (List Int)) : LG (x :: xs) (y :: ys) = if x = y then LG xs ys else HT.lexLt x y := rfl
theorem lg_irr : ∀ a, LG a a = false
  | [] => rfl
  | x :: xs => by rw [lg_cons, if_pos rfl]; exact lg_irr xs
theorem lg_trans : ∀ a b c, LG a b = true → LG b c = true → LG a c = true
  | [], [], _, h, _ => by cases h
  | [], _ :: _, [], _, h => by cases h
  | [], _ :: _, _ :: _, _, _ => rfl
  | _ :: _, [], _, h, _ => by cases h
  | _ :: _, _ :: _, [], _, h => by cases h
  | x :: xs, y :: ys, z :: zs, h1, h2 => by
    rw [lg_cons] at h1 h2 ⊢
    by_cases c1 : x = y
    · rw [if_pos c1] at h1
      by_cases c2 : y = z
      · rw [if_pos c2] at h2; rw [if_pos (c1.trans c2)]; exact lg_trans xs ys zs h1 h2
      · rw [if_neg c2] at h2; rw [c1, if_neg c2]; exact h2
    · rw [if_neg c1] at h1
      by_cases c2 : y = z
      · subst c2; rw [if_neg c1]; exact h1
      · rw [if_neg c2] at h2
        have h3 := lx_trans x y z h1 h2
        rw [if_neg, h3]
        rintro rfl
        rw [lx_irr] at h3; cases h3
theorem lg_neg : ∀ a b c, LG a c = true → LG a b = true ∨ LG b c = true
  | [], _, [], h => by cases h
  | [], [], _ :: _, _ => .inr rfl
  | [], _ :: _, _ :: _, _ => .inl rfl
  | _ :: _, _, [], h => by cases h
  | _ :: _, [], _ :: _, _ => .inr rfl
  | x :: xs, y :: ys, z :: zs, h => by
    rw [lg_cons] at h
    rw [lg_cons, lg_cons]
    by_cases c1 : x = y
    · rw [if_pos c1]
      by_cases c2 : y = z
      · rw [if_pos c2]
        rw [if_pos (c1.trans c2)] at h
        exact lg_neg xs ys zs h
      · rw [if_neg c2]
        rw [c1, if_neg c2] at h
        exact .inr h
    · rw [if_neg c1]
      cases c2 : HT.lexLt x y with
      | true => exact .inl rfl
      | false =>
        right
        have c3 : HT.lexLt y x = true := by
          cases q : HT.lexLt y x with
          | true => rfl
          | false => exact absurd (lx_tot x y c2 q) c1
        by_cases c4 : x = z
        · subst c4; rw [if_neg (Ne.symm c1)]; exact c3
        · rw [if_neg c4] at h
          have h5 := lx_trans y x z c3 h
          rw [if_neg, h5]
          rintro rfl
          rw [lx_irr] at h5; cases h5
theorem lg_tot : ∀ a b, LG a b = false → LG b a = false → a = b
  | [], [], _, _ => rfl
  | [], _ :: _, h, _ => by cases h
  | _ :: _, [], _, h => by cases h
  | x :: xs, y :: ys, h1, h2 => by
    rw [lg_cons] at h1 h2
    by_cases c : x = y
    · rw [if_pos c] at h1; rw [if_pos c.symm] at h2
      rw [c, lg_tot xs ys h1 h2]
    · rw [if_neg c] at h1; rw [if_neg (Ne.symm c)] at h2
      exact absurd (lx_tot x y h1 h2) c
section
variable {prog : Program} {w : World} {A : Around} {E : Value → Shared → Prop} {s : Shared}
end
end TS

namespace ST
open PySem PySem.SetTable PyProof.Rows
section
variable {prog : Program} {w : World} {A : Around} {E : Value → Shared → Prop} {s : Shared}
end
end ST
namespace Mir
open PySem L2 ST
def gle (a b : List (List Int)) : Prop := TS.LG b a = false
def insT (k : List (List Int)) : List (List (List Int)) → List (List (List Int))
  | [] => [k]
  | x :: r => if TS.LG x k = true then x :: insT k r else k :: x :: r
def srtT : List (List (List Int)) → List (List (List Int))
  | [] => []
  | k :: r => insT k (srtT r)
theorem insT_perm (k : List (List Int)) : ∀ l, (insT k l).Perm (k :: l)
  | [] => List.Perm.refl _
  | x :: r => by
    unfold insT
    split
    · exact ((insT_perm k r).cons x).trans (List.Perm.swap k x r)
    · exact List.Perm.refl _
theorem srtT_perm : ∀ l, (srtT l).Perm l
  | [] => List.Perm.refl _
  | k :: r => (insT_perm k (srtT r)).trans ((srtT_perm r).cons k)
theorem gle_trans {a b c : List (List Int)} (h1 : gle a b) (h2 : gle b c) : gle a c := by
  unfold gle at *
  cases z : TS.LG c a with
  | false => rfl
  | true =>
    rcases TS.lg_neg c b a z with q | q
    · rw [h2] at q; cases q
    · rw [h1] at q; cases q
theorem insT_sorted (k : List (List Int)) : ∀ {l}, l.Pairwise gle → (insT k l).Pairwise gle
  | [], _ => List.pairwise_singleton _ _
  | x :: r, h => by
    cases h with
    | cons h1 h2 =>
      unfold insT
      split
      · rename_i c
        refine List.Pairwise.cons (fun y hy => ?_) (insT_sorted k h2)
        rcases List.mem_cons.mp ((insT_perm k r).mem_iff.mp hy) with rfl | hy
        · unfold gle
          cases z : TS.LG y x with
          | false => rfl
          | true => have := TS.lg_trans y x y z c; rw [TS.lg_irr] at this; cases this
        · exact h1 y hy
      · rename_i c
        have hkx : gle k x := by unfold gle; simpa using c
        refine List.Pairwise.cons (fun y hy => ?_) (List.Pairwise.cons h1 h2)
        rcases List.mem_cons.mp hy with rfl | hy
        · exact hkx
        · exact gle_trans hkx (h1 y hy)
theorem srtT_sorted : ∀ l, (srtT l).Pairwise gle
  | [] => List.Pairwise.nil
  | k :: r => insT_sorted k (srtT_sorted r)
section
variable {X : Cx} {XE : XEt} {K : KW} {H : Hp} {S : Store}
def TTs (H : Hp) (ks : List (List (List Int))) (xs : List V) : Prop := Paired (fun (v : V) (k : List (List Int)) => ∃ a ws, v = .ref a ∧ H a = some (.tup ws) ∧ TIs H k ws) xs ks
def tII (k : List (List Int)) : D := .tup (k.map tI)
theorem rds_tII {ρ : List Addr} : ∀ {ks : List (List (List Int))} {us : List V}, TTs H ks us → RDs K ρ H (ks.map tII) us
  | _, _, .nil => .nil
  | _, _, .cons (b := k) ⟨a, ws, e, h, t0⟩ t => by
    subst e
    exact .cons (.tup h (rds_tI t0)) (rds_tII t)
theorem TTs.mono {ρ ρ' : List Addr} {H' : Hp} (x : Ex0 ρ H ρ' H') : ∀ {ks : List (List (List Int))} {us : List V}, TTs H ks us → RDs K ρ' H' (ks.map tII) us := fun t => (rds_tII (K := K) (ρ := ρ) t).mono x
end
end Mir

namespace Mir
open PySem L2
abbrev Tile := Cell × Cell
def kC (p : Cell) : List Int := [p.1, p.2]
theorem kC_inj {p q : Cell} (h : kC p = kC q) : p = q := by
  obtain ⟨a, b⟩ := p; obtain ⟨c, d⟩ := q
  simp [kC] at h
  obtain ⟨rfl, rfl⟩ := h; rfl
def toC (k : List Int) : Cell := (k.getD 0 0, k.getD 1 0)
theorem cLt_irr {p : Cell} : ¬ cLt p p := by unfold cLt; omega
theorem oC_nd {R : List Cell} (h : R.Pairwise cLt) : R.Nodup := h.imp fun {a b} z e => by subst e; exact cLt_irr z
def kT (t : Tile) : List (List Int) := [kC t.1, kC t.2]
theorem kT_inj {s t : Tile} (h : kT s = kT t) : s = t := by
  simp only [kT, List.cons.injEq, and_true] at h
  exact Prod.ext (kC_inj h.1) (kC_inj h.2)
theorem lg_tile (s t : Tile) : TS.LG (kT s) (kT t) = decide (tiLt s t) := by
  have h := fLtA_tile s t []
  have h2 : fLtA (tD s) (tD t) [] = some (.bl (TS.LG (kT s) (kT t)), []) := rfl
  rw [h2] at h
  simpa using h
theorem tiLt_irr {t : Tile} : ¬ tiLt t t := by
  have := lg_tile t t
  rw [TS.lg_irr] at this
  exact of_decide_eq_false this.symm
theorem tiLt_tr {r s t : Tile} (h1 : tiLt r s) (h2 : tiLt s t) : tiLt r t := by
  have a := lg_tile r s
  have b := lg_tile s t
  rw [decide_eq_true h1] at a
  rw [decide_eq_true h2] at b
  have := TS.lg_trans _ _ _ a b
  rw [lg_tile] at this
  exact of_decide_eq_true this
def toT (k : List (List Int)) : Tile := (toC (k.getD 0 []), toC (k.getD 1 []))
def oT (R : List Tile) : List Tile := (srtT (R.map kT)).map toT
theorem oT_perm (R : List Tile) : (oT R).Perm R := by
  unfold oT
  refine ((srtT_perm _).map toT).trans (List.Perm.of_eq ?_)
  rw [List.map_map]
  exact (List.map_congr_left fun p _ => rfl).trans (List.map_id R)
theorem oT_sorted {R : List Tile} (h : R.Nodup) : (oT R).Pairwise tiLt := by
  unfold oT
  have hnd : (srtT (R.map kT)).Nodup := (srtT_perm _).nodup_iff.mpr (List.pairwise_map.mpr (h.imp fun {a b} z e => z (kT_inj e)))
  refine List.pairwise_map.mpr (((srtT_sorted (R.map kT)).and hnd).imp_of_mem fun {a b} ha hb h => ?_)
  obtain ⟨p, _, rfl⟩ := List.mem_map.mp ((srtT_perm _).mem_iff.mp ha)
  obtain ⟨q, _, rfl⟩ := List.mem_map.mp ((srtT_perm _).mem_iff.mp hb)
  have h1 : TS.LG (kT p) (kT q) = true := by
    cases z : TS.LG (kT p) (kT q) with
    | true => rfl
    | false => exact absurd (TS.lg_tot _ _ z h.1) h.2
  rw [lg_tile] at h1
  exact of_decide_eq_true h1
theorem tiles_unique {P Q : List Tile} (h : P.Perm Q) (h1 : P.Pairwise tiLt) (h2 : Q.Pairwise tiLt) : P = Q :=
  sorted_one (le := fun p q => tiLt p q ∨ p = q) (fun a b h1 h2 => by
    rcases h1 with h1 | h1
    · rcases h2 with h2 | h2
      · exact absurd (tiLt_tr h1 h2) tiLt_irr
      · exact h2.symm
    · exact h1) h (h1.imp .inl) (h2.imp .inl)
theorem tiles_nd {R : List Tile} (h : R.Pairwise tiLt) : R.Nodup := h.imp fun {a b} z e => by subst e; exact tiLt_irr z
theorem oT_of {R Q : List Tile} (h : R.Perm Q) (h2 : Q.Pairwise tiLt) : oT R = Q := tiles_unique ((oT_perm R).trans h) (oT_sorted (h.nodup_iff.mpr (tiles_nd h2))) h2
theorem fEq_cell (p q : Cell) (S : Store) : fEq (cD p) (cD q) S = some (.bl (decide (p = q)), S) := by
  have h1 : py S (cD p) = some (cP p) := rfl
  have h2 : py S (cD q) = some (cP q) := rfl
  unfold fEq fEqN
  rw [h1, h2]
  simp only [Option.bind_some]
  rw [if_pos ⟨shaped_cell p, shaped_cell q⟩, show PyData.eqv (cP p) (cP q) = decide (p = q) from eqv_cell p q, Bool.false_xor]
theorem big : 1000 ≤ sizeLine := by decide
end Mir

namespace Mir
open PySem L2
def cells (ts : List Tile) : List Cell := ts.flatMap fun t => [t.1, t.2]
def isTi (t : Tile) : Prop := t.2 = (t.1.1, t.1.2 + 1) ∨ t.2 = (t.1.1 + 1, t.1.2)
structure Lay (ts : List Tile) : Prop where
  tile : ∀ t ∈ ts, isTi t
  so : ts.Pairwise tiLt
  nd : (cells ts).Nodup
  len : ts.length ≤ 32
theorem cells_cons (t : Tile) (ts : List Tile) : cells (t :: ts) = t.1 :: t.2 :: cells ts := rfl
theorem cells_app (ts us : List Tile) : cells (ts ++ us) = cells ts ++ cells us := List.flatMap_append
theorem cells_perm {ts us : List Tile} (h : ts.Perm us) : (cells ts).Perm (cells us) := h.flatMap_right _
theorem mem_cells {ts : List Tile} {x : Cell} : x ∈ cells ts ↔ ∃ t ∈ ts, x = t.1 ∨ x = t.2 := by
  unfold cells
  rw [List.mem_flatMap]
  simp only [List.mem_cons, List.not_mem_nil, or_false]
theorem nd_tiles : ∀ {ts : List Tile}, (cells ts).Nodup → ts.Nodup
  | [], _ => List.nodup_nil
  | t :: r, h => by
    rw [cells_cons] at h
    obtain ⟨h1, h2⟩ := List.nodup_cons.mp h
    obtain ⟨h3, h4⟩ := List.nodup_cons.mp h2
    refine List.nodup_cons.mpr ⟨fun z => h1 (List.mem_cons_of_mem _ (mem_cells.mpr ⟨t, z, .inl rfl⟩)), nd_tiles h4⟩
theorem share : ∀ {ts : List Tile}, (cells ts).Nodup → ∀ {s t : Tile} {x : Cell}, s ∈ ts → t ∈ ts → (x = s.1 ∨ x = s.2) → (x = t.1 ∨ x = t.2) → s = t
  | [], _, _, _, _, h, _, _, _ => by cases h
  | u :: r, h, s, t, x, hs, ht, hx, hy => by
    rw [cells_cons] at h
    obtain ⟨h1, h2⟩ := List.nodup_cons.mp h
    obtain ⟨h3, h4⟩ := List.nodup_cons.mp h2
    have key : ∀ v : Tile, v ∈ r → (x = v.1 ∨ x = v.2) → (x = u.1 ∨ x = u.2) → False := fun v hv hxv hxu => by
      have hm : x ∈ cells r := mem_cells.mpr ⟨v, hv, hxv⟩
      rcases hxu with e | e
      · exact h1 (List.mem_cons_of_mem _ (e ▸ hm))
      · exact h3 (e ▸ hm)
    rcases List.mem_cons.mp hs with e1 | hs'
    · rcases List.mem_cons.mp ht with e2 | ht'
      · rw [e1, e2]
      · exact absurd (e1 ▸ hx) (fun z => key t ht' hy z)
    · rcases List.mem_cons.mp ht with e2 | ht'
      · exact absurd (e2 ▸ hy) (fun z => key s hs' hx z)
      · exact share h4 hs' ht' hx hy
theorem split_perm {ts ps : List Tile} (nd : ts.Nodup) (hp : ps.Nodup) (hs : ∀ p ∈ ps, p ∈ ts) : ts.Perm (ps ++ ts.filter fun t => decide (t ∉ ps)) := by
  have h1 := (List.filter_append_perm (fun t => decide (t ∈ ps)) ts).symm
  have h2 : (ts.filter fun t => decide (t ∈ ps)).Perm ps := (List.perm_ext_iff_of_nodup (nd.filter _) hp).mpr fun a => by
    rw [List.mem_filter, decide_eq_true_eq]
    exact ⟨fun z => z.2, fun z => ⟨hs a z, z⟩⟩
  have h3 : (ts.filter fun t => !decide (t ∈ ps)) = ts.filter fun t => decide (t ∉ ps) := by
    congr 1
    funext t
    by_cases c : t ∈ ps <;> simp [c]
  rw [h3] at h1
  exact h1.trans (h2.append_right _)
def lev (k : Cell) : List Tile := [((k.1 - 1, k.2 - 1), (k.1 - 1, k.2)), ((k.1, k.2 - 1), (k.1, k.2))]
def upr (k : Cell) : List Tile := [((k.1 - 1, k.2 - 1), (k.1, k.2 - 1)), ((k.1 - 1, k.2), (k.1, k.2))]
def pr (b : Bool) (k : Cell) : List Tile := if b = true then lev k else upr k
def four (k : Cell) : List Cell := [(k.1 - 1, k.2 - 1), (k.1 - 1, k.2), (k.1, k.2 - 1), (k.1, k.2)]
theorem pr_cells (b : Bool) (k : Cell) : (cells (pr b k)).Perm (four k) := by
  cases b
  · exact List.Perm.cons _ (List.Perm.swap _ _ _)
  · exact List.Perm.refl _
theorem four_sorted (k : Cell) : (four k).Pairwise cLt := by
  obtain ⟨a, b⟩ := k
  have h : ∀ p q r s : Int, (p < r ∨ (p = r ∧ q < s)) → cLt (p, q) (r, s) := fun p q r s h => h
  unfold four
  refine List.Pairwise.cons (fun x hx => ?_) (List.Pairwise.cons (fun x hx => ?_) (List.Pairwise.cons (fun x hx => ?_) (List.pairwise_singleton _ _)))
  · simp only [List.mem_cons, List.not_mem_nil, or_false] at hx
    rcases hx with rfl | rfl | rfl <;> exact h _ _ _ _ (by omega)
  · simp only [List.mem_cons, List.not_mem_nil, or_false] at hx
    rcases hx with rfl | rfl <;> exact h _ _ _ _ (by omega)
  · simp only [List.mem_cons, List.not_mem_nil, or_false] at hx
    subst hx
    exact h _ _ _ _ (by omega)
theorem pr_nd (b : Bool) (k : Cell) : (pr b k).Nodup := nd_tiles ((pr_cells b k).nodup_iff.mpr (oC_nd (four_sorted k)))
theorem pr_isTi (b : Bool) (k : Cell) : ∀ t ∈ pr b k, isTi t := by
  intro t ht
  cases b
  · simp only [pr, upr, Bool.false_eq_true, if_false, List.mem_cons, List.not_mem_nil, or_false] at ht
    rcases ht with rfl | rfl
    · exact .inr (by simp)
    · exact .inr (by simp)
  · simp only [pr, lev, if_true, List.mem_cons, List.not_mem_nil, or_false] at ht
    rcases ht with rfl | rfl
    · exact .inl (by simp)
    · exact .inl (by simp)
theorem pr_len (b : Bool) (k : Cell) : (pr b k).length = 2 := by cases b <;> rfl
theorem pr_not {ts : List Tile} (nd : (cells ts).Nodup) {b : Bool} {k : Cell} (h : ∀ t ∈ pr b k, t ∈ ts) : ∀ t ∈ pr (!b) k, t ∉ ts := by
  intro t ht z
  cases b
  · simp only [pr, upr, lev, Bool.not_false, if_true, Bool.false_eq_true, if_false, List.mem_cons, List.not_mem_nil, or_false, forall_eq_or_imp, forall_eq] at h ht
    rcases ht with rfl | rfl
    · have := share nd h.1 z (x := (k.1 - 1, k.2 - 1)) (.inl rfl) (.inl rfl)
      simp only [Prod.mk.injEq] at this
      omega
    · have := share nd h.1 z (x := (k.1, k.2 - 1)) (.inr rfl) (.inl rfl)
      simp only [Prod.mk.injEq] at this
      omega
  · simp only [pr, upr, lev, Bool.not_true, if_true, Bool.false_eq_true, if_false, List.mem_cons, List.not_mem_nil, or_false, forall_eq_or_imp, forall_eq] at h ht
    rcases ht with rfl | rfl
    · have := share nd h.1 z (x := (k.1 - 1, k.2 - 1)) (.inl rfl) (.inl rfl)
      simp only [Prod.mk.injEq] at this
      omega
    · have := share nd h.1 z (x := (k.1 - 1, k.2)) (.inr rfl) (.inl rfl)
      simp only [Prod.mk.injEq] at this
      omega
def rest (ts : List Tile) (b : Bool) (k : Cell) : List Tile := ts.filter fun t => decide (t ∉ pr b k)
def turnT (ts : List Tile) (b : Bool) (k : Cell) : List Tile := oT (rest ts b k ++ pr (!b) k)
structure Trn (ts : List Tile) (b : Bool) (k : Cell) : Prop where
  lay : Lay ts
  has : ∀ t ∈ pr b k, t ∈ ts
section
variable {ts : List Tile} {b : Bool} {k : Cell}
theorem Trn.perm (h : Trn ts b k) : ts.Perm (pr b k ++ rest ts b k) := split_perm (nd_tiles h.lay.nd) (pr_nd b k) h.has
theorem Trn.perm2 (ts : List Tile) (b : Bool) (k : Cell) : (turnT ts b k).Perm (rest ts b k ++ pr (!b) k) := oT_perm _
theorem Trn.cells (h : Trn ts b k) : (cells (turnT ts b k)).Perm (cells ts) := by
  have h1 := cells_perm (Trn.perm2 ts b k)
  have h2 := cells_perm h.perm
  rw [cells_app] at h1 h2
  exact h1.trans ((List.perm_append_comm.trans ((((pr_cells (!b) k).trans (pr_cells b k).symm).append_right _))).trans h2.symm)
theorem Trn.lay2 (h : Trn ts b k) : Lay (turnT ts b k) := by
  have hc := h.cells.nodup_iff.mpr h.lay.nd
  refine ⟨fun t ht => ?_, ?_, hc, ?_⟩
  · rcases List.mem_append.mp ((Trn.perm2 ts b k).mem_iff.mp ht) with z | z
    · exact h.lay.tile t (List.mem_filter.mp z).1
    · exact pr_isTi _ _ t z
  · exact oT_sorted ((Trn.perm2 ts b k).nodup_iff.mp (nd_tiles hc))
  · have h1 := (Trn.perm2 ts b k).length_eq
    have h2 := h.perm.length_eq
    have h3 := h.lay.len
    simp only [List.length_append, pr_len] at h1 h2
    omega
theorem Trn.back (h : Trn ts b k) : Trn (turnT ts b k) (!b) k := ⟨h.lay2, fun t ht => (Trn.perm2 ts b k).mem_iff.mpr (List.mem_append_right _ ht)⟩
theorem Trn.rest2 (h : Trn ts b k) : (rest (turnT ts b k) (!b) k).Perm (rest ts b k) := by
  have h1 : (rest (turnT ts b k) (!b) k).Perm ((rest ts b k ++ pr (!b) k).filter fun t => decide (t ∉ pr (!b) k)) := (Trn.perm2 ts b k).filter _
  refine h1.trans (List.Perm.of_eq ?_)
  rw [List.filter_append, show ((pr (!b) k).filter fun t => decide (t ∉ pr (!b) k)) = [] from List.filter_eq_nil_iff.mpr fun t ht => by simp [ht], List.append_nil]
  exact List.filter_eq_self.mpr fun t ht => decide_eq_true fun z => pr_not h.lay.nd h.has t z (List.mem_filter.mp ht).1
theorem Trn.again (h : Trn ts b k) : turnT (turnT ts b k) (!b) k = ts := by
  refine oT_of ?_ h.lay.so
  rw [Bool.not_not]
  exact (h.rest2.append_right _).trans (List.perm_append_comm.trans h.perm.symm)
end
end Mir

namespace Mir
open PySem L2
section
variable {S : Store} {n m : Nat}
end
end Mir

namespace Mir
open PySem L2
section
variable {K : KW} {ρ : List Addr} {H : Hp} {a : Addr} {od : Obj} {xs : List (List Key × V)} {u : HO}
mutual
theorem RD.unlock (hH : H a = some (.frz od (.dT xs))) : ∀ {d : D} {v : V}, RD K ρ H d v → RD K ρ (upd H a u) d v
  | _, _, .non => .non
  | _, _, .bl b => .bl b
  | _, _, .int i => .int i
  | _, _, .str x => .str x
  | _, _, .ty n => .ty n
  | _, _, .tup (a := b) h r => .tup (by rw [upd_ne (by rintro rfl; rw [hH] at h; cases h)]; exact h) (RDs.unlock hH r)
  | _, _, .ref h => .ref h
  | _, _, .exc (e := b) h hc hn => .exc (by rw [upd_ne (by rintro rfl; rw [hH] at h; cases h)]; exact h) hc hn
  | _, _, .cls hn => .cls hn
  | _, _, .mv (a := b) h hl hn r => .mv (by rw [upd_ne (by rintro rfl; rw [hH] at h; cases h)]; exact h) hl hn (RDs.unlock hH r)
theorem RDs.unlock (hH : H a = some (.frz od (.dT xs))) : ∀ {ds : List D} {vs : List V}, RDs K ρ H ds vs → RDs K ρ (upd H a u) ds vs
  | _, _, .nil => .nil
  | _, _, .cons h t => .cons (RD.unlock hH h) (RDs.unlock hH t)
end
theorem KVs.unlock (hH : H a = some (.frz od (.dT xs))) : ∀ {ds : List (List Key × D)} {vs : List (List Key × V)}, KVs K ρ H ds vs → KVs K ρ (upd H a u) ds vs
  | _, _, .nil => .nil
  | _, _, .cons h t => .cons (h.unlock hH) (KVs.unlock hH t)
theorem NKs.unlock (hH : H a = some (.frz od (.dT xs))) : ∀ {ds : List (List (List Int) × D)} {vs : List (List (List Int) × V)}, NKs K ρ H ds vs → NKs K ρ (upd H a u) ds vs
  | _, _, .nil => .nil
  | _, _, .cons h t => .cons (h.unlock hH) (NKs.unlock hH t)
theorem K3s.unlock (hH : H a = some (.frz od (.dT xs))) : ∀ {ds : List (List (List (List Int)) × D)} {vs : List (List (List (List Int)) × V)}, K3s K ρ H ds vs → K3s K ρ (upd H a u) ds vs
  | _, _, .nil => .nil
  | _, _, .cons h t => .cons (h.unlock hH) (K3s.unlock hH t)
theorem REnv.unlock {σ : Ev} {σV : St} (hH : H a = some (.frz od (.dT xs))) (r : REnv K ρ H σ σV) : REnv K ρ (upd H a u) σ σV :=
  ⟨r.len, fun i d h => let ⟨v, h1, h2⟩ := r.at_ i d h; ⟨v, h1, h2.unlock hH⟩⟩
theorem OK.unlock {b : Addr} {o : O} (hH : H a = some (.frz od (.dT xs))) (hne : o.mut → b ≠ a) (h : OK K ρ H b o) : OK K ρ (L2.upd H a u) b o := by
  cases o with
  | lst ds => obtain ⟨ys, h1, r⟩ := h; exact ⟨ys, by rw [upd_ne (hne trivial)]; exact h1, r.unlock hH⟩
  | ro ds =>
    obtain ⟨ys, h1, r⟩ := h
    refine ⟨ys, ?_, r.unlock hH⟩
    rcases h1 with ⟨ob, h1⟩ | h1
    · exact .inl ⟨ob, by rw [upd_ne (by rintro rfl; rw [hH] at h1; cases h1)]; exact h1⟩
    · exact .inr h1
  | dic kvs => obtain ⟨ys, h1, r⟩ := h; exact ⟨ys, by rw [upd_ne (hne trivial)]; exact h1, r.unlock hH⟩
  | set ks => exact ST.SOK.upd h (hne trivial) fun c ys z => by rw [upd_ne (by rintro rfl; rw [hH] at z; cases z)]; exact z
  | dfr kvs => obtain ⟨ob, ys, h1, r⟩ := h; exact ⟨ob, ys, by rw [upd_ne (hne trivial)]; exact h1, r.unlock hH⟩
  | dcn kvs => obtain ⟨ys, h1, r⟩ := h; exact ⟨ys, h1.upd (hne trivial) fun c ys z => by rw [upd_ne (by rintro rfl; rw [hH] at z; cases z)]; exact z, r.unlock hH⟩
  | dnf kvs => obtain ⟨ob, ys, h1, r⟩ := h; exact ⟨ob, ys, h1.upd (hne trivial) fun c ys z => by rw [upd_ne (by rintro rfl; rw [hH] at z; cases z)]; exact z, r.unlock hH⟩
  | dd kvs => obtain ⟨ys, h1, r⟩ := h; exact ⟨ys, h1.upd (hne trivial) fun c ys z => by rw [upd_ne (by rintro rfl; rw [hH] at z; cases z)]; exact z, r.unlock hH⟩
  | stn ks => exact NT.SOKN.upd h (hne trivial) fun c ys z => by rw [upd_ne (by rintro rfl; rw [hH] at z; cases z)]; exact z
theorem Sim.unlock {S : Store} {n : Nat} {kvs : List (List Key × D)} (s : Sim K ρ S H) (hn : ρ[n]? = some a) (hS : S[n]? = some (.dfr kvs)) (hH : H a = some (.frz od (.dT xs))) : Sim K ρ (S.set n (.dic kvs)) (upd H a (.dT xs)) := by
  have hl : n < S.length := (List.getElem?_eq_some_iff.mp hS).1
  have hq : OK K ρ (upd H a (.dT xs)) a (.dic kvs) := by
    obtain ⟨o', xs', h1, h2⟩ := s.ok n a _ hn hS
    rw [hH] at h1; cases h1
    exact ⟨xs, upd_same, h2.unlock hH⟩
  refine ⟨by simp [s.len], fun k b w h1 h2 => ?_, by
    obtain ⟨ys, l, rfl, hl'⟩ := s.hd
    cases n with
    | zero => cases hS
    | succ n =>
      refine ⟨ys, l.set n (.dic kvs), rfl, fun o ho => ?_⟩
      rcases List.mem_or_eq_of_mem_set ho with z | z
      · exact hl' o z
      · rw [z]; trivial, fun k j b w w' h1 h2 h3 h4 m1 m2 => ?_⟩
  · by_cases hk : k = n
    · subst hk
      rw [hn] at h1; cases h1
      rw [List.getElem?_set_self hl] at h2; cases h2
      exact hq
    · rw [List.getElem?_set_ne (Ne.symm hk)] at h2
      exact (s.ok k b w h1 h2).unlock hH fun mu z => hk (s.inj k n b w _ h1 (by rw [z]; exact hn) h2 hS mu trivial)
  · have old : ∀ (k : Nat) (w : O), (S.set n (.dic kvs))[k]? = some w → w.mut → ∃ w', S[k]? = some w' ∧ w'.mut := fun k w h mu => by
      by_cases hk : k = n
      · subst hk; exact ⟨_, hS, trivial⟩
      · rw [List.getElem?_set_ne (Ne.symm hk)] at h; exact ⟨w, h, mu⟩
    obtain ⟨w1, e1, q1⟩ := old k w h3 m1
    obtain ⟨w2, e2, q2⟩ := old j w' h4 m2
    exact s.inj k j b w1 w2 h1 h2 e1 e2 q1 q2
end
section
variable {X : Cx} {XE : XEt} {K : KW} {σV : St} {H : Hp} {S S' : Store} {σ : Ev} {α : Type}
end
end Mir

namespace L2
open PySem PySem.Spec PyProof.Rows ST
section
variable {X : Cx}
end
end L2

namespace Mir
open PySem L2
section
variable {K : KW} {ρ : List Addr} {S : Store} {H : Hp}
end
section
variable {X : Cx} {XE : XEt} {K : KW} {σV : St} {H : Hp} {Q : VK} {S S' : Store} {σ : Ev}
variable {kx vx iter tg : Expr} {ifs : List Expr} {scope : Scope} {own : List (Str × Nat)} {fi : FI} {g : TG} {G : FG} {c : FT} {fk fv : FE} {pos : Pos}
end
end Mir

namespace L2
open PySem
section
variable {X : Cx}
end
end L2
namespace Mir
open PySem L2
section
variable {K : KW}
end
end Mir

namespace L2
open PySem
section
variable {X : Cx} {pos : Pos}
end
end L2
namespace Mir
open PySem L2
section
variable {X : Cx} {XE : XEt} {K : KW} {e : Expr} {pos : Pos}
end
end Mir

namespace PySem.SeqAt
open PySem PySem.MeetsSeq
end PySem.SeqAt

namespace L2
open PySem
section
variable {X : Cx}
end
end L2
namespace Mir
open PySem L2
section
variable {K : KW}
theorem RDs.eraseIdx {ρ : List Addr} {H : Hp} : ∀ {ds : List D} {vs : List V} (j : Nat), RDs K ρ H ds vs → RDs K ρ H (ds.eraseIdx j) (vs.eraseIdx j)
  | _, _, _, .nil => .nil
  | _, _, 0, .cons _ t => t
  | _, _, j + 1, .cons h t => .cons h (RDs.eraseIdx j t)
end
end Mir

namespace Mir
open PySem L2
section
variable {X : Cx} {K : KW}
end
end Mir

namespace Mir
open PySem L2
section
variable {X : Cx} {XE : XEt} {K : KW} {H : Hp} {pos : Pos}
end
end Mir

namespace Mir
open PySem L2
structure HM where
  mt : String → Bool
  i : Option Nat
  fs : FS
section
variable {P : Program} {w : World} {K : PySem.W.Frag} {mg : Str → Option Value} {base : Heap} {N : List Str} {qual : Str} {scope : Scope} {f : Addr} {cd : Value} {A : Around} {outer : List Env} {s : Shared} {H : Hp} {E : XK} {XE : XEt}
structure Thr (P : Program) (w : World) (K : PySem.W.Frag) (mg : Str → Option Value) (base : Heap) (N : List Str) (qual : Str) (scope : Scope) (f : Addr) (cd : Value) (A : Around) (outer : List Env) (s : Shared) (H : Hp) (E : XK)
    (pins : List (Addr × Obj)) (σV : St) (H1 H2 : Hp) (s1 s' : Shared) (hr' h5 : Heap) (fr : List Addr) (ea C' : Addr) (a0 : Value) : Prop where
  I1 : Inv (cxM P w K mg base N qual scope f cd A outer s H E) pins σV H1 s1
  un : Un (frs (cxM P w K mg base N qual scope f cd A outer s H E).stack) [] H1 H2 s1.heap hr'
  hok : HOk P w H2 hr'
  hfn : ∀ b ∈ fr, H2 b = none
  hnew : ∀ b ∈ fr, b ∈ frs (cxM P w K mg base N qual scope f cd A outer s H E).stack ∨ s1.heap.get? b = none
  hfl : (PySem.W.hideAll hr' fr).FlyingW (cxM P w K mg base N qual scope f cd A outer s H E).stack ea (.ref C') a0 h5
  hsl : hr'.UpToSlots h5
  hnf : ∀ b ∈ fr, ∀ (o : Obj) (vs : Array Value), hr'.get? b = some o → o.data ≠ .fields vs
  hos : s'.os = s1.os
  hbare : PyProof.Rows.AllBare s'.gens
inductive DHs (P : Program) (w : World) (K : PySem.W.Frag) (mg : Str → Option Value) (base : Heap) (N : List Str) (qual : Str) (scope : Scope) (f : Addr) (cd : Value) (A : Around) (outer : List Env) (s : Shared) (H : Hp) (E : XK) (cl : Cls) : List ExceptHandler → List HM → Prop
  | nil : DHs P w K mg base N qual scope f cd A outer s H E cl [] []
  | as {y nm : Str} {np hpos : Pos} {b₀ : Stmt} {suite : List Stmt} {fs : FS} {mt : String → Bool} {Cy : Addr} {i : Nat} {hs : List ExceptHandler} {hms : List HM} (hgy : Gl (cxM P w K mg base N qual scope f cd A outer s H E) y) (hy : mg y = some (.ref Cy)) (hm : ∀ c C, cl c = some C → PySem.W.exmOne K (.ref C) (.ref Cy) = some (mt c))
      (hi : N[i]? = some nm) (hloc : (cxM P w K mg base N qual scope f cd A outer s H E).env.kindOf nm = some .local) (hsu : ∀ e : Value, DSs (hnd (cxM P w K mg base N qual scope f cd A outer s H E) e) (fun _ _ => False) (b₀ :: suite) fs) (hdy : (y == ("__debug__" : Str)) = false) (t : DHs P w K mg base N qual scope f cd A outer s H E cl hs hms) :
      DHs P w K mg base N qual scope f cd A outer s H E cl (.ExceptHandler (some (.Name y np)) (some nm) (b₀ :: suite) hpos :: hs) (⟨mt, some i, fs⟩ :: hms)
  | no {y : Str} {np hpos : Pos} {b₀ : Stmt} {suite : List Stmt} {fs : FS} {mt : String → Bool} {Cy : Addr} {hs : List ExceptHandler} {hms : List HM} (hgy : Gl (cxM P w K mg base N qual scope f cd A outer s H E) y) (hy : mg y = some (.ref Cy)) (hm : ∀ c C, cl c = some C → PySem.W.exmOne K (.ref C) (.ref Cy) = some (mt c))
      (hsu : ∀ e : Value, DSs (hnd (cxM P w K mg base N qual scope f cd A outer s H E) e) (fun _ _ => False) (b₀ :: suite) fs) (hdy : (y == ("__debug__" : Str)) = false) (t : DHs P w K mg base N qual scope f cd A outer s H E cl hs hms) :
      DHs P w K mg base N qual scope f cd A outer s H E cl (.ExceptHandler (some (.Name y np)) none (b₀ :: suite) hpos :: hs) (⟨mt, none, fs⟩ :: hms)
structure DB (P : Program) (w : World) (K : PySem.W.Frag) (mg : Str → Option Value) (base : Heap) (N : List Str) (qual : Str) (scope : Scope) (f : Addr) (cd : Value) (A : Around) (outer : List Env) (s : Shared) (H : Hp) (E : XK) (cl : Cls) (body : List Stmt) (fb : FS) : Prop where
  h : ∀ (pins : List (Addr × Obj)) (s0 : Shared) (σV : St) (H0 : Hp) (ρ : List Addr) (S : Store) (σ : Ev) (r : Except String (Out × Ev)) (S' : Store) (Q : Flow → Shared → Prop) (Ex : Value → Shared → Prop), Inv (cxM P w K mg base N qual scope f cd A outer s H E) pins σV H0 s0 → Sim ⟨K, ST.byText w⟩ ρ S H0 → REnv ⟨K, ST.byText w⟩ ρ H0 σ σV → fb σ S = some (r, S') →
    (∀ s2 H2 ρ2, r = .ok (.nx, σ) → Inv (cxM P w K mg base N qual scope f cd A outer s H E) pins σV H2 s2 → Ext ρ H0 ρ2 H2 → Sim ⟨K, ST.byText w⟩ ρ2 S' H2 → Q .next s2) →
    (∀ c H1 H2 s1 s' hr' fr ea C' a0 ρ2, r = .error c → Thr P w K mg base N qual scope f cd A outer s H E pins σV H1 H2 s1 s' hr' s'.heap fr ea C' a0 → cl c = some C' → Ext ρ H0 ρ2 H2 → Sim ⟨K, ST.byText w⟩ ρ2 S' H2 → Ex (.ref ea) s') →
    wpAny (model P w) (cxM P w K mg base N qual scope f cd A outer s H E).A (execs body (cxM P w K mg base N qual scope f cd A outer s H E).env) Q Ex s0
end
end Mir

namespace Mir
open PySem L2
def bareA (A : Around) : Around := { A with handled := none }
structure FnH (P : Program) (w : World) (K : PySem.W.Frag) (mg : Str → Option Value) (base : Heap) (k : Nat) (f : Addr) (fd : FuncData) (ps : List Str) (n : Nat) (F : FB) : Prop where
  len : n = ps.length
  run : ∀ (A : Around) (outer : List Env) (s : Shared) (H : Hp) (us : List Value) (vs : List V) (ρ : List Addr) (S : Store) (ds : List D) (d : D) (S' : Store) (Q : VK), Room k (bareA A) → Env0 P w K mg base A outer s H → BindsTo s fd ⟨us, []⟩ (ps.zip us) → Vals vs us →
    Sim ⟨K, ST.byText w⟩ ρ S H → RDs ⟨K, ST.byText w⟩ ρ H ds vs → ds.length = n → F ds S = some (.ok d, S') → Pst ⟨K, ST.byText w⟩ (fun _ _ => False) (qE ⟨K, ST.byText w⟩ Q) ρ H (.ok d) S' →
    codeAny (model P w) A (.call (.ref f) ⟨us, []⟩) (fun res s' => match res with
      | .ok (.ret u) => CE outer P w H s Q u s'
      | _ => False) s
section
variable {P : Program} {w : World} {K : PySem.W.Frag} {mg : Str → Option Value} {base : Heap} {N : List Str} {qual : Str} {f : Addr}
end
section
variable {X : Cx} {XE : XEt} {e : Expr} {es : List Expr} {pos p : Pos}
end
end Mir

namespace Mir
open PySem L2
section
variable {X : Cx} {K : KW} {H : Hp}
end
end Mir

namespace Mir
open PySem L2
section
variable {X : Cx} {XE : XEt} {K : KW} {H : Hp} {e : Expr} {pos : Pos}
end
end Mir

namespace Mir
open PySem L2
section
variable {X : Cx} {XE : XEt} {K : KW} {H : Hp} {e : Expr} {pos : Pos}
end
end Mir

namespace Mir
open PySem L2
section
variable {prog : Program} {w : World} {A : Around} {E : Value → Shared → Prop} {s : Shared} {r l : Addr} {items : Array Value}
end
section
variable {X : Cx} {XE : XEt} {K : KW} {H : Hp} {e : Expr} {pos : Pos}
end
end Mir

namespace Mir
open PySem L2
def fldD : List Str → List D → Str → Option D
  | n :: ns, d :: ds, f => if f = n then some d else fldD ns ds f
  | _, _, _ => none
theorem fldD_ok {K : KW} {ρ : List Addr} {H : Hp} {f : Str} {d : D} : ∀ {ns : List Str} {ds : List D} {vs : List V}, RDs K ρ H ds vs → fldD ns ds f = some d → ∃ v, (ns.zip vs).lookup f = some v ∧ RD K ρ H d v
  | [], _, _, _, e => by simp [fldD] at e
  | n :: ns, _, _, .nil, e => by simp [fldD] at e
  | n :: ns, _, _, .cons (v := v) (vs := vs) h t, e => by
    unfold fldD at e
    rw [List.zip_cons_cons]
    by_cases q : f = n
    · rw [if_pos q] at e; cases e
      exact ⟨v, by rw [List.lookup_cons]; simp [q], h⟩
    · rw [if_neg q] at e
      obtain ⟨v', h1, h2⟩ := fldD_ok t e
      have hb : (f == n) = false := beq_eq_false_iff_ne.mpr q
      exact ⟨v', by simp only [List.lookup, hb]; exact h1, h2⟩
theorem fldD_no {f : Str} : ∀ {ns : List Str} {vs : List V}, f ∉ ns → (ns.zip vs).lookup f = none
  | [], _, _ => rfl
  | n :: ns, [], _ => rfl
  | n :: ns, v :: vs, h => by
    rw [List.zip_cons_cons]
    have hb : (f == n) = false := beq_eq_false_iff_ne.mpr fun z => h (by rw [z]; exact List.mem_cons_self ..)
    simp only [List.lookup, hb]
    exact fldD_no fun z => h (List.mem_cons_of_mem _ z)
structure OwnC (K : PySem.W.Frag) (c : String) (C : Addr) : Prop where
  nm : PySem.W.nsIn K mainGlobals (Str.ofString c) = some (some (.ref C))
  cl : L2.Cls K C
theorem OwnC.eq {K : PySem.W.Frag} {c : String} {C C' : Addr} (h : OwnC K c C) (n : PySem.W.nsIn K mainGlobals (Str.ofString c) = some (some (.ref C'))) : C' = C := by
  have := h.nm; rw [n] at this; cases this; rfl
structure FldOk (K : PySem.W.Frag) (cs : List String) (f : Str) : Prop where
  at_ : ∀ c ∈ cs, ∃ C, OwnC K c C ∧ NoAttr K C f
theorem fld1 {K : PySem.W.Frag} {c : String} {C : Addr} {f : Str} (o : OwnC K c C) (n : NoAttr K C f) : FldOk K [c] f := ⟨fun d h => by
  cases List.mem_singleton.mp h; exact ⟨C, o, n⟩⟩
section
variable {X : Cx} {XE : XEt} {e o a : Expr} {es : List Expr} {pos apos p : Pos} {f m x : Str} {cs : List String} {g : FE}
def eFld (cs : List String) (f : Str) (g : FE) : FE := fun σ S => bnd (g σ S) fun x S1 => match x with
  | .mv c ns ds => if cs.contains c = true then (match fldD ns ds f with
    | some d => ret d S1
    | none => none) else none
  | _ => none
theorem de_fld (hk : FldOk (kw X) cs f) (ha : DE X XE a g) (hb : attributeBase a f X.env (eval a X.env) = eval a X.env := by rfl) : DE X XE (.Attribute a f pos) (eFld cs f g) :=
  .mk <| PE.mono (pe_fld ha.h hb) fun σV H Q ⟨ρ, S, σ, r, S', sm, re, e, p⟩ => seqE sm re e p fun v H1 ρ1 x rx ⟨S1, x1, s1, e1, p1⟩ => by
    cases rx with
    | @mv c y C dx ns ds vs h hl hn rs =>
      dsimp only at e1
      split at e1
      · rename_i hc
        split at e1
        · rename_i d hd
          cases e1
          obtain ⟨C', oc, na⟩ := hk.at_ c (List.contains_iff_mem.mp hc)
          cases oc.eq hn
          obtain ⟨w, h1, h2⟩ := fldD_ok rs hd
          exact ⟨_, _, _, _, w, rfl, h, oc.cl, na, h1, p1.here s1 w h2⟩
        · cases e1
      · cases e1
    | _ => cases e1
structure MethOk (X : Cx) (XE : XEt) (m : Str) (n : Nat) (tb : String → Option FB) : Prop where
  at_ : ∀ c F, tb c = some F → ∃ (C f : Addr) (fd : FuncData) (k : Nat) (ps : List Str) (CX : CXT) (cl : Cls) (E : XK), OwnC X.K c C ∧ Meth X.K C m f ∧
    FnOk X.prog X.w X.K X.mg X.base CX k f fd ps (spF (kw X) cl (n + 1) F) ∧ Room k X.A ∧ Binds X.K fd ps [] ∧ Passes CX X E ∧ ∀ c H, XE c H → xE cl E c H
def eMeth (m : Str) (n : Nat) (tb : String → Option FB) (o : FE) (g : FA) : FE := fun σ S => bnd (o σ S) fun x S1 => match x with
  | .mv c ns ds => if m ∈ ns then none else match tb c with
    | some F => bnd (g σ S1) fun xs S2 => if xs.length = n then F (.mv c ns ds :: xs) S2 else none
    | none => none
  | _ => none
theorem de_meth {n : Nat} {tb : String → Option FB} {h : FA} {pl : Sem Bool} (hm : MethOk X XE m n tb) (ho : DE X XE o g) (ha : DA X XE (e :: es) h)
    (hst : starEach (e :: es) X.env = (false, eval e X.env) :: starEach es X.env := by rfl) (hpl : (backTo pos (starEach es X.env)).any (·.1) = false := by rfl)
    (ht : eval (.Call (.Attribute o m apos) (e :: es) [] pos) X.env = (do
      let ov ← eval o X.env
      standAt apos.atName
      let (f, first) ← holding [ov] (getMethod ov m pl)
      callWith pos f first (backTo pos (starEach (e :: es) X.env)) (backToKw pos (keywordEach [] X.env))) := by rfl) :
    DE X XE (.Call (.Attribute o m apos) (e :: es) [] pos) (eMeth m n tb g h) := .mk fun pins s σV H Q I ⟨ρ, S, σ, r, S', sm, re, e0, p0⟩ => by
  refine PySem.W.methodCall_KW (pl := pl) (thn (ho.h pins s σV H (fun v H1 => ∃ ρ1 d, REnv (kw X) ρ1 H1 σ σV ∧ RD (kw X) ρ1 H1 d v ∧ Rest (kw X) XE (qE (kw X) Q) _ r S' ρ H ρ1 H1 d) I (seqE sm re e0 p0 fun v H1 ρ1 d rd z => ⟨ρ1, d, re.mono z.choose_spec.1.toEx0, rd, z⟩)) fun u s1 ⟨v, H1, I1, rv, ρ1, d, re1, rd, S1, x1, sm1, e1, p1⟩ => ?_) ht
  dsimp only at e1
  split at e1
  · rename_i c ns ds
    split at e1
    · cases e1
    · rename_i hnm
      split at e1
      · rename_i F hF
        cases rd with
        | @mv _ a C dx _ _ vs hH hl hn rs =>
          obtain rfl : u = Value.ref a := rv
          obtain ⟨C', f, fd, k, ps, CX, cl, E, oc, hmt, G, hr, hb, hx, hE⟩ := hm.at_ c F hF
          cases oc.eq hn
          refine getmeth_ok I1 hH oc.cl hmt (fldD_no hnm) ?_
          refine PySem.W.callWith_K (first := [.ref a]) (h₀ := X.base) I1.ok.mod.kin hmt.kp (thn (ha.h pos pins s1 σV H1 (fun us H2 => spF (kw X) cl (n + 1) F (.ref a :: (us ++ [])) H2 Q E) I1 (seqA sm1 re1 e1 p1 fun us H2 ρ2 xs rx ⟨S2, x2, s2, e2, p2⟩ => ?_)) fun us s2 ⟨ws, H2, I2, r2, q2⟩ => ⟨I2.kIn, ?_⟩) hst hpl
          · dsimp only at e2
            split at e2
            · rename_i hln
              refine ⟨by rw [List.append_nil, List.length_cons, ← rx.len, hln], ρ2, S2, D.mv c ns ds :: xs, r, S', s2, by rw [List.append_nil]; exact .cons ((RD.mv hH hl hn rs).mono x2.toEx0) rx, e2, fun H3 ρ3 x3 s3 => ?_⟩
              have z := p2 H3 ρ3 x3 s3
              cases r with
              | ok d => exact z
              | error c => exact hE c H3 z
            · cases e2
          · exact run_fn (us := .ref a :: us) (vs := .ref a :: ws) (dvs := []) (ds := []) G hr hb .nil hx I2 (.cons rfl r2) q2
      · cases e1
  · cases e1
theorem de_meth0 {tb : String → Option FB} {pl : Sem Bool} (hm : MethOk X XE m 0 tb) (ho : DE X XE o g)
    (ht : eval (.Call (.Attribute o m apos) [] [] pos) X.env = (do
      let ov ← eval o X.env
      standAt apos.atName
      let (f, first) ← holding [ov] (getMethod ov m pl)
      callWith pos f first (backTo pos (starEach [] X.env)) (backToKw pos (keywordEach [] X.env))) := by rfl) :
    DE X XE (.Call (.Attribute o m apos) [] [] pos) (eMeth m 0 tb g aNil) := .mk fun pins s σV H Q I ⟨ρ, S, σ, r, S', sm, re, e0, p0⟩ => by
  refine PySem.W.methodCall_KW (pl := pl) (thn (ho.h pins s σV H (fun v H1 => ∃ ρ1 d, RD (kw X) ρ1 H1 d v ∧ Rest (kw X) XE (qE (kw X) Q) _ r S' ρ H ρ1 H1 d) I (seqE sm re e0 p0 fun v H1 ρ1 d rd z => ⟨ρ1, d, rd, z⟩)) fun u s1 ⟨v, H1, I1, rv, ρ1, d, rd, S1, x1, sm1, e1, p1⟩ => ?_) ht
  dsimp only at e1
  split at e1
  · rename_i c ns ds
    split at e1
    · cases e1
    · rename_i hnm
      split at e1
      · rename_i F hF
        cases rd with
        | @mv _ a C dx _ _ vs hH hl hn rs =>
          obtain rfl : u = Value.ref a := rv
          obtain ⟨C', f, fd, k, ps, CX, cl, E, oc, hmt, G, hr, hb, hx, hE⟩ := hm.at_ c F hF
          cases oc.eq hn
          refine getmeth_ok I1 hH oc.cl hmt (fldD_no hnm) ?_
          refine PySem.W.callWith_K0 (first := [.ref a]) I1.kIn hmt.kp (run_fn (us := [.ref a]) (vs := [.ref a]) (dvs := []) (ds := []) G hr hb .nil hx I1 (.cons rfl .nil) ?_)
          refine ⟨rfl, ρ1, S1, [D.mv c ns ds], r, S', sm1, .cons (RD.mv hH hl hn rs) .nil, e1, fun H3 ρ3 x3 s3 => ?_⟩
          have z := p1 H3 ρ3 x3 s3
          cases r with
          | ok d => exact z
          | error c => exact hE c H3 z
      · cases e1
  · cases e1
theorem meth_ok {j k n : Nat} {tb : String → Option FB} {CX : CXT} {cl : Cls} {E : XK} (h : ∀ c F, tb c = some F → ∃ (C f : Addr) (fd : FuncData) (ps : List Str), OwnC X.K c C ∧ Meth X.K C m f ∧ FnOk X.prog X.w X.K X.mg X.base CX j f fd ps (spF (kw X) cl (n + 1) F) ∧ Binds X.K fd ps [])
    (hj : j ≤ k) (hr : Room k X.A) (hx : Passes CX X E) (hE : ∀ c H, XE c H → xE cl E c H) : MethOk X XE m n tb := ⟨fun c F q => by
  obtain ⟨C, f, fd, ps, h1, h2, h3, h4⟩ := h c F q
  exact ⟨C, f, fd, k, ps, CX, cl, E, h1, h2, h3.mono hj, hr, h4, hx, hE⟩⟩
def spI (C : Addr) (ns : List Str) : Sp := fun vs H Q _ => ∃ x dx ws, vs = .ref x :: ws ∧ ws.length = ns.length ∧ H x = some (.ins C dx []) ∧ Q .non (upd H x (.ins C dx (ns.zip ws)))
theorem upd_upd {H : Hp} {a : Addr} {o o' : HO} : upd (upd H a o) a o' = upd H a o' := by
  funext b
  by_cases h : b = a
  · subst h; rw [upd_same, upd_same]
  · rw [upd_ne h, upd_ne h, upd_ne h]
def eMk (c : String) (ns : List Str) (g : FA) : FE := fun σ S => bnd (g σ S) fun xs S1 => if xs.length = ns.length then ret (.mv c ns xs) S1 else none
theorem made_ok {K : KW} {ρ : List Addr} {S : Store} {H : Hp} {c : String} {ns : List Str} {xs : List D} {vs : List V} {C y dx : Addr} (sm : Sim K ρ S H) (rx : RDs K ρ H xs vs) (hl : xs.length = ns.length) (oc : PySem.W.nsIn K mainGlobals (Str.ofString c) = some (some (.ref C))) (hy : H y = none) (hd : H dx = none) (hne : dx ≠ y) :
    Ext ρ H ρ (upd (upd H dx (.own y)) y (.ins C dx (ns.zip vs))) ∧ Sim K ρ S (upd (upd H dx (.own y)) y (.ins C dx (ns.zip vs))) ∧ RD K ρ (upd (upd H dx (.own y)) y (.ins C dx (ns.zip vs))) (.mv c ns xs) (.ref y) := by
  have x1 : Ext ρ H ρ (upd H dx (.own y)) := ext_new0 hd
  have n2 : upd H dx (.own y) y = none := by rw [upd_ne (Ne.symm hne)]; exact hy
  have x2 : Ext ρ (upd H dx (.own y)) ρ (upd (upd H dx (.own y)) y (.ins C dx (ns.zip vs))) := ext_new0 n2
  exact ⟨x1.trans x2, (sm.tuple hd).tuple n2, .mv upd_same (by rw [← hl]; exact rx.len) oc (RDs.mono (x1.trans x2).toEx0 rx)⟩
theorem de_make {k : Nat} {C f : Addr} {fd : FuncData} {ps : List Str} {c : String} {ns : List Str} {g : FA} (oc : OwnC X.K c C) (M : Mk X.K C f) (F : FnOk X.prog X.w X.K X.mg X.base CX0 k f fd ps (spI C ns)) (hr : Room (k + 1) X.A) (hg : Gl X x) (hm : X.mg x = some (.ref C)) (hb : Binds X.K fd ps [])
    (ha : DA X XE (e :: es) g) (hdb : (x == ("__debug__" : Str)) = false := by decide) (he : starEach (e :: es) X.env = (false, eval e X.env) :: starEach es X.env := by rfl) (hpl : (backTo pos (starEach es X.env)).any (·.1) = false := by rfl) :
    DE X XE (.Call (.Name x p) (e :: es) [] pos) (eMk c ns g) :=
  .mk <| PE.mono (pe_make M F hr hg hm hb .nil pass0 ha.h hdb he hpl) fun σV H Q ⟨ρ, S, σ, r, S', sm, re, e0, p0⟩ => seqA sm re e0 p0 fun vs H1 ρ1 xs rx ⟨S1, x1, s1, e1, p1⟩ => by
    intro y dx hy hd hne
    dsimp only at e1
    split at e1
    · rename_i hl
      cases e1
      refine ⟨y, dx, vs ++ [], rfl, by rw [List.append_nil, ← rx.len]; exact hl, upd_same, rfl, ?_⟩
      rw [List.append_nil, upd_upd]
      obtain ⟨z1, z2, z3⟩ := made_ok (c := c) s1 rx hl oc.nm hy hd hne
      exact p1 _ _ z1 z2 _ z3
    · cases e1
structure Mk0 (K : PySem.W.Frag) (C : Addr) : Prop where
  makes : PySem.W.makesIn K C = true
  init : PySem.W.findIn K (.ref C) "__init__" = some (some (.builtin "object.__init__"))
  obj : PySem.W.mroIn K C (.type "object") = some true
  kp : PySem.W.keepIn K (.ref C) = true
theorem bind0 {M : Model} {h : Heap} (self : Value) : PySem.W.Looks M h (bindSpecial (.builtin "object.__init__") self) (.builtin "object.__init__", [self]) := PySem.W.Looks.of_pure (PySem.F.slot_object_init.bind self)
theorem run_make0 {C : Addr} {k : Nat} {pins : List (Addr × Obj)} {σ : St} {H : Hp} {s : Shared} {Q : VK} (M : Mk0 X.K C) (I : Inv X pins σ H s)
    (h : ∀ x dx, H x = none → H dx = none → dx ≠ x → Q (.ref x) (upd (upd H dx (.own x)) x (.ins C dx []))) : wpAny (model X.prog X.w) X.A (call (.ref C) []) (EP X pins σ Q) X.xe s := by
  have hq := h (s.heap.objs.size + 1) s.heap.objs.size (I.hok.fresh (Nat.le_succ _)) (I.hok.fresh (Nat.le_refl _)) (Nat.ne_of_lt (Nat.lt_succ_self _))
  have I2 := Inv.made (C := C) I
  obtain ⟨mA, O, _⟩ := ins_get I2.hok upd_same
  obtain ⟨od, J, _⟩ := O.look
  refine wpAny_call (make_map0 I.kIn M.makes M.init (fun self => bind0 self) ?_)
  have ho : PySem.W.Looks (model X.prog X.w) ((s.heap.push PySem.W.emptyDict).push (PySem.W.instObj C s.heap.objs.size)) (isInstance (.ref (s.heap.objs.size + 1)) (.type "object")) true := J.type.andThen (PySem.W.looks_mroIn I2.kIn M.obj)
  refine codeAny_call_builtin PySem.F.slot_object_init.plain PySem.F.entry_object_init ?_
  refine PySem.W.check_slot (i := "object.__init__") (owner := "object") (n := "__init__") (rest := []) (kw := []) (by decide +kernel) (by decide +kernel) ho (PySem.F.args_object_init_1 _) ?_
  exact wpAny_pure ⟨rfl, V.ref (s.heap.objs.size + 1), _, I2, rfl, hq⟩
theorem de_make0 {C : Addr} {c : String} (oc : OwnC X.K c C) (M : Mk0 X.K C) (hg : Gl X x) (hm : X.mg x = some (.ref C)) (hdb : (x == ("__debug__" : Str)) = false := by decide) :
    DE X XE (.Call (.Name x p) [] [] pos) (eMk c [] aNil) := .mk fun pins s σV H Q I ⟨ρ, S, σ, r, S', sm, re, e0, p0⟩ => by
  refine wpAny_Call_Name_kw (ld_glob I hg hm ?_ hdb)
  cases e0
  refine PySem.W.callWith_K0 I.kIn M.kp (run_make0 (k := 0) M I fun y dx hy hd hne => ?_)
  obtain ⟨z1, z2, z3⟩ := made_ok (c := c) (ns := []) (xs := []) (vs := []) sm .nil rfl oc.nm hy hd hne
  exact p0 _ _ z1 z2 _ z3
theorem init2 {K : PySem.W.Frag} {C : Addr} {f1 f2 nm1 nm2 nm3 : Str} {H : Hp} {Q : VK} {E : XK} {vs : List V} (c : L2.Cls K C) (n1 : NoAttr K C f1) (n2 : NoAttr K C f2) (hne : f1 ≠ f2) (h : spI C [f1, f2] vs H Q E) :
    tSeq (sFld K (tVar 0) (tVar 1) f1) (sFld K (tVar 0) (tVar 2) f2) { nx := fun _ H' => Q .non H', rt := Q } (start [nm1, nm2, nm3] vs) H := by
  obtain ⟨x, dx, ws, rfl, hl, hx, q⟩ := h
  match ws, hl with
  | [v1, v2], _ =>
    refine ⟨v1, rfl, .ref x, rfl, x, C, dx, [], rfl, hx, c, n1, by decide, v2, rfl, .ref x, rfl, x, C, dx, _, rfl, upd_same, c, n2, by show 1 < 1000; decide, ?_⟩
    show Q .non _
    rw [upd_upd]
    have e : putF f2 v2 (putF f1 v1 []) = [f1, f2].zip [v1, v2] := by
      show (if f1 = f2 then _ else _) = _
      rw [if_neg hne]; rfl
    rw [e]; exact q
structure InsOk (K : PySem.W.Frag) (c : String) (C : Addr) : Prop where
  oc : OwnC K c C
  ha : PySem.W.findIn K (.ref C) "__class__" = some (some (.builtin "object.__class__"))
  hn : PySem.W.specialIn K (.builtin "object.__class__") "__get__" = some (some (.builtin "getset_descriptor.__get__"))
  htk : PySem.W.takesIn K (.builtin "object.__class__") = some true
  hm : PySem.W.mroIn K C (.type "object") = some true
def rIsm (K : PySem.W.Frag) : List V → Hp → VK → Prop := fun xs H Q => ∃ a C D b, TyOf K H (.ref a) (.ref C) ∧ xs = [.ref a, .ref D] ∧ PySem.W.kitOne K (.ref C) (.ref D) = some b ∧ Q (.bl b) H
theorem cr_ism : CallR X (.builtin "isinstance") (rIsm X.K) := by
  intro pins s σ H xs us Q I r h
  obtain ⟨a, C, D, b, ty, rfl, hk, q⟩ := h
  obtain ⟨u, c, rfl, rx, rc⟩ := vals2 r
  cases (show c = Value.ref D from rc)
  exact isinst_ok I rx ty hk fun tk => ⟨.bl b, H, I.tok tk, rfl, q⟩
def bIsm (cs : List String) (d : String) : FB0 := fun ds S => match ds with
  | [.mv c _ _, .cls e] => if cs.contains c = true ∧ e = d then some (.bl true, S) else none
  | _ => none
structure IsmOk (K : PySem.W.Frag) (cs : List String) (d : String) : Prop where
  at_ : ∀ c ∈ cs, ∃ C D, InsOk K c C ∧ PySem.W.nsIn K mainGlobals (Str.ofString d) = some (some (.ref D)) ∧ PySem.W.kitOne K (.ref C) (.ref D) = some true
theorem snd_ism {K : KW} {d : String} (h : IsmOk K cs d) : SndB K (rIsm K) (bIsm cs d) := fun ρ S H ds us r S' Q s rs e k => by
  unfold bIsm at e
  split at e
  · rename_i c ns fs e'
    split at e
    · rename_i hc
      obtain ⟨hc, rfl⟩ := hc
      cases e
      cases rs with | cons h1 t => cases t with | cons h2 t2 =>
      cases t2
      cases h1 with | mv hH hl hn rr =>
      cases h2 with | cls hd =>
      obtain ⟨C, D, io, nd, kt⟩ := h.at_ c (List.contains_iff_mem.mp hc)
      cases io.oc.eq hn
      rw [nd] at hd; cases hd
      exact ⟨_, _, _, _, .ins hH io.oc.cl io.ha io.hn io.htk io.hm, rfl, kt, k _ _ _ (Ext.refl _ _) s (.bl true)⟩
    · cases e
  · cases e
end
end Mir

namespace K62
open PySem L2 Mir
def top (i : Nat) : Stmt := PySem.Challenge.pw_floortwos_k62_moves_of_cells.main.body.getD i (.Pass ⟨0, 0, 0, 0⟩)
def sub (i j : Nat) : Stmt := match top i with
  | .ClassDef _ _ _ b _ _ _ _ _ _ _ => b.getD j (.Pass ⟨0, 0, 0, 0⟩)
  | s => s
abbrev s_Shift___init__ : Stmt := sub 3 0
abbrev s_Chain___init__ : Stmt := sub 7 0
abbrev s_Move_on_cell : Stmt := sub 2 0
abbrev s_Shift_on_cell : Stmt := sub 3 1
abbrev s_Quarter_on_cell : Stmt := sub 4 0
abbrev s_QuarterBack_on_cell : Stmt := sub 5 0
abbrev s_Mirror_on_cell : Stmt := sub 6 0
abbrev s_Chain_on_cell : Stmt := sub 7 1
abbrev s__law_whole : Stmt := top 10
abbrev s__law_is_cell : Stmt := top 14
abbrev s__law_there : Stmt := top 15
abbrev s__law_far : Stmt := top 11
abbrev s__law_move : Stmt := top 12
abbrev s__law_to : Stmt := top 13
abbrev s_Move_back : Stmt := sub 2 3
abbrev s_Shift_back : Stmt := sub 3 4
abbrev s_Quarter_back : Stmt := sub 4 3
abbrev s_QuarterBack_back : Stmt := sub 5 3
abbrev s_Mirror_back : Stmt := sub 6 3
abbrev s_Chain_back : Stmt := sub 7 4
abbrev s__law_back : Stmt := top 16
abbrev s__law_chained : Stmt := top 17
abbrev s__law_cell_at : Stmt := top 9
abbrev s_law : Stmt := top 18
def mCs_Move : List String := ["Shift", "Chain", "Move", "Quarter", "Mirror", "QuarterBack"]
def b_Move_on_cell : FS := (sSeq (sAsg (eVar 1) (gT 2 (gsCons (gN 2) (gsCons (gN 3) gsNil))))
    (sRet (eTup (aCons (eVar 2) (aCons (eVar 3) aNil)))))
def F_Move_on_cell : FB := mk 4 b_Move_on_cell
def b_Shift_on_cell : FS := (sSeq (sAsg (eVar 1) (gT 2 (gsCons (gN 2) (gsCons (gN 3) gsNil))))
    (sRet (eTup (aCons (e2 fAddR (eVar 2) (eFld ["Shift"] "down" (eVar 0))) (aCons (e2 fAddR (eVar 3) (eFld ["Shift"] "right" (eVar 0))) aNil)))))
def F_Shift_on_cell : FB := mk 4 b_Shift_on_cell
def b_Quarter_on_cell : FS := (sSeq (sAsg (eVar 1) (gT 2 (gsCons (gN 2) (gsCons (gN 3) gsNil))))
    (sRet (eTup (aCons (eVar 3) (aCons (eNeg (eVar 2)) aNil)))))
def F_Quarter_on_cell : FB := mk 4 b_Quarter_on_cell
def b_QuarterBack_on_cell : FS := (sSeq (sAsg (eVar 1) (gT 2 (gsCons (gN 2) (gsCons (gN 3) gsNil))))
    (sRet (eTup (aCons (eNeg (eVar 3)) (aCons (eVar 2) aNil)))))
def F_QuarterBack_on_cell : FB := mk 4 b_QuarterBack_on_cell
def b_Mirror_on_cell : FS := (sSeq (sAsg (eVar 1) (gT 2 (gsCons (gN 2) (gsCons (gN 3) gsNil))))
    (sRet (eTup (aCons (eVar 2) (aCons (eNeg (eVar 3)) aNil)))))
def F_Mirror_on_cell : FB := mk 4 b_Mirror_on_cell
def b_Chain_on_cell (tb : String → Option FB) : FS := (sRet (eMeth "on_cell" 1 tb (eFld ["Chain"] "second" (eVar 0)) (aCons (eMeth "on_cell" 1 tb (eFld ["Chain"] "first" (eVar 0)) (aCons (eVar 1) aNil)) aNil)))
def F_Chain_on_cell (tb : String → Option FB) : FB := mk 2 (b_Chain_on_cell tb)
def tb_on_cell : Nat → String → Option FB
  | 0, _ => none
  | n + 1, c => if c = "Move" then some F_Move_on_cell else if c = "Shift" then some F_Shift_on_cell else if c = "Quarter" then some F_Quarter_on_cell else if c = "QuarterBack" then some F_QuarterBack_on_cell else if c = "Mirror" then some F_Mirror_on_cell else if c = "Chain" then some (F_Chain_on_cell (tb_on_cell n)) else none
def b__law_whole : FS := (sRet (eAnd (eB bIsi (aCons (eVar 0) (aCons (eC (.ty .int)) aNil))) (eNot (eB bIsi (aCons (eVar 0) (aCons (eC (.ty .bl)) aNil))))))
def F__law_whole : FB := mk 1 b__law_whole
def b__law_is_cell : FS := (sSeq (sIf (tOrr (tNo (tBl (eB bIsi (aCons (eVar 0) (aCons (eC (.ty .tup)) aNil))))) (tBl (e2 fNe (eB bLenA (aCons (eVar 0) aNil)) (eC (.int 2))))) (sRet (eC (.bl false))) sNil)
    (sRet (eAnd (eF (arity 1 F__law_whole) (aCons (e2 fIxA (eVar 0) (eC (.int 0))) aNil)) (eF (arity 1 F__law_whole) (aCons (e2 fIxA (eVar 0) (eC (.int 1))) aNil)))))
def F__law_is_cell : FB := mk 1 b__law_is_cell
def b__law_there : FS := (sSeq (sIf (tNo (tBl (eB (bIsm mCs_Move "Move") (aCons (eVar 0) (aCons (eC (.cls "Move")) aNil))))) (sRet (eC (.bl false))) sNil)
    (sSeq (sAsg (eMeth "on_cell" 1 (tb_on_cell 64) (eVar 0) (aCons (eVar 1) aNil)) (gN 3))
    (sRet (eAnd (eF (arity 1 F__law_is_cell) (aCons (eVar 3) aNil)) (e2 fEq (eVar 3) (eVar 2))))))
def F__law_there : FB := mk 4 b__law_there
def b__law_far : FS := (sSeq (sIf (tBl (e2 fEq (e2 fMod (eVar 0) (eC (.int 3))) (eC (.int 1)))) (sRet (e2 fSub (e2 fMod (e2 fDiv (eVar 0) (eC (.int 3))) (e2 fAddR (e2 fMul (eC (.int 2)) (e2 fPow (eC (.int 10)) (eC (.int 18)))) (eC (.int 1)))) (e2 fPow (eC (.int 10)) (eC (.int 18))))) sNil)
    (sRet (e2 fSub (e2 fMod (e2 fDiv (eVar 0) (eC (.int 3))) (eC (.int 9))) (eC (.int 4)))))
def F__law_far : FB := mk 1 b__law_far
def b__law_move : FS := (sSeq (sAsg (e2 fMod (eVar 0) (eC (.int 6))) (gN 1))
    (sSeq (sIf (tBl (e2 fEq (eVar 1) (eC (.int 1)))) (sRet (eMk "Quarter" [] aNil)) sNil)
    (sSeq (sIf (tBl (e2 fEq (eVar 1) (eC (.int 2)))) (sRet (eMk "Mirror" [] aNil)) sNil)
    (sSeq (sIf (tBl (e2 fEq (eVar 1) (eC (.int 3)))) (sRet (eMk "Shift" ["down", "right"] (aCons (eF (arity 1 F__law_far) (aCons (e2 fDiv (eVar 0) (eC (.int 6))) aNil)) (aCons (eF (arity 1 F__law_far) (aCons (e2 fDiv (eVar 0) (eC (.int 42))) aNil)) aNil)))) sNil)
    (sSeq (sIf (tBl (e2 fEq (eVar 1) (eC (.int 4)))) (sRet (eMk "Chain" ["first", "second"] (aCons (eMk "Quarter" [] aNil) (aCons (eMk "Mirror" [] aNil) aNil)))) sNil)
    (sSeq (sIf (tBl (e2 fEq (eVar 1) (eC (.int 5)))) (sRet (eMk "Chain" ["first", "second"] (aCons (eMk "Shift" ["down", "right"] (aCons (eF (arity 1 F__law_far) (aCons (e2 fDiv (eVar 0) (eC (.int 6))) aNil)) (aCons (eC (.int 1)) aNil))) (aCons (eMk "Quarter" [] aNil) aNil)))) sNil)
    (sRet (eMk "Move" [] aNil))))))))
def F__law_move : FB := mk 2 b__law_move
def b__law_to : FS := (sSeq (sAsg (e2 fMod (eVar 0) (eC (.int 6))) (gN 2))
    (sSeq (sAsg (eVar 1) (gT 2 (gsCons (gN 3) (gsCons (gN 4) gsNil))))
    (sSeq (sIf (tBl (e2 fEq (eVar 2) (eC (.int 1)))) (sRet (eTup (aCons (eVar 4) (aCons (e2 fSub (eC (.int 0)) (eVar 3)) aNil)))) sNil)
    (sSeq (sIf (tBl (e2 fEq (eVar 2) (eC (.int 2)))) (sRet (eTup (aCons (eVar 3) (aCons (e2 fSub (eC (.int 0)) (eVar 4)) aNil)))) sNil)
    (sSeq (sIf (tBl (e2 fEq (eVar 2) (eC (.int 3)))) (sRet (eTup (aCons (e2 fAddR (eVar 3) (eF (arity 1 F__law_far) (aCons (e2 fDiv (eVar 0) (eC (.int 6))) aNil))) (aCons (e2 fAddR (eVar 4) (eF (arity 1 F__law_far) (aCons (e2 fDiv (eVar 0) (eC (.int 42))) aNil))) aNil)))) sNil)
    (sSeq (sIf (tBl (e2 fEq (eVar 2) (eC (.int 4)))) (sRet (eTup (aCons (eVar 4) (aCons (eVar 3) aNil)))) sNil)
    (sSeq (sIf (tBl (e2 fEq (eVar 2) (eC (.int 5)))) (sRet (eTup (aCons (e2 fAddR (eVar 4) (eC (.int 1))) (aCons (e2 fSub (e2 fSub (eC (.int 0)) (eVar 3)) (eF (arity 1 F__law_far) (aCons (e2 fDiv (eVar 0) (eC (.int 6))) aNil))) aNil)))) sNil)
    (sRet (eVar 1)))))))))
def F__law_to : FB := mk 5 b__law_to
def b_Move_back : FS := (sRet (eMk "Move" [] aNil))
def F_Move_back : FB := mk 1 b_Move_back
def b_Shift_back : FS := (sRet (eMk "Shift" ["down", "right"] (aCons (eNeg (eFld ["Shift"] "down" (eVar 0))) (aCons (eNeg (eFld ["Shift"] "right" (eVar 0))) aNil))))
def F_Shift_back : FB := mk 1 b_Shift_back
def b_Quarter_back : FS := (sRet (eMk "QuarterBack" [] aNil))
def F_Quarter_back : FB := mk 1 b_Quarter_back
def b_QuarterBack_back : FS := (sRet (eMk "Quarter" [] aNil))
def F_QuarterBack_back : FB := mk 1 b_QuarterBack_back
def b_Mirror_back : FS := (sRet (eMk "Mirror" [] aNil))
def F_Mirror_back : FB := mk 1 b_Mirror_back
def b_Chain_back (tb : String → Option FB) : FS := (sRet (eMk "Chain" ["first", "second"] (aCons (eMeth "back" 0 tb (eFld ["Chain"] "second" (eVar 0)) aNil) (aCons (eMeth "back" 0 tb (eFld ["Chain"] "first" (eVar 0)) aNil) aNil))))
def F_Chain_back (tb : String → Option FB) : FB := mk 1 (b_Chain_back tb)
def tb_back : Nat → String → Option FB
  | 0, _ => none
  | n + 1, c => if c = "Move" then some F_Move_back else if c = "Shift" then some F_Shift_back else if c = "Quarter" then some F_Quarter_back else if c = "QuarterBack" then some F_QuarterBack_back else if c = "Mirror" then some F_Mirror_back else if c = "Chain" then some (F_Chain_back (tb_back n)) else none
def b__law_back : FS := (sSeq (sAsg (eMeth "back" 0 (tb_back 64) (eVar 0) aNil) (gN 3))
    (sSeq (sIf (tOrr (tNo (tBl (eF (arity 3 F__law_there) (aCons (eVar 3) (aCons (eVar 2) (aCons (eVar 1) aNil)))))) (tNo (tBl (eF (arity 3 F__law_there) (aCons (eMeth "back" 0 (tb_back 64) (eVar 3) aNil) (aCons (eVar 1) (aCons (eVar 2) aNil))))))) (sRet (eC (.bl false))) sNil)
    (sRet (eAnd (e2 fEq (eMeth "on_cell" 1 (tb_on_cell 64) (eVar 0) (aCons (eMeth "on_cell" 1 (tb_on_cell 64) (eVar 3) (aCons (eVar 1) aNil)) aNil)) (eVar 1)) (e2 fEq (eMeth "on_cell" 1 (tb_on_cell 64) (eVar 3) (aCons (eMeth "on_cell" 1 (tb_on_cell 64) (eVar 0) (aCons (eVar 2) aNil)) aNil)) (eVar 2))))))
def F__law_back : FB := mk 4 b__law_back
def I__law_chained_1 : FI := (iL (eVar 3))
def B__law_chained_1 : FS := (sAsg (eF (arity 2 F__law_to) (aCons (eVar 4) (aCons (eVar 6) aNil))) (gN 6))
def L__law_chained_1 : FS := sFor I__law_chained_1 (gN 4) B__law_chained_1
def I__law_chained_2 : FI := (iL (eSl (eVar 0) (oSome (eC (.int 1))) oNone))
def B__law_chained_2 : FS := (sSeq (sAsg (eF (arity 1 F__law_move) (aCons (eVar 4) aNil)) (gN 5))
    (sIf (tBl (e2 fEq (e2 fMod (e2 fDiv (eVar 4) (eC (.int 7))) (eC (.int 2))) (eC (.int 0)))) (sSeq (sAsg (eMk "Chain" ["first", "second"] (aCons (eVar 2) (aCons (eVar 5) aNil))) (gN 2))
    (sAsg (e2 fAddR (eVar 3) (eLst (aCons (eVar 4) aNil))) (gN 3))) (sSeq (sAsg (eMk "Chain" ["first", "second"] (aCons (eVar 5) (aCons (eVar 2) aNil))) (gN 2))
    (sAsg (e2 fAddR (eLst (aCons (eVar 4) aNil)) (eVar 3)) (gN 3)))))
def L__law_chained_2 : FS := sFor I__law_chained_2 (gN 4) B__law_chained_2
def b__law_chained : FS := (sSeq (sAsg (eF (arity 1 F__law_move) (aCons (e2 fIxA (eVar 0) (eC (.int 0))) aNil)) (gN 2))
    (sSeq (sAsg (eLst (aCons (e2 fIxA (eVar 0) (eC (.int 0))) aNil)) (gN 3))
    (sSeq L__law_chained_2
    (sSeq (sAsg (eVar 1) (gN 6))
    (sSeq L__law_chained_1
    (sSeq (sIf (tOrr (tNo (tBl (eF (arity 3 F__law_there) (aCons (eVar 2) (aCons (eVar 1) (aCons (eVar 6) aNil)))))) (tNo (tBl (eF (arity 3 F__law_back) (aCons (eVar 2) (aCons (eVar 1) (aCons (eVar 6) aNil))))))) (sRet (eC (.bl false))) sNil)
    (sRet (eF (arity 3 F__law_there) (aCons (eVar 2) (aCons (eVar 1) (aCons (eVar 6) aNil)))))))))))
def F__law_chained : FB := mk 7 b__law_chained
def b__law_cell_at : FS := (sSeq (sIf (tBl (e2 fLtA (eVar 1) (eB bLenA (aCons (eVar 0) aNil)))) (sRet (e2 fIxA (eVar 0) (eVar 1))) sNil)
    (sRet (eC (.int 0))))
def F__law_cell_at : FB := mk 2 b__law_cell_at
def I_law_1 : FI := (iR1 (aCons (eC (.int 59)) aNil))
def B_law_1 : FS := (sSeq (sAsg (e2 fMod (e2 fAddR (e2 fMod (eF (arity 2 F__law_cell_at) (aCons (eVar 0) (aCons (eC (.int 2)) aNil))) (eC (.int 2))) (e2 fMul (eVar 6) (e2 fMod (eF (arity 2 F__law_cell_at) (aCons (eVar 0) (aCons (eC (.int 3)) aNil))) (eC (.int 2))))) (eC (.int 2))) (gN 7))
    (sAsg (e2 fIxA (eLst (aCons (eMk "Chain" ["first", "second"] (aCons (eVar 5) (aCons (eMk "Shift" ["down", "right"] (aCons (eC (.int 1)) (aCons (eC (.int 0)) aNil))) aNil))) (aCons (eMk "Chain" ["first", "second"] (aCons (eMk "Shift" ["down", "right"] (aCons (eC (.int 1)) (aCons (eC (.int 0)) aNil))) (aCons (eVar 5) aNil))) aNil))) (eVar 7)) (gN 5)))
def L_law_1 : FS := sFor I_law_1 (gN 6) B_law_1
def I_law_2 : FI := (iL (eVar 3))
def B_law_2 : FS := (sSeq (sIf (tNo (tBl (eF (arity 3 F__law_there) (aCons (eF (arity 1 F__law_move) (aCons (eVar 4) aNil)) (aCons (eVar 2) (aCons (eF (arity 2 F__law_to) (aCons (eVar 4) (aCons (eVar 2) aNil))) aNil)))))) (sRet (eC (.bl false))) sNil)
    (sIf (tNo (tBl (eF (arity 3 F__law_back) (aCons (eF (arity 1 F__law_move) (aCons (eVar 4) aNil)) (aCons (eVar 2) (aCons (eF (arity 2 F__law_to) (aCons (eVar 4) (aCons (eVar 2) aNil))) aNil)))))) (sRet (eC (.bl false))) sNil))
def L_law_2 : FS := sFor I_law_2 (gN 4) B_law_2
def b_law : FS := (sSeq (sAsg (e2 fAddR (e2 fMul (eC (.int 2)) (e2 fPow (eC (.int 10)) (eC (.int 57)))) (eC (.int 1))) (gN 1))
    (sSeq (sAsg (eTup (aCons (e2 fSub (e2 fMod (eF (arity 2 F__law_cell_at) (aCons (eVar 0) (aCons (eC (.int 0)) aNil))) (eVar 1)) (e2 fPow (eC (.int 10)) (eC (.int 57)))) (aCons (e2 fSub (e2 fMod (eF (arity 2 F__law_cell_at) (aCons (eVar 0) (aCons (eC (.int 1)) aNil))) (eVar 1)) (e2 fPow (eC (.int 10)) (eC (.int 57)))) aNil))) (gN 2))
    (sSeq (sAsg (eSl (e2 fAddR (eVar 0) (eLst (aCons (eC (.int 1)) (aCons (eC (.int 2)) (aCons (eC (.int 3)) aNil))))) (oSome (eC (.int 2))) (oSome (eC (.int 22)))) (gN 3))
    (sSeq L_law_2
    (sSeq (sAsg (eMk "Shift" ["down", "right"] (aCons (eC (.int 1)) (aCons (eC (.int 0)) aNil))) (gN 5))
    (sSeq L_law_1
    (sSeq (sAsg (eTup (aCons (e2 fAddR (e2 fIxA (eVar 2) (eC (.int 0))) (eC (.int 60))) (aCons (e2 fIxA (eVar 2) (eC (.int 1))) aNil))) (gN 8))
    (sSeq (sIf (tOrr (tNo (tBl (eF (arity 3 F__law_there) (aCons (eVar 5) (aCons (eVar 2) (aCons (eVar 8) aNil)))))) (tNo (tBl (eF (arity 3 F__law_back) (aCons (eVar 5) (aCons (eVar 2) (aCons (eVar 8) aNil))))))) (sRet (eC (.bl false))) sNil)
    (sSeq (sAsg (eMk "Chain" ["first", "second"] (aCons (eMk "Chain" ["first", "second"] (aCons (eMk "Quarter" [] aNil) (aCons (eMk "Quarter" [] aNil) aNil))) (aCons (eMk "Chain" ["first", "second"] (aCons (eMk "Quarter" [] aNil) (aCons (eMk "Quarter" [] aNil) aNil))) aNil))) (gN 9))
    (sRet (eAnd (eF (arity 3 F__law_there) (aCons (eVar 9) (aCons (eVar 2) (aCons (eVar 2) aNil)))) (eAnd (eF (arity 3 F__law_there) (aCons (eMk "Move" [] aNil) (aCons (eVar 2) (aCons (eVar 2) aNil)))) (eF (arity 2 F__law_chained) (aCons (eVar 3) (aCons (eVar 2) aNil)))))))))))))))
def F_law : FB := mk 10 b_law
structure Adr where
  (a_Shift___init__ a_Chain___init__ a_Move_on_cell a_Shift_on_cell a_Quarter_on_cell a_QuarterBack_on_cell a_Mirror_on_cell a_Chain_on_cell a__law_whole a__law_is_cell a__law_there a__law_far a__law_move a__law_to a_Move_back a_Shift_back a_Quarter_back a_QuarterBack_back a_Mirror_back a_Chain_back a__law_back a__law_chained a__law_cell_at a_law c_Shift c_Chain c_Move c_Quarter c_Mirror c_QuarterBack : Addr)
def clOf (Ad : Adr) : Cls := fun c => none
structure Fds where
  (d_Shift___init__ d_Chain___init__ d_Move_on_cell d_Shift_on_cell d_Quarter_on_cell d_QuarterBack_on_cell d_Mirror_on_cell d_Chain_on_cell d__law_whole d__law_is_cell d__law_there d__law_far d__law_move d__law_to d_Move_back d_Shift_back d_Quarter_back d_QuarterBack_back d_Mirror_back d_Chain_back d__law_back d__law_chained d__law_cell_at d_law : FuncData)
structure Txt (K : PySem.W.Frag) (mg : Str → Option Value) (Ad : Adr) (Fd : Fds) : Prop where
  n_bool : mg "bool" = none
  n_isinstance : mg "isinstance" = none
  n_int : mg "int" = none
  n_len : mg "len" = none
  n_tuple : mg "tuple" = none
  n_range : mg "range" = none
  oc_Shift : OwnC K "Shift" Ad.c_Shift
  mk_Shift : Mk K Ad.c_Shift Ad.a_Shift___init__
  oc_Chain : OwnC K "Chain" Ad.c_Chain
  mk_Chain : Mk K Ad.c_Chain Ad.a_Chain___init__
  oc_Move : OwnC K "Move" Ad.c_Move
  mk_Move : Mk0 K Ad.c_Move
  oc_Quarter : OwnC K "Quarter" Ad.c_Quarter
  mk_Quarter : Mk0 K Ad.c_Quarter
  oc_Mirror : OwnC K "Mirror" Ad.c_Mirror
  mk_Mirror : Mk0 K Ad.c_Mirror
  oc_QuarterBack : OwnC K "QuarterBack" Ad.c_QuarterBack
  mk_QuarterBack : Mk0 K Ad.c_QuarterBack
  na_Shift_down : NoAttr K Ad.c_Shift "down"
  na_Shift_right : NoAttr K Ad.c_Shift "right"
  na_Chain_first : NoAttr K Ad.c_Chain "first"
  na_Chain_second : NoAttr K Ad.c_Chain "second"
  ism_Move : IsmOk K mCs_Move "Move"
  me_Shift___init__ : Meth K Ad.c_Shift "__init__" Ad.a_Shift___init__
  f_Shift___init__ : Fun K "__init__" "Shift.__init__" s_Shift___init__ Ad.a_Shift___init__ Fd.d_Shift___init__
  b_Shift___init__ : Binds K Fd.d_Shift___init__ ["self", "down", "right"] []
  me_Chain___init__ : Meth K Ad.c_Chain "__init__" Ad.a_Chain___init__
  f_Chain___init__ : Fun K "__init__" "Chain.__init__" s_Chain___init__ Ad.a_Chain___init__ Fd.d_Chain___init__
  b_Chain___init__ : Binds K Fd.d_Chain___init__ ["self", "first", "second"] []
  me_Move_on_cell : Meth K Ad.c_Move "on_cell" Ad.a_Move_on_cell
  f_Move_on_cell : Fun K "on_cell" "Move.on_cell" s_Move_on_cell Ad.a_Move_on_cell Fd.d_Move_on_cell
  b_Move_on_cell : Binds K Fd.d_Move_on_cell ["self", "cell"] []
  me_Shift_on_cell : Meth K Ad.c_Shift "on_cell" Ad.a_Shift_on_cell
  f_Shift_on_cell : Fun K "on_cell" "Shift.on_cell" s_Shift_on_cell Ad.a_Shift_on_cell Fd.d_Shift_on_cell
  b_Shift_on_cell : Binds K Fd.d_Shift_on_cell ["self", "cell"] []
  me_Quarter_on_cell : Meth K Ad.c_Quarter "on_cell" Ad.a_Quarter_on_cell
  f_Quarter_on_cell : Fun K "on_cell" "Quarter.on_cell" s_Quarter_on_cell Ad.a_Quarter_on_cell Fd.d_Quarter_on_cell
  b_Quarter_on_cell : Binds K Fd.d_Quarter_on_cell ["self", "cell"] []
  me_QuarterBack_on_cell : Meth K Ad.c_QuarterBack "on_cell" Ad.a_QuarterBack_on_cell
  f_QuarterBack_on_cell : Fun K "on_cell" "QuarterBack.on_cell" s_QuarterBack_on_cell Ad.a_QuarterBack_on_cell Fd.d_QuarterBack_on_cell
  b_QuarterBack_on_cell : Binds K Fd.d_QuarterBack_on_cell ["self", "cell"] []
  me_Mirror_on_cell : Meth K Ad.c_Mirror "on_cell" Ad.a_Mirror_on_cell
  f_Mirror_on_cell : Fun K "on_cell" "Mirror.on_cell" s_Mirror_on_cell Ad.a_Mirror_on_cell Fd.d_Mirror_on_cell
  b_Mirror_on_cell : Binds K Fd.d_Mirror_on_cell ["self", "cell"] []
  me_Chain_on_cell : Meth K Ad.c_Chain "on_cell" Ad.a_Chain_on_cell
  f_Chain_on_cell : Fun K "on_cell" "Chain.on_cell" s_Chain_on_cell Ad.a_Chain_on_cell Fd.d_Chain_on_cell
  b_Chain_on_cell : Binds K Fd.d_Chain_on_cell ["self", "cell"] []
  m__law_whole : mg "_law_whole" = some (.ref Ad.a__law_whole)
  f__law_whole : Fun K "_law_whole" "_law_whole" s__law_whole Ad.a__law_whole Fd.d__law_whole
  b__law_whole : Binds K Fd.d__law_whole ["_law_found"] []
  m__law_is_cell : mg "_law_is_cell" = some (.ref Ad.a__law_is_cell)
  f__law_is_cell : Fun K "_law_is_cell" "_law_is_cell" s__law_is_cell Ad.a__law_is_cell Fd.d__law_is_cell
  b__law_is_cell : Binds K Fd.d__law_is_cell ["_law_found"] []
  m__law_there : mg "_law_there" = some (.ref Ad.a__law_there)
  f__law_there : Fun K "_law_there" "_law_there" s__law_there Ad.a__law_there Fd.d__law_there
  b__law_there : Binds K Fd.d__law_there ["_law_move_here", "_law_spot", "_law_due"] []
  m__law_far : mg "_law_far" = some (.ref Ad.a__law_far)
  f__law_far : Fun K "_law_far" "_law_far" s__law_far Ad.a__law_far Fd.d__law_far
  b__law_far : Binds K Fd.d__law_far ["_law_cell"] []
  m__law_move : mg "_law_move" = some (.ref Ad.a__law_move)
  f__law_move : Fun K "_law_move" "_law_move" s__law_move Ad.a__law_move Fd.d__law_move
  b__law_move : Binds K Fd.d__law_move ["_law_cell"] []
  m__law_to : mg "_law_to" = some (.ref Ad.a__law_to)
  f__law_to : Fun K "_law_to" "_law_to" s__law_to Ad.a__law_to Fd.d__law_to
  b__law_to : Binds K Fd.d__law_to ["_law_cell", "_law_spot"] []
  me_Move_back : Meth K Ad.c_Move "back" Ad.a_Move_back
  f_Move_back : Fun K "back" "Move.back" s_Move_back Ad.a_Move_back Fd.d_Move_back
  b_Move_back : Binds K Fd.d_Move_back ["self"] []
  me_Shift_back : Meth K Ad.c_Shift "back" Ad.a_Shift_back
  f_Shift_back : Fun K "back" "Shift.back" s_Shift_back Ad.a_Shift_back Fd.d_Shift_back
  b_Shift_back : Binds K Fd.d_Shift_back ["self"] []
  me_Quarter_back : Meth K Ad.c_Quarter "back" Ad.a_Quarter_back
  f_Quarter_back : Fun K "back" "Quarter.back" s_Quarter_back Ad.a_Quarter_back Fd.d_Quarter_back
  b_Quarter_back : Binds K Fd.d_Quarter_back ["self"] []
  me_QuarterBack_back : Meth K Ad.c_QuarterBack "back" Ad.a_QuarterBack_back
  f_QuarterBack_back : Fun K "back" "QuarterBack.back" s_QuarterBack_back Ad.a_QuarterBack_back Fd.d_QuarterBack_back
  b_QuarterBack_back : Binds K Fd.d_QuarterBack_back ["self"] []
  me_Mirror_back : Meth K Ad.c_Mirror "back" Ad.a_Mirror_back
  f_Mirror_back : Fun K "back" "Mirror.back" s_Mirror_back Ad.a_Mirror_back Fd.d_Mirror_back
  b_Mirror_back : Binds K Fd.d_Mirror_back ["self"] []
  me_Chain_back : Meth K Ad.c_Chain "back" Ad.a_Chain_back
  f_Chain_back : Fun K "back" "Chain.back" s_Chain_back Ad.a_Chain_back Fd.d_Chain_back
  b_Chain_back : Binds K Fd.d_Chain_back ["self"] []
  m__law_back : mg "_law_back" = some (.ref Ad.a__law_back)
  f__law_back : Fun K "_law_back" "_law_back" s__law_back Ad.a__law_back Fd.d__law_back
  b__law_back : Binds K Fd.d__law_back ["_law_move_here", "_law_spot", "_law_due"] []
  m__law_chained : mg "_law_chained" = some (.ref Ad.a__law_chained)
  f__law_chained : Fun K "_law_chained" "_law_chained" s__law_chained Ad.a__law_chained Fd.d__law_chained
  b__law_chained : Binds K Fd.d__law_chained ["_law_cells", "_law_spot"] []
  m__law_cell_at : mg "_law_cell_at" = some (.ref Ad.a__law_cell_at)
  f__law_cell_at : Fun K "_law_cell_at" "_law_cell_at" s__law_cell_at Ad.a__law_cell_at Fd.d__law_cell_at
  b__law_cell_at : Binds K Fd.d__law_cell_at ["_law_script", "_law_k"] []
  m_law : mg "law" = some (.ref Ad.a_law)
  f_law : Fun K "law" "law" s_law Ad.a_law Fd.d_law
  b_law : Binds K Fd.d_law ["_law_script"] []
  x_Shift : PySem.W.nsIn K mainGlobals (Str.ofString "Shift") = some (some (.ref Ad.c_Shift))
  mc_Shift : mg (Str.ofString "Shift") = some (.ref Ad.c_Shift)
  x_Chain : PySem.W.nsIn K mainGlobals (Str.ofString "Chain") = some (some (.ref Ad.c_Chain))
  mc_Chain : mg (Str.ofString "Chain") = some (.ref Ad.c_Chain)
  x_Move : PySem.W.nsIn K mainGlobals (Str.ofString "Move") = some (some (.ref Ad.c_Move))
  mc_Move : mg (Str.ofString "Move") = some (.ref Ad.c_Move)
  x_Quarter : PySem.W.nsIn K mainGlobals (Str.ofString "Quarter") = some (some (.ref Ad.c_Quarter))
  mc_Quarter : mg (Str.ofString "Quarter") = some (.ref Ad.c_Quarter)
  x_Mirror : PySem.W.nsIn K mainGlobals (Str.ofString "Mirror") = some (some (.ref Ad.c_Mirror))
  mc_Mirror : mg (Str.ofString "Mirror") = some (.ref Ad.c_Mirror)
  x_QuarterBack : PySem.W.nsIn K mainGlobals (Str.ofString "QuarterBack") = some (some (.ref Ad.c_QuarterBack))
  mc_QuarterBack : mg (Str.ofString "QuarterBack") = some (.ref Ad.c_QuarterBack)
section
variable {P : Program} {w : World} {K : PySem.W.Frag} {mg : Str → Option Value} {base : Heap} {Ad : Adr} {Fd : Fds}
theorem sc_Shift___init__ : FnScope ["self", "down", "right"] ["self", "down", "right"] (defScope s_Shift___init__) := ⟨rfl, rfl, rfl, by decide +kernel, rfl, by decide +kernel, by decide +kernel⟩
set_option maxHeartbeats 0 in
theorem oki_Shift (T : Txt K mg Ad Fd) : FnOk P w K mg base CX0 1 Ad.a_Shift___init__ Fd.d_Shift___init__ ["self", "down", "right"] (spI Ad.c_Shift ["down", "right"]) := by
  have SC := sc_Shift___init__
  refine Fun.ok (k := 0) T.f_Shift___init__ SC (fun vs H Q E h => by obtain ⟨x, dx, ws, rfl, hl, _⟩ := h; simp [hl]) fun cdv A outer s H vs Q E hr h => ⟨_, pss_cons (ps_fld (pv 0) (pv 1) (by rfl)) (pss_one (ps_fld (pv 0) (pv 2) (by rfl))), ?_⟩
  exact init2 T.oc_Shift.cl T.na_Shift_down T.na_Shift_right (by decide) h
theorem sc_Chain___init__ : FnScope ["self", "first", "second"] ["self", "first", "second"] (defScope s_Chain___init__) := ⟨rfl, rfl, rfl, by decide +kernel, rfl, by decide +kernel, by decide +kernel⟩
set_option maxHeartbeats 0 in
theorem oki_Chain (T : Txt K mg Ad Fd) : FnOk P w K mg base CX0 1 Ad.a_Chain___init__ Fd.d_Chain___init__ ["self", "first", "second"] (spI Ad.c_Chain ["first", "second"]) := by
  have SC := sc_Chain___init__
  refine Fun.ok (k := 0) T.f_Chain___init__ SC (fun vs H Q E h => by obtain ⟨x, dx, ws, rfl, hl, _⟩ := h; simp [hl]) fun cdv A outer s H vs Q E hr h => ⟨_, pss_cons (ps_fld (pv 0) (pv 1) (by rfl)) (pss_one (ps_fld (pv 0) (pv 2) (by rfl))), ?_⟩
  exact init2 T.oc_Chain.cl T.na_Chain_first T.na_Chain_second (by decide) h
theorem sc_Move_on_cell : FnScope ["self", "cell", "row", "column"] ["self", "cell"] (defScope s_Move_on_cell) := ⟨rfl, rfl, rfl, by decide +kernel, rfl, by decide +kernel, by decide +kernel⟩
set_option maxHeartbeats 0 in
theorem ok_Move_on_cell (T : Txt K mg Ad Fd) : FnOk P w K mg base (CXm P w) 1 Ad.a_Move_on_cell Fd.d_Move_on_cell ["self", "cell"] (spF ⟨K, ST.byText w⟩ (clOf Ad) 2 F_Move_on_cell) := by
  have SC := sc_Move_on_cell
  refine fn_okX (k := 0) (fb := b_Move_on_cell) T.f_Move_on_cell SC rfl fun cdv A outer s H E hr => ?_
  unfold b_Move_on_cell
  exact (dss_cons (ds_asg (de_var 1) (pg_tup rfl (pgs_cons (pg_name (i := 2) SC.nd rfl (Or.inl rfl)) (pgs_cons (pg_name (i := 3) SC.nd rfl (Or.inl rfl)) pgs_nil))) (snd_gT (snd_gsCons (snd_gN 2) (snd_gsCons (snd_gN 3) snd_gsNil))))
      (dss_one (ds_ret (de_tup (da_cons (de_var 2) (da_cons (de_var 3) da_nil))))))
theorem sc_Shift_on_cell : FnScope ["self", "cell", "row", "column"] ["self", "cell"] (defScope s_Shift_on_cell) := ⟨rfl, rfl, rfl, by decide +kernel, rfl, by decide +kernel, by decide +kernel⟩
set_option maxHeartbeats 0 in
theorem ok_Shift_on_cell (T : Txt K mg Ad Fd) : FnOk P w K mg base (CXm P w) 1 Ad.a_Shift_on_cell Fd.d_Shift_on_cell ["self", "cell"] (spF ⟨K, ST.byText w⟩ (clOf Ad) 2 F_Shift_on_cell) := by
  have SC := sc_Shift_on_cell
  refine fn_okX (k := 0) (fb := b_Shift_on_cell) T.f_Shift_on_cell SC rfl fun cdv A outer s H E hr => ?_
  unfold b_Shift_on_cell
  exact (dss_cons (ds_asg (de_var 1) (pg_tup rfl (pgs_cons (pg_name (i := 2) SC.nd rfl (Or.inl rfl)) (pgs_cons (pg_name (i := 3) SC.nd rfl (Or.inl rfl)) pgs_nil))) (snd_gT (snd_gsCons (snd_gN 2) (snd_gsCons (snd_gN 3) snd_gsNil))))
      (dss_one (ds_ret (de_tup (da_cons (de_op op_addR snd_addR (de_var 2) (de_fld (fld1 T.oc_Shift T.na_Shift_down) (de_var 0))) (da_cons (de_op op_addR snd_addR (de_var 3) (de_fld (fld1 T.oc_Shift T.na_Shift_right) (de_var 0))) da_nil))))))
theorem sc_Quarter_on_cell : FnScope ["self", "cell", "row", "column"] ["self", "cell"] (defScope s_Quarter_on_cell) := ⟨rfl, rfl, rfl, by decide +kernel, rfl, by decide +kernel, by decide +kernel⟩
set_option maxHeartbeats 0 in
theorem ok_Quarter_on_cell (T : Txt K mg Ad Fd) : FnOk P w K mg base (CXm P w) 1 Ad.a_Quarter_on_cell Fd.d_Quarter_on_cell ["self", "cell"] (spF ⟨K, ST.byText w⟩ (clOf Ad) 2 F_Quarter_on_cell) := by
  have SC := sc_Quarter_on_cell
  refine fn_okX (k := 0) (fb := b_Quarter_on_cell) T.f_Quarter_on_cell SC rfl fun cdv A outer s H E hr => ?_
  unfold b_Quarter_on_cell
  exact (dss_cons (ds_asg (de_var 1) (pg_tup rfl (pgs_cons (pg_name (i := 2) SC.nd rfl (Or.inl rfl)) (pgs_cons (pg_name (i := 3) SC.nd rfl (Or.inl rfl)) pgs_nil))) (snd_gT (snd_gsCons (snd_gN 2) (snd_gsCons (snd_gN 3) snd_gsNil))))
      (dss_one (ds_ret (de_tup (da_cons (de_var 3) (da_cons (de_neg (de_var 2)) da_nil))))))
theorem sc_QuarterBack_on_cell : FnScope ["self", "cell", "row", "column"] ["self", "cell"] (defScope s_QuarterBack_on_cell) := ⟨rfl, rfl, rfl, by decide +kernel, rfl, by decide +kernel, by decide +kernel⟩
set_option maxHeartbeats 0 in
theorem ok_QuarterBack_on_cell (T : Txt K mg Ad Fd) : FnOk P w K mg base (CXm P w) 1 Ad.a_QuarterBack_on_cell Fd.d_QuarterBack_on_cell ["self", "cell"] (spF ⟨K, ST.byText w⟩ (clOf Ad) 2 F_QuarterBack_on_cell) := by
  have SC := sc_QuarterBack_on_cell
  refine fn_okX (k := 0) (fb := b_QuarterBack_on_cell) T.f_QuarterBack_on_cell SC rfl fun cdv A outer s H E hr => ?_
  unfold b_QuarterBack_on_cell
  exact (dss_cons (ds_asg (de_var 1) (pg_tup rfl (pgs_cons (pg_name (i := 2) SC.nd rfl (Or.inl rfl)) (pgs_cons (pg_name (i := 3) SC.nd rfl (Or.inl rfl)) pgs_nil))) (snd_gT (snd_gsCons (snd_gN 2) (snd_gsCons (snd_gN 3) snd_gsNil))))
      (dss_one (ds_ret (de_tup (da_cons (de_neg (de_var 3)) (da_cons (de_var 2) da_nil))))))
theorem sc_Mirror_on_cell : FnScope ["self", "cell", "row", "column"] ["self", "cell"] (defScope s_Mirror_on_cell) := ⟨rfl, rfl, rfl, by decide +kernel, rfl, by decide +kernel, by decide +kernel⟩
set_option maxHeartbeats 0 in
theorem ok_Mirror_on_cell (T : Txt K mg Ad Fd) : FnOk P w K mg base (CXm P w) 1 Ad.a_Mirror_on_cell Fd.d_Mirror_on_cell ["self", "cell"] (spF ⟨K, ST.byText w⟩ (clOf Ad) 2 F_Mirror_on_cell) := by
  have SC := sc_Mirror_on_cell
  refine fn_okX (k := 0) (fb := b_Mirror_on_cell) T.f_Mirror_on_cell SC rfl fun cdv A outer s H E hr => ?_
  unfold b_Mirror_on_cell
  exact (dss_cons (ds_asg (de_var 1) (pg_tup rfl (pgs_cons (pg_name (i := 2) SC.nd rfl (Or.inl rfl)) (pgs_cons (pg_name (i := 3) SC.nd rfl (Or.inl rfl)) pgs_nil))) (snd_gT (snd_gsCons (snd_gN 2) (snd_gsCons (snd_gN 3) snd_gsNil))))
      (dss_one (ds_ret (de_tup (da_cons (de_var 2) (da_cons (de_neg (de_var 3)) da_nil))))))
theorem sc_Chain_on_cell : FnScope ["self", "cell"] ["self", "cell"] (defScope s_Chain_on_cell) := ⟨rfl, rfl, rfl, by decide +kernel, rfl, by decide +kernel, by decide +kernel⟩
set_option maxHeartbeats 0 in
theorem okc_Chain_on_cell (T : Txt K mg Ad Fd) {tb : String → Option FB} {j : Nat} (hL : 1 ≤ j) (hm : ∀ (c : String) (F : FB), tb c = some F → ∃ (C f : Addr) (fd : FuncData) (ps : List Str), OwnC K c C ∧ Meth K C "on_cell" f ∧ FnOk P w K mg base (CXm P w) j f fd ps (spF ⟨K, ST.byText w⟩ (clOf Ad) (1 + 1) F) ∧ Binds K fd ps []) : FnOk P w K mg base (CXm P w) (j + 1) Ad.a_Chain_on_cell Fd.d_Chain_on_cell ["self", "cell"] (spF ⟨K, ST.byText w⟩ (clOf Ad) 2 (F_Chain_on_cell tb)) := by
  have SC := sc_Chain_on_cell
  refine fn_okX (k := j) (fb := b_Chain_on_cell tb) T.f_Chain_on_cell SC rfl fun cdv A outer s H E hr => ?_
  unfold b_Chain_on_cell
  exact (dss_one (ds_ret (de_meth (meth_ok hm (Nat.le_refl _) hr pass_out (fun _ _ h => h)) (de_fld (fld1 T.oc_Chain T.na_Chain_second) (de_var 0)) (da_cons (de_meth (meth_ok hm (Nat.le_refl _) hr pass_out (fun _ _ h => h)) (de_fld (fld1 T.oc_Chain T.na_Chain_first) (de_var 0)) (da_cons (de_var 1) da_nil)) da_nil))))
theorem mok_on_cell (T : Txt K mg Ad Fd) : ∀ (n : Nat) (c : String) (F : FB), tb_on_cell n c = some F → ∃ (C f : Addr) (fd : FuncData) (ps : List Str), OwnC K c C ∧ Meth K C "on_cell" f ∧ FnOk P w K mg base (CXm P w) (1 + n) f fd ps (spF ⟨K, ST.byText w⟩ (clOf Ad) (1 + 1) F) ∧ Binds K fd ps []
  | 0, _, _, h => by cases h
  | n + 1, c, F, h => by
    unfold tb_on_cell at h
    split at h
    · rename_i e; subst e; cases h; exact ⟨_, _, _, _, T.oc_Move, T.me_Move_on_cell, ((ok_Move_on_cell T).mono (by omega)), T.b_Move_on_cell⟩
    split at h
    · rename_i e; subst e; cases h; exact ⟨_, _, _, _, T.oc_Shift, T.me_Shift_on_cell, ((ok_Shift_on_cell T).mono (by omega)), T.b_Shift_on_cell⟩
    split at h
    · rename_i e; subst e; cases h; exact ⟨_, _, _, _, T.oc_Quarter, T.me_Quarter_on_cell, ((ok_Quarter_on_cell T).mono (by omega)), T.b_Quarter_on_cell⟩
    split at h
    · rename_i e; subst e; cases h; exact ⟨_, _, _, _, T.oc_QuarterBack, T.me_QuarterBack_on_cell, ((ok_QuarterBack_on_cell T).mono (by omega)), T.b_QuarterBack_on_cell⟩
    split at h
    · rename_i e; subst e; cases h; exact ⟨_, _, _, _, T.oc_Mirror, T.me_Mirror_on_cell, ((ok_Mirror_on_cell T).mono (by omega)), T.b_Mirror_on_cell⟩
    split at h
    · rename_i e; subst e; cases h; exact ⟨_, _, _, _, T.oc_Chain, T.me_Chain_on_cell, (okc_Chain_on_cell T (j := 1 + n) (by omega) (mok_on_cell T n)), T.b_Chain_on_cell⟩
    cases h
theorem sc__law_whole : FnScope ["_law_found"] ["_law_found"] (defScope s__law_whole) := ⟨rfl, rfl, rfl, by decide +kernel, rfl, by decide +kernel, by decide +kernel⟩
set_option maxHeartbeats 0 in
theorem ok__law_whole (T : Txt K mg Ad Fd) : FnOk P w K mg base (CXm P w) 1 Ad.a__law_whole Fd.d__law_whole ["_law_found"] (spF ⟨K, ST.byText w⟩ (clOf Ad) 1 F__law_whole) := by
  have SC := sc__law_whole
  refine fn_okX (k := 0) (fb := b__law_whole) T.f__law_whole SC rfl fun cdv A outer s H E hr => ?_
  unfold b__law_whole
  exact (dss_one (ds_ret (de_and (de_callB cr_isi snd_isi (by rfl) T.n_isinstance (by decide +kernel) (da_cons (de_var 0) (da_cons (de_ty .int rfl T.n_int (by decide +kernel)) da_nil))) (de_one (de_not (de_callB cr_isi snd_isi (by rfl) T.n_isinstance (by decide +kernel) (da_cons (de_var 0) (da_cons (de_ty .bl rfl T.n_bool (by decide +kernel)) da_nil))))))))
theorem sc__law_is_cell : FnScope ["_law_found"] ["_law_found"] (defScope s__law_is_cell) := ⟨rfl, rfl, rfl, by decide +kernel, rfl, by decide +kernel, by decide +kernel⟩
set_option maxHeartbeats 0 in
theorem ok__law_is_cell (T : Txt K mg Ad Fd) : FnOk P w K mg base (CXm P w) 2 Ad.a__law_is_cell Fd.d__law_is_cell ["_law_found"] (spF ⟨K, ST.byText w⟩ (clOf Ad) 1 F__law_is_cell) := by
  have SC := sc__law_is_cell
  refine fn_okX (k := 1) (fb := b__law_is_cell) T.f__law_is_cell SC rfl fun cdv A outer s H E hr => ?_
  unfold b__law_is_cell
  exact (dss_cons (ds_if (DW.pt (dw_or (dt_not (dt_val (de_callB cr_isi snd_isi (by rfl) T.n_isinstance (by decide +kernel) (da_cons (de_var 0) (da_cons (de_ty .tup rfl T.n_tuple (by decide +kernel)) da_nil))))) (dw_or1 (dt_cmp (op_neD hr.units) snd_ne (de_callB call_lenA snd_lenA (by rfl) T.n_len (by decide +kernel) (da_cons (de_var 0) da_nil)) de_int (nomark _))))) (dss_one (ds_ret de_bl)) dss_nil)
      (dss_one (ds_ret (de_and (de_call ((ok__law_whole T).mono (by decide)) hr rfl T.m__law_whole T.f__law_whole.kp T.b__law_whole pass_out (fun _ _ h => h) (da_cons (de_ixA (Mir.Room.units65 hr) (de_var 0) de_int (fun _ _ => rfl)) da_nil)) (de_one (de_call ((ok__law_whole T).mono (by decide)) hr rfl T.m__law_whole T.f__law_whole.kp T.b__law_whole pass_out (fun _ _ h => h) (da_cons (de_ixA (Mir.Room.units65 hr) (de_var 0) de_int (fun _ _ => rfl)) da_nil)))))))
theorem sc__law_there : FnScope ["_law_move_here", "_law_spot", "_law_due", "_law_found"] ["_law_move_here", "_law_spot", "_law_due"] (defScope s__law_there) := ⟨rfl, rfl, rfl, by decide +kernel, rfl, by decide +kernel, by decide +kernel⟩
set_option maxHeartbeats 0 in
theorem ok__law_there (T : Txt K mg Ad Fd) : FnOk P w K mg base (CXm P w) 66 Ad.a__law_there Fd.d__law_there ["_law_move_here", "_law_spot", "_law_due"] (spF ⟨K, ST.byText w⟩ (clOf Ad) 3 F__law_there) := by
  have SC := sc__law_there
  refine fn_okX (k := 65) (fb := b__law_there) T.f__law_there SC rfl fun cdv A outer s H E hr => ?_
  unfold b__law_there
  exact (dss_cons (ds_if (dt_not (dt_val (de_callB cr_ism (snd_ism T.ism_Move) (by rfl) T.n_isinstance (by decide +kernel) (da_cons (de_var 0) (da_cons (de_cls T.x_Move rfl T.mc_Move) da_nil))))) (dss_one (ds_ret de_bl)) dss_nil)
      (dss_cons (ds_set (i := 3) SC.nd rfl (Or.inl rfl) (de_meth (meth_ok (mok_on_cell T 64) (by decide) hr pass_out (fun _ _ h => h)) (de_var 0) (da_cons (de_var 1) da_nil)))
      (dss_one (ds_ret (de_and (de_call ((ok__law_is_cell T).mono (by decide)) hr rfl T.m__law_is_cell T.f__law_is_cell.kp T.b__law_is_cell pass_out (fun _ _ h => h) (da_cons (de_var 3) da_nil)) (de_one (de_cmp (op_eqD hr.units) snd_eq (de_var 3) (de_var 2) (nomark _))))))))
theorem sc__law_far : FnScope ["_law_cell"] ["_law_cell"] (defScope s__law_far) := ⟨rfl, rfl, rfl, by decide +kernel, rfl, by decide +kernel, by decide +kernel⟩
set_option maxHeartbeats 0 in
theorem ok__law_far (T : Txt K mg Ad Fd) : FnOk P w K mg base (CXm P w) 1 Ad.a__law_far Fd.d__law_far ["_law_cell"] (spF ⟨K, ST.byText w⟩ (clOf Ad) 1 F__law_far) := by
  have SC := sc__law_far
  refine fn_okX (k := 0) (fb := b__law_far) T.f__law_far SC rfl fun cdv A outer s H E hr => ?_
  unfold b__law_far
  exact (dss_cons (ds_if (dt_cmp (op_eqD hr.units) snd_eq (de_op op_mod snd_mod (de_var 0) de_int) de_int (nomark _)) (dss_one (ds_ret (de_op op_sub snd_sub (de_op op_mod snd_mod (de_op op_fdivB snd_div (de_var 0) de_int) (de_op op_addR snd_addR (de_op op_mul snd_mul de_int (de_op op_pow snd_pow de_int de_int)) de_int)) (de_op op_pow snd_pow de_int de_int)))) dss_nil)
      (dss_one (ds_ret (de_op op_sub snd_sub (de_op op_mod snd_mod (de_op op_fdivB snd_div (de_var 0) de_int) de_int) de_int))))
theorem sc__law_move : FnScope ["_law_cell", "_law_kind"] ["_law_cell"] (defScope s__law_move) := ⟨rfl, rfl, rfl, by decide +kernel, rfl, by decide +kernel, by decide +kernel⟩
set_option maxHeartbeats 0 in
theorem ok__law_move (T : Txt K mg Ad Fd) : FnOk P w K mg base (CXm P w) 3 Ad.a__law_move Fd.d__law_move ["_law_cell"] (spF ⟨K, ST.byText w⟩ (clOf Ad) 1 F__law_move) := by
  have SC := sc__law_move
  refine fn_okX (k := 2) (fb := b__law_move) T.f__law_move SC rfl fun cdv A outer s H E hr => ?_
  unfold b__law_move
  exact (dss_cons (ds_set (i := 1) SC.nd rfl (Or.inl rfl) (de_op op_mod snd_mod (de_var 0) de_int))
      (dss_cons (ds_if (dt_cmp (op_eqD hr.units) snd_eq (de_var 1) de_int (nomark _)) (dss_one (ds_ret (de_make0 T.oc_Quarter T.mk_Quarter rfl T.mc_Quarter))) dss_nil)
      (dss_cons (ds_if (dt_cmp (op_eqD hr.units) snd_eq (de_var 1) de_int (nomark _)) (dss_one (ds_ret (de_make0 T.oc_Mirror T.mk_Mirror rfl T.mc_Mirror))) dss_nil)
      (dss_cons (ds_if (dt_cmp (op_eqD hr.units) snd_eq (de_var 1) de_int (nomark _)) (dss_one (ds_ret (de_make T.oc_Shift T.mk_Shift (oki_Shift T) (hr.mono (by decide)) rfl T.mc_Shift T.b_Shift___init__ (da_cons (de_call ((ok__law_far T).mono (by decide)) hr rfl T.m__law_far T.f__law_far.kp T.b__law_far pass_out (fun _ _ h => h) (da_cons (de_op op_fdivB snd_div (de_var 0) de_int) da_nil)) (da_cons (de_call ((ok__law_far T).mono (by decide)) hr rfl T.m__law_far T.f__law_far.kp T.b__law_far pass_out (fun _ _ h => h) (da_cons (de_op op_fdivB snd_div (de_var 0) de_int) da_nil)) da_nil))))) dss_nil)
      (dss_cons (ds_if (dt_cmp (op_eqD hr.units) snd_eq (de_var 1) de_int (nomark _)) (dss_one (ds_ret (de_make T.oc_Chain T.mk_Chain (oki_Chain T) (hr.mono (by decide)) rfl T.mc_Chain T.b_Chain___init__ (da_cons (de_make0 T.oc_Quarter T.mk_Quarter rfl T.mc_Quarter) (da_cons (de_make0 T.oc_Mirror T.mk_Mirror rfl T.mc_Mirror) da_nil))))) dss_nil)
      (dss_cons (ds_if (dt_cmp (op_eqD hr.units) snd_eq (de_var 1) de_int (nomark _)) (dss_one (ds_ret (de_make T.oc_Chain T.mk_Chain (oki_Chain T) (hr.mono (by decide)) rfl T.mc_Chain T.b_Chain___init__ (da_cons (de_make T.oc_Shift T.mk_Shift (oki_Shift T) (hr.mono (by decide)) rfl T.mc_Shift T.b_Shift___init__ (da_cons (de_call ((ok__law_far T).mono (by decide)) hr rfl T.m__law_far T.f__law_far.kp T.b__law_far pass_out (fun _ _ h => h) (da_cons (de_op op_fdivB snd_div (de_var 0) de_int) da_nil)) (da_cons de_int da_nil))) (da_cons (de_make0 T.oc_Quarter T.mk_Quarter rfl T.mc_Quarter) da_nil))))) dss_nil)
      (dss_one (ds_ret (de_make0 T.oc_Move T.mk_Move rfl T.mc_Move)))))))))
theorem sc__law_to : FnScope ["_law_cell", "_law_spot", "_law_kind", "_law_row", "_law_column"] ["_law_cell", "_law_spot"] (defScope s__law_to) := ⟨rfl, rfl, rfl, by decide +kernel, rfl, by decide +kernel, by decide +kernel⟩
set_option maxHeartbeats 0 in
theorem ok__law_to (T : Txt K mg Ad Fd) : FnOk P w K mg base (CXm P w) 2 Ad.a__law_to Fd.d__law_to ["_law_cell", "_law_spot"] (spF ⟨K, ST.byText w⟩ (clOf Ad) 2 F__law_to) := by
  have SC := sc__law_to
  refine fn_okX (k := 1) (fb := b__law_to) T.f__law_to SC rfl fun cdv A outer s H E hr => ?_
  unfold b__law_to
  exact (dss_cons (ds_set (i := 2) SC.nd rfl (Or.inl rfl) (de_op op_mod snd_mod (de_var 0) de_int))
      (dss_cons (ds_asg (de_var 1) (pg_tup rfl (pgs_cons (pg_name (i := 3) SC.nd rfl (Or.inl rfl)) (pgs_cons (pg_name (i := 4) SC.nd rfl (Or.inl rfl)) pgs_nil))) (snd_gT (snd_gsCons (snd_gN 3) (snd_gsCons (snd_gN 4) snd_gsNil))))
      (dss_cons (ds_if (dt_cmp (op_eqD hr.units) snd_eq (de_var 2) de_int (nomark _)) (dss_one (ds_ret (de_tup (da_cons (de_var 4) (da_cons (de_op op_sub snd_sub de_int (de_var 3)) da_nil))))) dss_nil)
      (dss_cons (ds_if (dt_cmp (op_eqD hr.units) snd_eq (de_var 2) de_int (nomark _)) (dss_one (ds_ret (de_tup (da_cons (de_var 3) (da_cons (de_op op_sub snd_sub de_int (de_var 4)) da_nil))))) dss_nil)
      (dss_cons (ds_if (dt_cmp (op_eqD hr.units) snd_eq (de_var 2) de_int (nomark _)) (dss_one (ds_ret (de_tup (da_cons (de_op op_addR snd_addR (de_var 3) (de_call ((ok__law_far T).mono (by decide)) hr rfl T.m__law_far T.f__law_far.kp T.b__law_far pass_out (fun _ _ h => h) (da_cons (de_op op_fdivB snd_div (de_var 0) de_int) da_nil))) (da_cons (de_op op_addR snd_addR (de_var 4) (de_call ((ok__law_far T).mono (by decide)) hr rfl T.m__law_far T.f__law_far.kp T.b__law_far pass_out (fun _ _ h => h) (da_cons (de_op op_fdivB snd_div (de_var 0) de_int) da_nil))) da_nil))))) dss_nil)
      (dss_cons (ds_if (dt_cmp (op_eqD hr.units) snd_eq (de_var 2) de_int (nomark _)) (dss_one (ds_ret (de_tup (da_cons (de_var 4) (da_cons (de_var 3) da_nil))))) dss_nil)
      (dss_cons (ds_if (dt_cmp (op_eqD hr.units) snd_eq (de_var 2) de_int (nomark _)) (dss_one (ds_ret (de_tup (da_cons (de_op op_addR snd_addR (de_var 4) de_int) (da_cons (de_op op_sub snd_sub (de_op op_sub snd_sub de_int (de_var 3)) (de_call ((ok__law_far T).mono (by decide)) hr rfl T.m__law_far T.f__law_far.kp T.b__law_far pass_out (fun _ _ h => h) (da_cons (de_op op_fdivB snd_div (de_var 0) de_int) da_nil))) da_nil))))) dss_nil)
      (dss_one (ds_ret (de_var 1))))))))))
theorem sc_Move_back : FnScope ["self"] ["self"] (defScope s_Move_back) := ⟨rfl, rfl, rfl, by decide +kernel, rfl, by decide +kernel, by decide +kernel⟩
set_option maxHeartbeats 0 in
theorem ok_Move_back (T : Txt K mg Ad Fd) : FnOk P w K mg base (CXm P w) 1 Ad.a_Move_back Fd.d_Move_back ["self"] (spF ⟨K, ST.byText w⟩ (clOf Ad) 1 F_Move_back) := by
  have SC := sc_Move_back
  refine fn_okX (k := 0) (fb := b_Move_back) T.f_Move_back SC rfl fun cdv A outer s H E hr => ?_
  unfold b_Move_back
  exact (dss_one (ds_ret (de_make0 T.oc_Move T.mk_Move rfl T.mc_Move)))
theorem sc_Shift_back : FnScope ["self"] ["self"] (defScope s_Shift_back) := ⟨rfl, rfl, rfl, by decide +kernel, rfl, by decide +kernel, by decide +kernel⟩
set_option maxHeartbeats 0 in
theorem ok_Shift_back (T : Txt K mg Ad Fd) : FnOk P w K mg base (CXm P w) 3 Ad.a_Shift_back Fd.d_Shift_back ["self"] (spF ⟨K, ST.byText w⟩ (clOf Ad) 1 F_Shift_back) := by
  have SC := sc_Shift_back
  refine fn_okX (k := 2) (fb := b_Shift_back) T.f_Shift_back SC rfl fun cdv A outer s H E hr => ?_
  unfold b_Shift_back
  exact (dss_one (ds_ret (de_make T.oc_Shift T.mk_Shift (oki_Shift T) (hr.mono (by omega)) rfl T.mc_Shift T.b_Shift___init__ (da_cons (de_neg (de_fld (fld1 T.oc_Shift T.na_Shift_down) (de_var 0))) (da_cons (de_neg (de_fld (fld1 T.oc_Shift T.na_Shift_right) (de_var 0))) da_nil)))))
theorem sc_Quarter_back : FnScope ["self"] ["self"] (defScope s_Quarter_back) := ⟨rfl, rfl, rfl, by decide +kernel, rfl, by decide +kernel, by decide +kernel⟩
set_option maxHeartbeats 0 in
theorem ok_Quarter_back (T : Txt K mg Ad Fd) : FnOk P w K mg base (CXm P w) 1 Ad.a_Quarter_back Fd.d_Quarter_back ["self"] (spF ⟨K, ST.byText w⟩ (clOf Ad) 1 F_Quarter_back) := by
  have SC := sc_Quarter_back
  refine fn_okX (k := 0) (fb := b_Quarter_back) T.f_Quarter_back SC rfl fun cdv A outer s H E hr => ?_
  unfold b_Quarter_back
  exact (dss_one (ds_ret (de_make0 T.oc_QuarterBack T.mk_QuarterBack rfl T.mc_QuarterBack)))
theorem sc_QuarterBack_back : FnScope ["self"] ["self"] (defScope s_QuarterBack_back) := ⟨rfl, rfl, rfl, by decide +kernel, rfl, by decide +kernel, by decide +kernel⟩
set_option maxHeartbeats 0 in
theorem ok_QuarterBack_back (T : Txt K mg Ad Fd) : FnOk P w K mg base (CXm P w) 1 Ad.a_QuarterBack_back Fd.d_QuarterBack_back ["self"] (spF ⟨K, ST.byText w⟩ (clOf Ad) 1 F_QuarterBack_back) := by
  have SC := sc_QuarterBack_back
  refine fn_okX (k := 0) (fb := b_QuarterBack_back) T.f_QuarterBack_back SC rfl fun cdv A outer s H E hr => ?_
  unfold b_QuarterBack_back
  exact (dss_one (ds_ret (de_make0 T.oc_Quarter T.mk_Quarter rfl T.mc_Quarter)))
theorem sc_Mirror_back : FnScope ["self"] ["self"] (defScope s_Mirror_back) := ⟨rfl, rfl, rfl, by decide +kernel, rfl, by decide +kernel, by decide +kernel⟩
set_option maxHeartbeats 0 in
theorem ok_Mirror_back (T : Txt K mg Ad Fd) : FnOk P w K mg base (CXm P w) 1 Ad.a_Mirror_back Fd.d_Mirror_back ["self"] (spF ⟨K, ST.byText w⟩ (clOf Ad) 1 F_Mirror_back) := by
  have SC := sc_Mirror_back
  refine fn_okX (k := 0) (fb := b_Mirror_back) T.f_Mirror_back SC rfl fun cdv A outer s H E hr => ?_
  unfold b_Mirror_back
  exact (dss_one (ds_ret (de_make0 T.oc_Mirror T.mk_Mirror rfl T.mc_Mirror)))
theorem sc_Chain_back : FnScope ["self"] ["self"] (defScope s_Chain_back) := ⟨rfl, rfl, rfl, by decide +kernel, rfl, by decide +kernel, by decide +kernel⟩
set_option maxHeartbeats 0 in
theorem okc_Chain_back (T : Txt K mg Ad Fd) {tb : String → Option FB} {j : Nat} (hL : 3 ≤ j) (hm : ∀ (c : String) (F : FB), tb c = some F → ∃ (C f : Addr) (fd : FuncData) (ps : List Str), OwnC K c C ∧ Meth K C "back" f ∧ FnOk P w K mg base (CXm P w) j f fd ps (spF ⟨K, ST.byText w⟩ (clOf Ad) (0 + 1) F) ∧ Binds K fd ps []) : FnOk P w K mg base (CXm P w) (j + 1) Ad.a_Chain_back Fd.d_Chain_back ["self"] (spF ⟨K, ST.byText w⟩ (clOf Ad) 1 (F_Chain_back tb)) := by
  have SC := sc_Chain_back
  refine fn_okX (k := j) (fb := b_Chain_back tb) T.f_Chain_back SC rfl fun cdv A outer s H E hr => ?_
  unfold b_Chain_back
  exact (dss_one (ds_ret (de_make T.oc_Chain T.mk_Chain (oki_Chain T) (hr.mono (by omega)) rfl T.mc_Chain T.b_Chain___init__ (da_cons (de_meth0 (meth_ok hm (Nat.le_refl _) hr pass_out (fun _ _ h => h)) (de_fld (fld1 T.oc_Chain T.na_Chain_second) (de_var 0))) (da_cons (de_meth0 (meth_ok hm (Nat.le_refl _) hr pass_out (fun _ _ h => h)) (de_fld (fld1 T.oc_Chain T.na_Chain_first) (de_var 0))) da_nil)))))
theorem mok_back (T : Txt K mg Ad Fd) : ∀ (n : Nat) (c : String) (F : FB), tb_back n c = some F → ∃ (C f : Addr) (fd : FuncData) (ps : List Str), OwnC K c C ∧ Meth K C "back" f ∧ FnOk P w K mg base (CXm P w) (3 + n) f fd ps (spF ⟨K, ST.byText w⟩ (clOf Ad) (0 + 1) F) ∧ Binds K fd ps []
  | 0, _, _, h => by cases h
  | n + 1, c, F, h => by
    unfold tb_back at h
    split at h
    · rename_i e; subst e; cases h; exact ⟨_, _, _, _, T.oc_Move, T.me_Move_back, ((ok_Move_back T).mono (by omega)), T.b_Move_back⟩
    split at h
    · rename_i e; subst e; cases h; exact ⟨_, _, _, _, T.oc_Shift, T.me_Shift_back, ((ok_Shift_back T).mono (by omega)), T.b_Shift_back⟩
    split at h
    · rename_i e; subst e; cases h; exact ⟨_, _, _, _, T.oc_Quarter, T.me_Quarter_back, ((ok_Quarter_back T).mono (by omega)), T.b_Quarter_back⟩
    split at h
    · rename_i e; subst e; cases h; exact ⟨_, _, _, _, T.oc_QuarterBack, T.me_QuarterBack_back, ((ok_QuarterBack_back T).mono (by omega)), T.b_QuarterBack_back⟩
    split at h
    · rename_i e; subst e; cases h; exact ⟨_, _, _, _, T.oc_Mirror, T.me_Mirror_back, ((ok_Mirror_back T).mono (by omega)), T.b_Mirror_back⟩
    split at h
    · rename_i e; subst e; cases h; exact ⟨_, _, _, _, T.oc_Chain, T.me_Chain_back, (okc_Chain_back T (j := 3 + n) (by omega) (mok_back T n)), T.b_Chain_back⟩
    cases h
theorem sc__law_back : FnScope ["_law_move_here", "_law_spot", "_law_due", "_law_back_here"] ["_law_move_here", "_law_spot", "_law_due"] (defScope s__law_back) := ⟨rfl, rfl, rfl, by decide +kernel, rfl, by decide +kernel, by decide +kernel⟩
set_option maxHeartbeats 0 in
theorem ok__law_back (T : Txt K mg Ad Fd) : FnOk P w K mg base (CXm P w) 68 Ad.a__law_back Fd.d__law_back ["_law_move_here", "_law_spot", "_law_due"] (spF ⟨K, ST.byText w⟩ (clOf Ad) 3 F__law_back) := by
  have SC := sc__law_back
  refine fn_okX (k := 67) (fb := b__law_back) T.f__law_back SC rfl fun cdv A outer s H E hr => ?_
  unfold b__law_back
  exact (dss_cons (ds_set (i := 3) SC.nd rfl (Or.inl rfl) (de_meth0 (meth_ok (mok_back T 64) (by decide) hr pass_out (fun _ _ h => h)) (de_var 0)))
      (dss_cons (ds_if (DW.pt (dw_or (dt_not (dt_val (de_call ((ok__law_there T).mono (by decide)) hr rfl T.m__law_there T.f__law_there.kp T.b__law_there pass_out (fun _ _ h => h) (da_cons (de_var 3) (da_cons (de_var 2) (da_cons (de_var 1) da_nil)))))) (dw_or1 (dt_not (dt_val (de_call ((ok__law_there T).mono (by decide)) hr rfl T.m__law_there T.f__law_there.kp T.b__law_there pass_out (fun _ _ h => h) (da_cons (de_meth0 (meth_ok (mok_back T 64) (by decide) hr pass_out (fun _ _ h => h)) (de_var 3)) (da_cons (de_var 1) (da_cons (de_var 2) da_nil))))))))) (dss_one (ds_ret de_bl)) dss_nil)
      (dss_one (ds_ret (de_and (de_cmp (op_eqD hr.units) snd_eq (de_meth (meth_ok (mok_on_cell T 64) (by decide) hr pass_out (fun _ _ h => h)) (de_var 0) (da_cons (de_meth (meth_ok (mok_on_cell T 64) (by decide) hr pass_out (fun _ _ h => h)) (de_var 3) (da_cons (de_var 1) da_nil)) da_nil)) (de_var 1) (nomark _)) (de_one (de_cmp (op_eqD hr.units) snd_eq (de_meth (meth_ok (mok_on_cell T 64) (by decide) hr pass_out (fun _ _ h => h)) (de_var 3) (da_cons (de_meth (meth_ok (mok_on_cell T 64) (by decide) hr pass_out (fun _ _ h => h)) (de_var 0) (da_cons (de_var 2) da_nil)) da_nil)) (de_var 2) (nomark _))))))))
theorem sc__law_chained : FnScope ["_law_cells", "_law_spot", "_law_chain", "_law_order", "_law_cell", "_law_one", "_law_due"] ["_law_cells", "_law_spot"] (defScope s__law_chained) := ⟨rfl, rfl, rfl, by decide +kernel, rfl, by decide +kernel, by decide +kernel⟩
set_option maxHeartbeats 0 in
theorem ok__law_chained (T : Txt K mg Ad Fd) : FnOk P w K mg base (CXm P w) 69 Ad.a__law_chained Fd.d__law_chained ["_law_cells", "_law_spot"] (spF ⟨K, ST.byText w⟩ (clOf Ad) 2 F__law_chained) := by
  have SC := sc__law_chained
  refine fn_okX (k := 68) (fb := b__law_chained) T.f__law_chained SC rfl fun cdv A outer s H E hr => ?_
  unfold b__law_chained
  exact (dss_cons (ds_set (i := 2) SC.nd rfl (Or.inl rfl) (de_call ((ok__law_move T).mono (by decide)) hr rfl T.m__law_move T.f__law_move.kp T.b__law_move pass_out (fun _ _ h => h) (da_cons (de_ixA (Mir.Room.units65 hr) (de_var 0) de_int (fun _ _ => rfl)) da_nil)))
      (dss_cons (ds_set (i := 3) SC.nd rfl (Or.inl rfl) (de_lst (da_cons (de_ixA (Mir.Room.units65 hr) (de_var 0) de_int (fun _ _ => rfl)) da_nil)))
      (dss_cons (ds_for (fi := I__law_chained_2) (G := (gN 4)) (f := B__law_chained_2) PassesOwn.leaving rfl (di_list (de_slice (de_var 0) (do_some de_int) do_none)) (pg_name (i := 4) SC.nd rfl (Or.inl rfl)) (snd_gN 4) (dss_cons (ds_set (i := 5) SC.nd rfl (Or.inl rfl) (de_call ((ok__law_move T).mono (by decide)) hr rfl T.m__law_move T.f__law_move.kp T.b__law_move pass_out (fun _ _ h => h) (da_cons (de_var 4) da_nil)))
      (dss_one (ds_if (dt_cmp (op_eqD hr.units) snd_eq (de_op op_mod snd_mod (de_op op_fdivB snd_div (de_var 4) de_int) de_int) de_int (nomark _)) (dss_cons (ds_set (i := 2) SC.nd rfl (Or.inl rfl) (de_make T.oc_Chain T.mk_Chain (oki_Chain T) (hr.mono (by decide)) rfl T.mc_Chain T.b_Chain___init__ (da_cons (de_var 2) (da_cons (de_var 5) da_nil))))
      (dss_one (ds_set (i := 3) SC.nd rfl (Or.inl rfl) (de_op op_addR snd_addR (de_var 3) (de_lst (da_cons (de_var 4) da_nil)))))) (dss_cons (ds_set (i := 2) SC.nd rfl (Or.inl rfl) (de_make T.oc_Chain T.mk_Chain (oki_Chain T) (hr.mono (by decide)) rfl T.mc_Chain T.b_Chain___init__ (da_cons (de_var 5) (da_cons (de_var 2) da_nil))))
      (dss_one (ds_set (i := 3) SC.nd rfl (Or.inl rfl) (de_op op_addR snd_addR (de_lst (da_cons (de_var 4) da_nil)) (de_var 3)))))))))
      (dss_cons (ds_set (i := 6) SC.nd rfl (Or.inl rfl) (de_var 1))
      (dss_cons (ds_for (fi := I__law_chained_1) (G := (gN 4)) (f := B__law_chained_1) PassesOwn.leaving rfl (di_list (de_var 3)) (pg_name (i := 4) SC.nd rfl (Or.inl rfl)) (snd_gN 4) (dss_one (ds_set (i := 6) SC.nd rfl (Or.inl rfl) (de_call ((ok__law_to T).mono (by decide)) hr rfl T.m__law_to T.f__law_to.kp T.b__law_to pass_out (fun _ _ h => h) (da_cons (de_var 4) (da_cons (de_var 6) da_nil))))))
      (dss_cons (ds_if (DW.pt (dw_or (dt_not (dt_val (de_call ((ok__law_there T).mono (by decide)) hr rfl T.m__law_there T.f__law_there.kp T.b__law_there pass_out (fun _ _ h => h) (da_cons (de_var 2) (da_cons (de_var 1) (da_cons (de_var 6) da_nil)))))) (dw_or1 (dt_not (dt_val (de_call ((ok__law_back T).mono (by decide)) hr rfl T.m__law_back T.f__law_back.kp T.b__law_back pass_out (fun _ _ h => h) (da_cons (de_var 2) (da_cons (de_var 1) (da_cons (de_var 6) da_nil))))))))) (dss_one (ds_ret de_bl)) dss_nil)
      (dss_one (ds_ret (de_call ((ok__law_there T).mono (by decide)) hr rfl T.m__law_there T.f__law_there.kp T.b__law_there pass_out (fun _ _ h => h) (da_cons (de_var 2) (da_cons (de_var 1) (da_cons (de_var 6) da_nil))))))))))))
theorem sc__law_cell_at : FnScope ["_law_script", "_law_k"] ["_law_script", "_law_k"] (defScope s__law_cell_at) := ⟨rfl, rfl, rfl, by decide +kernel, rfl, by decide +kernel, by decide +kernel⟩
set_option maxHeartbeats 0 in
theorem ok__law_cell_at (T : Txt K mg Ad Fd) : FnOk P w K mg base (CXm P w) 1 Ad.a__law_cell_at Fd.d__law_cell_at ["_law_script", "_law_k"] (spF ⟨K, ST.byText w⟩ (clOf Ad) 2 F__law_cell_at) := by
  have SC := sc__law_cell_at
  refine fn_okX (k := 0) (fb := b__law_cell_at) T.f__law_cell_at SC rfl fun cdv A outer s H E hr => ?_
  unfold b__law_cell_at
  exact (dss_cons (ds_if (dt_cmp (op_ltA (Mir.Room.units65 hr)) snd_ltA (de_var 1) (de_callB call_lenA snd_lenA (by rfl) T.n_len (by decide +kernel) (da_cons (de_var 0) da_nil)) (nomark _)) (dss_one (ds_ret (de_ixA (Mir.Room.units65 hr) (de_var 0) (de_var 1) (fun _ _ => rfl)))) dss_nil)
      (dss_one (ds_ret de_int)))
theorem sc_law : FnScope ["_law_script", "_law_size", "_law_spot", "_law_cells", "_law_cell", "_law_many", "_law_k", "_law_side", "_law_due", "_law_four"] ["_law_script"] (defScope s_law) := ⟨rfl, rfl, rfl, by decide +kernel, rfl, by decide +kernel, by decide +kernel⟩
set_option maxHeartbeats 0 in
theorem ok_law (T : Txt K mg Ad Fd) : FnOk P w K mg base (CXm P w) 70 Ad.a_law Fd.d_law ["_law_script"] (spF ⟨K, ST.byText w⟩ (clOf Ad) 1 F_law) := by
  have SC := sc_law
  refine fn_okX (k := 69) (fb := b_law) T.f_law SC rfl fun cdv A outer s H E hr => ?_
  unfold b_law
  exact (dss_cons (ds_set (i := 1) SC.nd rfl (Or.inl rfl) (de_op op_addR snd_addR (de_op op_mul snd_mul de_int (de_op op_pow snd_pow de_int de_int)) de_int))
      (dss_cons (ds_set (i := 2) SC.nd rfl (Or.inl rfl) (de_tup (da_cons (de_op op_sub snd_sub (de_op op_mod snd_mod (de_call ((ok__law_cell_at T).mono (by decide)) hr rfl T.m__law_cell_at T.f__law_cell_at.kp T.b__law_cell_at pass_out (fun _ _ h => h) (da_cons (de_var 0) (da_cons de_int da_nil))) (de_var 1)) (de_op op_pow snd_pow de_int de_int)) (da_cons (de_op op_sub snd_sub (de_op op_mod snd_mod (de_call ((ok__law_cell_at T).mono (by decide)) hr rfl T.m__law_cell_at T.f__law_cell_at.kp T.b__law_cell_at pass_out (fun _ _ h => h) (da_cons (de_var 0) (da_cons de_int da_nil))) (de_var 1)) (de_op op_pow snd_pow de_int de_int)) da_nil))))
      (dss_cons (ds_set (i := 3) SC.nd rfl (Or.inl rfl) (de_slice (de_op op_addR snd_addR (de_var 0) (de_lst (da_cons de_int (da_cons de_int (da_cons de_int da_nil))))) (do_some de_int) (do_some de_int)))
      (dss_cons (ds_for (fi := I_law_2) (G := (gN 4)) (f := B_law_2) PassesOwn.leaving rfl (di_list (de_var 3)) (pg_name (i := 4) SC.nd rfl (Or.inl rfl)) (snd_gN 4) (dss_cons (ds_if (dt_not (dt_val (de_call ((ok__law_there T).mono (by decide)) hr rfl T.m__law_there T.f__law_there.kp T.b__law_there pass_out (fun _ _ h => h) (da_cons (de_call ((ok__law_move T).mono (by decide)) hr rfl T.m__law_move T.f__law_move.kp T.b__law_move pass_out (fun _ _ h => h) (da_cons (de_var 4) da_nil)) (da_cons (de_var 2) (da_cons (de_call ((ok__law_to T).mono (by decide)) hr rfl T.m__law_to T.f__law_to.kp T.b__law_to pass_out (fun _ _ h => h) (da_cons (de_var 4) (da_cons (de_var 2) da_nil))) da_nil)))))) (dss_one (ds_ret de_bl)) dss_nil)
      (dss_one (ds_if (dt_not (dt_val (de_call ((ok__law_back T).mono (by decide)) hr rfl T.m__law_back T.f__law_back.kp T.b__law_back pass_out (fun _ _ h => h) (da_cons (de_call ((ok__law_move T).mono (by decide)) hr rfl T.m__law_move T.f__law_move.kp T.b__law_move pass_out (fun _ _ h => h) (da_cons (de_var 4) da_nil)) (da_cons (de_var 2) (da_cons (de_call ((ok__law_to T).mono (by decide)) hr rfl T.m__law_to T.f__law_to.kp T.b__law_to pass_out (fun _ _ h => h) (da_cons (de_var 4) (da_cons (de_var 2) da_nil))) da_nil)))))) (dss_one (ds_ret de_bl)) dss_nil))))
      (dss_cons (ds_set (i := 5) SC.nd rfl (Or.inl rfl) (de_make T.oc_Shift T.mk_Shift (oki_Shift T) (hr.mono (by decide)) rfl T.mc_Shift T.b_Shift___init__ (da_cons de_int (da_cons de_int da_nil))))
      (dss_cons (ds_for (fi := I_law_1) (G := (gN 6)) (f := B_law_1) PassesOwn.leaving rfl (di_range1 rfl T.n_range (da_cons de_int da_nil)) (pg_name (i := 6) SC.nd rfl (Or.inl rfl)) (snd_gN 6) (dss_cons (ds_set (i := 7) SC.nd rfl (Or.inl rfl) (de_op op_mod snd_mod (de_op op_addR snd_addR (de_op op_mod snd_mod (de_call ((ok__law_cell_at T).mono (by decide)) hr rfl T.m__law_cell_at T.f__law_cell_at.kp T.b__law_cell_at pass_out (fun _ _ h => h) (da_cons (de_var 0) (da_cons de_int da_nil))) de_int) (de_op op_mul snd_mul (de_var 6) (de_op op_mod snd_mod (de_call ((ok__law_cell_at T).mono (by decide)) hr rfl T.m__law_cell_at T.f__law_cell_at.kp T.b__law_cell_at pass_out (fun _ _ h => h) (da_cons (de_var 0) (da_cons de_int da_nil))) de_int))) de_int))
      (dss_one (ds_set (i := 5) SC.nd rfl (Or.inl rfl) (de_ixA (Mir.Room.units65 hr) (de_lst (da_cons (de_make T.oc_Chain T.mk_Chain (oki_Chain T) (hr.mono (by decide)) rfl T.mc_Chain T.b_Chain___init__ (da_cons (de_var 5) (da_cons (de_make T.oc_Shift T.mk_Shift (oki_Shift T) (hr.mono (by decide)) rfl T.mc_Shift T.b_Shift___init__ (da_cons de_int (da_cons de_int da_nil))) da_nil))) (da_cons (de_make T.oc_Chain T.mk_Chain (oki_Chain T) (hr.mono (by decide)) rfl T.mc_Chain T.b_Chain___init__ (da_cons (de_make T.oc_Shift T.mk_Shift (oki_Shift T) (hr.mono (by decide)) rfl T.mc_Shift T.b_Shift___init__ (da_cons de_int (da_cons de_int da_nil))) (da_cons (de_var 5) da_nil))) da_nil))) (de_var 7) (fun _ _ => rfl))))))
      (dss_cons (ds_set (i := 8) SC.nd rfl (Or.inl rfl) (de_tup (da_cons (de_op op_addR snd_addR (de_ixA (Mir.Room.units65 hr) (de_var 2) de_int (fun _ _ => rfl)) de_int) (da_cons (de_ixA (Mir.Room.units65 hr) (de_var 2) de_int (fun _ _ => rfl)) da_nil))))
      (dss_cons (ds_if (DW.pt (dw_or (dt_not (dt_val (de_call ((ok__law_there T).mono (by decide)) hr rfl T.m__law_there T.f__law_there.kp T.b__law_there pass_out (fun _ _ h => h) (da_cons (de_var 5) (da_cons (de_var 2) (da_cons (de_var 8) da_nil)))))) (dw_or1 (dt_not (dt_val (de_call ((ok__law_back T).mono (by decide)) hr rfl T.m__law_back T.f__law_back.kp T.b__law_back pass_out (fun _ _ h => h) (da_cons (de_var 5) (da_cons (de_var 2) (da_cons (de_var 8) da_nil))))))))) (dss_one (ds_ret de_bl)) dss_nil)
      (dss_cons (ds_set (i := 9) SC.nd rfl (Or.inl rfl) (de_make T.oc_Chain T.mk_Chain (oki_Chain T) (hr.mono (by decide)) rfl T.mc_Chain T.b_Chain___init__ (da_cons (de_make T.oc_Chain T.mk_Chain (oki_Chain T) (hr.mono (by decide)) rfl T.mc_Chain T.b_Chain___init__ (da_cons (de_make0 T.oc_Quarter T.mk_Quarter rfl T.mc_Quarter) (da_cons (de_make0 T.oc_Quarter T.mk_Quarter rfl T.mc_Quarter) da_nil))) (da_cons (de_make T.oc_Chain T.mk_Chain (oki_Chain T) (hr.mono (by decide)) rfl T.mc_Chain T.b_Chain___init__ (da_cons (de_make0 T.oc_Quarter T.mk_Quarter rfl T.mc_Quarter) (da_cons (de_make0 T.oc_Quarter T.mk_Quarter rfl T.mc_Quarter) da_nil))) da_nil))))
      (dss_one (ds_ret (de_and (de_call ((ok__law_there T).mono (by decide)) hr rfl T.m__law_there T.f__law_there.kp T.b__law_there pass_out (fun _ _ h => h) (da_cons (de_var 9) (da_cons (de_var 2) (da_cons (de_var 2) da_nil)))) (de_and (de_call ((ok__law_there T).mono (by decide)) hr rfl T.m__law_there T.f__law_there.kp T.b__law_there pass_out (fun _ _ h => h) (da_cons (de_make0 T.oc_Move T.mk_Move rfl T.mc_Move) (da_cons (de_var 2) (da_cons (de_var 2) da_nil)))) (de_one (de_call ((ok__law_chained T).mono (by decide)) hr rfl T.m__law_chained T.f__law_chained.kp T.b__law_chained pass_out (fun _ _ h => h) (da_cons (de_var 3) (da_cons (de_var 2) da_nil)))))))))))))))))
end
set_option maxHeartbeats 0 in
theorem all_mk {l : PySem.W.OpenLaw} {w : World} {K : PySem.W.Frag} {h : Heap} {mg : Str → Option Value} {fa : Addr} (X : K.In h) (G : h.Ns mainGlobals mg) (hfa : mg "law" = some (.ref fa))
    {C_Shift : Addr}
    {C_Chain : Addr}
    {C_Move : Addr}
    {C_Quarter : Addr}
    {C_Mirror : Addr}
    {C_QuarterBack : Addr}
    {f0 : Addr} {od0 an0 : Option Addr} {sl0 : Array (Option Value)} {oc0 kV0 dc0 pm0 cd0 ct0 : Value}
    {f1 : Addr} {od1 an1 : Option Addr} {sl1 : Array (Option Value)} {oc1 kV1 dc1 pm1 cd1 ct1 : Value}
    {f2 : Addr} {od2 an2 : Option Addr} {sl2 : Array (Option Value)} {oc2 kV2 dc2 pm2 cd2 ct2 : Value}
    {f3 : Addr} {od3 an3 : Option Addr} {sl3 : Array (Option Value)} {oc3 kV3 dc3 pm3 cd3 ct3 : Value}
    {f4 : Addr} {od4 an4 : Option Addr} {sl4 : Array (Option Value)} {oc4 kV4 dc4 pm4 cd4 ct4 : Value}
    {f5 : Addr} {od5 an5 : Option Addr} {sl5 : Array (Option Value)} {oc5 kV5 dc5 pm5 cd5 ct5 : Value}
    {f6 : Addr} {od6 an6 : Option Addr} {sl6 : Array (Option Value)} {oc6 kV6 dc6 pm6 cd6 ct6 : Value}
    {f7 : Addr} {od7 an7 : Option Addr} {sl7 : Array (Option Value)} {oc7 kV7 dc7 pm7 cd7 ct7 : Value}
    {f8 : Addr} {od8 an8 : Option Addr} {sl8 : Array (Option Value)} {oc8 kV8 dc8 pm8 cd8 ct8 : Value}
    {f9 : Addr} {od9 an9 : Option Addr} {sl9 : Array (Option Value)} {oc9 kV9 dc9 pm9 cd9 ct9 : Value}
    {f10 : Addr} {od10 an10 : Option Addr} {sl10 : Array (Option Value)} {oc10 kV10 dc10 pm10 cd10 ct10 : Value}
    {f11 : Addr} {od11 an11 : Option Addr} {sl11 : Array (Option Value)} {oc11 kV11 dc11 pm11 cd11 ct11 : Value}
    {f12 : Addr} {od12 an12 : Option Addr} {sl12 : Array (Option Value)} {oc12 kV12 dc12 pm12 cd12 ct12 : Value}
    {f13 : Addr} {od13 an13 : Option Addr} {sl13 : Array (Option Value)} {oc13 kV13 dc13 pm13 cd13 ct13 : Value}
    {f14 : Addr} {od14 an14 : Option Addr} {sl14 : Array (Option Value)} {oc14 kV14 dc14 pm14 cd14 ct14 : Value}
    {f15 : Addr} {od15 an15 : Option Addr} {sl15 : Array (Option Value)} {oc15 kV15 dc15 pm15 cd15 ct15 : Value}
    {f16 : Addr} {od16 an16 : Option Addr} {sl16 : Array (Option Value)} {oc16 kV16 dc16 pm16 cd16 ct16 : Value}
    {f17 : Addr} {od17 an17 : Option Addr} {sl17 : Array (Option Value)} {oc17 kV17 dc17 pm17 cd17 ct17 : Value}
    {f18 : Addr} {od18 an18 : Option Addr} {sl18 : Array (Option Value)} {oc18 kV18 dc18 pm18 cd18 ct18 : Value}
    {f19 : Addr} {od19 an19 : Option Addr} {sl19 : Array (Option Value)} {oc19 kV19 dc19 pm19 cd19 ct19 : Value}
    {f20 : Addr} {od20 an20 : Option Addr} {sl20 : Array (Option Value)} {oc20 kV20 dc20 pm20 cd20 ct20 : Value}
    {f21 : Addr} {od21 an21 : Option Addr} {sl21 : Array (Option Value)} {oc21 kV21 dc21 pm21 cd21 ct21 : Value}
    {f22 : Addr} {od22 an22 : Option Addr} {sl22 : Array (Option Value)} {oc22 kV22 dc22 pm22 cd22 ct22 : Value}
    {f23 : Addr} {od23 an23 : Option Addr} {sl23 : Array (Option Value)} {oc23 kV23 dc23 pm23 cd23 ct23 : Value}
    (x_Shift : PySem.W.nsIn K mainGlobals (Str.ofString "Shift") = some (some (.ref C_Shift)))
    (pg_Shift : PySem.W.plainGet K C_Shift Str.empty = true)
    (hd_Shift : PySem.W.hasDictIn K C_Shift = true)
    (po_Shift : PySem.W.plainOver K C_Shift = true)
    (sa_Shift : PySem.W.findIn K (.ref C_Shift) "__setattr__" = some (some (.builtin "object.__setattr__")))
    (ob_Shift : PySem.W.mroIn K C_Shift (.type "object") = some true)
    (ms_Shift : PySem.W.makesIn K C_Shift = true)
    (kc_Shift : PySem.W.keepIn K (.ref C_Shift) = true)
    (hc_Shift : PySem.W.findIn K (.ref C_Shift) "__class__" = some (some (.builtin "object.__class__")))
    (x_Chain : PySem.W.nsIn K mainGlobals (Str.ofString "Chain") = some (some (.ref C_Chain)))
    (pg_Chain : PySem.W.plainGet K C_Chain Str.empty = true)
    (hd_Chain : PySem.W.hasDictIn K C_Chain = true)
    (po_Chain : PySem.W.plainOver K C_Chain = true)
    (sa_Chain : PySem.W.findIn K (.ref C_Chain) "__setattr__" = some (some (.builtin "object.__setattr__")))
    (ob_Chain : PySem.W.mroIn K C_Chain (.type "object") = some true)
    (ms_Chain : PySem.W.makesIn K C_Chain = true)
    (kc_Chain : PySem.W.keepIn K (.ref C_Chain) = true)
    (hc_Chain : PySem.W.findIn K (.ref C_Chain) "__class__" = some (some (.builtin "object.__class__")))
    (x_Move : PySem.W.nsIn K mainGlobals (Str.ofString "Move") = some (some (.ref C_Move)))
    (pg_Move : PySem.W.plainGet K C_Move Str.empty = true)
    (hd_Move : PySem.W.hasDictIn K C_Move = true)
    (po_Move : PySem.W.plainOver K C_Move = true)
    (sa_Move : PySem.W.findIn K (.ref C_Move) "__setattr__" = some (some (.builtin "object.__setattr__")))
    (ob_Move : PySem.W.mroIn K C_Move (.type "object") = some true)
    (ms_Move : PySem.W.makesIn K C_Move = true)
    (kc_Move : PySem.W.keepIn K (.ref C_Move) = true)
    (hc_Move : PySem.W.findIn K (.ref C_Move) "__class__" = some (some (.builtin "object.__class__")))
    (in_Move : PySem.W.findIn K (.ref C_Move) "__init__" = some (some (.builtin "object.__init__")))
    (x_Quarter : PySem.W.nsIn K mainGlobals (Str.ofString "Quarter") = some (some (.ref C_Quarter)))
    (pg_Quarter : PySem.W.plainGet K C_Quarter Str.empty = true)
    (hd_Quarter : PySem.W.hasDictIn K C_Quarter = true)
    (po_Quarter : PySem.W.plainOver K C_Quarter = true)
    (sa_Quarter : PySem.W.findIn K (.ref C_Quarter) "__setattr__" = some (some (.builtin "object.__setattr__")))
    (ob_Quarter : PySem.W.mroIn K C_Quarter (.type "object") = some true)
    (ms_Quarter : PySem.W.makesIn K C_Quarter = true)
    (kc_Quarter : PySem.W.keepIn K (.ref C_Quarter) = true)
    (hc_Quarter : PySem.W.findIn K (.ref C_Quarter) "__class__" = some (some (.builtin "object.__class__")))
    (in_Quarter : PySem.W.findIn K (.ref C_Quarter) "__init__" = some (some (.builtin "object.__init__")))
    (x_Mirror : PySem.W.nsIn K mainGlobals (Str.ofString "Mirror") = some (some (.ref C_Mirror)))
    (pg_Mirror : PySem.W.plainGet K C_Mirror Str.empty = true)
    (hd_Mirror : PySem.W.hasDictIn K C_Mirror = true)
    (po_Mirror : PySem.W.plainOver K C_Mirror = true)
    (sa_Mirror : PySem.W.findIn K (.ref C_Mirror) "__setattr__" = some (some (.builtin "object.__setattr__")))
    (ob_Mirror : PySem.W.mroIn K C_Mirror (.type "object") = some true)
    (ms_Mirror : PySem.W.makesIn K C_Mirror = true)
    (kc_Mirror : PySem.W.keepIn K (.ref C_Mirror) = true)
    (hc_Mirror : PySem.W.findIn K (.ref C_Mirror) "__class__" = some (some (.builtin "object.__class__")))
    (in_Mirror : PySem.W.findIn K (.ref C_Mirror) "__init__" = some (some (.builtin "object.__init__")))
    (x_QuarterBack : PySem.W.nsIn K mainGlobals (Str.ofString "QuarterBack") = some (some (.ref C_QuarterBack)))
    (pg_QuarterBack : PySem.W.plainGet K C_QuarterBack Str.empty = true)
    (hd_QuarterBack : PySem.W.hasDictIn K C_QuarterBack = true)
    (po_QuarterBack : PySem.W.plainOver K C_QuarterBack = true)
    (sa_QuarterBack : PySem.W.findIn K (.ref C_QuarterBack) "__setattr__" = some (some (.builtin "object.__setattr__")))
    (ob_QuarterBack : PySem.W.mroIn K C_QuarterBack (.type "object") = some true)
    (ms_QuarterBack : PySem.W.makesIn K C_QuarterBack = true)
    (kc_QuarterBack : PySem.W.keepIn K (.ref C_QuarterBack) = true)
    (hc_QuarterBack : PySem.W.findIn K (.ref C_QuarterBack) "__class__" = some (some (.builtin "object.__class__")))
    (in_QuarterBack : PySem.W.findIn K (.ref C_QuarterBack) "__init__" = some (some (.builtin "object.__init__")))
    (na_Shift_down : PySem.W.findIn K (.ref C_Shift) "down" = some none)
    (na_Shift_right : PySem.W.findIn K (.ref C_Shift) "right" = some none)
    (na_Chain_first : PySem.W.findIn K (.ref C_Chain) "first" = some none)
    (na_Chain_second : PySem.W.findIn K (.ref C_Chain) "second" = some none)
    (ki_Shift_Move : PySem.W.kitOne K (.ref C_Shift) (.ref C_Move) = some true)
    (ki_Chain_Move : PySem.W.kitOne K (.ref C_Chain) (.ref C_Move) = some true)
    (ki_Move_Move : PySem.W.kitOne K (.ref C_Move) (.ref C_Move) = some true)
    (ki_Quarter_Move : PySem.W.kitOne K (.ref C_Quarter) (.ref C_Move) = some true)
    (ki_Mirror_Move : PySem.W.kitOne K (.ref C_Mirror) (.ref C_Move) = some true)
    (ki_QuarterBack_Move : PySem.W.kitOne K (.ref C_QuarterBack) (.ref C_Move) = some true)
    (hnM : PySem.W.specialIn K (.builtin "object.__class__") "__get__" = some (some (.builtin "getset_descriptor.__get__")))
    (htkM : PySem.W.takesIn K (.builtin "object.__class__") = some true)
    (aM0 : PySem.W.findIn K (.ref C_Shift) "__init__" = some (some (.ref f0))) (iM0 : PySem.W.isFn K (.ref f0) = true) (lM0 : K.lookup f0 = some ⟨oc0, od0, .func (PySem.W.fnOf "__init__" "Shift.__init__" (defArgs s_Shift___init__) (defBody s_Shift___init__) (defScope s_Shift___init__) .none kV0 dc0 pm0 an0 cd0 ct0), sl0⟩) (cM0 : PySem.W.codeIn K cd0 "Shift.__init__" = true) (kM0 : PySem.W.keepIn K (.ref f0) = true)
    (aM1 : PySem.W.findIn K (.ref C_Chain) "__init__" = some (some (.ref f1))) (iM1 : PySem.W.isFn K (.ref f1) = true) (lM1 : K.lookup f1 = some ⟨oc1, od1, .func (PySem.W.fnOf "__init__" "Chain.__init__" (defArgs s_Chain___init__) (defBody s_Chain___init__) (defScope s_Chain___init__) .none kV1 dc1 pm1 an1 cd1 ct1), sl1⟩) (cM1 : PySem.W.codeIn K cd1 "Chain.__init__" = true) (kM1 : PySem.W.keepIn K (.ref f1) = true)
    (aM2 : PySem.W.findIn K (.ref C_Move) "on_cell" = some (some (.ref f2))) (iM2 : PySem.W.isFn K (.ref f2) = true) (lM2 : K.lookup f2 = some ⟨oc2, od2, .func (PySem.W.fnOf "on_cell" "Move.on_cell" (defArgs s_Move_on_cell) (defBody s_Move_on_cell) (defScope s_Move_on_cell) .none kV2 dc2 pm2 an2 cd2 ct2), sl2⟩) (cM2 : PySem.W.codeIn K cd2 "Move.on_cell" = true) (kM2 : PySem.W.keepIn K (.ref f2) = true)
    (aM3 : PySem.W.findIn K (.ref C_Shift) "on_cell" = some (some (.ref f3))) (iM3 : PySem.W.isFn K (.ref f3) = true) (lM3 : K.lookup f3 = some ⟨oc3, od3, .func (PySem.W.fnOf "on_cell" "Shift.on_cell" (defArgs s_Shift_on_cell) (defBody s_Shift_on_cell) (defScope s_Shift_on_cell) .none kV3 dc3 pm3 an3 cd3 ct3), sl3⟩) (cM3 : PySem.W.codeIn K cd3 "Shift.on_cell" = true) (kM3 : PySem.W.keepIn K (.ref f3) = true)
    (aM4 : PySem.W.findIn K (.ref C_Quarter) "on_cell" = some (some (.ref f4))) (iM4 : PySem.W.isFn K (.ref f4) = true) (lM4 : K.lookup f4 = some ⟨oc4, od4, .func (PySem.W.fnOf "on_cell" "Quarter.on_cell" (defArgs s_Quarter_on_cell) (defBody s_Quarter_on_cell) (defScope s_Quarter_on_cell) .none kV4 dc4 pm4 an4 cd4 ct4), sl4⟩) (cM4 : PySem.W.codeIn K cd4 "Quarter.on_cell" = true) (kM4 : PySem.W.keepIn K (.ref f4) = true)
    (aM5 : PySem.W.findIn K (.ref C_QuarterBack) "on_cell" = some (some (.ref f5))) (iM5 : PySem.W.isFn K (.ref f5) = true) (lM5 : K.lookup f5 = some ⟨oc5, od5, .func (PySem.W.fnOf "on_cell" "QuarterBack.on_cell" (defArgs s_QuarterBack_on_cell) (defBody s_QuarterBack_on_cell) (defScope s_QuarterBack_on_cell) .none kV5 dc5 pm5 an5 cd5 ct5), sl5⟩) (cM5 : PySem.W.codeIn K cd5 "QuarterBack.on_cell" = true) (kM5 : PySem.W.keepIn K (.ref f5) = true)
    (aM6 : PySem.W.findIn K (.ref C_Mirror) "on_cell" = some (some (.ref f6))) (iM6 : PySem.W.isFn K (.ref f6) = true) (lM6 : K.lookup f6 = some ⟨oc6, od6, .func (PySem.W.fnOf "on_cell" "Mirror.on_cell" (defArgs s_Mirror_on_cell) (defBody s_Mirror_on_cell) (defScope s_Mirror_on_cell) .none kV6 dc6 pm6 an6 cd6 ct6), sl6⟩) (cM6 : PySem.W.codeIn K cd6 "Mirror.on_cell" = true) (kM6 : PySem.W.keepIn K (.ref f6) = true)
    (aM7 : PySem.W.findIn K (.ref C_Chain) "on_cell" = some (some (.ref f7))) (iM7 : PySem.W.isFn K (.ref f7) = true) (lM7 : K.lookup f7 = some ⟨oc7, od7, .func (PySem.W.fnOf "on_cell" "Chain.on_cell" (defArgs s_Chain_on_cell) (defBody s_Chain_on_cell) (defScope s_Chain_on_cell) .none kV7 dc7 pm7 an7 cd7 ct7), sl7⟩) (cM7 : PySem.W.codeIn K cd7 "Chain.on_cell" = true) (kM7 : PySem.W.keepIn K (.ref f7) = true)
    (a8 : PySem.W.nsIn K mainGlobals "_law_whole" = some (some (.ref f8))) (l8 : K.lookup f8 = some ⟨oc8, od8, .func (PySem.W.fnOf "_law_whole" "_law_whole" (defArgs s__law_whole) (defBody s__law_whole) (defScope s__law_whole) .none kV8 dc8 pm8 an8 cd8 ct8), sl8⟩) (c8 : PySem.W.codeIn K cd8 "_law_whole" = true) (k8 : PySem.W.keepIn K (.ref f8) = true)
    (a9 : PySem.W.nsIn K mainGlobals "_law_is_cell" = some (some (.ref f9))) (l9 : K.lookup f9 = some ⟨oc9, od9, .func (PySem.W.fnOf "_law_is_cell" "_law_is_cell" (defArgs s__law_is_cell) (defBody s__law_is_cell) (defScope s__law_is_cell) .none kV9 dc9 pm9 an9 cd9 ct9), sl9⟩) (c9 : PySem.W.codeIn K cd9 "_law_is_cell" = true) (k9 : PySem.W.keepIn K (.ref f9) = true)
    (a10 : PySem.W.nsIn K mainGlobals "_law_there" = some (some (.ref f10))) (l10 : K.lookup f10 = some ⟨oc10, od10, .func (PySem.W.fnOf "_law_there" "_law_there" (defArgs s__law_there) (defBody s__law_there) (defScope s__law_there) .none kV10 dc10 pm10 an10 cd10 ct10), sl10⟩) (c10 : PySem.W.codeIn K cd10 "_law_there" = true) (k10 : PySem.W.keepIn K (.ref f10) = true)
    (a11 : PySem.W.nsIn K mainGlobals "_law_far" = some (some (.ref f11))) (l11 : K.lookup f11 = some ⟨oc11, od11, .func (PySem.W.fnOf "_law_far" "_law_far" (defArgs s__law_far) (defBody s__law_far) (defScope s__law_far) .none kV11 dc11 pm11 an11 cd11 ct11), sl11⟩) (c11 : PySem.W.codeIn K cd11 "_law_far" = true) (k11 : PySem.W.keepIn K (.ref f11) = true)
    (a12 : PySem.W.nsIn K mainGlobals "_law_move" = some (some (.ref f12))) (l12 : K.lookup f12 = some ⟨oc12, od12, .func (PySem.W.fnOf "_law_move" "_law_move" (defArgs s__law_move) (defBody s__law_move) (defScope s__law_move) .none kV12 dc12 pm12 an12 cd12 ct12), sl12⟩) (c12 : PySem.W.codeIn K cd12 "_law_move" = true) (k12 : PySem.W.keepIn K (.ref f12) = true)
    (a13 : PySem.W.nsIn K mainGlobals "_law_to" = some (some (.ref f13))) (l13 : K.lookup f13 = some ⟨oc13, od13, .func (PySem.W.fnOf "_law_to" "_law_to" (defArgs s__law_to) (defBody s__law_to) (defScope s__law_to) .none kV13 dc13 pm13 an13 cd13 ct13), sl13⟩) (c13 : PySem.W.codeIn K cd13 "_law_to" = true) (k13 : PySem.W.keepIn K (.ref f13) = true)
    (aM14 : PySem.W.findIn K (.ref C_Move) "back" = some (some (.ref f14))) (iM14 : PySem.W.isFn K (.ref f14) = true) (lM14 : K.lookup f14 = some ⟨oc14, od14, .func (PySem.W.fnOf "back" "Move.back" (defArgs s_Move_back) (defBody s_Move_back) (defScope s_Move_back) .none kV14 dc14 pm14 an14 cd14 ct14), sl14⟩) (cM14 : PySem.W.codeIn K cd14 "Move.back" = true) (kM14 : PySem.W.keepIn K (.ref f14) = true)
    (aM15 : PySem.W.findIn K (.ref C_Shift) "back" = some (some (.ref f15))) (iM15 : PySem.W.isFn K (.ref f15) = true) (lM15 : K.lookup f15 = some ⟨oc15, od15, .func (PySem.W.fnOf "back" "Shift.back" (defArgs s_Shift_back) (defBody s_Shift_back) (defScope s_Shift_back) .none kV15 dc15 pm15 an15 cd15 ct15), sl15⟩) (cM15 : PySem.W.codeIn K cd15 "Shift.back" = true) (kM15 : PySem.W.keepIn K (.ref f15) = true)
    (aM16 : PySem.W.findIn K (.ref C_Quarter) "back" = some (some (.ref f16))) (iM16 : PySem.W.isFn K (.ref f16) = true) (lM16 : K.lookup f16 = some ⟨oc16, od16, .func (PySem.W.fnOf "back" "Quarter.back" (defArgs s_Quarter_back) (defBody s_Quarter_back) (defScope s_Quarter_back) .none kV16 dc16 pm16 an16 cd16 ct16), sl16⟩) (cM16 : PySem.W.codeIn K cd16 "Quarter.back" = true) (kM16 : PySem.W.keepIn K (.ref f16) = true)
    (aM17 : PySem.W.findIn K (.ref C_QuarterBack) "back" = some (some (.ref f17))) (iM17 : PySem.W.isFn K (.ref f17) = true) (lM17 : K.lookup f17 = some ⟨oc17, od17, .func (PySem.W.fnOf "back" "QuarterBack.back" (defArgs s_QuarterBack_back) (defBody s_QuarterBack_back) (defScope s_QuarterBack_back) .none kV17 dc17 pm17 an17 cd17 ct17), sl17⟩) (cM17 : PySem.W.codeIn K cd17 "QuarterBack.back" = true) (kM17 : PySem.W.keepIn K (.ref f17) = true)
    (aM18 : PySem.W.findIn K (.ref C_Mirror) "back" = some (some (.ref f18))) (iM18 : PySem.W.isFn K (.ref f18) = true) (lM18 : K.lookup f18 = some ⟨oc18, od18, .func (PySem.W.fnOf "back" "Mirror.back" (defArgs s_Mirror_back) (defBody s_Mirror_back) (defScope s_Mirror_back) .none kV18 dc18 pm18 an18 cd18 ct18), sl18⟩) (cM18 : PySem.W.codeIn K cd18 "Mirror.back" = true) (kM18 : PySem.W.keepIn K (.ref f18) = true)
    (aM19 : PySem.W.findIn K (.ref C_Chain) "back" = some (some (.ref f19))) (iM19 : PySem.W.isFn K (.ref f19) = true) (lM19 : K.lookup f19 = some ⟨oc19, od19, .func (PySem.W.fnOf "back" "Chain.back" (defArgs s_Chain_back) (defBody s_Chain_back) (defScope s_Chain_back) .none kV19 dc19 pm19 an19 cd19 ct19), sl19⟩) (cM19 : PySem.W.codeIn K cd19 "Chain.back" = true) (kM19 : PySem.W.keepIn K (.ref f19) = true)
    (a20 : PySem.W.nsIn K mainGlobals "_law_back" = some (some (.ref f20))) (l20 : K.lookup f20 = some ⟨oc20, od20, .func (PySem.W.fnOf "_law_back" "_law_back" (defArgs s__law_back) (defBody s__law_back) (defScope s__law_back) .none kV20 dc20 pm20 an20 cd20 ct20), sl20⟩) (c20 : PySem.W.codeIn K cd20 "_law_back" = true) (k20 : PySem.W.keepIn K (.ref f20) = true)
    (a21 : PySem.W.nsIn K mainGlobals "_law_chained" = some (some (.ref f21))) (l21 : K.lookup f21 = some ⟨oc21, od21, .func (PySem.W.fnOf "_law_chained" "_law_chained" (defArgs s__law_chained) (defBody s__law_chained) (defScope s__law_chained) .none kV21 dc21 pm21 an21 cd21 ct21), sl21⟩) (c21 : PySem.W.codeIn K cd21 "_law_chained" = true) (k21 : PySem.W.keepIn K (.ref f21) = true)
    (a22 : PySem.W.nsIn K mainGlobals "_law_cell_at" = some (some (.ref f22))) (l22 : K.lookup f22 = some ⟨oc22, od22, .func (PySem.W.fnOf "_law_cell_at" "_law_cell_at" (defArgs s__law_cell_at) (defBody s__law_cell_at) (defScope s__law_cell_at) .none kV22 dc22 pm22 an22 cd22 ct22), sl22⟩) (c22 : PySem.W.codeIn K cd22 "_law_cell_at" = true) (k22 : PySem.W.keepIn K (.ref f22) = true)
    (a23 : PySem.W.nsIn K mainGlobals "law" = some (some (.ref f23))) (l23 : K.lookup f23 = some ⟨oc23, od23, .func (PySem.W.fnOf "law" "law" (defArgs s_law) (defBody s_law) (defScope s_law) .none kV23 dc23 pm23 an23 cd23 ct23), sl23⟩) (c23 : PySem.W.codeIn K cd23 "law" = true) (k23 : PySem.W.keepIn K (.ref f23) = true)
    (z_bool : PySem.W.nsIn K mainGlobals "bool" = some none)
    (z_isinstance : PySem.W.nsIn K mainGlobals "isinstance" = some none)
    (z_int : PySem.W.nsIn K mainGlobals "int" = some none)
    (z_len : PySem.W.nsIn K mainGlobals "len" = some none)
    (z_tuple : PySem.W.nsIn K mainGlobals "tuple" = some none)
    (z_range : PySem.W.nsIn K mainGlobals "range" = some none)
    : ∃ fd : FuncData, (∀ (s : Shared) (v : Value), BindsTo s fd ⟨[v], []⟩ [("_law_script", v)]) ∧ ∀ base : Heap, K.In base → base.Ns mainGlobals mg → FnOk l.prog w K mg base (CXm l.prog w) 70 fa fd ["_law_script"] (spOk ⟨K, ST.byText w⟩ 1 F_law) := by
  have e := hfa.symm.trans (PySem.W.mg_of X G a23)
  cases e
  have F0 := fun_mk (st := s_Shift___init__) lM0 cM0 kM0
  have F1 := fun_mk (st := s_Chain___init__) lM1 cM1 kM1
  have F2 := fun_mk (st := s_Move_on_cell) lM2 cM2 kM2
  have F3 := fun_mk (st := s_Shift_on_cell) lM3 cM3 kM3
  have F4 := fun_mk (st := s_Quarter_on_cell) lM4 cM4 kM4
  have F5 := fun_mk (st := s_QuarterBack_on_cell) lM5 cM5 kM5
  have F6 := fun_mk (st := s_Mirror_on_cell) lM6 cM6 kM6
  have F7 := fun_mk (st := s_Chain_on_cell) lM7 cM7 kM7
  have F8 := fun_mk (st := s__law_whole) l8 c8 k8
  have F9 := fun_mk (st := s__law_is_cell) l9 c9 k9
  have F10 := fun_mk (st := s__law_there) l10 c10 k10
  have F11 := fun_mk (st := s__law_far) l11 c11 k11
  have F12 := fun_mk (st := s__law_move) l12 c12 k12
  have F13 := fun_mk (st := s__law_to) l13 c13 k13
  have F14 := fun_mk (st := s_Move_back) lM14 cM14 kM14
  have F15 := fun_mk (st := s_Shift_back) lM15 cM15 kM15
  have F16 := fun_mk (st := s_Quarter_back) lM16 cM16 kM16
  have F17 := fun_mk (st := s_QuarterBack_back) lM17 cM17 kM17
  have F18 := fun_mk (st := s_Mirror_back) lM18 cM18 kM18
  have F19 := fun_mk (st := s_Chain_back) lM19 cM19 kM19
  have F20 := fun_mk (st := s__law_back) l20 c20 k20
  have F21 := fun_mk (st := s__law_chained) l21 c21 k21
  have F22 := fun_mk (st := s__law_cell_at) l22 c22 k22
  have F23 := fun_mk (st := s_law) l23 c23 k23
  have T : Txt K mg ⟨f0, f1, f2, f3, f4, f5, f6, f7, f8, f9, f10, f11, f12, f13, f14, f15, f16, f17, f18, f19, f20, f21, f22, fa, C_Shift, C_Chain, C_Move, C_Quarter, C_Mirror, C_QuarterBack⟩ ⟨_, _, _, _, _, _, _, _, _, _, _, _, _, _, _, _, _, _, _, _, _, _, _, _⟩ := ⟨PySem.W.mg_none_of X G z_bool,
    PySem.W.mg_none_of X G z_isinstance,
    PySem.W.mg_none_of X G z_int,
    PySem.W.mg_none_of X G z_len,
    PySem.W.mg_none_of X G z_tuple,
    PySem.W.mg_none_of X G z_range,
    ⟨x_Shift, ⟨pg_Shift, hd_Shift, po_Shift, sa_Shift⟩⟩,
    ⟨ms_Shift, aM0, iM0, kc_Shift⟩,
    ⟨x_Chain, ⟨pg_Chain, hd_Chain, po_Chain, sa_Chain⟩⟩,
    ⟨ms_Chain, aM1, iM1, kc_Chain⟩,
    ⟨x_Move, ⟨pg_Move, hd_Move, po_Move, sa_Move⟩⟩,
    ⟨ms_Move, in_Move, ob_Move, kc_Move⟩,
    ⟨x_Quarter, ⟨pg_Quarter, hd_Quarter, po_Quarter, sa_Quarter⟩⟩,
    ⟨ms_Quarter, in_Quarter, ob_Quarter, kc_Quarter⟩,
    ⟨x_Mirror, ⟨pg_Mirror, hd_Mirror, po_Mirror, sa_Mirror⟩⟩,
    ⟨ms_Mirror, in_Mirror, ob_Mirror, kc_Mirror⟩,
    ⟨x_QuarterBack, ⟨pg_QuarterBack, hd_QuarterBack, po_QuarterBack, sa_QuarterBack⟩⟩,
    ⟨ms_QuarterBack, in_QuarterBack, ob_QuarterBack, kc_QuarterBack⟩,
    na_Shift_down,
    na_Shift_right,
    na_Chain_first,
    na_Chain_second,
    ⟨by
      unfold mCs_Move
      simp only [List.forall_mem_cons]
      exact ⟨⟨_, _, ⟨⟨x_Shift, ⟨pg_Shift, hd_Shift, po_Shift, sa_Shift⟩⟩, hc_Shift, hnM, htkM, ob_Shift⟩, x_Move, ki_Shift_Move⟩, ⟨_, _, ⟨⟨x_Chain, ⟨pg_Chain, hd_Chain, po_Chain, sa_Chain⟩⟩, hc_Chain, hnM, htkM, ob_Chain⟩, x_Move, ki_Chain_Move⟩, ⟨_, _, ⟨⟨x_Move, ⟨pg_Move, hd_Move, po_Move, sa_Move⟩⟩, hc_Move, hnM, htkM, ob_Move⟩, x_Move, ki_Move_Move⟩, ⟨_, _, ⟨⟨x_Quarter, ⟨pg_Quarter, hd_Quarter, po_Quarter, sa_Quarter⟩⟩, hc_Quarter, hnM, htkM, ob_Quarter⟩, x_Move, ki_Quarter_Move⟩, ⟨_, _, ⟨⟨x_Mirror, ⟨pg_Mirror, hd_Mirror, po_Mirror, sa_Mirror⟩⟩, hc_Mirror, hnM, htkM, ob_Mirror⟩, x_Move, ki_Mirror_Move⟩, ⟨_, _, ⟨⟨x_QuarterBack, ⟨pg_QuarterBack, hd_QuarterBack, po_QuarterBack, sa_QuarterBack⟩⟩, hc_QuarterBack, hnM, htkM, ob_QuarterBack⟩, x_Move, ki_QuarterBack_Move⟩, fun _ z => nomatch z⟩⟩,
    ⟨aM0, iM0, kM0⟩,
    F0,
    F0.binds (ps := ["self", "down", "right"]) fun _ _ _ _ _ _ us hl => match us, hl with | [_, _, _], _ => rfl,
    ⟨aM1, iM1, kM1⟩,
    F1,
    F1.binds (ps := ["self", "first", "second"]) fun _ _ _ _ _ _ us hl => match us, hl with | [_, _, _], _ => rfl,
    ⟨aM2, iM2, kM2⟩,
    F2,
    F2.binds (ps := ["self", "cell"]) fun _ _ _ _ _ _ us hl => match us, hl with | [_, _], _ => rfl,
    ⟨aM3, iM3, kM3⟩,
    F3,
    F3.binds (ps := ["self", "cell"]) fun _ _ _ _ _ _ us hl => match us, hl with | [_, _], _ => rfl,
    ⟨aM4, iM4, kM4⟩,
    F4,
    F4.binds (ps := ["self", "cell"]) fun _ _ _ _ _ _ us hl => match us, hl with | [_, _], _ => rfl,
    ⟨aM5, iM5, kM5⟩,
    F5,
    F5.binds (ps := ["self", "cell"]) fun _ _ _ _ _ _ us hl => match us, hl with | [_, _], _ => rfl,
    ⟨aM6, iM6, kM6⟩,
    F6,
    F6.binds (ps := ["self", "cell"]) fun _ _ _ _ _ _ us hl => match us, hl with | [_, _], _ => rfl,
    ⟨aM7, iM7, kM7⟩,
    F7,
    F7.binds (ps := ["self", "cell"]) fun _ _ _ _ _ _ us hl => match us, hl with | [_, _], _ => rfl,
    PySem.W.mg_of X G a8,
    F8,
    F8.binds (ps := ["_law_found"]) fun _ _ _ _ _ _ us hl => match us, hl with | [_], _ => rfl,
    PySem.W.mg_of X G a9,
    F9,
    F9.binds (ps := ["_law_found"]) fun _ _ _ _ _ _ us hl => match us, hl with | [_], _ => rfl,
    PySem.W.mg_of X G a10,
    F10,
    F10.binds (ps := ["_law_move_here", "_law_spot", "_law_due"]) fun _ _ _ _ _ _ us hl => match us, hl with | [_, _, _], _ => rfl,
    PySem.W.mg_of X G a11,
    F11,
    F11.binds (ps := ["_law_cell"]) fun _ _ _ _ _ _ us hl => match us, hl with | [_], _ => rfl,
    PySem.W.mg_of X G a12,
    F12,
    F12.binds (ps := ["_law_cell"]) fun _ _ _ _ _ _ us hl => match us, hl with | [_], _ => rfl,
    PySem.W.mg_of X G a13,
    F13,
    F13.binds (ps := ["_law_cell", "_law_spot"]) fun _ _ _ _ _ _ us hl => match us, hl with | [_, _], _ => rfl,
    ⟨aM14, iM14, kM14⟩,
    F14,
    F14.binds (ps := ["self"]) fun _ _ _ _ _ _ us hl => match us, hl with | [_], _ => rfl,
    ⟨aM15, iM15, kM15⟩,
    F15,
    F15.binds (ps := ["self"]) fun _ _ _ _ _ _ us hl => match us, hl with | [_], _ => rfl,
    ⟨aM16, iM16, kM16⟩,
    F16,
    F16.binds (ps := ["self"]) fun _ _ _ _ _ _ us hl => match us, hl with | [_], _ => rfl,
    ⟨aM17, iM17, kM17⟩,
    F17,
    F17.binds (ps := ["self"]) fun _ _ _ _ _ _ us hl => match us, hl with | [_], _ => rfl,
    ⟨aM18, iM18, kM18⟩,
    F18,
    F18.binds (ps := ["self"]) fun _ _ _ _ _ _ us hl => match us, hl with | [_], _ => rfl,
    ⟨aM19, iM19, kM19⟩,
    F19,
    F19.binds (ps := ["self"]) fun _ _ _ _ _ _ us hl => match us, hl with | [_], _ => rfl,
    PySem.W.mg_of X G a20,
    F20,
    F20.binds (ps := ["_law_move_here", "_law_spot", "_law_due"]) fun _ _ _ _ _ _ us hl => match us, hl with | [_, _, _], _ => rfl,
    PySem.W.mg_of X G a21,
    F21,
    F21.binds (ps := ["_law_cells", "_law_spot"]) fun _ _ _ _ _ _ us hl => match us, hl with | [_, _], _ => rfl,
    PySem.W.mg_of X G a22,
    F22,
    F22.binds (ps := ["_law_script", "_law_k"]) fun _ _ _ _ _ _ us hl => match us, hl with | [_, _], _ => rfl,
    PySem.W.mg_of X G a23,
    F23,
    F23.binds (ps := ["_law_script"]) fun _ _ _ _ _ _ us hl => match us, hl with | [_], _ => rfl,
    x_Shift,
    PySem.W.mg_of X G x_Shift,
    x_Chain,
    PySem.W.mg_of X G x_Chain,
    x_Move,
    PySem.W.mg_of X G x_Move,
    x_Quarter,
    PySem.W.mg_of X G x_Quarter,
    x_Mirror,
    PySem.W.mg_of X G x_Mirror,
    x_QuarterBack,
    PySem.W.mg_of X G x_QuarterBack⟩
  exact ⟨_, fun s v => .of_eq rfl, fun base _ _ => (ok_law T).imp spOk_spF⟩
end K62

namespace K62
open PySem L2 Mir
inductive Mv where
  | pl | sh (d r : Int) | qu | qb | mi | ch (a b : Mv)
def Mv.cl : Mv → String
  | .pl => "Move" | .sh _ _ => "Shift" | .qu => "Quarter" | .qb => "QuarterBack" | .mi => "Mirror" | .ch _ _ => "Chain"
def Mv.D : Mv → D
  | .pl => .mv "Move" [] []
  | .sh d r => .mv "Shift" ["down", "right"] [.int d, .int r]
  | .qu => .mv "Quarter" [] []
  | .qb => .mv "QuarterBack" [] []
  | .mi => .mv "Mirror" [] []
  | .ch a b => .mv "Chain" ["first", "second"] [a.D, b.D]
def Mv.dep : Mv → Nat
  | .ch a b => max a.dep b.dep + 1
  | _ => 0
def Mv.act : Mv → Cell → Cell
  | .pl, p => p
  | .sh d r, p => (p.1 + d, p.2 + r)
  | .qu, p => (p.2, -p.1)
  | .qb, p => (-p.2, p.1)
  | .mi, p => (p.1, -p.2)
  | .ch a b, p => b.act (a.act p)
def Mv.back : Mv → Mv
  | .pl => .pl
  | .sh d r => .sh (-d) (-r)
  | .qu => .qb
  | .qb => .qu
  | .mi => .mi
  | .ch a b => .ch b.back a.back
theorem Mv.dep_back : ∀ m : Mv, m.back.dep = m.dep
  | .pl => rfl | .sh _ _ => rfl | .qu => rfl | .qb => rfl | .mi => rfl
  | .ch a b => by show max b.back.dep a.back.dep + 1 = max a.dep b.dep + 1; rw [dep_back a, dep_back b, Nat.max_comm]
theorem Mv.back_back : ∀ m : Mv, m.back.back = m
  | .pl => rfl | .qu => rfl | .qb => rfl | .mi => rfl
  | .sh d r => by show Mv.sh (- -d) (- -r) = _; rw [Int.neg_neg, Int.neg_neg]
  | .ch a b => by show Mv.ch a.back.back b.back.back = _; rw [back_back a, back_back b]
theorem Mv.back_act : ∀ (m : Mv) (p : Cell), m.back.act (m.act p) = p
  | .pl, _ => rfl
  | .sh d r, p => by show (p.1 + d + -d, p.2 + r + -r) = p; rw [Int.add_neg_cancel_right, Int.add_neg_cancel_right]
  | .qu, p => by show (- -p.1, p.2) = p; rw [Int.neg_neg]
  | .qb, p => by show (p.1, - -p.2) = p; rw [Int.neg_neg]
  | .mi, p => by show (p.1, - -p.2) = p; rw [Int.neg_neg]
  | .ch a b, p => by show a.back.act (b.back.act (b.act (a.act p))) = p; rw [back_act b, back_act a]
theorem Mv.act_back (m : Mv) (p : Cell) : m.act (m.back.act p) = p := by
  have := m.back.back_act p
  rwa [m.back_back] at this
theorem meth_run {m : Str} {n : Nat} {tb : String → Option FB} {o : FE} {g : FA} {σ : Ev} {S S1 S2 : Store} {c : String} {ns : List Str} {ds xs : List D} {F : FB} {r : R D}
    (h1 : o σ S = some (.ok (.mv c ns ds), S1)) (hn : m ∉ ns) (hF : tb c = some F) (h2 : g σ S1 = some (.ok xs, S2)) (hl : xs.length = n) (h3 : F (.mv c ns ds :: xs) S2 = r) : eMeth m n tb o g σ S = r := by
  unfold eMeth
  rw [h1, bnd_ok]
  dsimp only
  rw [if_neg hn, hF]
  dsimp only
  rw [h2, bnd_ok, if_pos hl, h3]
theorem fld_run {cs : List String} {f : Str} {g : FE} {σ : Ev} {S S1 : Store} {c : String} {ns : List Str} {ds : List D} {d : D} (h1 : g σ S = some (.ok (.mv c ns ds), S1)) (hc : cs.contains c = true) (hd : fldD ns ds f = some d) : eFld cs f g σ S = some (.ok d, S1) := by
  unfold eFld
  rw [h1, bnd_ok]
  dsimp only
  rw [if_pos hc, hd]; rfl
theorem mk_run {c : String} {ns : List Str} {g : FA} {σ : Ev} {S S1 : Store} {xs : List D} (h1 : g σ S = some (.ok xs, S1)) (hl : xs.length = ns.length) : eMk c ns g σ S = some (.ok (.mv c ns xs), S1) := by
  unfold eMk
  rw [h1, bnd_ok, if_pos hl]; rfl
theorem Mv.D_mv (m : Mv) : ∃ ns ds, m.D = .mv m.cl ns ds ∧ ("on_cell" : Str) ∉ ns ∧ ("back" : Str) ∉ ns := by
  cases m with
  | pl => exact ⟨_, _, rfl, by decide, by decide⟩
  | sh d r => exact ⟨_, _, rfl, by decide, by decide⟩
  | qu => exact ⟨_, _, rfl, by decide, by decide⟩
  | qb => exact ⟨_, _, rfl, by decide, by decide⟩
  | mi => exact ⟨_, _, rfl, by decide, by decide⟩
  | ch a b => exact ⟨_, _, rfl, by decide, by decide⟩
theorem on_ok (S : Store) : ∀ (n : Nat) (m : Mv) (p : Cell), m.dep < n → ∃ F, tb_on_cell n m.cl = some F ∧ F [m.D, cD p] S = some (.ok (cD (m.act p)), S)
  | 0, _, _, h => absurd h (Nat.not_lt_zero _)
  | n + 1, .pl, p, _ => ⟨_, rfl, rfl⟩
  | n + 1, .sh d r, p, _ => ⟨_, rfl, rfl⟩
  | n + 1, .qu, p, _ => ⟨_, rfl, rfl⟩
  | n + 1, .qb, p, _ => ⟨_, rfl, rfl⟩
  | n + 1, .mi, p, _ => ⟨_, rfl, rfl⟩
  | n + 1, .ch a b, p, h => by
    have h : max a.dep b.dep + 1 < n + 1 := h
    obtain ⟨Fa, ha, ea⟩ := on_ok S n a p (by omega)
    obtain ⟨Fb, hb, eb⟩ := on_ok S n b (a.act p) (by omega)
    refine ⟨_, rfl, mk_rt (σ1 := [some (Mv.ch a b).D, some (cD p)]) (ret_ok ?_)⟩
    obtain ⟨na, da, e1, o1, _⟩ := a.D_mv
    obtain ⟨nb, db, e2, o2, _⟩ := b.D_mv
    have q1 : eMeth "on_cell" 1 (tb_on_cell n) (eFld ["Chain"] "first" (eVar 0)) (aCons (eVar 1) aNil) [some (Mv.ch a b).D, some (cD p)] S = some (.ok (cD (a.act p)), S) :=
      meth_run (fld_run rfl (by decide) (show fldD ["first", "second"] [a.D, b.D] "first" = some _ by rw [← e1]; rfl)) o1 ha rfl rfl (by rw [← e1]; exact ea)
    exact meth_run (fld_run rfl (by decide) (show fldD ["first", "second"] [a.D, b.D] "second" = some _ by rw [← e2]; rfl)) o2 hb (a1_ok q1) rfl (by rw [← e2]; exact eb)
theorem back_ok (S : Store) : ∀ (n : Nat) (m : Mv), m.dep < n → ∃ F, tb_back n m.cl = some F ∧ F [m.D] S = some (.ok m.back.D, S)
  | 0, _, h => absurd h (Nat.not_lt_zero _)
  | n + 1, .pl, _ => ⟨_, rfl, rfl⟩
  | n + 1, .sh d r, _ => ⟨_, rfl, rfl⟩
  | n + 1, .qu, _ => ⟨_, rfl, rfl⟩
  | n + 1, .qb, _ => ⟨_, rfl, rfl⟩
  | n + 1, .mi, _ => ⟨_, rfl, rfl⟩
  | n + 1, .ch a b, h => by
    have h : max a.dep b.dep + 1 < n + 1 := h
    obtain ⟨Fa, ha, ea⟩ := back_ok S n a (by omega)
    obtain ⟨Fb, hb, eb⟩ := back_ok S n b (by omega)
    refine ⟨_, rfl, mk_rt (σ1 := [some (Mv.ch a b).D]) (ret_ok ?_)⟩
    obtain ⟨na, da, e1, _, o1⟩ := a.D_mv
    obtain ⟨nb, db, e2, _, o2⟩ := b.D_mv
    refine mk_run (xs := [b.back.D, a.back.D]) (a2_ok (S1 := S) ?_ ?_) rfl
    · exact meth_run (fld_run rfl (by decide) (show fldD ["first", "second"] [a.D, b.D] "second" = some _ by rw [← e2]; rfl)) o2 hb rfl rfl (by rw [← e2]; exact eb)
    · exact meth_run (fld_run rfl (by decide) (show fldD ["first", "second"] [a.D, b.D] "first" = some _ by rw [← e1]; rfl)) o1 ha rfl rfl (by rw [← e1]; exact ea)
theorem on_run {m : Mv} {p : Cell} {o : FE} {g : FA} {σ : Ev} {S S1 S2 : Store} (hm : m.dep < 64) (h1 : o σ S = some (.ok m.D, S1)) (h2 : g σ S1 = some (.ok [cD p], S2)) : eMeth "on_cell" 1 (tb_on_cell 64) o g σ S = some (.ok (cD (m.act p)), S2) := by
  obtain ⟨F, hF, e⟩ := on_ok S2 64 m p hm
  obtain ⟨ns, ds, e1, o1, _⟩ := m.D_mv
  exact meth_run (by rw [h1, e1]) o1 hF h2 rfl (by rw [← e1]; exact e)
theorem back_run {m : Mv} {o : FE} {σ : Ev} {S S1 : Store} (hm : m.dep < 64) (h1 : o σ S = some (.ok m.D, S1)) : eMeth "back" 0 (tb_back 64) o aNil σ S = some (.ok m.back.D, S1) := by
  obtain ⟨F, hF, e⟩ := back_ok S1 64 m hm
  obtain ⟨ns, ds, e1, _, o1⟩ := m.D_mv
  exact meth_run (by rw [h1, e1]) o1 hF rfl rfl (by rw [← e1]; exact e)
end K62

namespace K62
open PySem L2 Mir
def far (v : Int) : Int := if v % 3 = 1 then v / 3 % 2000000000000000001 - 1000000000000000000 else v / 3 % 9 - 4
def mvOf (v : Int) : Mv :=
  if v % 6 = 1 then .qu else if v % 6 = 2 then .mi else if v % 6 = 3 then .sh (far (v / 6)) (far (v / 42))
  else if v % 6 = 4 then .ch .qu .mi else if v % 6 = 5 then .ch (.sh (far (v / 6)) 1) .qu else .pl
theorem mvOf_dep (v : Int) : (mvOf v).dep ≤ 1 := by
  unfold mvOf
  split
  · decide
  split
  · decide
  split
  · show 0 ≤ 1; decide
  split
  · decide
  split
  · show max 0 0 + 1 ≤ 1; decide
  · decide
theorem if_nx {c : FT} {f : FS} {σ : Ev} {S S1 : Store} {k : FS} (h : c σ S = some (.ok false, S1)) : sSeq (sIf c f sNil) k σ S = k σ S1 := seq_nx ((if_f h).trans rfl)
theorem if_rt {c : FT} {f : FE} {σ : Ev} {S S1 S2 : Store} {k : FS} {d : D} (h : c σ S = some (.ok true, S1)) (h2 : f σ S1 = some (.ok d, S2)) : sSeq (sIf c (sRet f) sNil) k σ S = some (.ok (.rt d, σ), S2) := seq_rt ((if_t h).trans (ret_ok h2))
theorem eqT {i : Nat} {σ : Ev} {a b : Int} {S : Store} (h : σ[i]? = some (some (.int a))) : tBl (e2 fEq (eVar i) (eC (.int b))) σ S = some (.ok (decide (a = b)), S) :=
  tbl_ok (e2_ok (x := .int a) (y := .int b) (by unfold eVar; rw [h]; rfl) rfl (fEq_int a b S))
theorem far_eq (v : Int) (S : Store) : F__law_far [.int v] S = some (.ok (.int (far v)), S) := by
  unfold F__law_far far
  have hc : tBl (e2 fEq (e2 fMod (eVar 0) (eC (.int 3))) (eC (.int 1))) [some (.int v)] S = some (.ok (decide (v % 3 = 1)), S) :=
    tbl_ok (e2_ok (x := .int (v % 3)) (y := .int 1) (S1 := S) (S2 := S) rfl rfl (fEq_int _ _ S))
  by_cases h : v % 3 = 1
  · rw [if_pos h]
    rw [decide_eq_true h] at hc
    exact mk_rt (σ1 := [some (.int v)]) (if_rt hc rfl)
  · rw [if_neg h]
    rw [decide_eq_false h] at hc
    exact mk_rt (σ1 := [some (.int v)]) ((if_nx hc).trans rfl)
theorem far_run {f : FE} {σ : Ev} {S : Store} {v : Int} (h : f σ S = some (.ok (.int v), S)) : eF (arity 1 F__law_far) (aCons f aNil) σ S = some (.ok (.int (far v)), S) := call_ok (a1_ok h) rfl (far_eq v S)
theorem mk0_run {c : String} {σ : Ev} {S : Store} : eMk c [] aNil σ S = some (.ok (.mv c [] []), S) := rfl
theorem move_eq (v : Int) (S : Store) : F__law_move [.int v] S = some (.ok (mvOf v).D, S) := by
  unfold F__law_move mvOf
  have s1 : (sAsg (e2 fMod (eVar 0) (eC (.int 6))) (gN 1)) [some (.int v), none] S = some (.ok (.nx, [some (.int v), some (.int (v % 6))]), S) := rfl
  have t : ∀ b : Int, tBl (e2 fEq (eVar 1) (eC (.int b))) [some (.int v), some (.int (v % 6))] S = some (.ok (decide (v % 6 = b)), S) := fun b => eqT rfl
  have r6 : ∀ S, e2 fDiv (eVar 0) (eC (.int 6)) [some (.int v), some (.int (v % 6))] S = some (.ok (.int (v / 6)), S) := fun S => rfl
  have r42 : ∀ S, e2 fDiv (eVar 0) (eC (.int 42)) [some (.int v), some (.int (v % 6))] S = some (.ok (.int (v / 42)), S) := fun S => rfl
  refine mk_rt (σ1 := [some (.int v), some (.int (v % 6))]) ((seq_nx s1).trans ?_)
  by_cases h1 : v % 6 = 1
  · rw [if_pos h1]; exact if_rt ((t 1).trans (by rw [decide_eq_true h1])) mk0_run
  rw [if_neg h1]
  refine (if_nx ((t 1).trans (by rw [decide_eq_false h1]))).trans ?_
  by_cases h2 : v % 6 = 2
  · rw [if_pos h2]; exact if_rt ((t 2).trans (by rw [decide_eq_true h2])) mk0_run
  rw [if_neg h2]
  refine (if_nx ((t 2).trans (by rw [decide_eq_false h2]))).trans ?_
  by_cases h3 : v % 6 = 3
  · rw [if_pos h3]; exact if_rt ((t 3).trans (by rw [decide_eq_true h3])) (mk_run (a2_ok (S1 := S) (far_run (r6 S)) (far_run (r42 S))) rfl)
  rw [if_neg h3]
  refine (if_nx ((t 3).trans (by rw [decide_eq_false h3]))).trans ?_
  by_cases h4 : v % 6 = 4
  · rw [if_pos h4]; exact if_rt ((t 4).trans (by rw [decide_eq_true h4])) (mk_run (a2_ok (S1 := S) mk0_run mk0_run) rfl)
  rw [if_neg h4]
  refine (if_nx ((t 4).trans (by rw [decide_eq_false h4]))).trans ?_
  by_cases h5 : v % 6 = 5
  · rw [if_pos h5]; exact if_rt ((t 5).trans (by rw [decide_eq_true h5])) (mk_run (a2_ok (S1 := S) (mk_run (a2_ok (S1 := S) (far_run (r6 S)) rfl) rfl) mk0_run) rfl)
  rw [if_neg h5]
  exact (if_nx ((t 5).trans (by rw [decide_eq_false h5]))).trans (ret_ok mk0_run)
theorem to_eq (v : Int) (p : Cell) (S : Store) : F__law_to [.int v, cD p] S = some (.ok (cD ((mvOf v).act p)), S) := by
  unfold F__law_to mvOf
  obtain ⟨a, b⟩ := p
  let σ : Ev := [some (.int v), some (cD (a, b)), some (.int (v % 6)), some (.int a), some (.int b)]
  have s1 : (sAsg (e2 fMod (eVar 0) (eC (.int 6))) (gN 2)) [some (.int v), some (cD (a, b)), none, none, none] S = some (.ok (.nx, [some (.int v), some (cD (a, b)), some (.int (v % 6)), none, none]), S) := rfl
  have s2 : (sAsg (eVar 1) (gT 2 (gsCons (gN 3) (gsCons (gN 4) gsNil)))) [some (.int v), some (cD (a, b)), some (.int (v % 6)), none, none] S = some (.ok (.nx, σ), S) := rfl
  have t : ∀ k : Int, tBl (e2 fEq (eVar 2) (eC (.int k))) σ S = some (.ok (decide (v % 6 = k)), S) := fun k => eqT rfl
  have r6 : ∀ S, e2 fDiv (eVar 0) (eC (.int 6)) σ S = some (.ok (.int (v / 6)), S) := fun S => rfl
  have r42 : ∀ S, e2 fDiv (eVar 0) (eC (.int 42)) σ S = some (.ok (.int (v / 42)), S) := fun S => rfl
  have tup : ∀ {f g : FE} {x y : D}, f σ S = some (.ok x, S) → g σ S = some (.ok y, S) → eTup (aCons f (aCons g aNil)) σ S = some (.ok (.tup [x, y]), S) := fun h1 h2 => by
    unfold eTup; rw [a2_ok h1 h2, bnd_ok]; rfl
  refine mk_rt (σ1 := σ) ((seq_nx s1).trans ((seq_nx s2).trans ?_))
  by_cases h1 : v % 6 = 1
  · rw [if_pos h1]; exact if_rt ((t 1).trans (by rw [decide_eq_true h1])) (by
      refine (tup (x := .int b) (y := .int (0 - a)) rfl rfl).trans ?_
      rw [Int.zero_sub]; rfl)
  rw [if_neg h1]
  refine (if_nx ((t 1).trans (by rw [decide_eq_false h1]))).trans ?_
  by_cases h2 : v % 6 = 2
  · rw [if_pos h2]; exact if_rt ((t 2).trans (by rw [decide_eq_true h2])) (by
      refine (tup (x := .int a) (y := .int (0 - b)) rfl rfl).trans ?_
      rw [Int.zero_sub]; rfl)
  rw [if_neg h2]
  refine (if_nx ((t 2).trans (by rw [decide_eq_false h2]))).trans ?_
  by_cases h3 : v % 6 = 3
  · rw [if_pos h3]; exact if_rt ((t 3).trans (by rw [decide_eq_true h3])) (tup (e2_ok (S1 := S) (S2 := S) (x := .int a) rfl (far_run (r6 S)) rfl) (e2_ok (S1 := S) (S2 := S) (x := .int b) rfl (far_run (r42 S)) rfl))
  rw [if_neg h3]
  refine (if_nx ((t 3).trans (by rw [decide_eq_false h3]))).trans ?_
  by_cases h4 : v % 6 = 4
  · rw [if_pos h4]; exact if_rt ((t 4).trans (by rw [decide_eq_true h4])) (by
      refine (tup (x := .int b) (y := .int a) rfl rfl).trans ?_
      show _ = some (Except.ok (cD (b, - -a)), S)
      rw [Int.neg_neg]; rfl)
  rw [if_neg h4]
  refine (if_nx ((t 4).trans (by rw [decide_eq_false h4]))).trans ?_
  by_cases h5 : v % 6 = 5
  · rw [if_pos h5]; exact if_rt ((t 5).trans (by rw [decide_eq_true h5])) (by
      refine (tup (x := .int (b + 1)) (y := .int (0 - a - far (v / 6))) rfl (e2_ok (S1 := S) (S2 := S) (x := .int (0 - a)) rfl (far_run (r6 S)) rfl)).trans ?_
      show _ = some (Except.ok (cD (b + 1, -(a + far (v / 6)))), S)
      rw [show 0 - a - far (v / 6) = -(a + far (v / 6)) by omega]; rfl)
  rw [if_neg h5]
  exact (if_nx ((t 5).trans (by rw [decide_eq_false h5]))).trans (ret_ok rfl)
theorem cell_eq (p : Cell) (S : Store) : F__law_is_cell [cD p] S = some (.ok (.bl true), S) := rfl
theorem ism_run (m : Mv) (S : Store) : bIsm mCs_Move "Move" [m.D, .cls "Move"] S = some (.bl true, S) := by
  cases m <;> rfl
theorem there_eq {m : Mv} (hm : m.dep < 64) (p q : Cell) (S : Store) : F__law_there [m.D, cD p, cD q] S = some (.ok (.bl (decide (m.act p = q))), S) := by
  unfold F__law_there
  have c1 : tNo (tBl (eB (bIsm mCs_Move "Move") (aCons (eVar 0) (aCons (eC (.cls "Move")) aNil)))) [some m.D, some (cD p), some (cD q), none] S = some (.ok false, S) :=
    no_ok (b := true) (tbl_ok (b_ok (a2_ok (S1 := S) rfl rfl) (ism_run m S)))
  have s1 : (sAsg (eMeth "on_cell" 1 (tb_on_cell 64) (eVar 0) (aCons (eVar 1) aNil)) (gN 3)) [some m.D, some (cD p), some (cD q), none] S = some (.ok (.nx, [some m.D, some (cD p), some (cD q), some (cD (m.act p))]), S) :=
    asg_ok (on_run hm rfl rfl) rfl
  refine mk_rt (σ1 := [some m.D, some (cD p), some (cD q), some (cD (m.act p))]) ((if_nx c1).trans ((seq_nx s1).trans (ret_ok ?_)))
  have e1 : eF (arity 1 F__law_is_cell) (aCons (eVar 3) aNil) [some m.D, some (cD p), some (cD q), some (cD (m.act p))] S = some (.ok (.bl true), S) := call_ok (a1_ok (S1 := S) rfl) rfl (cell_eq _ S)
  have e2' : e2 fEq (eVar 3) (eVar 2) [some m.D, some (cD p), some (cD q), some (cD (m.act p))] S = some (.ok (.bl (decide (m.act p = q))), S) := e2_ok (S1 := S) (S2 := S) rfl rfl (fEq_cell _ _ S)
  unfold eAnd
  rw [e1, bnd_ok]
  exact e2'
theorem there_run {m : Mv} {p q : Cell} {a b c : FE} {σ : Ev} {S : Store} (hm : m.dep < 64) (ha : a σ S = some (.ok m.D, S)) (hb : b σ S = some (.ok (cD p), S)) (hc : c σ S = some (.ok (cD q), S)) (he : m.act p = q) :
    eF (arity 3 F__law_there) (aCons a (aCons b (aCons c aNil))) σ S = some (.ok (.bl true), S) :=
  call_ok (ac_ok (S1 := S) ha (a2_ok (S1 := S) hb hc)) rfl ((there_eq hm p q S).trans (by rw [decide_eq_true he]))
theorem back_eq {m : Mv} (hm : m.dep < 64) (p : Cell) (S : Store) : F__law_back [m.D, cD p, cD (m.act p)] S = some (.ok (.bl true), S) := by
  unfold F__law_back
  let σ : Ev := [some m.D, some (cD p), some (cD (m.act p)), some m.back.D]
  have hb : m.back.dep < 64 := by rw [m.dep_back]; exact hm
  have s1 : (sAsg (eMeth "back" 0 (tb_back 64) (eVar 0) aNil) (gN 3)) [some m.D, some (cD p), some (cD (m.act p)), none] S = some (.ok (.nx, σ), S) := asg_ok (back_run hm rfl) rfl
  have t1 : tNo (tBl (eF (arity 3 F__law_there) (aCons (eVar 3) (aCons (eVar 2) (aCons (eVar 1) aNil))))) σ S = some (.ok false, S) := no_ok (b := true) (tbl_ok (there_run hb rfl rfl rfl (m.back_act p)))
  have t2 : tNo (tBl (eF (arity 3 F__law_there) (aCons (eMeth "back" 0 (tb_back 64) (eVar 3) aNil) (aCons (eVar 1) (aCons (eVar 2) aNil))))) σ S = some (.ok false, S) :=
    no_ok (b := true) (tbl_ok (there_run (m := m) hm ((back_run hb rfl).trans (by rw [m.back_back])) rfl rfl rfl))
  refine mk_rt (σ1 := σ) ((seq_nx s1).trans ((if_nx ((or_f t1).trans t2)).trans (ret_ok ?_)))
  have q1 : e2 fEq (eMeth "on_cell" 1 (tb_on_cell 64) (eVar 0) (aCons (eMeth "on_cell" 1 (tb_on_cell 64) (eVar 3) (aCons (eVar 1) aNil)) aNil)) (eVar 1) σ S = some (.ok (.bl true), S) :=
    e2_ok (S1 := S) (S2 := S) (on_run hm rfl (a1_ok (on_run (p := p) hb rfl rfl))) rfl ((fEq_cell _ _ S).trans (by rw [decide_eq_true (m.act_back p)]))
  have q2 : e2 fEq (eMeth "on_cell" 1 (tb_on_cell 64) (eVar 3) (aCons (eMeth "on_cell" 1 (tb_on_cell 64) (eVar 0) (aCons (eVar 2) aNil)) aNil)) (eVar 2) σ S = some (.ok (.bl true), S) :=
    e2_ok (S1 := S) (S2 := S) (on_run hb rfl (a1_ok (on_run (p := m.act p) hm rfl rfl))) rfl ((fEq_cell _ _ S).trans (by rw [decide_eq_true (m.back_act (m.act p))]))
  unfold eAnd
  rw [q1, bnd_ok]
  exact q2
theorem backs_run {m : Mv} {p q : Cell} {a b c : FE} {σ : Ev} {S : Store} (hm : m.dep < 64) (ha : a σ S = some (.ok m.D, S)) (hb : b σ S = some (.ok (cD p), S)) (hc : c σ S = some (.ok (cD q), S)) (he : m.act p = q) :
    eF (arity 3 F__law_back) (aCons a (aCons b (aCons c aNil))) σ S = some (.ok (.bl true), S) := by
  subst he
  exact call_ok (ac_ok (S1 := S) ha (a2_ok (S1 := S) hb hc)) rfl (back_eq hm p S)
end K62

namespace K62
open PySem L2 Mir
theorem one_ok {f : FE} {σ : Ev} {S : Store} {d : D} (h : f σ S = some (.ok d, S)) : eLst (aCons f aNil) σ S = some (.ok (.ref S.length), S ++ [.lst [d]]) := by
  unfold eLst
  rw [a1_ok h, bnd_ok]; rfl
theorem cut_hi (xs : List D) (j : Nat) : cutD xs (some (j : Int)) none = xs.drop j := by
  unfold cutD
  rw [show HT.sIx xs.length 0 (some (j : Int)) = min j xs.length from HT.sIx_nat xs.length 0 j, show HT.sIx xs.length xs.length none = xs.length from rfl]
  rw [List.take_of_length_le (by rw [List.length_drop]; omega)]
  by_cases c : j ≤ xs.length
  · rw [Nat.min_eq_left c]
  · rw [Nat.min_eq_right (by omega), List.drop_length, List.drop_of_length_le (by omega)]
theorem slg_ok {g : FE} {n : Nat} {σ : Ev} {S S1 : Store} {xs ys : List D} {lo hi : FO} {a b : Option Int} (h0 : g σ S = some (.ok (.ref n), S1)) (hn : lst? S1 n = some xs) (h1 : lo σ S1 = some (.ok a, S1)) (h2 : hi σ S1 = some (.ok b, S1)) (hc : cutD xs a b = ys) :
    eSl g lo hi σ S = some (.ok (.ref S1.length), S1 ++ [.lst ys]) := by
  subst hc
  unfold eSl
  rw [h0, bnd_ok, h1, bnd_ok, h2, bnd_ok]
  dsimp only
  rw [hn]; rfl
theorem cat_ok {S : Store} {n m : Nat} {xs ys : List D} (h1 : lst? S n = some xs) (h2 : lst? S m = some ys) (hz : xs.length + ys.length ≤ 1000) : fAddR (.ref n) (.ref m) S = some (.ref S.length, S ++ [.lst (xs ++ ys)]) := by
  have big : 1000 ≤ sizeLine := by decide
  show fCatR (.ref n) (.ref m) S = _
  show (lst? S n).bind (fun xs => (lst? S m).bind fun ys => if xs.length + ys.length ≤ sizeLine then newL S (xs ++ ys) else none) = _
  rw [h1, Option.bind_some, h2, Option.bind_some, if_pos (by omega)]; rfl
def go (vs : List Int) (p : Cell) : Cell := vs.foldl (fun q v => (mvOf v).act q) p
theorem go_app (vs us : List Int) (p : Cell) : go (vs ++ us) p = go us (go vs p) := by unfold go; rw [List.foldl_append]
def chσ (k : Nat) (p : Cell) (a b c d e : Option D) : Ev := [some (.ref k), some (cD p), a, b, c, d, e]
theorem chain_loop {S : Store} {k : Nat} {c : Int} {r : List Int} (hk : lst? S k = some ((c :: r).map D.int)) (hr : r.length ≤ 30) (p : Cell) (x y : Nat) (l0 : Store) (hy : lst? (S ++ l0) y = some [D.int c]) :
    ∃ (m : Mv) (vs : List Int) (o : Nat) (l : Store) (z w : Option D), L__law_chained_2 (chσ k p (some (mvOf c).D) (some (.ref y)) none none none) (S ++ l0) = some (.ok (.nx, chσ k p (some m.D) (some (.ref o)) z w none), S ++ l) ∧ m.dep ≤ 40 ∧ lst? (S ++ l) o = some (vs.map D.int) ∧ ∀ q, m.act q = go vs q := by
  have hi : I__law_chained_2 (chσ k p (some (mvOf c).D) (some (.ref y)) none none none) (S ++ l0) = some (.ok (.lst (S ++ l0).length), S ++ l0 ++ [.lst (r.map D.int)]) := by
    unfold I__law_chained_2 iL
    rw [slg_ok (a := some 1) (b := none) (ys := r.map D.int) (S1 := S ++ l0) rfl (lst_old hk) rfl rfl (by rw [show (1 : Int) = ((1 : Nat) : Int) from rfl, cut_hi]; rfl), bnd_ok]
    dsimp only
    rw [lst_last]; rfl
  have hx := lst_last (S ++ l0) (r.map D.int)
  obtain ⟨σ', S', e, h⟩ := for_lst (G := gN 4) (f := B__law_chained_2) hi hx
    (fun i σ T => ∃ (m : Mv) (vs : List Int) (o : Nat) (l : Store) (z w : Option D), σ = chσ k p (some m.D) (some (.ref o)) z w none ∧ T = S ++ l0 ++ [.lst (r.map D.int)] ++ l ∧ m.dep ≤ i + 1 ∧ vs.length ≤ i + 1 ∧ lst? T o = some (vs.map D.int) ∧ ∀ q, m.act q = go vs q)
    ⟨mvOf c, [c], y, [], none, none, rfl, by rw [List.append_nil], mvOf_dep c, Nat.le_refl _, lst_old hy, fun q => rfl⟩
    (by rintro i σ T ⟨m, vs, o, l, z, w, rfl, rfl, _⟩; exact lst_old hx)
    (by
      rintro i σ T d hd ⟨m, vs, o, l, z, w, rfl, rfl, h1, h2, h3, h4⟩
      rw [List.getElem?_map] at hd
      obtain ⟨v, hv, rfl⟩ := Option.map_eq_some_iff.mp hd
      have hlt : i < r.length := (List.getElem?_eq_some_iff.mp hv).1
      generalize hT : S ++ l0 ++ [.lst (r.map D.int)] ++ l = T at h3 ⊢
      have s1 : (sAsg (eF (arity 1 F__law_move) (aCons (eVar 4) aNil)) (gN 5)) (chσ k p (some m.D) (some (.ref o)) (some (.int v)) w none) T = some (.ok (.nx, chσ k p (some m.D) (some (.ref o)) (some (.int v)) (some (mvOf v).D) none), T) :=
        asg_ok (call_ok (a1_ok (S1 := T) rfl) rfl (move_eq v T)) rfl
      have t1 : tBl (e2 fEq (e2 fMod (e2 fDiv (eVar 4) (eC (.int 7))) (eC (.int 2))) (eC (.int 0))) (chσ k p (some m.D) (some (.ref o)) (some (.int v)) (some (mvOf v).D) none) T = some (.ok (decide (v / 7 % 2 = 0)), T) :=
        tbl_ok (e2_ok (x := .int (v / 7 % 2)) (y := .int 0) (S1 := T) (S2 := T) rfl rfl (fEq_int _ _ T))
      have dv := mvOf_dep v
      by_cases hc : v / 7 % 2 = 0
      · rw [decide_eq_true hc] at t1
        have s2 : (sAsg (eMk "Chain" ["first", "second"] (aCons (eVar 2) (aCons (eVar 5) aNil))) (gN 2)) (chσ k p (some m.D) (some (.ref o)) (some (.int v)) (some (mvOf v).D) none) T = some (.ok (.nx, chσ k p (some (Mv.ch m (mvOf v)).D) (some (.ref o)) (some (.int v)) (some (mvOf v).D) none), T) :=
          asg_ok (mk_run (a2_ok (S1 := T) rfl rfl) rfl) rfl
        have s3 : (sAsg (e2 fAddR (eVar 3) (eLst (aCons (eVar 4) aNil))) (gN 3)) (chσ k p (some (Mv.ch m (mvOf v)).D) (some (.ref o)) (some (.int v)) (some (mvOf v).D) none) T = some (.ok (.nx, chσ k p (some (Mv.ch m (mvOf v)).D) (some (.ref (T ++ [O.lst [D.int v]]).length)) (some (.int v)) (some (mvOf v).D) none), T ++ [.lst [D.int v]] ++ [.lst (vs.map D.int ++ [D.int v])]) :=
          asg_ok (e2_ok (S1 := T) (S2 := T ++ [.lst [D.int v]]) rfl (one_ok rfl) (cat_ok (lst_old h3) (lst_last T [D.int v]) (by rw [List.length_map]; show vs.length + 1 ≤ 1000; omega))) rfl
        refine ⟨_, _, _, .nx, rfl, (seq_nx s1).trans ((if_t t1).trans ((seq_nx s2).trans s3)), .inl rfl, Mv.ch m (mvOf v), vs ++ [v], _, l ++ [.lst [D.int v]] ++ [.lst (vs.map D.int ++ [D.int v])], _, _, rfl, by rw [← hT]; simp only [List.append_assoc], ?_, by rw [List.length_append]; show vs.length + 1 ≤ _; omega, ?_, fun q => ?_⟩
        · show max m.dep (mvOf v).dep + 1 ≤ i + 1 + 1; omega
        · rw [lst_last, List.map_append]; rfl
        · rw [go_app, ← h4]; rfl
      · rw [decide_eq_false hc] at t1
        have s2 : (sAsg (eMk "Chain" ["first", "second"] (aCons (eVar 5) (aCons (eVar 2) aNil))) (gN 2)) (chσ k p (some m.D) (some (.ref o)) (some (.int v)) (some (mvOf v).D) none) T = some (.ok (.nx, chσ k p (some (Mv.ch (mvOf v) m).D) (some (.ref o)) (some (.int v)) (some (mvOf v).D) none), T) :=
          asg_ok (mk_run (a2_ok (S1 := T) rfl rfl) rfl) rfl
        have s3 : (sAsg (e2 fAddR (eLst (aCons (eVar 4) aNil)) (eVar 3)) (gN 3)) (chσ k p (some (Mv.ch (mvOf v) m).D) (some (.ref o)) (some (.int v)) (some (mvOf v).D) none) T = some (.ok (.nx, chσ k p (some (Mv.ch (mvOf v) m).D) (some (.ref (T ++ [O.lst [D.int v]]).length)) (some (.int v)) (some (mvOf v).D) none), T ++ [.lst [D.int v]] ++ [.lst ([D.int v] ++ vs.map D.int)]) :=
          asg_ok (e2_ok (S1 := T ++ [.lst [D.int v]]) (S2 := T ++ [.lst [D.int v]]) (one_ok rfl) rfl (cat_ok (lst_last T [D.int v]) (lst_old h3) (by rw [List.length_map]; show 1 + vs.length ≤ 1000; omega))) rfl
        refine ⟨_, _, _, .nx, rfl, (seq_nx s1).trans ((if_f t1).trans ((seq_nx s2).trans s3)), .inl rfl, Mv.ch (mvOf v) m, v :: vs, _, l ++ [.lst [D.int v]] ++ [.lst ([D.int v] ++ vs.map D.int)], _, _, rfl, by rw [← hT]; simp only [List.append_assoc], ?_, by rw [List.length_cons]; omega, ?_, fun q => ?_⟩
        · show max (mvOf v).dep m.dep + 1 ≤ i + 1 + 1; omega
        · rw [lst_last]; rfl
        · show m.act ((mvOf v).act q) = go (v :: vs) q
          rw [h4]; rfl)
  obtain ⟨m, vs, o, l, z, w, rfl, rfl, h1, h2, h3, h4⟩ := h
  rw [List.length_map] at h1
  refine ⟨m, vs, o, l0 ++ [.lst (r.map D.int)] ++ l, z, w, ?_, by omega, ?_, h4⟩
  · unfold L__law_chained_2; rw [e]; simp only [List.append_assoc]
  · rw [← h3]; simp only [List.append_assoc]
theorem due_loop {S : Store} {k o : Nat} {vs : List Int} (ho : lst? S o = some (vs.map D.int)) (p : Cell) (m : D) (z w : Option D) :
    ∃ z', L__law_chained_1 (chσ k p (some m) (some (.ref o)) z w (some (cD p))) S = some (.ok (.nx, chσ k p (some m) (some (.ref o)) z' w (some (cD (go vs p)))), S) := by
  have hi : I__law_chained_1 (chσ k p (some m) (some (.ref o)) z w (some (cD p))) S = some (.ok (.lst o), S) := by
    unfold I__law_chained_1 iL
    rw [show eVar 3 (chσ k p (some m) (some (.ref o)) z w (some (cD p))) S = some (.ok (.ref o), S) from rfl, bnd_ok]
    dsimp only
    rw [ho]; rfl
  obtain ⟨σ', S', e, z', rfl, rfl⟩ := for_lst (G := gN 4) (f := B__law_chained_1) hi ho
    (fun i σ T => ∃ z', σ = chσ k p (some m) (some (.ref o)) z' w (some (cD (go (vs.take i) p))) ∧ T = S)
    ⟨z, rfl, rfl⟩ (by rintro i σ T ⟨z', rfl, rfl⟩; exact ho)
    (by
      rintro i σ T d hd ⟨z', rfl, rfl⟩
      rw [List.getElem?_map] at hd
      obtain ⟨v, hv, rfl⟩ := Option.map_eq_some_iff.mp hd
      refine ⟨_, _, T, .nx, rfl, asg_ok (call_ok (a2_ok (d := .int v) (e := cD (go (vs.take i) p)) (S1 := T) rfl rfl) rfl (to_eq v _ T)) rfl, .inl rfl, some (.int v), ?_, rfl⟩
      rw [List.take_add_one, hv, go_app]; rfl)
  refine ⟨z', e.trans ?_⟩
  rw [List.length_map, List.take_length]
theorem chained_eq {S : Store} {k : Nat} {c : Int} {r : List Int} (hk : lst? S k = some ((c :: r).map D.int)) (hr : r.length ≤ 30) (p : Cell) : ∃ l, F__law_chained [.ref k, cD p] S = some (.ok (.bl true), S ++ l) := by
  have i0 : ∀ (l : Store) (a b x y z : Option D), e2 fIxA (eVar 0) (eC (.int 0)) (chσ k p a b x y z) (S ++ l) = some (.ok (.int c), S ++ l) := fun l a b x y z =>
    e2_ok (x := .ref k) (y := .int 0) (S1 := S ++ l) (S2 := S ++ l) rfl rfl (ix_list' (i := 0) (lst_old hk) rfl)
  have s1 : (sAsg (eF (arity 1 F__law_move) (aCons (e2 fIxA (eVar 0) (eC (.int 0))) aNil)) (gN 2)) (chσ k p none none none none none) S = some (.ok (.nx, chσ k p (some (mvOf c).D) none none none none), S) := by
    have := i0 [] none none none none none
    rw [List.append_nil] at this
    exact asg_ok (call_ok (a1_ok this) rfl (move_eq c S)) rfl
  have s2 : (sAsg (eLst (aCons (e2 fIxA (eVar 0) (eC (.int 0))) aNil)) (gN 3)) (chσ k p (some (mvOf c).D) none none none none) S = some (.ok (.nx, chσ k p (some (mvOf c).D) (some (.ref S.length)) none none none), S ++ [.lst [D.int c]]) := by
    have := i0 [] (some (mvOf c).D) none none none none
    rw [List.append_nil] at this
    exact asg_ok (one_ok this) rfl
  obtain ⟨m, vs, o, l, z, w, s3, hd, ho, hg⟩ := chain_loop hk hr p 0 S.length [.lst [D.int c]] (lst_last S [D.int c])
  have s4 : (sAsg (eVar 1) (gN 6)) (chσ k p (some m.D) (some (.ref o)) z w none) (S ++ l) = some (.ok (.nx, chσ k p (some m.D) (some (.ref o)) z w (some (cD p))), S ++ l) := rfl
  obtain ⟨z', s5⟩ := due_loop (k := k) ho p m.D z w
  have hm : m.dep < 64 := by omega
  have q1 : eF (arity 3 F__law_there) (aCons (eVar 2) (aCons (eVar 1) (aCons (eVar 6) aNil))) (chσ k p (some m.D) (some (.ref o)) z' w (some (cD (go vs p)))) (S ++ l) = some (.ok (.bl true), S ++ l) :=
    there_run hm rfl rfl rfl (hg p)
  have q2 : eF (arity 3 F__law_back) (aCons (eVar 2) (aCons (eVar 1) (aCons (eVar 6) aNil))) (chσ k p (some m.D) (some (.ref o)) z' w (some (cD (go vs p)))) (S ++ l) = some (.ok (.bl true), S ++ l) :=
    backs_run hm rfl rfl rfl (hg p)
  exact ⟨l, mk_rt ((seq_nx s1).trans ((seq_nx s2).trans ((seq_nx s3).trans ((seq_nx s4).trans ((seq_nx s5).trans ((if_nx ((or_f (no_ok (tbl_ok q1))).trans (no_ok (tbl_ok q2)))).trans (ret_ok q1)))))))⟩
end K62

namespace K62
open PySem L2 Mir
theorem at_eq {S : Store} {n : Nat} {ns : List Int} (h : lst? S n = some (ns.map D.int)) (k : Nat) : ∃ v : Int, F__law_cell_at [.ref n, .int k] S = some (.ok (.int v), S) := by
  have t : tBl (e2 fLtA (eVar 1) (eB bLenA (aCons (eVar 0) aNil))) [some (.ref n), some (.int k)] S = some (.ok (decide ((k : Int) < ((ns.map D.int).length : Nat))), S) := tbl_ok (e2_ok (x := .int k) (y := .int (ns.map D.int).length) (S1 := S) rfl (b_ok (a1_ok (d := .ref n) (S1 := S) rfl) (lenA_list h)) rfl)
  by_cases c : k < ns.length
  · refine ⟨ns[k], mk_rt (σ1 := [some (.ref n), some (.int k)]) ?_⟩
    rw [decide_eq_true (by rw [List.length_map]; omega)] at t
    exact seq_rt ((if_t t).trans (ret_ok (e2_ok (x := .ref n) (y := .int k) (S1 := S) (S2 := S) rfl rfl (ix_list' h (by rw [List.getElem?_map, List.getElem?_eq_getElem c]; rfl)))))
  · refine ⟨0, mk_rt (σ1 := [some (.ref n), some (.int k)]) ?_⟩
    rw [decide_eq_false (by rw [List.length_map]; omega)] at t
    exact (seq_nx (σ1 := [some (.ref n), some (.int k)]) (S1 := S) ((if_f t).trans rfl)).trans rfl
def lw (p : Cell) (n : Nat) (a b c d e f : Option D) : Ev := [some (.ref 0), some (.int 2000000000000000000000000000000000000000000000000000000001), some (cD p), some (.ref n), a, b, c, d, e, f]
theorem cells_loop {S : Store} {n : Nat} {vs : List Int} (hn : lst? S n = some (vs.map D.int)) (p : Cell) : ∃ z, L_law_2 (lw p n none none none none none none) S = some (.ok (.nx, lw p n z none none none none none), S) := by
  have hi : I_law_2 (lw p n none none none none none none) S = some (.ok (.lst n), S) := by
    unfold I_law_2 iL
    rw [show eVar 3 (lw p n none none none none none none) S = some (.ok (.ref n), S) from rfl, bnd_ok]
    dsimp only
    rw [hn]; rfl
  obtain ⟨σ', S', e, z', rfl, rfl⟩ := for_lst (G := gN 4) (f := B_law_2) hi hn
    (fun i σ T => ∃ z, σ = lw p n z none none none none none ∧ T = S)
    ⟨none, rfl, rfl⟩ (by rintro i σ T ⟨z', rfl, rfl⟩; exact hn)
    (by
      rintro i σ T d hd ⟨z', rfl, rfl⟩
      rw [List.getElem?_map] at hd
      obtain ⟨v, hv, rfl⟩ := Option.map_eq_some_iff.mp hd
      have hm : (mvOf v).dep < 64 := by have := mvOf_dep v; omega
      have m1 : eF (arity 1 F__law_move) (aCons (eVar 4) aNil) (lw p n (some (.int v)) none none none none none) T = some (.ok (mvOf v).D, T) := call_ok (a1_ok (S1 := T) rfl) rfl (move_eq v T)
      have m2 : eF (arity 2 F__law_to) (aCons (eVar 4) (aCons (eVar 2) aNil)) (lw p n (some (.int v)) none none none none none) T = some (.ok (cD ((mvOf v).act p)), T) := call_ok (a2_ok (S1 := T) rfl rfl) rfl (to_eq v p T)
      have q1 := there_run (σ := lw p n (some (.int v)) none none none none none) (b := eVar 2) (p := p) hm m1 rfl m2 rfl
      have q2 := backs_run (σ := lw p n (some (.int v)) none none none none none) (b := eVar 2) (p := p) hm m1 rfl m2 rfl
      refine ⟨_, _, T, .nx, rfl, (if_nx (no_ok (tbl_ok q1))).trans ((if_f (no_ok (tbl_ok q2))).trans rfl), .inl rfl, some (.int v), rfl, rfl⟩)
  exact ⟨z', e⟩
theorem two_ok {f g : FE} {σ : Ev} {S : Store} {d e : D} (h : f σ S = some (.ok d, S)) (h2 : g σ S = some (.ok e, S)) : eLst (aCons f (aCons g aNil)) σ S = some (.ok (.ref S.length), S ++ [.lst [d, e]]) := by
  unfold eLst
  rw [a2_ok h h2, bnd_ok]; rfl
theorem at_all {S : Store} {ns : List Int} (h : lst? S 0 = some (ns.map D.int)) (k : Nat) : ∃ v : Int, ∀ l, F__law_cell_at [.ref 0, .int k] (S ++ l) = some (.ok (.int v), S ++ l) := by
  have e : ∀ (T : Store), lst? T 0 = some (ns.map D.int) → F__law_cell_at [.ref 0, .int k] T = some (.ok (.int (ns.getD k 0)), T) := fun T h => by
    have t : tBl (e2 fLtA (eVar 1) (eB bLenA (aCons (eVar 0) aNil))) [some (.ref 0), some (.int k)] T = some (.ok (decide ((k : Int) < ((ns.map D.int).length : Nat))), T) := tbl_ok (e2_ok (x := .int k) (y := .int (ns.map D.int).length) (S1 := T) rfl (b_ok (a1_ok (d := .ref 0) (S1 := T) rfl) (lenA_list h)) rfl)
    by_cases c : k < ns.length
    · refine mk_rt (σ1 := [some (.ref 0), some (.int k)]) ?_
      rw [decide_eq_true (by rw [List.length_map]; omega)] at t
      exact seq_rt ((if_t t).trans (ret_ok (e2_ok (x := .ref 0) (y := .int k) (S1 := T) (S2 := T) rfl rfl (ix_list' h (by rw [List.getElem?_map, List.getElem?_eq_getElem c, List.getD_eq_getElem?_getD, List.getElem?_eq_getElem c]; rfl)))))
    · refine mk_rt (σ1 := [some (.ref 0), some (.int k)]) ?_
      rw [decide_eq_false (by rw [List.length_map]; omega)] at t
      refine (seq_nx (σ1 := [some (.ref 0), some (.int k)]) (S1 := T) ((if_f t).trans rfl)).trans ?_
      rw [List.getD_eq_getElem?_getD, List.getElem?_eq_none (by omega)]; rfl
  exact ⟨_, fun l => e _ (lst_old h)⟩
theorem many_loop {S : Store} {n : Nat} {ns : List Int} (h0 : lst? S 0 = some (ns.map D.int)) (p : Cell) (z : Option D) :
    ∃ (m : Mv) (a b : Option D) (l : Store), L_law_1 (lw p n z (some (Mv.sh 1 0).D) none none none none) S = some (.ok (.nx, lw p n z (some m.D) a b none none), S ++ l) ∧ m.dep < 64 ∧ ∀ q, m.act q = (q.1 + 60, q.2) := by
  have hi : I_law_1 (lw p n z (some (Mv.sh 1 0).D) none none none none) S = some (.ok (.rng 0 59), S) := rfl
  obtain ⟨v2, e2'⟩ : ∃ v : Int, ∀ l, F__law_cell_at [.ref 0, .int 2] (S ++ l) = some (.ok (.int v), S ++ l) := by
    obtain ⟨v, h⟩ := at_all h0 2
    exact ⟨v, h⟩
  obtain ⟨v3, e3'⟩ : ∃ v : Int, ∀ l, F__law_cell_at [.ref 0, .int 3] (S ++ l) = some (.ok (.int v), S ++ l) := by
    obtain ⟨v, h⟩ := at_all h0 3
    exact ⟨v, h⟩
  obtain ⟨σ', S', e, m, a, b, l, rfl, rfl, hd, ha⟩ := for_src (G := gN 6) (f := B_law_1) ((List.range 59).map fun k => D.int (0 + (k : Nat))) hi (len_rng 0 59)
    (fun i σ T => ∃ (m : Mv) (a b : Option D) (l : Store), σ = lw p n z (some m.D) a b none none ∧ T = S ++ l ∧ m.dep ≤ i ∧ ∀ q, m.act q = (q.1 + (i : Int) + 1, q.2))
    ⟨.sh 1 0, none, none, [], rfl, by rw [List.append_nil], Nat.le_refl _, fun q => by show (q.1 + 1, q.2 + 0) = _; rw [Int.add_zero]; simp⟩
    (by rintro i σ T ⟨m, a, b, l, rfl, rfl, _⟩; exact at_rng 0 59 l i)
    (by
      rintro i σ T d hd ⟨m, a, b, l, rfl, rfl, h1, h2⟩
      rw [List.getElem?_map] at hd
      obtain ⟨k, hk, rfl⟩ := Option.map_eq_some_iff.mp hd
      generalize hT : S ++ l = T at *
      have c2 : ∀ a, eF (arity 2 F__law_cell_at) (aCons (eVar 0) (aCons (eC (.int 2)) aNil)) (lw p n z (some m.D) a b none none) T = some (.ok (.int v2), T) := fun a => call_ok (a2_ok (S1 := T) rfl rfl) rfl (by rw [← hT]; exact e2' l)
      have c3 : ∀ a, eF (arity 2 F__law_cell_at) (aCons (eVar 0) (aCons (eC (.int 3)) aNil)) (lw p n z (some m.D) a b none none) T = some (.ok (.int v3), T) := fun a => call_ok (a2_ok (S1 := T) rfl rfl) rfl (by rw [← hT]; exact e3' l)
      let kk : Int := 0 + (k : Nat)
      have hmul : fMul (.int kk) (.int (v3 % 2)) T = some (.int (kk * (v3 % 2)), T) := by
        unfold fMul fI
        dsimp only
        rw [if_pos (decide_eq_true (Or.inr (by omega)))]
      have s1 : (sAsg (e2 fMod (e2 fAddR (e2 fMod (eF (arity 2 F__law_cell_at) (aCons (eVar 0) (aCons (eC (.int 2)) aNil))) (eC (.int 2))) (e2 fMul (eVar 6) (e2 fMod (eF (arity 2 F__law_cell_at) (aCons (eVar 0) (aCons (eC (.int 3)) aNil))) (eC (.int 2))))) (eC (.int 2))) (gN 7)) (lw p n z (some m.D) (some (.int kk)) b none none) T = some (.ok (.nx, lw p n z (some m.D) (some (.int kk)) (some (.int ((v2 % 2 + kk * (v3 % 2)) % 2))) none none), T) :=
        asg_ok (e2_ok (x := .int (v2 % 2 + kk * (v3 % 2))) (y := .int 2) (S1 := T) (S2 := T) (e2_ok (x := .int (v2 % 2)) (y := .int (kk * (v3 % 2))) (S1 := T) (S2 := T) (e2_ok (x := .int v2) (y := .int 2) (S1 := T) (S2 := T) (c2 _) rfl rfl) (e2_ok (x := .int kk) (y := .int (v3 % 2)) (S1 := T) (S2 := T) rfl (e2_ok (x := .int v3) (y := .int 2) (S1 := T) (S2 := T) (c3 _) rfl rfl) hmul) rfl) rfl rfl) rfl
      generalize hw : (v2 % 2 + kk * (v3 % 2)) % 2 = w at s1
      have hw2 : w = 0 ∨ w = 1 := by omega
      have sh : ∀ σ, eMk "Shift" ["down", "right"] (aCons (eC (.int 1)) (aCons (eC (.int 0)) aNil)) σ T = some (.ok (Mv.sh 1 0).D, T) := fun σ => rfl
      have l2 : eLst (aCons (eMk "Chain" ["first", "second"] (aCons (eVar 5) (aCons (eMk "Shift" ["down", "right"] (aCons (eC (.int 1)) (aCons (eC (.int 0)) aNil))) aNil))) (aCons (eMk "Chain" ["first", "second"] (aCons (eMk "Shift" ["down", "right"] (aCons (eC (.int 1)) (aCons (eC (.int 0)) aNil))) (aCons (eVar 5) aNil))) aNil)) (lw p n z (some m.D) (some (.int kk)) (some (.int w)) none none) T = some (.ok (.ref T.length), T ++ [.lst [(Mv.ch m (.sh 1 0)).D, (Mv.ch (.sh 1 0) m).D]]) :=
        two_ok (mk_run (a2_ok (S1 := T) rfl (sh _)) rfl) (mk_run (a2_ok (S1 := T) (sh _) rfl) rfl)
      have pick : ∃ m' : Mv, fIxA (.ref T.length) (.int w) (T ++ [.lst [(Mv.ch m (.sh 1 0)).D, (Mv.ch (.sh 1 0) m).D]]) = some (m'.D, T ++ [.lst [(Mv.ch m (.sh 1 0)).D, (Mv.ch (.sh 1 0) m).D]]) ∧ m'.dep ≤ i + 1 ∧ ∀ q, m'.act q = (q.1 + ((i + 1 : Nat) : Int) + 1, q.2) := by
        rcases hw2 with rfl | rfl
        · refine ⟨Mv.ch m (.sh 1 0), ix_list' (i := 0) (lst_last _ _) rfl, by show max m.dep 0 + 1 ≤ i + 1; omega, fun q => ?_⟩
          show (Mv.sh 1 0).act (m.act q) = _
          rw [h2]
          show (q.1 + (i : Int) + 1 + 1, q.2 + 0) = _
          rw [Int.add_zero, show q.1 + (i : Int) + 1 + 1 = q.1 + ((i + 1 : Nat) : Int) + 1 by omega]
        · refine ⟨Mv.ch (.sh 1 0) m, ix_list' (i := 1) (lst_last _ _) rfl, by show max 0 m.dep + 1 ≤ i + 1; omega, fun q => ?_⟩
          show m.act (q.1 + 1, q.2 + 0) = _
          rw [h2]
          show (q.1 + 1 + (i : Int) + 1, q.2 + 0) = _
          rw [Int.add_zero, show q.1 + 1 + (i : Int) + 1 = q.1 + ((i + 1 : Nat) : Int) + 1 by omega]
      obtain ⟨m', p1, p2, p3⟩ := pick
      refine ⟨_, _, _, .nx, rfl, (seq_nx s1).trans (asg_ok (e2_ok l2 rfl p1) rfl), .inl rfl, m', some (.int kk), some (.int w), l ++ [.lst [(Mv.ch m (.sh 1 0)).D, (Mv.ch (.sh 1 0) m).D]], rfl, by rw [← hT, List.append_assoc], p2, p3⟩)
  rw [List.length_map, List.length_range] at hd ha
  exact ⟨m, a, b, l, e, by omega, fun q => by rw [ha]; show (q.1 + 59 + 1, q.2) = _; rw [show q.1 + 59 + 1 = q.1 + 60 by omega]⟩
theorem cut_mid (xs : List Int) (h : 3 ≤ xs.length) : ∃ (c : Int) (r : List Int), cutD (xs.map D.int) (some ((2 : Nat) : Int)) (some ((22 : Nat) : Int)) = (c :: r).map D.int ∧ r.length ≤ 30 := by
  unfold cutD
  rw [HT.sIx_nat, HT.sIx_nat, ← List.map_drop, ← List.map_take, List.length_map]
  have hn : ((xs.drop (min 2 xs.length)).take (min 22 xs.length - min 2 xs.length)).length = min 22 xs.length - 2 := by
    rw [List.length_take, List.length_drop]
    omega
  generalize (xs.drop (min 2 xs.length)).take (min 22 xs.length - min 2 xs.length) = X at hn ⊢
  match X, hn with
  | [], hn => exact absurd hn (by rw [List.length_nil]; omega)
  | c :: r, hn => exact ⟨c, r, rfl, by rw [List.length_cons] at hn; omega⟩
theorem law_true : ∀ ns : List Int, ns.length ≤ 63 → ∃ S, F_law [.ref 0] [.ro (ns.map D.int)] = some (.ok (.bl true), S) := by
  intro ns hl
  generalize hS0 : ([.ro (ns.map D.int)] : Store) = S0
  have h0 : lst? S0 0 = some (ns.map D.int) := by rw [← hS0]; rfl
  obtain ⟨v0, e0⟩ := at_eq h0 0
  obtain ⟨v1, e1⟩ := at_eq h0 1
  let p : Cell := (v0 % 2000000000000000000000000000000000000000000000000000000001 - 1000000000000000000000000000000000000000000000000000000000, v1 % 2000000000000000000000000000000000000000000000000000000001 - 1000000000000000000000000000000000000000000000000000000000)
  have s1 : (sAsg (e2 fAddR (e2 fMul (eC (.int 2)) (e2 fPow (eC (.int 10)) (eC (.int 57)))) (eC (.int 1))) (gN 1)) [some (.ref 0), none, none, none, none, none, none, none, none, none] S0 = some (.ok (.nx, [some (.ref 0), some (.int 2000000000000000000000000000000000000000000000000000000001), none, none, none, none, none, none, none, none]), S0) := rfl
  have co : ∀ (k : Int) (v : Int), F__law_cell_at [.ref 0, .int k] S0 = some (.ok (.int v), S0) → e2 fSub (e2 fMod (eF (arity 2 F__law_cell_at) (aCons (eVar 0) (aCons (eC (.int k)) aNil))) (eVar 1)) (e2 fPow (eC (.int 10)) (eC (.int 57))) [some (.ref 0), some (.int 2000000000000000000000000000000000000000000000000000000001), none, none, none, none, none, none, none, none] S0 = some (.ok (.int (v % 2000000000000000000000000000000000000000000000000000000001 - 1000000000000000000000000000000000000000000000000000000000)), S0) := fun k v h =>
    e2_ok (x := .int (v % 2000000000000000000000000000000000000000000000000000000001)) (y := .int 1000000000000000000000000000000000000000000000000000000000) (S1 := S0) (S2 := S0) (e2_ok (x := .int v) (y := .int 2000000000000000000000000000000000000000000000000000000001) (S1 := S0) (S2 := S0) (call_ok (a2_ok (S1 := S0) rfl rfl) rfl h) rfl rfl) rfl rfl
  have s2 : (sAsg (eTup (aCons (e2 fSub (e2 fMod (eF (arity 2 F__law_cell_at) (aCons (eVar 0) (aCons (eC (.int 0)) aNil))) (eVar 1)) (e2 fPow (eC (.int 10)) (eC (.int 57)))) (aCons (e2 fSub (e2 fMod (eF (arity 2 F__law_cell_at) (aCons (eVar 0) (aCons (eC (.int 1)) aNil))) (eVar 1)) (e2 fPow (eC (.int 10)) (eC (.int 57)))) aNil))) (gN 2)) [some (.ref 0), some (.int 2000000000000000000000000000000000000000000000000000000001), none, none, none, none, none, none, none, none] S0 = some (.ok (.nx, [some (.ref 0), some (.int 2000000000000000000000000000000000000000000000000000000001), some (cD p), none, none, none, none, none, none, none]), S0) := by
    refine asg_ok (d := cD p) ?_ rfl
    unfold eTup
    rw [a2_ok (co 0 v0 e0) (co 1 v1 e1), bnd_ok]; rfl
  have hcut : ∃ (c : Int) (r : List Int), cutD (ns.map D.int ++ [D.int 1, D.int 2, D.int 3]) (some 2) (some 22) = (c :: r).map D.int ∧ r.length ≤ 30 := by
    have e : ns.map D.int ++ [D.int 1, D.int 2, D.int 3] = (ns ++ [1, 2, 3]).map D.int := by rw [List.map_append]; rfl
    rw [e]
    exact cut_mid _ (by rw [List.length_append]; show 3 ≤ ns.length + 3; omega)
  obtain ⟨c, r, hcr, hr⟩ := hcut
  have l3 : eLst (aCons (eC (.int 1)) (aCons (eC (.int 2)) (aCons (eC (.int 3)) aNil))) [some (.ref 0), some (.int 2000000000000000000000000000000000000000000000000000000001), some (cD p), none, none, none, none, none, none, none] S0 = some (.ok (.ref S0.length), S0 ++ [.lst [D.int 1, D.int 2, D.int 3]]) := rfl
  have a3 := cat_ok (lst_old (l := [.lst [D.int 1, D.int 2, D.int 3]]) h0) (lst_last S0 [D.int 1, D.int 2, D.int 3]) (by rw [List.length_map]; show ns.length + 3 ≤ 1000; omega)
  generalize hT : S0 ++ [.lst [D.int 1, D.int 2, D.int 3]] ++ [.lst (ns.map D.int ++ [D.int 1, D.int 2, D.int 3])] = T at a3
  have hT3 : lst? T (S0 ++ [O.lst [D.int 1, D.int 2, D.int 3]]).length = some (ns.map D.int ++ [D.int 1, D.int 2, D.int 3]) := by rw [← hT]; exact lst_last _ _
  have s3 : (sAsg (eSl (e2 fAddR (eVar 0) (eLst (aCons (eC (.int 1)) (aCons (eC (.int 2)) (aCons (eC (.int 3)) aNil))))) (oSome (eC (.int 2))) (oSome (eC (.int 22)))) (gN 3)) [some (.ref 0), some (.int 2000000000000000000000000000000000000000000000000000000001), some (cD p), none, none, none, none, none, none, none] S0 = some (.ok (.nx, lw p T.length none none none none none none), T ++ [.lst ((c :: r).map D.int)]) :=
    asg_ok (slg_ok (S1 := T) (e2_ok (S1 := S0) rfl l3 a3) hT3 rfl rfl hcr) rfl
  have hn := lst_last T ((c :: r).map D.int)
  have h0' : lst? (T ++ [.lst ((c :: r).map D.int)]) 0 = some (ns.map D.int) := by rw [← hT]; exact lst_old (lst_old (lst_old h0))
  generalize hU : T ++ [.lst ((c :: r).map D.int)] = U at s3 hn h0'
  obtain ⟨z, s4⟩ := cells_loop hn p
  have s5 : (sAsg (eMk "Shift" ["down", "right"] (aCons (eC (.int 1)) (aCons (eC (.int 0)) aNil))) (gN 5)) (lw p T.length z none none none none none) U = some (.ok (.nx, lw p T.length z (some (Mv.sh 1 0).D) none none none none), U) := rfl
  obtain ⟨m, a, b, l, s6, hm, ha⟩ := many_loop (n := T.length) h0' p z
  have s7 : (sAsg (eTup (aCons (e2 fAddR (e2 fIxA (eVar 2) (eC (.int 0))) (eC (.int 60))) (aCons (e2 fIxA (eVar 2) (eC (.int 1))) aNil))) (gN 8)) (lw p T.length z (some m.D) a b none none) (U ++ l) = some (.ok (.nx, lw p T.length z (some m.D) a b (some (cD (p.1 + 60, p.2))) none), U ++ l) := rfl
  have q1 := there_run (σ := lw p T.length z (some m.D) a b (some (cD (p.1 + 60, p.2))) none) (a := eVar 5) (b := eVar 2) (c := eVar 8) (S := U ++ l) (p := p) hm rfl rfl rfl (ha p)
  have q2 := backs_run (σ := lw p T.length z (some m.D) a b (some (cD (p.1 + 60, p.2))) none) (a := eVar 5) (b := eVar 2) (c := eVar 8) (S := U ++ l) (p := p) hm rfl rfl rfl (ha p)
  let f4 : Mv := .ch (.ch .qu .qu) (.ch .qu .qu)
  have s8 : (sAsg (eMk "Chain" ["first", "second"] (aCons (eMk "Chain" ["first", "second"] (aCons (eMk "Quarter" [] aNil) (aCons (eMk "Quarter" [] aNil) aNil))) (aCons (eMk "Chain" ["first", "second"] (aCons (eMk "Quarter" [] aNil) (aCons (eMk "Quarter" [] aNil) aNil))) aNil))) (gN 9)) (lw p T.length z (some m.D) a b (some (cD (p.1 + 60, p.2))) none) (U ++ l) = some (.ok (.nx, lw p T.length z (some m.D) a b (some (cD (p.1 + 60, p.2))) (some f4.D)), U ++ l) := rfl
  have q3 := there_run (σ := lw p T.length z (some m.D) a b (some (cD (p.1 + 60, p.2))) (some f4.D)) (m := f4) (a := eVar 9) (b := eVar 2) (c := eVar 2) (S := U ++ l) (p := p) (by decide) rfl rfl rfl (by show (- - p.1, - - p.2) = p; rw [Int.neg_neg, Int.neg_neg])
  have q4 := there_run (σ := lw p T.length z (some m.D) a b (some (cD (p.1 + 60, p.2))) (some f4.D)) (m := .pl) (a := eMk "Move" [] aNil) (b := eVar 2) (c := eVar 2) (S := U ++ l) (p := p) (by decide) rfl rfl rfl rfl
  obtain ⟨l', e5⟩ := chained_eq (lst_old (l := l) hn) hr p
  have q5 : eF (arity 2 F__law_chained) (aCons (eVar 3) (aCons (eVar 2) aNil)) (lw p T.length z (some m.D) a b (some (cD (p.1 + 60, p.2))) (some f4.D)) (U ++ l) = some (.ok (.bl true), U ++ l ++ l') := call_ok (a2_ok (S1 := U ++ l) rfl rfl) rfl e5
  have q6 : eAnd (eF (arity 3 F__law_there) (aCons (eVar 9) (aCons (eVar 2) (aCons (eVar 2) aNil)))) (eAnd (eF (arity 3 F__law_there) (aCons (eMk "Move" [] aNil) (aCons (eVar 2) (aCons (eVar 2) aNil)))) (eF (arity 2 F__law_chained) (aCons (eVar 3) (aCons (eVar 2) aNil)))) (lw p T.length z (some m.D) a b (some (cD (p.1 + 60, p.2))) (some f4.D)) (U ++ l) = some (.ok (.bl true), U ++ l ++ l') := by
    unfold eAnd
    rw [q3, bnd_ok]
    show bnd (eF (arity 3 F__law_there) _ _ _) _ = _
    rw [q4, bnd_ok]
    exact q5
  exact ⟨U ++ l ++ l', mk_rt ((seq_nx s1).trans ((seq_nx s2).trans ((seq_nx s3).trans ((seq_nx s4).trans ((seq_nx s5).trans ((seq_nx s6).trans ((seq_nx s7).trans ((if_nx ((or_f (no_ok (tbl_ok q1))).trans (no_ok (tbl_ok q2)))).trans ((seq_nx s8).trans (ret_ok q6))))))))))⟩
end K62

open PySem PySem.W PyProof.Rows
set_option maxRecDepth 100000 in
set_option maxHeartbeats 0 in
theorem PySem.Challenge.cw_floortwos_k62_moves_of_cells_holds : PySem.Challenge.rw_floortwos_k62_moves_of_cells.Holds := by
  w_on; o_law; k_head; (case hw => w_witness2)
  k_fill
  refine Mir.law_walk (l := PySem.Challenge.rw_floortwos_k62_moves_of_cells) (k := 70) (x := "_law_script") (F := K62.F_law) rfl rfl ⟨rfl, by decide, by decide⟩ (fun w h Y => PySem.W.kIn_of Y) ?F K62.law_true
  case F =>
    intro w mg fa h KX G hmg
    refine' K62.all_mk KX G hmg ?x_Shift ?pg_Shift ?hd_Shift ?po_Shift ?sa_Shift ?ob_Shift ?ms_Shift ?kc_Shift ?hc_Shift ?x_Chain ?pg_Chain ?hd_Chain ?po_Chain ?sa_Chain ?ob_Chain ?ms_Chain ?kc_Chain ?hc_Chain ?x_Move ?pg_Move ?hd_Move ?po_Move ?sa_Move ?ob_Move ?ms_Move ?kc_Move ?hc_Move ?in_Move ?x_Quarter ?pg_Quarter ?hd_Quarter ?po_Quarter ?sa_Quarter ?ob_Quarter ?ms_Quarter ?kc_Quarter ?hc_Quarter ?in_Quarter ?x_Mirror ?pg_Mirror ?hd_Mirror ?po_Mirror ?sa_Mirror ?ob_Mirror ?ms_Mirror ?kc_Mirror ?hc_Mirror ?in_Mirror ?x_QuarterBack ?pg_QuarterBack ?hd_QuarterBack ?po_QuarterBack ?sa_QuarterBack ?ob_QuarterBack ?ms_QuarterBack ?kc_QuarterBack ?hc_QuarterBack ?in_QuarterBack ?na_Shift_down ?na_Shift_right ?na_Chain_first ?na_Chain_second ?ki_Shift_Move ?ki_Chain_Move ?ki_Move_Move ?ki_Quarter_Move ?ki_Mirror_Move ?ki_QuarterBack_Move ?hnM ?htkM ?aM0 ?iM0 ?lM0 ?cM0 ?kM0 ?aM1 ?iM1 ?lM1 ?cM1 ?kM1 ?aM2 ?iM2 ?lM2 ?cM2 ?kM2 ?aM3 ?iM3 ?lM3 ?cM3 ?kM3 ?aM4 ?iM4 ?lM4 ?cM4 ?kM4 ?aM5 ?iM5 ?lM5 ?cM5 ?kM5 ?aM6 ?iM6 ?lM6 ?cM6 ?kM6 ?aM7 ?iM7 ?lM7 ?cM7 ?kM7 ?a8 ?l8 ?c8 ?k8 ?a9 ?l9 ?c9 ?k9 ?a10 ?l10 ?c10 ?k10 ?a11 ?l11 ?c11 ?k11 ?a12 ?l12 ?c12 ?k12 ?a13 ?l13 ?c13 ?k13 ?aM14 ?iM14 ?lM14 ?cM14 ?kM14 ?aM15 ?iM15 ?lM15 ?cM15 ?kM15 ?aM16 ?iM16 ?lM16 ?cM16 ?kM16 ?aM17 ?iM17 ?lM17 ?cM17 ?kM17 ?aM18 ?iM18 ?lM18 ?cM18 ?kM18 ?aM19 ?iM19 ?lM19 ?cM19 ?kM19 ?a20 ?l20 ?c20 ?k20 ?a21 ?l21 ?c21 ?k21 ?a22 ?l22 ?c22 ?k22 ?a23 ?l23 ?c23 ?k23 ?z_bool ?z_isinstance ?z_int ?z_len ?z_tuple ?z_range
    (case x_Shift => k_is)
    (case pg_Shift => k_is)
    (case hd_Shift => k_is)
    (case po_Shift => k_is)
    (case sa_Shift => k_is)
    (case ob_Shift => k_is)
    (case ms_Shift => k_is)
    (case kc_Shift => k_is)
    (case hc_Shift => k_is)
    (case x_Chain => k_is)
    (case pg_Chain => k_is)
    (case hd_Chain => k_is)
    (case po_Chain => k_is)
    (case sa_Chain => k_is)
    (case ob_Chain => k_is)
    (case ms_Chain => k_is)
    (case kc_Chain => k_is)
    (case hc_Chain => k_is)
    (case x_Move => k_is)
    (case pg_Move => k_is)
    (case hd_Move => k_is)
    (case po_Move => k_is)
    (case sa_Move => k_is)
    (case ob_Move => k_is)
    (case ms_Move => k_is)
    (case kc_Move => k_is)
    (case hc_Move => k_is)
    (case in_Move => k_is)
    (case x_Quarter => k_is)
    (case pg_Quarter => k_is)
    (case hd_Quarter => k_is)
    (case po_Quarter => k_is)
    (case sa_Quarter => k_is)
    (case ob_Quarter => k_is)
    (case ms_Quarter => k_is)
    (case kc_Quarter => k_is)
    (case hc_Quarter => k_is)
    (case in_Quarter => k_is)
    (case x_Mirror => k_is)
    (case pg_Mirror => k_is)
    (case hd_Mirror => k_is)
    (case po_Mirror => k_is)
    (case sa_Mirror => k_is)
    (case ob_Mirror => k_is)
    (case ms_Mirror => k_is)
    (case kc_Mirror => k_is)
    (case hc_Mirror => k_is)
    (case in_Mirror => k_is)
    (case x_QuarterBack => k_is)
    (case pg_QuarterBack => k_is)
    (case hd_QuarterBack => k_is)
    (case po_QuarterBack => k_is)
    (case sa_QuarterBack => k_is)
    (case ob_QuarterBack => k_is)
    (case ms_QuarterBack => k_is)
    (case kc_QuarterBack => k_is)
    (case hc_QuarterBack => k_is)
    (case in_QuarterBack => k_is)
    (case na_Shift_down => k_is)
    (case na_Shift_right => k_is)
    (case na_Chain_first => k_is)
    (case na_Chain_second => k_is)
    (case ki_Shift_Move => kit_is)
    (case ki_Chain_Move => kit_is)
    (case ki_Move_Move => kit_is)
    (case ki_Quarter_Move => kit_is)
    (case ki_Mirror_Move => kit_is)
    (case ki_QuarterBack_Move => kit_is)
    (case hnM => k_is)
    (case htkM => k_is)
    (case aM0 => k_is)
    (case iM0 => k_is)
    (case lM0 => k_is)
    (case cM0 => k_is)
    (case kM0 => k_is)
    (case aM1 => k_is)
    (case iM1 => k_is)
    (case lM1 => k_is)
    (case cM1 => k_is)
    (case kM1 => k_is)
    (case aM2 => k_is)
    (case iM2 => k_is)
    (case lM2 => k_is)
    (case cM2 => k_is)
    (case kM2 => k_is)
    (case aM3 => k_is)
    (case iM3 => k_is)
    (case lM3 => k_is)
    (case cM3 => k_is)
    (case kM3 => k_is)
    (case aM4 => k_is)
    (case iM4 => k_is)
    (case lM4 => k_is)
    (case cM4 => k_is)
    (case kM4 => k_is)
    (case aM5 => k_is)
    (case iM5 => k_is)
    (case lM5 => k_is)
    (case cM5 => k_is)
    (case kM5 => k_is)
    (case aM6 => k_is)
    (case iM6 => k_is)
    (case lM6 => k_is)
    (case cM6 => k_is)
    (case kM6 => k_is)
    (case aM7 => k_is)
    (case iM7 => k_is)
    (case lM7 => k_is)
    (case cM7 => k_is)
    (case kM7 => k_is)
    (case a8 => k_is)
    (case l8 => k_is)
    (case c8 => k_is)
    (case k8 => k_is)
    (case a9 => k_is)
    (case l9 => k_is)
    (case c9 => k_is)
    (case k9 => k_is)
    (case a10 => k_is)
    (case l10 => k_is)
    (case c10 => k_is)
    (case k10 => k_is)
    (case a11 => k_is)
    (case l11 => k_is)
    (case c11 => k_is)
    (case k11 => k_is)
    (case a12 => k_is)
    (case l12 => k_is)
    (case c12 => k_is)
    (case k12 => k_is)
    (case a13 => k_is)
    (case l13 => k_is)
    (case c13 => k_is)
    (case k13 => k_is)
    (case aM14 => k_is)
    (case iM14 => k_is)
    (case lM14 => k_is)
    (case cM14 => k_is)
    (case kM14 => k_is)
    (case aM15 => k_is)
    (case iM15 => k_is)
    (case lM15 => k_is)
    (case cM15 => k_is)
    (case kM15 => k_is)
    (case aM16 => k_is)
    (case iM16 => k_is)
    (case lM16 => k_is)
    (case cM16 => k_is)
    (case kM16 => k_is)
    (case aM17 => k_is)
    (case iM17 => k_is)
    (case lM17 => k_is)
    (case cM17 => k_is)
    (case kM17 => k_is)
    (case aM18 => k_is)
    (case iM18 => k_is)
    (case lM18 => k_is)
    (case cM18 => k_is)
    (case kM18 => k_is)
    (case aM19 => k_is)
    (case iM19 => k_is)
    (case lM19 => k_is)
    (case cM19 => k_is)
    (case kM19 => k_is)
    (case a20 => k_is)
    (case l20 => k_is)
    (case c20 => k_is)
    (case k20 => k_is)
    (case a21 => k_is)
    (case l21 => k_is)
    (case c21 => k_is)
    (case k21 => k_is)
    (case a22 => k_is)
    (case l22 => k_is)
    (case c22 => k_is)
    (case k22 => k_is)
    (case a23 => k_is)
    (case l23 => k_is)
    (case c23 => k_is)
    (case k23 => k_is)
    (case z_bool => k_is)
    (case z_isinstance => k_is)
    (case z_int => k_is)
    (case z_len => k_is)
    (case z_tuple => k_is)
    (case z_range => k_is)
#print axioms PySem.Challenge.cw_floortwos_k62_moves_of_cells_holds
