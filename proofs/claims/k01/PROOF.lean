import PyProof.Rows.All
import Wide.All
import OpenK.AllK
import Wide.FinOn
import PyProof.EqAt
import PyProof.EqKinds
import PyProof.TupleCall
import KE.BitLaws
import KE.KLam
import KE.KNestM
import PyProof.Rows.SortShellAny
import PyProof.Rows.CallKwBuiltin
import PyProof.IsRules
import PyProof.ListRange
import PyProof.TupleOfStr
import PyProof.MeetsSeq
import KE.KMinKey
import PySem.Challenge.RW_gatebeats_k01_rows
set_option Elab.async false
set_option linter.all false
set_option maxRecDepth 100000
namespace L2
open PySem PySem.Spec PyProof.Rows
abbrev Key := Sum Int Str
def keyIs : Key → Value → Bool
  | .inl k, v => Value.isInt k v
  | .inr x, v => Value.isStrOf x v
def keyH (w : World) : Key → Int
  | .inl k => hashInt k
  | .inr x => hashStr w x
theorem keyIs_shape : ∀ {k : Key} {v : Value}, keyIs k v = true → (∃ i t, k = Sum.inl i ∧ v = Value.int i t) ∨ (∃ x t, k = Sum.inr x ∧ v = Value.str x t)
  | .inl i, v, h => by
    obtain ⟨t, e⟩ := Value.isInt_shape (k := i) (v := v) h
    exact .inl ⟨i, t, rfl, e⟩
  | .inr x, v, h => by
    obtain ⟨t, e⟩ := Value.isStrOf_shape (x := x) (v := v) h
    exact .inr ⟨x, t, rfl, e⟩
theorem key_ll (a b : Int) : decide ((Sum.inl a : Key) = Sum.inl b) = (a == b) := by
  by_cases e : a = b
  · subst e; simp
  · have h : ¬ (Sum.inl a : Key) = Sum.inl b := fun q => e (Sum.inl.inj q)
    rw [decide_eq_false h]
    exact (beq_eq_false_iff_ne.mpr e).symm
theorem key_rr (a b : Str) : decide ((Sum.inr a : Key) = Sum.inr b) = decide (a = b) := by
  by_cases e : a = b
  · subst e; simp
  · have h : ¬ (Sum.inr a : Key) = Sum.inr b := fun q => e (Sum.inr.inj q)
    rw [decide_eq_false h, decide_eq_false e]
theorem key_lr (a : Int) (b : Str) : decide ((Sum.inl a : Key) = Sum.inr b) = false := decide_eq_false (fun q => nomatch q)
theorem key_rl (a : Str) (b : Int) : decide ((Sum.inr a : Key) = Sum.inl b) = false := decide_eq_false (fun q => nomatch q)
def mixKind (prog : Program) (w : World) : PySem.KeyKind prog w Key where
  is := keyIs
  hash := keyH w
  inj := fun v a b ha hb => by
    rcases keyIs_shape ha with ⟨i, t, rfl, rfl⟩ | ⟨x, t, rfl, rfl⟩
    · rcases keyIs_shape hb with ⟨j, u, rfl, e⟩ | ⟨y, u, rfl, e⟩
      · injection e with e1 _; rw [e1]
      · exact nomatch e
    · rcases keyIs_shape hb with ⟨j, u, rfl, e⟩ | ⟨y, u, rfl, e⟩
      · exact nomatch e
      · injection e with e1 _; rw [e1]
  byValue := fun k v h => by
    rcases keyIs_shape h with ⟨i, t, rfl, rfl⟩ | ⟨x, t, rfl, rfl⟩ <;> rfl
  pyHash := fun hv h => by
    rcases keyIs_shape hv with ⟨i, t, rfl, rfl⟩ | ⟨x, t, rfl, rfl⟩
    · exact wpAny_pyHash_int h
    · exact wpAny_pyHash_str h
  eqBool := fun hu hv h => by
    rcases keyIs_shape hu with ⟨i, t, rfl, rfl⟩ | ⟨x, t, rfl, rfl⟩
    · rcases keyIs_shape hv with ⟨j, u, rfl, rfl⟩ | ⟨y, u, rfl, rfl⟩
      · rw [key_ll] at h; exact wpAny_eqBool_int h
      · rw [key_lr] at h; exact SeqAt.EqAt.int_str i t y u _ _ _ _ h
    · rcases keyIs_shape hv with ⟨j, u, rfl, rfl⟩ | ⟨y, u, rfl, rfl⟩
      · rw [key_rl] at h; exact SeqAt.EqAt.str_int x t j u _ _ _ _ h
      · rw [key_rr] at h; exact wpAny_eqBool_str h
  «strs» := fun k x t v h => by
    rcases keyIs_shape h with ⟨i, u, rfl, e⟩ | ⟨y, u, rfl, e⟩
    · exact nomatch e
    · injection e with e1 _
      subst e1
      cases v <;> rfl
end L2
namespace L2
open PySem PySem.Spec PyProof.Rows
inductive V where
  | non | bl (b : Bool) | int (i : Int) | str (x : Str) | byt (b : Array UInt8) | flt (b : UInt64) | ref (a : Addr) | ty (n : String)
  deriving DecidableEq
def RelV : V → Value → Prop
  | .non, u => u = Value.none
  | .bl b, u => u = Value.bool b
  | .int i, u => ∃ t, u = Value.int i t
  | .str x, u => ∃ t, u = Value.str x t
  | .byt b, u => ∃ t, u = Value.bytes b t
  | .flt b, u => ∃ t, u = Value.float b t
  | .ref a, u => u = Value.ref a
  | .ty n, u => u = Value.type n
abbrev Vals : List V → List Value → Prop := Paired RelV
theorem Vals.length {xs : List V} {us : List Value} (r : Vals xs us) : xs.length = us.length := Paired.length r
theorem Vals.get : ∀ {xs : List V} {us : List Value} {i : Nat} {x : V}, Vals xs us → xs[i]? = some x → ∃ u, us[i]? = some u ∧ RelV x u
  | _, _, _, _, .nil, e => by simp at e
  | _, _, 0, _, .cons r _, e => by simp at e; subst e; exact ⟨_, rfl, r⟩
  | _, _, i + 1, x, .cons _ t, e => by
    obtain ⟨u, h1, h2⟩ := Vals.get (i := i) (x := x) t (by simpa using e)
    exact ⟨u, by simpa using h1, h2⟩
theorem Vals.set {x : V} {u : Value} (r : RelV x u) : ∀ {xs : List V} {us : List Value} (i : Nat), Vals xs us → Vals (xs.set i x) (us.set i u)
  | _, _, _, .nil => .nil
  | _, _, 0, .cons _ t => .cons r t
  | _, _, i + 1, .cons q t => .cons q (Vals.set r i t)
theorem Vals.append : ∀ {xs ys : List V} {us ws : List Value}, Vals xs us → Vals ys ws → Vals (xs ++ ys) (us ++ ws)
  | _, _, _, _, .nil, s => s
  | _, _, _, _, .cons r t, s => .cons r (Vals.append t s)
theorem Vals.take : ∀ {xs : List V} {us : List Value} (n : Nat), Vals xs us → Vals (xs.take n) (us.take n)
  | _, _, 0, _ => .nil
  | _, _, _ + 1, .nil => .nil
  | _, _, n + 1, .cons r t => .cons r (Vals.take n t)
theorem Vals.drop : ∀ {xs : List V} {us : List Value} (n : Nat), Vals xs us → Vals (xs.drop n) (us.drop n)
  | _, _, 0, r => r
  | _, _, _ + 1, .nil => .nil
  | _, _, n + 1, .cons _ t => Vals.drop n t
theorem Vals.none_of : ∀ {xs : List V} {us : List Value} {i : Nat}, Vals xs us → xs[i]? = none → us[i]? = none := fun {xs us i} r e => by
  have h1 := r.length
  have h2 : xs.length ≤ i := List.getElem?_eq_none_iff.mp e
  exact List.getElem?_eq_none_iff.mpr (by omega)
def RelO : Option V → Option Value → Prop
  | some v, some u => RelV v u
  | none, none => True
  | _, _ => False
def KV {κ : Type} : List (κ × V) → List (κ × Value) → Prop := Paired fun (p : κ × V) (q : κ × Value) => p.1 = q.1 ∧ RelV p.2 q.2
def kV : Key → V
  | .inl i => .int i
  | .inr x => .str x
inductive HO where
  /-- a list -/
  | lst (xs : List V)
  /-- a tuple (never changes) -/
  | tup (xs : List V)
  /-- a dict whose keys are ints and texts; one whose keys are tuples of ints and texts (the empty one is both) -/
  | dK (kvs : List (Key × V)) | dT (kvs : List (List Key × V))
  /-- a set of ints: its members, its size -/
  | set (S : Int → Bool) (n : Nat)
  /-- an instance of the class at C, its dict at dx, its attributes -/
  | ins (C dx : Addr) (fs : List (Str × V))
  /-- the dict of the instance at x -/
  | own (x : Addr)
  /-- the dict of an exception -/
  | xd (fs : List (Str × V))
  /-- a bound method, f of x -/
  | met (f x : Addr)
  /-- a range object lo, lo + 1, .. below hi -/
  | rng (lo hi : Int)
  /-- a thing that is known to the object (the script; a dict while a loop walks it): read, never written while it is so -/
  | frz (o : Obj) (u : HO)
  /-- a code object's table -/
  | tbl (ps : Array Value)
  /-- any other thing, by what is true of its one object (a def of one's own: SetO a S n := HO.ext fun h => ..) -/
  | ext (φ : Heap → Prop)
abbrev Hp := Addr → Option HO
def upd (H : Hp) (a : Addr) (o : HO) : Hp := fun b => if b = a then some o else H b
theorem upd_same {H : Hp} {a : Addr} {o : HO} : upd H a o a = some o := by unfold upd; rw [if_pos rfl]
theorem upd_ne {H : Hp} {a b : Addr} {o : HO} (h : b ≠ a) : upd H a o b = H b := by unfold upd; rw [if_neg h]
theorem ne_of_none {H : Hp} {a b : Addr} {o : HO} (h : H a = some o) (h' : H b = none) : a ≠ b := by
  intro e; subst e; rw [h] at h'; cases h'
def IsTupD (h : Heap) (a : Addr) (items : Array Value) : Prop := ∃ o, h.get? a = some o ∧ (o.cls = .type "tuple" ∧ o.dict = none) ∧ ∃ n, o.data = .seq items n
theorem IsTupD.old {h : Heap} {a : Addr} {items : Array Value} (x : IsTupD h a items) : IsTup h a items := by
  obtain ⟨o, e, c, n, d⟩ := x
  exact ⟨o, e, c.1, n, d⟩
theorem IsTupD.lt {h : Heap} {a : Addr} {items : Array Value} (x : IsTupD h a items) : a < h.objs.size := x.old.lt
theorem IsTupD.new (h : Heap) (items : Array Value) : IsTupD (h.push { cls := .type "tuple", data := .seq items }) h.objs.size items := ⟨_, Heap.get?_push_size _ rfl, ⟨rfl, rfl⟩, _, rfl⟩
section
variable (P : Program) (w : World)
def ObjOk (H : Hp) (h : Heap) (a : Addr) : HO → Prop
  | .lst xs => xs.length ≤ sizeLine ∧ ∃ (its : List Value) (n : Nat), Vals xs its ∧ h.get? a = some { cls := .type "list", data := .seq its.toArray n }
  | .tup xs => xs.length ≤ sizeLine ∧ ∃ its : List Value, Vals xs its ∧ IsTupD h a its.toArray
  | .dK kvs => kvs.length ≤ sizeLine ∧ (a == sysModules) = false ∧ ∃ vs, KV kvs vs ∧ h.DictOf (mixKind P w) a vs
  | .dT kvs => kvs.length ≤ sizeLine ∧ (a == sysModules) = false ∧ ∃ xs : List (List Key × Addr × Value),
      Paired (fun (p : List Key × V) (q : List Key × Addr × Value) => p.1 = q.1 ∧ H q.2.1 = some (.tup (p.1.map kV)) ∧ RelV p.2 q.2.2) kvs xs ∧
      ∃ o es ep, h.get? a = some o ∧ o.ExactDict ∧ o.data = .dict es ep ∧ es.toList = xs.map (entryOfKey (tupleKind (mixKind P w))) ∧ (xs.map (·.1)).Nodup
  | .set S n => h.SetOf (intKind P w) a S n
  | .ins C dx fs => H dx = some (.own a) ∧ fs.length ≤ 1000 ∧ dx ≠ a ∧ h.get? a = some (PySem.W.instObj C dx) ∧
      ∃ mA, h.Ns1 dx mA ∧ (∀ f, RelO (fs.lookup f) (mA f)) ∧ PySem.Within mA (fs.map (·.1))
  | .own _ => ∃ o, h.get? a = some o
  | .xd fs => ∃ mA, h.Ns1 a mA ∧ ∀ f, RelO (fs.lookup f) (mA f)
  | .rng lo hi => ∃ t u v, h.get? a = some { cls := .type "range", data := .fields #[.int lo t, .int hi u, .int 1 v] }
  | .frz o u => h.get? a = some o ∧ ObjOk H h a u
  | .tbl ps => h.get? a = some { cls := .none, data := .fields ps }
  | .met f x => h.get? a = some (PySem.W.methodObj (.ref f) (.ref x))
  | .ext φ => φ h ∧ (∃ o, h.get? a = some o) ∧ ∀ h1 h2 : Heap, φ h1 → (∀ o, h1.get? a = some o → h2.get? a = some o) → φ h2
def HOk (H : Hp) (h : Heap) : Prop := ∀ a o, H a = some o → ObjOk P w H h a o
end
section
variable {P : Program} {w : World} {H H' : Hp} {h h' : Heap} {a : Addr} {o : HO}
theorem ObjOk.lt (x : ObjOk P w H h a o) : a < h.objs.size := by
  cases o with
  | lst xs => obtain ⟨_, _, _, _, e⟩ := x; exact Heap.lt_size e
  | tup xs => obtain ⟨_, _, _, p⟩ := x; exact p.lt
  | dK kvs => obtain ⟨_, _, _, _, o, _, _, e, _⟩ := x; exact Heap.lt_size e
  | dT kvs => obtain ⟨_, _, _, _, o, _, _, e, _⟩ := x; exact Heap.lt_size e
  | set S n => obtain ⟨o, _, _, _, e, _⟩ := x; exact Heap.lt_size e
  | ins C dx fs => obtain ⟨_, _, _, e, _⟩ := x; exact Heap.lt_size e
  | own y => obtain ⟨_, e⟩ := x; exact Heap.lt_size e
  | xd fs => obtain ⟨_, ⟨_, _, _, e, _⟩, _⟩ := x; exact Heap.lt_size e
  | rng lo hi => obtain ⟨_, _, _, e⟩ := x; exact Heap.lt_size e
  | frz ob u => obtain ⟨e, _⟩ := x; exact Heap.lt_size e
  | tbl ps => exact Heap.lt_size (show h.get? a = some _ from x)
  | met f y => exact Heap.lt_size (show h.get? a = some _ from x)
  | ext φ => obtain ⟨_, ⟨_, e⟩, _⟩ := x; exact Heap.lt_size e
theorem Paired.mapP {α β : Type} {F G : α → β → Prop} : ∀ {l₁ : List α} {l₂ : List β}, Paired F l₁ l₂ → (∀ a b, F a b → G a b) → Paired G l₁ l₂
  | _, _, .nil, _ => .nil
  | _, _, .cons r t, f => .cons (f _ _ r) (Paired.mapP t f)
theorem ObjOk.stay (x : ObjOk P w H h a o) (k : ∀ b u, (b = a ∨ H b = some (.own a)) → h.get? b = some u → h'.get? b = some u)
    (ho : ∀ b, H b = some (.own a) → H' b = some (.own a)) (ht : ∀ b xs, H b = some (.tup xs) → H' b = some (.tup xs)) : ObjOk P w H' h' a o := by
  induction o with
  | lst xs => obtain ⟨z, its, n, r, e⟩ := x; exact ⟨z, its, n, r, k _ _ (.inl rfl) e⟩
  | tup xs => obtain ⟨z, its, r, ob, e, c⟩ := x; exact ⟨z, its, r, ob, k _ _ (.inl rfl) e, c⟩
  | dK kvs => obtain ⟨z, y, vs, r, ob, es, ep, e, c⟩ := x; exact ⟨z, y, vs, r, ob, es, ep, k _ _ (.inl rfl) e, c⟩
  | dT kvs =>
    obtain ⟨z, y, xs, r, ob, es, ep, e, c⟩ := x
    exact ⟨z, y, xs, Paired.mapP r fun p q z => ⟨z.1, ht _ _ z.2.1, z.2.2⟩, ob, es, ep, k _ _ (.inl rfl) e, c⟩
  | set S n => obtain ⟨ob, es, ep, t, e, c⟩ := x; exact ⟨ob, es, ep, t, k _ _ (.inl rfl) e, c⟩
  | ins C dx fs =>
    obtain ⟨d, z, ne, e, mA, ⟨od, es, ep, e2, c⟩, r⟩ := x
    exact ⟨ho _ d, z, ne, k _ _ (.inl rfl) e, mA, ⟨od, es, ep, k _ _ (.inr d) e2, c⟩, r⟩
  | own y => obtain ⟨ob, e⟩ := x; exact ⟨ob, k _ _ (.inl rfl) e⟩
  | xd fs => obtain ⟨mA, ⟨od, es, ep, e, c⟩, r⟩ := x; exact ⟨mA, ⟨od, es, ep, k _ _ (.inl rfl) e, c⟩, r⟩
  | rng lo hi => obtain ⟨t, u, v, e⟩ := x; exact ⟨t, u, v, k _ _ (.inl rfl) e⟩
  | frz ob u ih => obtain ⟨e, q⟩ := x; exact ⟨k _ _ (.inl rfl) e, ih q⟩
  | tbl ps =>
    have e : h.get? a = some { cls := .none, data := .fields ps } := x
    show h'.get? a = some { cls := .none, data := .fields ps }
    exact k a _ (.inl rfl) e
  | met f y =>
    have e : h.get? a = some (PySem.W.methodObj (.ref f) (.ref y)) := x
    show h'.get? a = some (PySem.W.methodObj (.ref f) (.ref y))
    exact k a _ (.inl rfl) e
  | ext φ => obtain ⟨p, ⟨o, e⟩, st⟩ := x; exact ⟨st _ _ p fun o q => k _ _ (.inl rfl) q, ⟨o, k _ _ (.inl rfl) e⟩, st⟩
theorem HOk.lt (x : HOk P w H h) (e : H a = some o) : a < h.objs.size := (x a o e).lt
theorem HOk.fresh (x : HOk P w H h) (e : h.objs.size ≤ a) : H a = none := by
  cases q : H a with
  | none => rfl
  | some u => exact absurd (Nat.lt_of_lt_of_le (x.lt q) e) (Nat.lt_irrefl _)
theorem HOk.kept (x : HOk P w H h) (k : ∀ b u, h.get? b = some u → h'.get? b = some u) : HOk P w H h' := fun a o e =>
  (x a o e).stay (fun b u _ q => k b u q) (fun _ q => q) fun _ _ q => q
theorem HOk.laid (x : HOk P w H h) (k : ∀ b u, h.get? b = some u → h'.get? b = some u) (hp : h.objs.size ≤ a) (new : ObjOk P w (upd H a o) h' a o) : HOk P w (upd H a o) h' := fun b u e => by
  have hn := x.fresh hp
  by_cases hb : b = a
  · subst hb; rw [upd_same] at e; cases e; exact new
  · rw [upd_ne hb] at e
    exact (x b u e).stay (fun c v _ q => k c v q) (fun c q => by rw [upd_ne (ne_of_none q hn)]; exact q) fun c xs q => by rw [upd_ne (ne_of_none q hn)]; exact q
end
def Rd (H : Hp) (a : Addr) (u : HO) : Prop := H a = some u ∨ ∃ o, H a = some (.frz o u)
theorem Rd.of {H : Hp} {a : Addr} {u : HO} (h : H a = some u) : Rd H a u := .inl h
theorem Rd.ok {P : Program} {w : World} {H : Hp} {h : Heap} {a : Addr} {u : HO} (r : Rd H a u) (x : HOk P w H h) : ObjOk P w H h a u := by
  rcases r with r | ⟨o, r⟩
  · exact x a u r
  · obtain ⟨_, q⟩ := x a _ r
    exact q
def Mut : Option HO → Prop
  | some (.lst _) => True
  | some (.dK _) => True
  | some (.dT _) => True
  | some (.set _ _) => True
  | some (.ins _ _ _) => True
  | some (.ext _) => True
  | _ => False
section
variable {P : Program} {w : World} {H : Hp} {h h' : Heap} {x e : Addr} {o' : HO}
theorem HOk.write (ok : HOk P w H h) (mu : Mut (H x)) (he : e = x ∨ H e = some (.own x)) (k : ∀ b u, b ≠ e → h.get? b = some u → h'.get? b = some u) (heo : ∃ u, h'.get? e = some u)
    (new : ObjOk P w (upd H x o') h' x o') : HOk P w (upd H x o') h' := fun b u q => by
  have nown : ∀ c y, H c = some (.own y) → c ≠ x := fun c y r z => by subst z; rw [r] at mu; exact mu
  have ntup : ∀ c xs, H c = some (.tup xs) → c ≠ x := fun c xs r z => by subst z; rw [r] at mu; exact mu
  by_cases hb : b = x
  · subst hb; rw [upd_same] at q; cases q; exact new
  · rw [upd_ne hb] at q
    by_cases hbe : b = e
    · have q' : H b = some (.own x) := by
        rcases he with z | z
        · exact absurd (hbe.trans z) hb
        · rw [hbe]; exact z
      rw [q] at q'; cases q'
      obtain ⟨v, hv⟩ := heo
      exact ⟨v, by rw [hbe]; exact hv⟩
    · refine (ok b u q).stay (fun c v hc r => k c v ?_ r) (fun c r => by rw [upd_ne (nown c b r)]; exact r) fun c xs r => by rw [upd_ne (ntup c xs r)]; exact r
      rcases hc with rfl | hc
      · exact hbe
      · rintro rfl
        rcases he with z | z
        · exact nown c b hc z
        · rw [hc] at z; cases z; exact hb rfl
end
structure Un (fs ex : List Addr) (H H' : Hp) (h h' : Heap) : Prop where
  keep : ∀ b o, h.get? b = some o → H b = none → b ∉ fs → b ∉ ex → h'.get? b = some o
  slot : ∀ b o, h.get? b = some o → H b = none → b ∈ fs → b ∉ ex → ∃ sl, h'.get? b = some { o with slots := sl }
  free : ∀ b o, h.get? b = some o → H b = none → b ∉ ex → H' b = none
  there : ∀ b o, h.get? b = some o → b ∉ ex → ∃ o', h'.get? b = some o'
  tups : ∀ b xs, H b = some (.tup xs) → H' b = some (.tup xs)
  frzs : ∀ b o u, H b = some (.frz o u) → H' b = some (.frz o u)
  tbls : ∀ b ps, H b = some (.tbl ps) → ∃ more, H' b = some (.tbl (ps ++ more))
section
variable {fs fs' ex ex' : List Addr} {H H1 H2 : Hp} {h h1 h2 h' : Heap} {a x e : Addr} {o : HO}
theorem Un.any (u : Un fs ex H H1 h h1) {b : Addr} {ob : Obj} (q : h.get? b = some ob) (n : H b = none) (hx : b ∉ ex) : ∃ sl, h1.get? b = some { ob with slots := sl } := by
  by_cases hb : b ∈ fs
  · exact u.slot b ob q n hb hx
  · exact ⟨ob.slots, u.keep b ob q n hb hx⟩
theorem Un.trans (a : Un fs ex H H1 h h1) (b : Un fs ex H1 H2 h1 h2) : Un fs ex H H2 h h2 where
  keep := fun c ob q n hc hx => b.keep c ob (a.keep c ob q n hc hx) (a.free c ob q n hx) hc hx
  slot := fun c ob q n hc hx => by
    obtain ⟨sl, e1⟩ := a.slot c ob q n hc hx
    obtain ⟨sl', e2⟩ := b.slot c _ e1 (a.free c ob q n hx) hc hx
    exact ⟨sl', e2⟩
  free := fun c ob q n hx => by
    obtain ⟨o', e1⟩ := a.there c ob q hx
    exact b.free c o' e1 (a.free c ob q n hx) hx
  there := fun c ob q hx => by
    obtain ⟨o', e1⟩ := a.there c ob q hx
    exact b.there c o' e1 hx
  tups := fun c xs q => b.tups c xs (a.tups c xs q)
  frzs := fun c ob xs q => b.frzs c ob xs (a.frzs c ob xs q)
  tbls := fun c ps q => by
    obtain ⟨m1, e1⟩ := a.tbls c ps q
    obtain ⟨m2, e2⟩ := b.tbls c _ e1
    exact ⟨m1 ++ m2, by rw [e2, Array.append_assoc]⟩
theorem Un.kept (k : ∀ b u, h.get? b = some u → h'.get? b = some u) : Un fs ex H H h h' :=
  ⟨fun b ob q _ _ _ => k b ob q, fun b ob q _ _ _ => ⟨ob.slots, k b ob q⟩, fun _ _ _ n _ => n, fun b ob q _ => ⟨ob, k b ob q⟩, fun _ _ q => q, fun _ _ _ q => q, fun _ ps q => ⟨#[], by rw [q]; simp⟩⟩
theorem Un.refl : Un fs ex H H h h := Un.kept fun _ _ q => q
theorem Un.laid (k : ∀ b u, h.get? b = some u → h'.get? b = some u) (hp : h.objs.size ≤ a) (hn : H a = none) : Un fs ex H (upd H a o) h h' where
  keep := fun b u q _ _ _ => k b u q
  slot := fun b u q _ _ _ => ⟨u.slots, k b u q⟩
  free := fun b u q n _ => by rw [upd_ne (Nat.ne_of_lt (Nat.lt_of_lt_of_le (Heap.lt_size q) hp))]; exact n
  there := fun b u q _ => ⟨u, k b u q⟩
  tups := fun b xs q => by rw [upd_ne (ne_of_none q hn)]; exact q
  frzs := fun b u xs q => by rw [upd_ne (ne_of_none q hn)]; exact q
  tbls := fun b ps q => ⟨#[], by rw [upd_ne (ne_of_none q hn), q]; simp⟩
theorem Un.write (mu : Mut (H x)) (he : e = x ∨ H e = some (.own x)) (k : ∀ b u, b ≠ e → h.get? b = some u → h'.get? b = some u) (heo : ∃ u, h'.get? e = some u) : Un fs ex H (upd H x o) h h' := by
  have hx : ∀ b, H b = none → b ≠ x := fun b n z => by subst z; rw [n] at mu; exact mu
  have hb : ∀ b, H b = none → b ≠ e := fun b n z => by
    subst z
    rcases he with r | r
    · exact hx b n r
    · rw [n] at r; cases r
  have hm : ∀ b u, H b = some u → ¬ Mut (some u) → b ≠ x := fun b u q nm z => by subst z; rw [q] at mu; exact nm mu
  refine ⟨fun b u q n _ _ => k b u (hb b n) q, fun b u q n _ _ => ⟨u.slots, k b u (hb b n) q⟩, fun b u q n _ => by rw [upd_ne (hx b n)]; exact n, fun b u q _ => ?_,
    fun b xs q => by rw [upd_ne (hm b _ q fun z => z)]; exact q, fun b u xs q => by rw [upd_ne (hm b _ q fun z => z)]; exact q, fun b ps q => ⟨#[], by rw [upd_ne (hm b _ q fun z => z), q]; simp⟩⟩
  by_cases hbe : b = e
  · subst hbe; exact heo
  · exact ⟨u, k b u hbe q⟩
theorem Un.mono (u : Un fs ex H H1 h h1) (hs : ∀ b ∈ fs, b ∈ fs') (hx : ∀ b ∈ ex, b ∈ ex') : Un fs' ex' H H1 h h1 :=
  ⟨fun b ob q n hb he => u.keep b ob q n (fun z => hb (hs b z)) fun z => he (hx b z), fun _ _ q n _ he => u.any q n fun z => he (hx _ z), fun b ob q n he => u.free b ob q n fun z => he (hx b z), fun b ob q he => u.there b ob q fun z => he (hx b z), u.tups, u.frzs, u.tbls⟩
end
def trk (h : Heap) (H : Hp) : List Addr := (List.range h.objs.size).filter fun a => (H a).isSome
def hidT (h : Heap) (H : Hp) : Heap := PySem.W.hideAll h (trk h H)
theorem hidT_size (h : Heap) (H : Hp) : (hidT h H).objs.size = h.objs.size := PySem.W.hideAll_size _ _
theorem hidT_get {h : Heap} {H : Hp} {b : Addr} {o : Obj} (e : h.get? b = some o) (n : H b = none) : (hidT h H).get? b = some o :=
  PySem.W.hideAll_get _ e fun hm => by
    have q : (H b).isSome = true := (List.mem_filter.mp hm).2
    rw [n] at q; simp at q
theorem of_hidT {h : Heap} {H : Hp} {b : Addr} {o : Obj} (e : (hidT h H).get? b = some o) : h.get? b = some o ∧ H b = none := by
  have e' : h.get? b = some o := PySem.W.of_hideAll (trk h H) e
  refine ⟨e', ?_⟩
  cases q : H b with
  | none => rfl
  | some x =>
    have hm : b ∈ trk h H := List.mem_filter.mpr ⟨List.mem_range.mpr (Heap.lt_size e'), by simp [q]⟩
    have z : (hidT h H).get? b = none := PySem.W.hideAll_none (trk h H) hm
    rw [z] at e; cases e
def allNews (g h : Heap) (L : Addr) : List (Addr × Obj) := (List.range h.objs.size).filterMap fun a => if a = L ∨ (g.get? a).isSome = true then none else (h.get? a).map fun o => (a, o)
def rest (g h : Heap) (L d : Addr) : List (Addr × Obj) := (allNews g h L).filter fun p => decide (p.1 ≠ d)
end L2
namespace L2
open PySem PySem.Spec PyProof.Rows
structure Mod (K : PySem.W.Frag) (mg : Str → Option Value) (base : Heap) : Prop where
  kin : K.In base
  glob : base.Ns mainGlobals mg
  blt : ∃ mb, base.Ns builtinsNs mb ∧ ∀ x : Str, x ≠ "__name__" → mb x = bootBuiltins x
  nolimit : base.NoLimit
structure Cx where
  prog : Program
  w : World
  K : PySem.W.Frag
  mg : Str → Option Value
  base : Heap
  A : Around
  N : List Str
  s_0 : Shared
  H_0 : Hp
  env : Env
  outer : List Env
  stack : List Env
  ex : List Addr
  fn : Str → Bool
  calm : Bool
  pn : List (Addr × Obj)
  xe : Value → Shared → Prop
def frs (l : List Env) : List Addr := l.filterMap (·.frame)
abbrev Cx.fs (X : Cx) : List Addr := frs X.outer
def Vis (sc : Scope) (x : Str) : Prop := sc.names.lookup x = some .local ∨ sc.names.lookup x = some .cell ∨ sc.names.lookup x = some .free
def Loc (sc : Scope) (x : Str) : Prop := sc.names.lookup x = some .local ∨ sc.names.lookup x = some .cell
def Look (env : Env) (h : Heap) (m : Str → Option Value) (x : Str) (u : Value) : Prop :=
  (env.kindOf x = some .local ∧ m x = some u) ∨ ((env.kindOf x = some .cell ∨ env.kindOf x = some .free) ∧ ∃ c, env.cells.lookup x = some c ∧ h.IsCell c (some u))
structure Cx.Ok (X : Cx) : Prop where
  mod : Mod X.K X.mg X.base
  kind : X.env.scope.kind = .function
  glob : X.env.globals = mainGlobals
  blt : X.env.builtins = builtinsNs
  above : X.s_0.heap.objs.size ≤ X.env.locals
  inj : ∀ x y c, X.env.cells.lookup x = some c → X.env.cells.lookup y = some c → x = y
  has : ∀ x, (X.env.kindOf x = some .cell ∨ X.env.kindOf x = some .free) → ∃ c, X.env.cells.lookup x = some c
  cab : ∀ x c, X.fn x = true → X.env.cells.lookup x = some c → X.s_0.heap.objs.size ≤ c
  hd : X.calm = true → X.A.handled = none
  frames : X.A.frames = some X.stack
  stk : X.stack = X.outer ∨ (X.stack = X.env :: X.outer ∧ X.env.frame = some X.env.locals)
  exf : ∀ b ∈ X.ex, b ≠ X.env.locals ∧ ∀ x c, X.env.cells.lookup x = some c → c ≠ b
  bs : ∀ b o, X.base.get? b = some o → X.s_0.heap.get? b = some o ∧ X.H_0 b = none
  bsz : X.base.objs.size ≤ X.s_0.heap.objs.size
  noex : ∀ b o, X.base.get? b = some o → b ∉ X.ex
  exfs : ∀ b ∈ X.ex, b ∉ X.fs
  funs : X.s_0.heap.FunFrames X.base X.outer
  frf : ∀ b ∈ X.fs, X.H_0 b = none
structure Inv (X : Cx) (pins : List (Addr × Obj)) (σ : List (Option V)) (H : Hp) (s : Shared) : Prop where
  ok : X.Ok
  os : s.os = X.s_0.os
  bare : AllBare s.gens
  base : Un X.fs X.ex X.H_0 H X.s_0.heap s.heap
  loc : ∃ m, s.heap.Ns X.env.locals m ∧ ∀ (i : Nat) (x : Str) (v : V), X.N[i]? = some x → σ[i]? = some (some v) → Vis X.env.scope x → ∃ u, RelV v u ∧ Look X.env s.heap m x u
  cell : ∀ x c, X.env.cells.lookup x = some c → ∃ v, s.heap.IsCell c v
  free : H X.env.locals = none
  freeC : ∀ x c, X.env.cells.lookup x = some c → H c = none
  pin : ∀ p ∈ X.pn ++ pins, s.heap.get? p.1 = some p.2 ∧ H p.1 = none ∧ p.1 ≠ X.env.locals ∧ p.1 ∉ X.fs ∧ ∀ v, p.2.data ≠ .cell v
  hok : HOk X.prog X.w H s.heap
  len : σ.length = X.N.length
section
variable {X : Cx} {pins : List (Addr × Obj)} {σ : List (Option V)} {H H' : Hp} {s : Shared} {h' : Heap}
theorem Cx.Ok.nofr (ok : X.Ok) {b : Addr} {o : Obj} (e : X.base.get? b = some o) : b ∉ X.fs := fun hb => by
  have := (ok.funs.mem hb).1
  rw [e] at this; cases this
theorem Inv.bs (I : Inv X pins σ H s) : ∀ b o, X.base.get? b = some o → s.heap.get? b = some o ∧ H b = none := fun b o e =>
  ⟨I.base.keep b o (I.ok.bs b o e).1 (I.ok.bs b o e).2 (I.ok.nofr e) (I.ok.noex b o e), I.base.free b o (I.ok.bs b o e).1 (I.ok.bs b o e).2 (I.ok.noex b o e)⟩
theorem Inv.bk (I : Inv X pins σ H s) : ∀ b o, X.base.get? b = some o → s.heap.get? b = some o := fun b o e => (I.bs b o e).1
theorem Inv.mod (I : Inv X pins σ H s) : Mod X.K X.mg X.base := I.ok.mod
theorem Inv.kIn (I : Inv X pins σ H s) : X.K.In s.heap := I.ok.mod.kin.keeps I.bk
theorem Inv.nolimit (I : Inv X pins σ H s) : s.heap.NoLimit := I.ok.mod.nolimit.keeps I.bk
theorem Inv.fr (I : Inv X pins σ H s) : ∃ m, Fr X.base X.env.locals s.heap m :=
  let ⟨m, hn, _⟩ := I.loc
  ⟨m, hn, I.bk, Nat.le_trans I.ok.bsz I.ok.above⟩
theorem Inv.lt (I : Inv X pins σ H s) : X.env.locals < s.heap.objs.size := let ⟨_, hn, _⟩ := I.loc; hn.lt
theorem Inv.sz (I : Inv X pins σ H s) : X.s_0.heap.objs.size ≤ s.heap.objs.size := Nat.le_trans I.ok.above (Nat.le_of_lt I.lt)
theorem Inv.nofs (I : Inv X pins σ H s) {a : Addr} (h : s.heap.objs.size ≤ a) : a ∉ X.fs := fun hb => by
  obtain ⟨_, o, ho, _⟩ := I.ok.funs.mem hb
  exact absurd (Nat.lt_of_lt_of_le (Heap.lt_size ho) (Nat.le_trans I.sz h)) (Nat.lt_irrefl _)
theorem Inv.cne (I : Inv X pins σ H s) : ∀ x c, X.env.cells.lookup x = some c → c ≠ X.env.locals := fun x c e z => by
  obtain ⟨v, o, ho, hd⟩ := I.cell x c e
  obtain ⟨m, ⟨o', es, ep, ho', hd', _⟩, _⟩ := I.loc
  rw [z, ho'] at ho; cases ho; rw [hd'] at hd; cases hd
theorem Inv.funs (I : Inv X pins σ H s) : s.heap.FunFrames X.base X.outer := by
  have all : ∀ (l : List Env), (∀ b ∈ frs l, b ∈ X.fs) → X.s_0.heap.FunFrames X.base l → s.heap.FunFrames X.base l := by
    intro l
    induction l with
    | nil => intro _ _; trivial
    | cons env r ih =>
      intro hs hl
      obtain ⟨hk, ⟨L, o, hf, hn, ho, hd⟩, hr⟩ := hl
      have hL : L ∈ X.fs := hs L (by unfold frs; rw [List.filterMap_cons, hf]; exact List.mem_cons_self)
      obtain ⟨sl, e⟩ := I.base.slot L o ho (I.ok.frf L hL) hL fun z => I.ok.exfs L z hL
      exact ⟨hk, ⟨L, _, hf, hn, e, hd⟩, ih (fun b hb => hs b (by unfold frs; rw [List.filterMap_cons, hf]; exact List.mem_cons_of_mem _ hb)) hr⟩
  exact all X.outer (fun _ hb => hb) I.ok.funs
theorem Inv.stack (I : Inv X pins σ H s) : s.heap.FunFrames X.base X.stack := by
  rcases I.ok.stk with e | ⟨e, hf⟩
  · rw [e]; exact I.funs
  · rw [e]
    obtain ⟨m, hn, _⟩ := I.loc
    refine .cons (by rw [I.ok.kind]; decide) hf hn ?_ I.funs
    exact Heap.get?_none_of_le (Nat.le_trans I.ok.bsz I.ok.above)
theorem Inv.stkSub (I : Inv X pins σ H s) : ∀ b ∈ frs X.stack, b ∈ X.env.locals :: X.fs := fun b hb => by
  rcases I.ok.stk with e | ⟨e, hf⟩
  · rw [e] at hb; exact List.mem_cons_of_mem _ hb
  · rw [e] at hb
    unfold frs at hb
    rw [List.filterMap_cons, hf] at hb
    exact hb
theorem Inv.stkFree (I : Inv X pins σ H s) : ∀ b ∈ frs X.stack, H b = none := fun b hb => by
  rcases List.mem_cons.mp (I.stkSub b hb) with e | hb
  · rw [e]; exact I.free
  · obtain ⟨_, o, ho, _⟩ := I.ok.funs.mem hb
    exact I.base.free b o ho (I.ok.frf b hb) fun z => I.ok.exfs b z hb
theorem Inv.step {g' : Array GenState} {t' : Nat} {d' : Drawn} {ch : List Addr} (I : Inv X pins σ H s)
    (hch : ∀ b ∈ ch, (b ∈ X.ex ∨ X.s_0.heap.objs.size ≤ b) ∧ b ≠ X.env.locals ∧ (∀ x c, X.env.cells.lookup x = some c → c ≠ b) ∧ ∀ p ∈ X.pn ++ pins, p.1 ≠ b)
    (keep : ∀ b o, b ≠ X.env.locals → b ∉ X.fs → b ∉ ch → s.heap.get? b = some o → H b = none → h'.get? b = some o)
    (slot : ∀ b o, b ≠ X.env.locals → b ∈ X.fs → b ∉ ch → s.heap.get? b = some o → H b = none → ∃ sl, h'.get? b = some { o with slots := sl }) (free : ∀ b o, b ∉ ch → s.heap.get? b = some o → H b = none → H' b = none)
    (there : ∀ b o, b ∉ ch → s.heap.get? b = some o → ∃ o', h'.get? b = some o')
    (tups : ∀ b xs, H b = some (.tup xs) → H' b = some (.tup xs)) (frzs : ∀ b o u, H b = some (.frz o u) → H' b = some (.frz o u)) (tbls : ∀ b ps, H b = some (.tbl ps) → ∃ more, H' b = some (.tbl (ps ++ more)))
    (ns : ∀ m, s.heap.Ns X.env.locals m → h'.Ns X.env.locals m) (hok : HOk X.prog X.w H' h') (hg : AllBare g') :
    Inv X pins σ H' { s with heap := h', gens := g', drawn := d', toks := t' } := by
  have neL : ∀ b o, X.s_0.heap.get? b = some o → b ≠ X.env.locals := fun b o e => Nat.ne_of_lt (Nat.lt_of_lt_of_le (Heap.lt_size e) I.ok.above)
  have neC : ∀ b o, X.s_0.heap.get? b = some o → b ∉ X.ex → b ∉ ch := fun b o e hx hb => by
    rcases (hch b hb).1 with z | z
    · exact hx z
    · exact absurd (Nat.lt_of_lt_of_le (Heap.lt_size e) z) (Nat.lt_irrefl _)
  have cellK : ∀ x c, X.env.cells.lookup x = some c → ∀ v, s.heap.IsCell c v → h'.IsCell c v := fun x c e v ⟨o, ho, hd⟩ => by
    have nch : c ∉ ch := fun z => (hch c z).2.2.1 x c e rfl
    by_cases hc : c ∈ X.fs
    · obtain ⟨sl, q⟩ := slot c o (I.cne x c e) hc nch ho (I.freeC x c e)
      exact ⟨_, q, hd⟩
    · exact ⟨o, keep c o (I.cne x c e) hc nch ho (I.freeC x c e), hd⟩
  refine ⟨I.ok, I.os, hg, ⟨fun b o e n hb hx => ?_, fun b o e n hb hx => ?_, fun b o e n hx => ?_, fun b o e hx => ?_, fun b xs e => tups b xs (I.base.tups b xs e), fun b o xs e => frzs b o xs (I.base.frzs b o xs e), fun b ps e => ?_⟩, ?_, fun x c e => ?_, ?_, fun x c e => ?_, fun p hp => ?_, hok, I.len⟩
  · exact keep b o (neL b o e) hb (neC b o e hx) (I.base.keep b o e n hb hx) (I.base.free b o e n hx)
  · obtain ⟨sl, e1⟩ := I.base.slot b o e n hb hx
    obtain ⟨sl', e2⟩ := slot b _ (neL b o e) hb (neC b o e hx) e1 (I.base.free b o e n hx)
    exact ⟨sl', e2⟩
  · obtain ⟨o', e1⟩ := I.base.there b o e hx
    exact free b o' (neC b o e hx) e1 (I.base.free b o e n hx)
  · obtain ⟨o', e1⟩ := I.base.there b o e hx
    exact there b o' (neC b o e hx) e1
  · obtain ⟨m1, e1⟩ := I.base.tbls b ps e
    obtain ⟨m2, e2⟩ := tbls b _ e1
    exact ⟨m1 ++ m2, by rw [e2, Array.append_assoc]⟩
  · obtain ⟨m, hn, hl⟩ := I.loc
    refine ⟨m, ns m hn, fun i x v e1 e2 e3 => ?_⟩
    obtain ⟨u, r, l⟩ := hl i x v e1 e2 e3
    refine ⟨u, r, ?_⟩
    rcases l with l | ⟨k, c, e, z⟩
    · exact .inl l
    · exact .inr ⟨k, c, e, cellK x c e _ z⟩
  · obtain ⟨v, z⟩ := I.cell x c e
    exact ⟨v, cellK x c e v z⟩
  · obtain ⟨m, ⟨o, _, _, ho, _⟩, _⟩ := I.loc
    exact free _ o (fun z => (hch _ z).2.1 rfl) ho I.free
  · obtain ⟨v, o, ho, hd⟩ := I.cell x c e
    exact free c o (fun z => (hch c z).2.2.1 x c e rfl) ho (I.freeC x c e)
  · obtain ⟨e, n, ne, nf, d⟩ := I.pin p hp
    have nch : p.1 ∉ ch := fun z => (hch p.1 z).2.2.2 p hp rfl
    exact ⟨keep p.1 p.2 ne nf nch e n, free p.1 p.2 nch e n, ne, nf, d⟩
theorem Inv.un {t' : Nat} (I : Inv X pins σ H s) (u : Un X.fs [] H H' s.heap h') (hok : HOk X.prog X.w H' h') : Inv X pins σ H' { s with heap := h', toks := t' } := by
  obtain ⟨m, ⟨o, es, ep, ho, r⟩, _⟩ := id I.loc
  obtain ⟨sl, hL⟩ := u.any ho I.free (by simp)
  exact I.step (g' := s.gens) (d' := s.drawn) (ch := []) (fun _ z => nomatch z) (fun b o _ hb _ e n => u.keep b o e n hb (by simp)) (fun b o _ hb _ e n => u.slot b o e n hb (by simp)) (fun b o _ e n => u.free b o e n (by simp)) (fun b o _ e => u.there b o e (by simp)) u.tups u.frzs u.tbls (fun m' hm => by
    obtain ⟨o', es', ep', ho', r'⟩ := hm
    rw [ho] at ho'; cases ho'
    exact ⟨_, es', ep', hL, r'⟩) hok I.bare
theorem Inv.call {g' : Array GenState} {t' : Nat} {d' : Drawn} {ch : List Addr} (I : Inv X pins σ H s) (u : Un (frs X.stack) ch H H' s.heap h') (hok : HOk X.prog X.w H' h') (hg : AllBare g')
    (hch : ∀ b ∈ ch, (b ∈ X.ex ∨ X.s_0.heap.objs.size ≤ b) ∧ b ≠ X.env.locals ∧ (∀ x c, X.env.cells.lookup x = some c → c ≠ b) ∧ ∀ p ∈ X.pn ++ pins, p.1 ≠ b) :
    Inv X pins σ H' { s with heap := h', gens := g', drawn := d', toks := t' } := by
  obtain ⟨m, ⟨o, es, ep, ho, r⟩, _⟩ := id I.loc
  obtain ⟨sl, hL⟩ := u.any ho I.free fun z => (hch _ z).2.1 rfl
  exact I.step (ch := ch) hch (fun b o hL hb hc e n => u.keep b o e n (fun z => (List.mem_cons.mp (I.stkSub b z)).elim hL hb) hc) (fun b o _ _ hc e n => u.any e n hc) (fun b o hc e n => u.free b o e n hc) (fun b o hc e => u.there b o e hc) u.tups u.frzs u.tbls (fun m' hm => by
    obtain ⟨o', es', ep', ho', r'⟩ := hm
    rw [ho] at ho'; cases ho'
    exact ⟨_, es', ep', hL, r'⟩) hok hg
theorem Inv.turned {t' : Nat} {it : Addr} (I : Inv X pins σ H s) (k : ∀ b o, b ≠ it → s.heap.get? b = some o → h'.get? b = some o) (hn : H it = none) (hL : it ≠ X.env.locals)
    (h1 : it ∈ X.ex ∨ X.s_0.heap.objs.size ≤ it) (h2 : ∀ x c, X.env.cells.lookup x = some c → c ≠ it) (h3 : ∀ p ∈ X.pn ++ pins, p.1 ≠ it) : Inv X pins σ H { s with heap := h', toks := t' } := by
  have nit : ∀ b u, H b = some u → b ≠ it := fun b u e z => by rw [z, hn] at e; cases e
  refine I.step (g' := s.gens) (d' := s.drawn) (ch := [it]) (fun b hb => ?_) (fun b o _ _ hc e _ => k b o (fun z => hc (by simp [z])) e) (fun b o _ _ hc e _ => ⟨o.slots, k b o (fun z => hc (by simp [z])) e⟩) (fun _ _ _ _ n => n)
    (fun b o hc e => ⟨o, k b o (fun z => hc (by simp [z])) e⟩) (fun _ _ e => e) (fun _ _ _ e => e) (fun b ps e => ⟨#[], by rw [e]; simp⟩) (fun m hm => ?_) (fun b u e => ?_) I.bare
  · have e : b = it := by simpa using hb
    subst e
    exact ⟨h1, hL, h2, h3⟩
  · obtain ⟨o, es, ep, ho, r⟩ := hm
    exact ⟨o, es, ep, k _ o (Ne.symm hL) ho, r⟩
  · refine (I.hok b u e).stay (fun c v hc q => k c v ?_ q) (fun _ q => q) fun _ _ q => q
    rcases hc with z | z
    · rw [z]; exact nit b u e
    · exact nit c _ z
theorem Inv.tok (I : Inv X pins σ H s) (t : Nat) : Inv X pins σ H { s with toks := t } := I.un (h' := s.heap) (t' := t) Un.refl I.hok
theorem Inv.kept {t' : Nat} (I : Inv X pins σ H s) (k : ∀ b u, s.heap.get? b = some u → h'.get? b = some u) : Inv X pins σ H { s with heap := h', toks := t' } := I.un (Un.kept k) (I.hok.kept k)
theorem Inv.laid {a : Addr} {o : HO} {t' : Nat} (I : Inv X pins σ H s) (k : ∀ b u, s.heap.get? b = some u → h'.get? b = some u) (hp : s.heap.objs.size ≤ a) (new : ObjOk X.prog X.w (upd H a o) h' a o) :
    Inv X pins σ (upd H a o) { s with heap := h', toks := t' } := I.un (Un.laid k hp (I.hok.fresh hp)) (I.hok.laid k hp new)
theorem Inv.write {x e : Addr} {o : HO} {t' : Nat} (I : Inv X pins σ H s) (mu : Mut (H x)) (he : e = x ∨ H e = some (.own x)) (k : ∀ b u, b ≠ e → s.heap.get? b = some u → h'.get? b = some u) (heo : ∃ u, h'.get? e = some u)
    (new : ObjOk X.prog X.w (upd H x o) h' x o) : Inv X pins σ (upd H x o) { s with heap := h', toks := t' } := I.un (Un.write mu he k heo) (I.hok.write mu he k heo new)
theorem Inv.weak {σ' : List (Option V)} (I : Inv X pins σ H s) (hl : σ'.length = σ.length) (w : ∀ (i : Nat) v, σ'[i]? = some (some v) → σ[i]? = some (some v)) : Inv X pins σ' H s :=
  ⟨I.ok, I.os, I.bare, I.base, let ⟨m, hn, hl'⟩ := I.loc; ⟨m, hn, fun i x v e1 e2 e3 => hl' i x v e1 (w i v e2) e3⟩, I.cell, I.free, I.freeC, I.pin, I.hok, hl.trans I.len⟩
theorem Inv.pins_of {pins' : List (Addr × Obj)} (I : Inv X pins σ H s) (h : ∀ p ∈ pins', s.heap.get? p.1 = some p.2 ∧ H p.1 = none ∧ p.1 ≠ X.env.locals ∧ p.1 ∉ X.fs ∧ ∀ v, p.2.data ≠ .cell v) : Inv X pins' σ H s :=
  ⟨I.ok, I.os, I.bare, I.base, I.loc, I.cell, I.free, I.freeC, fun p hp => (List.mem_append.mp hp).elim (fun z => I.pin p (List.mem_append_left _ z)) (h p), I.hok, I.len⟩
theorem nodup_ix {N : List Str} (hN : N.Nodup) {i j : Nat} {x : Str} (a : N[i]? = some x) (b : N[j]? = some x) : i = j := by
  obtain ⟨h1, e1⟩ := List.getElem?_eq_some_iff.mp a
  obtain ⟨h2, e2⟩ := List.getElem?_eq_some_iff.mp b
  exact (List.getElem_inj hN).mp (e1.trans e2.symm)
theorem store_ok2 {M : Model} {A : Around} {E : Value → Shared → Prop} {i : Nat} {x : Str} {v : V} {u : Value} {Q : Unit → Shared → Prop} (I : Inv X pins σ H s) (hN : X.N.Nodup) (hi : X.N[i]? = some x) (hx : Loc X.env.scope x) (r : RelV v u)
    (h : ∀ s', Inv X pins (σ.set i (some v)) H s' → (∃ a, Heap.SameBut a s.heap s'.heap ∧ (a = X.env.locals ∨ X.env.cells.lookup x = some a)) → Q () s') (hf : X.fn x = true ∨ X.env.scope.names.lookup x = some .local := by first | exact .inl rfl | exact .inr rfl | assumption) : wpAny M A (storeName X.env x u) Q E s := by
  obtain ⟨m, hn, hl⟩ := id I.loc
  have hcls : (X.env.scope.kind == .class || (X.env.scope.kind == .module && X.env.locals != X.env.globals)) = false := by rw [I.ok.kind]; rfl
  have hiσ : i < σ.length := by rw [I.len]; exact (List.getElem?_eq_some_iff.mp hi).1
  have cne := I.cne
  have tracked : ∀ {a : Addr} {h' : Heap}, (∃ o, s.heap.get? a = some o ∧ H a = none) → Heap.SameBut a s.heap h' → HOk X.prog X.w H h' := fun {a h'} ha hs b ob e => by
    obtain ⟨_, _, hfree⟩ := ha
    refine (I.hok b ob e).stay (fun c w' hc q => (hs.2 c ?_).trans q) (fun _ q => q) fun _ _ q => q
    rintro rfl
    rcases hc with rfl | hc
    · rw [hfree] at e; cases e
    · rw [hfree] at hc; cases hc
  rcases hx with hk | hk
  · refine wpAny_storeName_local hk hn (fun h' hn' hs => ?_) hcls
    obtain ⟨oL, _, _, hoL, _⟩ := id hn
    refine h _ ⟨I.ok, I.os, I.bare, ⟨fun b o e n hb hx => ?_, fun b o e n hb hx => ?_, I.base.free, fun b o e hx => ?_, I.base.tups, I.base.frzs, I.base.tbls⟩, ⟨_, hn', fun j y v' e1 e2 e3 => ?_⟩, fun y c e => ?_, I.free, I.freeC, fun p hp => ?_, tracked ⟨oL, hoL, I.free⟩ hs, by simpa using I.len⟩ ⟨_, hs, .inl rfl⟩
    · exact (hs.2 b (Nat.ne_of_lt (Nat.lt_of_lt_of_le (Heap.lt_size e) I.ok.above))).trans (I.base.keep b o e n hb hx)
    · obtain ⟨sl, e1⟩ := I.base.slot b o e n hb hx
      exact ⟨sl, (hs.2 b (Nat.ne_of_lt (Nat.lt_of_lt_of_le (Heap.lt_size e) I.ok.above))).trans e1⟩
    · obtain ⟨o', e1⟩ := I.base.there b o e hx
      exact ⟨o', (hs.2 b (Nat.ne_of_lt (Nat.lt_of_lt_of_le (Heap.lt_size e) I.ok.above))).trans e1⟩
    · by_cases hj : j = i
      · subst hj
        rw [hi] at e1; cases e1
        rw [List.getElem?_set_self hiσ] at e2
        cases e2
        exact ⟨u, r, .inl ⟨hk, by simp⟩⟩
      · rw [List.getElem?_set_ne (Ne.symm hj)] at e2
        obtain ⟨u', r', q⟩ := hl j y v' e1 e2 e3
        refine ⟨u', r', ?_⟩
        rcases q with ⟨k, e⟩ | ⟨k, c, e, z⟩
        · refine .inl ⟨k, ?_⟩
          have : y ≠ x := fun e => hj (nodup_ix hN e1 (e ▸ hi))
          simp [this, e]
        · exact .inr ⟨k, c, e, z.sameBut hs (cne y c e)⟩
    · obtain ⟨w', z⟩ := I.cell y c e
      exact ⟨w', z.sameBut hs (cne y c e)⟩
    · obtain ⟨e, n, ne, nf, d⟩ := I.pin p hp
      exact ⟨(hs.2 p.1 ne).trans e, n, ne, nf, d⟩
  · have hfn : X.fn x = true := by
      rcases hf with z | z
      · exact z
      · rw [z] at hk; cases hk
    obtain ⟨c, hc⟩ := I.ok.has x (.inl hk)
    obtain ⟨w', z⟩ := I.cell x c hc
    refine wpAny_storeName_cell I.ok.kind hk hc z (fun h' hc' hs => ?_)
    obtain ⟨oc, hoc, hocd⟩ := id z
    refine h { s with heap := h' } ⟨I.ok, I.os, I.bare, ⟨fun b o e n hb hx => ?_, fun b o e n hb hx => ?_, I.base.free, fun b o e hx => ?_, I.base.tups, I.base.frzs, I.base.tbls⟩, ⟨m, hn.sameBut hs (Ne.symm (cne x c hc)), fun j y v' e1 e2 e3 => ?_⟩, fun y c' e => ?_, I.free, I.freeC, fun p hp => ?_, tracked ⟨oc, hoc, I.freeC x c hc⟩ hs, by simpa using I.len⟩ ⟨c, hs, .inr hc⟩
    · exact (hs.2 b (Nat.ne_of_lt (Nat.lt_of_lt_of_le (Heap.lt_size e) (I.ok.cab x c hfn hc)))).trans (I.base.keep b o e n hb hx)
    · obtain ⟨sl, e1⟩ := I.base.slot b o e n hb hx
      exact ⟨sl, (hs.2 b (Nat.ne_of_lt (Nat.lt_of_lt_of_le (Heap.lt_size e) (I.ok.cab x c hfn hc)))).trans e1⟩
    · obtain ⟨o', e1⟩ := I.base.there b o e hx
      exact ⟨o', (hs.2 b (Nat.ne_of_lt (Nat.lt_of_lt_of_le (Heap.lt_size e) (I.ok.cab x c hfn hc)))).trans e1⟩
    · by_cases hj : j = i
      · subst hj
        rw [hi] at e1; cases e1
        rw [List.getElem?_set_self hiσ] at e2
        cases e2
        exact ⟨u, r, .inr ⟨.inl hk, c, hc, hc'⟩⟩
      · rw [List.getElem?_set_ne (Ne.symm hj)] at e2
        obtain ⟨u', r', q⟩ := hl j y v' e1 e2 e3
        refine ⟨u', r', ?_⟩
        rcases q with q | ⟨k, c', e, z'⟩
        · exact .inl q
        · refine .inr ⟨k, c', e, z'.sameBut hs ?_⟩
          rintro rfl
          exact hj (nodup_ix hN e1 (I.ok.inj _ _ _ e hc ▸ hi))
    · by_cases hcc : c' = c
      · subst hcc; exact ⟨_, hc'⟩
      · obtain ⟨w2, z2⟩ := I.cell y c' e
        exact ⟨w2, z2.sameBut hs hcc⟩
    · obtain ⟨e, n, ne, nf, d⟩ := I.pin p hp
      refine ⟨(hs.2 p.1 ?_).trans e, n, ne, nf, d⟩
      intro q
      rw [q, hoc] at e
      have q' : oc = p.2 := Option.some.inj e
      exact d w' (by rw [← q']; exact hocd)
theorem store_ok {M : Model} {A : Around} {E : Value → Shared → Prop} {i : Nat} {x : Str} {v : V} {u : Value} {Q : Unit → Shared → Prop} (I : Inv X pins σ H s) (hN : X.N.Nodup) (hi : X.N[i]? = some x) (hx : Loc X.env.scope x) (r : RelV v u)
    (h : ∀ s', Inv X pins (σ.set i (some v)) H s' → Q () s') (hf : X.fn x = true ∨ X.env.scope.names.lookup x = some .local := by first | exact .inl rfl | exact .inr rfl | assumption) : wpAny M A (storeName X.env x u) Q E s :=
  store_ok2 I hN hi hx r (fun s' I' _ => h s' I') hf
theorem Inv.call' {s' : Shared} {ch : List Addr} (I : Inv X pins σ H s) (ho : s'.os = s.os) (u : Un (frs X.stack) ch H H' s.heap s'.heap) (hok : HOk X.prog X.w H' s'.heap) (hg : AllBare s'.gens)
    (hch : ∀ b ∈ ch, (b ∈ X.ex ∨ X.s_0.heap.objs.size ≤ b) ∧ b ≠ X.env.locals ∧ (∀ x c, X.env.cells.lookup x = some c → c ≠ b) ∧ ∀ p ∈ X.pn ++ pins, p.1 ≠ b) : Inv X pins σ H' s' := by
  obtain ⟨h', g', d', t', o'⟩ := s'
  have e : o' = s.os := ho
  subst e
  exact I.call (g' := g') (t' := t') (d' := d') u hok hg hch
end
abbrev XK := Value → Option Addr → Hp → Prop
abbrev St := List (Option V)
abbrev VK := V → Hp → Prop
abbrev TE := St → Hp → VK → Prop
abbrev TT := St → Hp → (Bool → Hp → Prop) → Prop
abbrev TA := St → Hp → (List V → Hp → Prop) → Prop
structure Ends where
  nx : St → Hp → Prop
  rt : VK
  bk : St → Hp → Prop := fun _ _ => False
  ct : St → Hp → Prop := fun _ _ => False
abbrev TS := Ends → St → Hp → Prop
def EP (X : Cx) (pins : List (Addr × Obj)) (σ : St) (Q : VK) (u : Value) (s' : Shared) : Prop := ∃ v H', Inv X pins σ H' s' ∧ RelV v u ∧ Q v H'
def TP (X : Cx) (pins : List (Addr × Obj)) (σ : St) (Q : Bool → Hp → Prop) (b : Bool) (s' : Shared) : Prop := ∃ H', Inv X pins σ H' s' ∧ Q b H'
def AP (X : Cx) (pins : List (Addr × Obj)) (σ : St) (Q : List V → Hp → Prop) (us : List Value) (s' : Shared) : Prop := ∃ vs H', Inv X pins σ H' s' ∧ Vals vs us ∧ Q vs H'
def SP (X : Cx) (pins : List (Addr × Obj)) (D : Ends) (f : Flow) (s' : Shared) : Prop :=
  match f with
  | .next => ∃ σ' H', Inv X pins σ' H' s' ∧ D.nx σ' H'
  | .brk => ∃ σ' H', Inv X pins σ' H' s' ∧ D.bk σ' H'
  | .cont => ∃ σ' H', Inv X pins σ' H' s' ∧ D.ct σ' H'
  | .ret u => ∃ v σ' H', Inv X pins σ' H' s' ∧ RelV v u ∧ D.rt v H'
def PE (X : Cx) (e : Expr) (t : TE) : Prop :=
  ∀ (pins : List (Addr × Obj)) (s : Shared) (σ : St) (H : Hp) (Q : VK), Inv X pins σ H s → t σ H Q → wpAny (model X.prog X.w) X.A (eval e X.env) (EP X pins σ Q) X.xe s
def PT (X : Cx) (e : Expr) (t : TT) : Prop :=
  ∀ (pins : List (Addr × Obj)) (s : Shared) (σ : St) (H : Hp) (Q : Bool → Hp → Prop), Inv X pins σ H s → t σ H Q → wpAny (model X.prog X.w) X.A (isTrue e X.env (eval e X.env)) (TP X pins σ Q) X.xe s
def PW (X : Cx) (e : Expr) (t : TT) : Prop :=
  ∀ (whole : Sem Value) (pins : List (Addr × Obj)) (s : Shared) (σ : St) (H : Hp) (Q : Bool → Hp → Prop), Inv X pins σ H s → t σ H Q → wpAny (model X.prog X.w) X.A (isTrue e X.env whole) (TP X pins σ Q) X.xe s
theorem PW.pt {X : Cx} {e : Expr} {t : TT} (h : PW X e t) : PT X e t := h _
def PA (X : Cx) (es : List Expr) (t : TA) : Prop :=
  ∀ (pos : Pos) (pins : List (Addr × Obj)) (s : Shared) (σ : St) (H : Hp) (Q : List V → Hp → Prop), Inv X pins σ H s → t σ H Q → wpAny (model X.prog X.w) X.A (spliced (backTo pos (starEach es X.env))) (AP X pins σ Q) X.xe s
def PS (X : Cx) (st : Stmt) (t : TS) : Prop :=
  ∀ (pins : List (Addr × Obj)) (s : Shared) (σ : St) (H : Hp) (D : Ends), Inv X pins σ H s → t D σ H → wpAny (model X.prog X.w) X.A (exec st X.env) (SP X pins D) X.xe s
def PSs (X : Cx) (st : List Stmt) (t : TS) : Prop :=
  ∀ (pins : List (Addr × Obj)) (s : Shared) (σ : St) (H : Hp) (D : Ends), Inv X pins σ H s → t D σ H → wpAny (model X.prog X.w) X.A (execs st X.env) (SP X pins D) X.xe s
theorem thn {α : Type} {t : Sem α} {Q Q' : α → Shared → Prop} {M : Model} {A : Around} {E : Value → Shared → Prop} {s : Shared} (h : wpAny M A t Q E s) (hQ : ∀ a s, Q a s → Q' a s) : wpAny M A t Q' E s := wpAny_mono h hQ fun _ _ x => x
end L2
namespace L2
open PySem PySem.Spec PyProof.Rows
section
variable {X : Cx}
theorem bin {a b : Expr} {ta tb : TE} (ha : PE X a ta) (hb : PE X b tb) {pins : List (Addr × Obj)} {s : Shared} {σ : St} {H : Hp} {R : V → V → Hp → Prop} (I : Inv X pins σ H s) (h : ta σ H fun x H1 => tb σ H1 fun y H2 => R x y H2)
    {α : Type} {Q : α → Shared → Prop} {f : Value → Value → Sem α}
    (hf : ∀ v u s2 x y H2, Inv X pins σ H2 s2 → RelV x v → RelV y u → R x y H2 → wpAny (model X.prog X.w) X.A (f v u) Q X.xe s2) :
    wpAny (model X.prog X.w) X.A (eval a X.env) (fun v s₁ => wpAny (model X.prog X.w) X.A (eval b X.env) (fun u s₂ => wpAny (model X.prog X.w) X.A (f v u) Q X.xe s₂) X.xe s₁) X.xe s := by
  refine thn (ha pins s σ H _ I h) fun v s1 ⟨x, H1, I1, r1, q1⟩ => ?_
  refine thn (hb pins s1 σ H1 _ I1 q1) fun u s2 ⟨y, H2, I2, r2, q2⟩ => ?_
  exact hf v u s2 x y H2 I2 r1 r2 q2
def tVar (i : Nat) : TE := fun σ H Q => ∃ v, σ[i]? = some (some v) ∧ Q v H
def tC (v : V) : TE := fun _ H Q => Q v H
theorem pe_var {i : Nat} {x : Str} {pos : Pos} (hN : X.N[i]? = some x) (hv : Vis X.env.scope x) (hd : (x == ("__debug__" : Str)) = false := by decide) (hcd : (x == ("__classdict__" : Str)) = false := by decide) : PE X (.Name x pos) (tVar i) := by
  intro pins s σ H Q I h
  obtain ⟨v, e, h⟩ := h
  obtain ⟨m, hn, hl⟩ := I.loc
  obtain ⟨u, r, l⟩ := hl i x v hN e hv
  have fin : EP X pins σ Q u s := ⟨v, H, I, r, h⟩
  rcases l with ⟨hk, hm⟩ | ⟨hk, c, hc, hcell⟩
  · exact wpAny_Name (wpAny_loadName_local I.ok.kind hk hn hm fin) hd
  · rcases hk with hk | hk
    · exact wpAny_Name (wpAny_loadName_cell I.ok.kind hk hc hcell fin) hd
    · exact wpAny_Name (wpAny_loadName_free I.ok.kind hk hc hcell fin hcd) hd
theorem pe_int {i j pos} : PE X (.Constant (.int i) j pos) (tC (.int i)) := fun _ _ _ H _ I h => wpAny_Constant_int ⟨.int i, H, I.tok _, ⟨_, rfl⟩, h⟩
theorem pe_bl {b j pos} : PE X (.Constant (.bool b) j pos) (tC (.bl b)) := fun _ _ _ H _ I h => Constant_bool ⟨.bl b, H, I, rfl, h⟩
theorem pe_non {j pos} : PE X (.Constant .none j pos) (tC .non) := fun _ _ _ H _ I h => Constant_none ⟨.non, H, I, rfl, h⟩
theorem pe_str {x j pos} : PE X (.Constant (.str x) j pos) (tC (.str x)) := fun _ _ _ H _ I h => Calls.Constant_str ⟨.str x, H, I.tok _, ⟨_, rfl⟩, h⟩
def Gl (X : Cx) (x : Str) : Prop := X.env.kindOf x = some .globalImplicit
theorem ld_glob {E : Value → Shared → Prop} {pins : List (Addr × Obj)} {s : Shared} {σ : St} {H : Hp} {x : Str} {u : Value} {pos : Pos} {Q : Value → Shared → Prop} (I : Inv X pins σ H s) (hg : Gl X x) (hm : X.mg x = some u) (h : Q u s)
    (hd : (x == ("__debug__" : Str)) = false := by decide) : wpAny (model X.prog X.w) X.A (eval (.Name x pos) X.env) Q E s :=
  Calls.Name_function_global I.ok.kind hg (Calls.loadGlobal_global (by rw [I.ok.glob]; exact I.mod.glob.keeps I.bk) hm h) hd
theorem ld_blt {E : Value → Shared → Prop} {pins : List (Addr × Obj)} {s : Shared} {σ : St} {H : Hp} {x : Str} {u : Value} {pos : Pos} {Q : Value → Shared → Prop} (I : Inv X pins σ H s) (hg : Gl X x) (hm : X.mg x = none) (hv : bootBuiltins x = some u) (h : Q u s)
    (hn : x ≠ "__name__" := by decide) (hd : (x == ("__debug__" : Str)) = false := by decide) : wpAny (model X.prog X.w) X.A (eval (.Name x pos) X.env) Q E s := by
  obtain ⟨mb, h1, h2⟩ := I.mod.blt
  exact Calls.Name_function_global I.ok.kind hg (Calls.loadGlobal_builtin (by rw [I.ok.glob]; exact I.mod.glob.keeps I.bk) hm (by rw [I.ok.blt]; exact h1.keeps I.bk) ((h2 x hn).trans hv) h) hd
theorem pe_glob {x : Str} {v : V} {u : Value} {pos : Pos} (hg : Gl X x) (hm : X.mg x = some u) (r : RelV v u) (hd : (x == ("__debug__" : Str)) = false := by decide) : PE X (.Name x pos) (tC v) :=
  fun _ _ _ H _ I h => ld_glob I hg hm ⟨v, H, I, r, h⟩ hd
theorem pe_bltn {x : Str} {v : V} {u : Value} {pos : Pos} (hg : Gl X x) (hm : X.mg x = none) (hv : bootBuiltins x = some u) (r : RelV v u) (hn : x ≠ "__name__" := by decide) (hd : (x == ("__debug__" : Str)) = false := by decide) : PE X (.Name x pos) (tC v) :=
  fun _ _ _ H _ I h => ld_blt I hg hm hv ⟨v, H, I, r, h⟩ hn hd
def t2I (ta tb : TE) (k : Int → Int → Hp → Prop) : St → Hp → Prop := fun σ H => ta σ H fun x H1 => tb σ H1 fun y H2 => ∃ i j, x = .int i ∧ y = .int j ∧ k i j H2
def tSub (ta tb : TE) : TE := fun σ H Q => t2I ta tb (fun i j H2 => Q (.int (i - j)) H2) σ H
variable {a b : Expr} {ta tb : TE} {pos : Pos}
theorem pe_sub (ha : PE X a ta) (hb : PE X b tb) : PE X (.BinOp a .Sub b pos) (tSub ta tb) := by
  intro pins s σ H Q I h
  refine wpAny_BinOp (bin ha hb I h fun v u s2 x y H2 I2 rx ry q => ?_)
  obtain ⟨i, j, rfl, rfl, q⟩ := q
  obtain ⟨t, rfl⟩ := rx
  obtain ⟨t', rfl⟩ := ry
  exact sub_int ⟨.int _, H2, I2.tok _, ⟨_, rfl⟩, q⟩
def tB (t : TE) : TT := fun σ H Q => t σ H fun x H1 => ∃ c, x = .bl c ∧ Q c H1
theorem pt_val {e : Expr} {t : TE} (h : PE X e t) (he : ∀ whole, isTrue e X.env whole = (do let v ← whole; standAt e.pos; holding [v] (truthy v)) := by intro _; rfl) : PT X e (tB t) := by
  intro pins s σ H Q I hw
  refine isTrue_plain (thn (h pins s σ H _ I hw) fun v s1 ⟨x, H1, I1, r1, q1⟩ => ?_) (he _)
  obtain ⟨d, rfl, q⟩ := q1
  cases r1
  exact wpAny_truthy_bool ⟨H1, I1, q⟩
variable {tA tB' : TT} {rest : List Expr}
def tAnd (t u : TT) : TT := fun σ H Q => t σ H fun c H1 => if c = true then u σ H1 Q else Q false H1
def tOr (t u : TT) : TT := fun σ H Q => t σ H fun c H1 => if c = true then Q true H1 else u σ H1 Q
def tNot (t : TT) : TT := fun σ H Q => t σ H fun c H1 => Q (!c) H1
theorem pw_and1 (ha : PT X a tA) : PW X (.BoolOp .And [a] pos) tA := by
  intro wh pins s σ H Q I h
  refine isTrue_and (thn (ha pins s σ H Q I h) fun c s1 e => ?_)
  cases c with
  | true => exact isTrue_and_nil e
  | false => exact e
theorem pw_or1 (ha : PT X a tA) : PW X (.BoolOp .Or [a] pos) tA := by
  intro wh pins s σ H Q I h
  refine isTrue_or (thn (ha pins s σ H Q I h) fun c s1 e => ?_)
  cases c with
  | false => exact isTrue_or_nil e
  | true => exact e
theorem pw_and (ha : PT X a tA) (hb : PW X (.BoolOp .And (b :: rest) pos) tB') : PW X (.BoolOp .And (a :: b :: rest) pos) (tAnd tA tB') := by
  intro wh pins s σ H Q I h
  refine isTrue_and (thn (ha pins s σ H _ I h) fun c s1 ⟨H1, I1, q1⟩ => ?_)
  cases c with
  | true => exact hb wh pins s1 σ H1 Q I1 q1
  | false => exact ⟨H1, I1, q1⟩
theorem pw_or (ha : PT X a tA) (hb : PW X (.BoolOp .Or (b :: rest) pos) tB') : PW X (.BoolOp .Or (a :: b :: rest) pos) (tOr tA tB') := by
  intro wh pins s σ H Q I h
  refine isTrue_or (thn (ha pins s σ H _ I h) fun c s1 ⟨H1, I1, q1⟩ => ?_)
  cases c with
  | true => exact ⟨H1, I1, q1⟩
  | false => exact hb wh pins s1 σ H1 Q I1 q1
theorem pt_not (ha : PT X a tA) : PT X (.UnaryOp .Not a pos) (tNot tA) := by
  intro pins s σ H Q I h
  exact isTrue_not (ha pins s σ H (fun c H1 => Q (!c) H1) I h)
def tAndV (ta tb : TE) : TE := fun σ H Q => ta σ H fun x H1 => ∃ c, x = .bl c ∧ if c = true then tb σ H1 Q else Q (.bl false) H1
def tOrV (ta tb : TE) : TE := fun σ H Q => ta σ H fun x H1 => ∃ c, x = .bl c ∧ if c = true then Q (.bl true) H1 else tb σ H1 Q
def tNotV (ta : TE) : TE := fun σ H Q => ta σ H fun x H1 => ∃ c, x = .bl c ∧ Q (.bl (!c)) H1
theorem pe_one {op} {t : TE} (h : PE X a t) : PE X (.BoolOp op [a] pos) t := fun pins s σ H Q I hw => BoolOp_one (h pins s σ H Q I hw)
theorem pe_and (ha : PE X a ta) (hb : PE X (.BoolOp .And (b :: rest) pos) tb) : PE X (.BoolOp .And (a :: b :: rest) pos) (tAndV ta tb) := by
  intro pins s σ H Q I h
  refine BoolOp_and (thn (ha pins s σ H _ I h) fun v s1 ⟨x, H1, I1, r1, q1⟩ => ?_)
  obtain ⟨c, rfl, q1⟩ := q1
  cases r1
  refine wpAny_truthy_bool ?_
  cases c with
  | true => exact hb pins s1 σ H1 Q I1 q1
  | false => exact ⟨.bl false, H1, I1, rfl, q1⟩
theorem pe_or (ha : PE X a ta) (hb : PE X (.BoolOp .Or (b :: rest) pos) tb) : PE X (.BoolOp .Or (a :: b :: rest) pos) (tOrV ta tb) := by
  intro pins s σ H Q I h
  refine BoolOp_or (thn (ha pins s σ H _ I h) fun v s1 ⟨x, H1, I1, r1, q1⟩ => ?_)
  obtain ⟨c, rfl, q1⟩ := q1
  cases r1
  refine wpAny_truthy_bool ?_
  cases c with
  | false => exact hb pins s1 σ H1 Q I1 q1
  | true => exact ⟨.bl true, H1, I1, rfl, q1⟩
theorem pe_not (ha : PE X a ta) : PE X (.UnaryOp .Not a pos) (tNotV ta) := by
  intro pins s σ H Q I h
  refine UnaryOp_ (thn (ha pins s σ H _ I h) fun v s1 ⟨x, H1, I1, r1, q1⟩ => ?_)
  obtain ⟨c, rfl, q1⟩ := q1
  cases r1
  exact not_of (wpAny_truthy_bool ⟨.bl (!c), H1, I1, rfl, q1⟩)
def tIf (t : TT) (ta tb : TE) : TE := fun σ H Q => t σ H fun c H1 => if c = true then ta σ H1 Q else tb σ H1 Q
theorem pe_ifExp {c : Expr} (hc : PT X c tA) (ha : PE X a ta) (hb : PE X b tb) : PE X (.IfExp c a b pos) (tIf tA ta tb) := by
  intro pins s σ H Q I h
  refine wpAny_IfExp (thn (hc pins s σ H _ I h) fun d s1 ⟨H1, I1, q1⟩ => ?_)
  cases d with
  | true => exact ha pins s1 σ H1 Q I1 q1
  | false => exact hb pins s1 σ H1 Q I1 q1
end
end L2
namespace L2
open PySem PySem.Spec PyProof.Rows
def SqL (K : PySem.W.Frag) (H : Hp) (a : Addr) (xs : List V) : Prop :=
  Rd H a (.lst xs) ∨
    ∃ (o : Obj) (its : Array Value) (n : Nat), K.lookup a = some o ∧ o.cls = .type "list" ∧ o.dict = none ∧ o.data = .seq its n ∧ its.size ≤ sizeLine ∧ Vals xs its.toList
def SqT (K : PySem.W.Frag) (H : Hp) (a : Addr) (xs : List V) : Prop :=
  Rd H a (.tup xs) ∨
    ∃ (o : Obj) (its : Array Value) (n : Nat), K.lookup a = some o ∧ (o.cls = .type "tuple" ∧ o.dict = none) ∧ o.data = .seq its n ∧ its.size ≤ sizeLine ∧ Vals xs its.toList
def absV : Value → Option V
  | .none => some .non
  | .bool b => some (.bl b)
  | .int i _ => some (.int i)
  | .str x _ => some (.str x)
  | .bytes b _ => some (.byt b)
  | .float b _ => some (.flt b)
  | .ref a => some (.ref a)
  | .type n => some (.ty n)
  | _ => none
theorem RelV.abs {x : V} {u : Value} (r : RelV x u) : absV u = some x := by
  cases x with
  | non => cases r; rfl
  | bl _ => cases r; rfl
  | int _ => obtain ⟨t, rfl⟩ := r; rfl
  | str _ => obtain ⟨t, rfl⟩ := r; rfl
  | byt _ => obtain ⟨t, rfl⟩ := r; rfl
  | flt _ => obtain ⟨t, rfl⟩ := r; rfl
  | ref _ => cases r; rfl
  | ty _ => cases r; rfl
theorem RelV.inj {x y : V} {u : Value} (r : RelV x u) (q : RelV y u) : x = y := Option.some.inj (r.abs.symm.trans q.abs)
theorem Vals.inj : ∀ {xs ys : List V} {us : List Value}, Vals xs us → Vals ys us → xs = ys
  | _, _, _, .nil, .nil => rfl
  | _, _, _, .cons r t, .cons r' t' => by rw [r.inj r', Vals.inj t t']
section
variable {X : Cx} {pins : List (Addr × Obj)} {σ : St} {H : Hp} {s : Shared} {a : Addr} {xs ys : List V}
theorem SqL.of {K : PySem.W.Frag} (h : H a = some (.lst xs)) : SqL K H a xs := .inl (.inl h)
theorem SqT.of {K : PySem.W.Frag} (h : H a = some (.tup xs)) : SqT K H a xs := .inl (.inl h)
theorem Inv.list (I : Inv X pins σ H s) (h : SqL X.K H a xs) : ∃ its : List Value, Vals xs its ∧ PlainL s.heap a its.toArray ∧ xs.length ≤ sizeLine := by
  rcases h with h | ⟨o, its, n, hk, hc, hd, hs, hz, r⟩
  · obtain ⟨z, its, n, r, e⟩ := h.ok I.hok
    exact ⟨its, r, ⟨_, n, e, rfl, rfl, rfl⟩, z⟩
  · refine ⟨its.toList, r, ⟨o, n, I.kIn a o hk, hc, hd, by simpa using hs⟩, ?_⟩
    have e := r.length
    simp only [Array.length_toList] at e
    omega
theorem Inv.tuple (I : Inv X pins σ H s) (h : SqT X.K H a xs) : ∃ its : List Value, Vals xs its ∧ IsTup s.heap a its.toArray ∧ xs.length ≤ sizeLine := by
  rcases h with h | ⟨o, its, n, hk, hc, hs, hz, r⟩
  · obtain ⟨z, its, r, p⟩ := h.ok I.hok
    exact ⟨its, r, p.old, z⟩
  · refine ⟨its.toList, r, ⟨o, I.kIn a o hk, hc.1, n, by simpa using hs⟩, ?_⟩
    have e := r.length
    simp only [Array.length_toList] at e
    omega
theorem Inv.tupleD (I : Inv X pins σ H s) (h : SqT X.K H a xs) : ∃ its : List Value, Vals xs its ∧ IsTupD s.heap a its.toArray ∧ xs.length ≤ sizeLine := by
  rcases h with h | ⟨o, its, n, hk, hc, hs, hz, r⟩
  · obtain ⟨z, its, r, p⟩ := h.ok I.hok
    exact ⟨its, r, p, z⟩
  · refine ⟨its.toList, r, ⟨o, I.kIn a o hk, hc, n, by simpa using hs⟩, ?_⟩
    have e := r.length
    simp only [Array.length_toList] at e
    omega
theorem Inv.list_inj (I : Inv X pins σ H s) (h : SqL X.K H a xs) (h' : SqL X.K H a ys) : xs = ys := by
  obtain ⟨its, r, ⟨o, n, e, _, _, d⟩, _⟩ := I.list h
  obtain ⟨its', r', ⟨o', n', e', _, _, d'⟩, _⟩ := I.list h'
  rw [e] at e'; cases e'
  rw [d] at d'
  injection d' with d1 _
  have : its = its' := by simpa using congrArg Array.toList d1
  subst this
  exact r.inj r'
theorem Inv.tuple_inj (I : Inv X pins σ H s) (h : SqT X.K H a xs) (h' : SqT X.K H a ys) : xs = ys := by
  obtain ⟨its, r, ⟨o, e, _, n, d⟩, _⟩ := I.tuple h
  obtain ⟨its', r', ⟨o', e', _, n', d'⟩, _⟩ := I.tuple h'
  rw [e] at e'; cases e'
  rw [d] at d'
  injection d' with d1 _
  have : its = its' := by simpa using congrArg Array.toList d1
  subst this
  exact r.inj r'
end
abbrev Cx.wish (X : Cx) (E : Value → Shared → Prop) : Cx := { X with xe := E }
abbrev Cx.nox (X : Cx) : Cx := X.wish fun _ _ => False
theorem Cx.Ok.wish {X : Cx} (ok : X.Ok) (E : Value → Shared → Prop) : (X.wish E).Ok :=
  ⟨ok.mod, ok.kind, ok.glob, ok.blt, ok.above, ok.inj, ok.has, ok.cab, ok.hd, ok.frames, ok.stk, ok.exf, ok.bs, ok.bsz, ok.noex, ok.exfs, ok.funs, ok.frf⟩
theorem Cx.Ok.unwish {X : Cx} {E : Value → Shared → Prop} (ok : (X.wish E).Ok) : X.Ok :=
  ⟨ok.mod, ok.kind, ok.glob, ok.blt, ok.above, ok.inj, ok.has, ok.cab, ok.hd, ok.frames, ok.stk, ok.exf, ok.bs, ok.bsz, ok.noex, ok.exfs, ok.funs, ok.frf⟩
section
variable {X : Cx} {pins : List (Addr × Obj)} {σ : St} {H : Hp} {s : Shared} {E : Value → Shared → Prop}
theorem Inv.wish (I : Inv X pins σ H s) (E : Value → Shared → Prop) : Inv (X.wish E) pins σ H s := ⟨I.ok.wish E, I.os, I.bare, I.base, I.loc, I.cell, I.free, I.freeC, I.pin, I.hok, I.len⟩
theorem Inv.unwish (I : Inv (X.wish E) pins σ H s) : Inv X pins σ H s := ⟨I.ok.unwish, I.os, I.bare, I.base, I.loc, I.cell, I.free, I.freeC, I.pin, I.hok, I.len⟩
theorem SP.unwish {D : Ends} {f : Flow} {s' : Shared} (h : SP (X.wish E) pins D f s') : SP X pins D f s' := by
  cases f with
  | next => obtain ⟨σ', H', I, q⟩ := h; exact ⟨σ', H', I.unwish, q⟩
  | brk => obtain ⟨σ', H', I, q⟩ := h; exact ⟨σ', H', I.unwish, q⟩
  | cont => obtain ⟨σ', H', I, q⟩ := h; exact ⟨σ', H', I.unwish, q⟩
  | ret u => obtain ⟨v, σ', H', I, r, q⟩ := h; exact ⟨v, σ', H', I.unwish, r, q⟩
theorem PE.nox {e : Expr} {t : TE} (h : PE X.nox e t) : PE X e t := fun pins s σ H Q I hw =>
  wpAny_mono (h pins s σ H Q (I.wish _) hw) (fun _ _ ⟨v, H', I', r, q⟩ => ⟨v, H', I'.unwish, r, q⟩) fun _ _ z => False.elim z
theorem PT.nox {e : Expr} {t : TT} (h : PT X.nox e t) : PT X e t := fun pins s σ H Q I hw =>
  wpAny_mono (h pins s σ H Q (I.wish _) hw) (fun _ _ ⟨H', I', q⟩ => ⟨H', I'.unwish, q⟩) fun _ _ z => False.elim z
theorem PSs.nox {st : List Stmt} {t : TS} (h : PSs X.nox st t) : PSs X st t := fun pins s σ H D I hw =>
  wpAny_mono (h pins s σ H D (I.wish _) hw) (fun _ _ q => q.unwish) fun _ _ z => False.elim z
end
section
variable {X : Cx} {st : Stmt} {rest : List Stmt} {t u : TS} {e : Expr} {te : TE} {pos : Pos}
def tNext : TS := fun D σ H => D.nx σ H
def tSeq (t u : TS) : TS := fun D σ H => t { D with nx := u D } σ H
theorem pss_nil : PSs X [] tNext := fun _ _ σ H _ I h => wpAny_execs_nil ⟨σ, H, I, h⟩
theorem pss_cons (h1 : PS X st t) (h2 : PSs X rest u) : PSs X (st :: rest) (tSeq t u) := by
  intro pins s σ H D I h
  refine wpAny_execs_cons (thn (h1 pins s σ H { D with nx := u D } I h) fun f s1 q => ?_)
  cases f with
  | next =>
    obtain ⟨σ', H', I', q⟩ := q
    exact h2 pins s1 σ' H' D I' q
  | ret v => exact q
  | brk => exact q
  | cont => exact q
theorem pss_one (h1 : PS X st t) : PSs X [st] t := by
  intro pins s σ H D I h
  refine wpAny_execs_cons (thn (h1 pins s σ H D I h) fun f s1 q => ?_)
  cases f with
  | next => exact wpAny_execs_nil q
  | ret v => exact q
  | brk => exact q
  | cont => exact q
theorem Inv.quiet {pins : List (Addr × Obj)} {σ : St} {H : Hp} {s : Shared} (I : Inv X pins σ H s) : interactive X.env = false := by simp [interactive, I.ok.kind]
def tDrop (te : TE) : TS := fun D σ H => te σ H fun _ H1 => D.nx σ H1
theorem ps_expr (he : PE X e te) (hs : swapsWith e none pos.line X.env = pure false := by rfl) : PS X (.Expr e pos) (tDrop te) := by
  intro pins s σ H D I h
  exact wpAny_Expr_any (thn (he pins s σ H _ I h) fun v s1 ⟨x, H1, I1, r1, q1⟩ => ⟨σ, H1, I1, q1⟩) I.quiet hs
def tRet (te : TE) : TS := fun D σ H => te σ H D.rt
theorem ps_ret (he : PE X e te) : PS X (.Return (some e) pos) (tRet te) := by
  intro pins s σ H D I h
  exact wpAny_Return_some (thn (he pins s σ H _ I h) fun v s1 ⟨x, H1, I1, r1, q1⟩ => ⟨x, σ, H1, I1, r1, q1⟩)
def tIfS (c : TT) (t u : TS) : TS := fun D σ H => c σ H fun b H1 => if b = true then t D σ H1 else u D σ H1
theorem ps_if {c : Expr} {a b : List Stmt} {tc : TT} (hc : PT X c tc) (ha : PSs X a t) (hb : PSs X b u) : PS X (.If c a b pos) (tIfS tc t u) := by
  intro pins s σ H D I h
  refine wpAny_If (thn (hc pins s σ H _ I h) fun d s1 ⟨H1, I1, q1⟩ => ?_)
  cases d with
  | true => exact ha pins s1 σ H1 D I1 q1
  | false => exact hb pins s1 σ H1 D I1 q1
def tNever : TS := fun _ _ _ => False
theorem pss_never {sts : List Stmt} : PSs X sts tNever := fun _ _ _ _ _ _ h => h.elim
end
abbrev TG := V → St → Hp → (St → Hp → Prop) → Prop
abbrev TGs := List V → St → Hp → (St → Hp → Prop) → Prop
def PG (X : Cx) (target : Expr) (t : TG) : Prop :=
  ∀ (pins : List (Addr × Obj)) (s : Shared) (σ : St) (H : Hp) (v : V) (u : Value) (Q : St → Hp → Prop), Inv X pins σ H s → RelV v u → t v σ H Q →
    wpAny (model X.prog X.w) X.A (assign target X.env u) (fun _ s' => ∃ σ' H', Inv X pins σ' H' s' ∧ Q σ' H') X.xe s
def PGs (X : Cx) (ts : List Expr) (t : TGs) : Prop :=
  ∀ (pins : List (Addr × Obj)) (s : Shared) (σ : St) (H : Hp) (vs : List V) (us : List Value) (Q : St → Hp → Prop), Inv X pins σ H s → Vals vs us → t vs σ H Q →
    wpAny (model X.prog X.w) X.A (assignInOrder ((assignEach ts X.env).map (·.2)) us) (fun _ s' => ∃ σ' H', Inv X pins σ' H' s' ∧ Q σ' H') X.xe s
section
variable {X : Cx} {pos : Pos}
def gName (i : Nat) : TG := fun v σ H Q => Q (σ.set i (some v)) H
theorem pg_name {i : Nat} {x : Str} (hN : X.N.Nodup) (hi : X.N[i]? = some x) (hx : Loc X.env.scope x) (hf : X.fn x = true ∨ X.env.scope.names.lookup x = some .local := by first | exact .inl rfl | exact .inr rfl | assumption) : PG X (.Name x pos) (gName i) := by
  intro pins s σ H v u Q I r h
  exact wpAny_assign_Name (store_ok I hN hi hx r (fun s' I' => ⟨_, H, I', h⟩) hf)
def gNil : TGs := fun vs σ H Q => vs = [] ∧ Q σ H
def gCons (t : TG) (u : TGs) : TGs := fun vs σ H Q => ∃ v r, vs = v :: r ∧ t v σ H fun σ' H' => u r σ' H' Q
theorem pgs_nil : PGs X [] gNil := by
  intro pins s σ H vs us Q I r h
  obtain ⟨e, h⟩ := h
  subst e
  cases r
  exact assignInOrder_nil ⟨σ, H, I, h⟩
theorem pgs_cons {e : Expr} {es : List Expr} {t : TG} {u : TGs} (h1 : PG X e t) (h2 : PGs X es u)
    (hs : (assignEach (e :: es) X.env).map (·.2) = assign e X.env :: (assignEach es X.env).map (·.2) := by rfl) : PGs X (e :: es) (gCons t u) := by
  intro pins s σ H vs us Q I r h
  obtain ⟨v, vr, e1, h⟩ := h
  subst e1
  cases r with
  | cons r rr =>
    rw [hs]
    refine assignInOrder_cons (thn (h1 pins s σ H _ _ _ I r h) fun _ s1 ⟨σ1, H1, I1, q1⟩ => ?_)
    exact h2 pins s1 σ1 H1 _ _ Q I1 rr q1
def gTup (K : PySem.W.Frag) (n : Nat) (t : TGs) : TG := fun v σ H Q => ∃ a xs, v = .ref a ∧ SqT K H a xs ∧ xs.length = n ∧ t xs σ H Q
theorem pg_tup {es : List Expr} {k : Nat} {t : TGs} {n : Nat} (hc : X.calm = true) (h : PGs X es t)
    (hn : (assignEach es X.env).length = n := by rfl) (hst : (assignEach es X.env).findIdx? (·.1) = none := by rfl) : PG X (.Tuple es k pos) (gTup X.K n t) := by
  intro pins s σ H v u Q I r hw
  obtain ⟨a, xs, e1, hq, hl, hw⟩ := hw
  subst e1
  cases r
  obtain ⟨its, rv, ht, hz⟩ := I.tuple hq
  refine assign_Tuple_tuple (I.ok.hd hc) ht (by simp [hn, ← hl, rv.length]) hst fun h' hx => ?_
  have I1 : Inv X pins σ H { s with heap := h' } := I.kept (t' := s.toks) fun b o e => hx b o (Nat.ne_of_lt (Heap.lt_size e)) e
  exact h pins _ σ H xs _ Q I1 (by simpa using rv) hw
def tAsg (te : TE) (g : TG) : TS := fun D σ H => te σ H fun x H1 => g x σ H1 D.nx
theorem ps_asg {tg e : Expr} {te : TE} {g : TG} (he : PE X e te) (hg : PG X tg g) (hs : swapsWithSole [tg] e pos.line X.env = pure false := by rfl) (hw : swappedStores [tg] e X.env = pure none := by rfl)
    (h1 : (assignEach [tg] X.env).map (·.2) = [assign tg X.env] := by rfl) : PS X (.Assign [tg] e pos) (tAsg te g) := by
  intro pins s σ H D I h
  refine wpAny_Assign_stores (thn (he pins s σ H _ I h) fun v s1 ⟨x, H1, I1, r1, q1⟩ => ?_) hs hw
  rw [h1]
  exact thn (hg pins s1 σ H1 x v _ I1 r1 q1) fun _ s2 q => q
theorem ps_set {i : Nat} {x : Str} {e : Expr} {te : TE} {pos' : Pos} (hN : X.N.Nodup) (hi : X.N[i]? = some x) (hx : Loc X.env.scope x) (he : PE X e te) (hs : swapsWith e (some (.Name x pos')) pos.line X.env = pure false := by rfl) (hf : X.fn x = true ∨ X.env.scope.names.lookup x = some .local := by first | exact .inl rfl | exact .inr rfl | assumption) :
    PS X (.Assign [.Name x pos'] e pos) (tAsg te (gName i)) := by
  intro pins s σ H D I h
  refine wpAny_Assign_Name (thn (he pins s σ H _ I h) fun v s1 ⟨y, H1, I1, r1, q1⟩ => ?_) hs
  exact store_ok I1 hN hi hx r1 (fun s2 I2 => ⟨_, H1, I2, q1⟩) hf
def tPar (i j : Nat) (ta : TA) : TS := fun D σ H => ta σ H fun vs H1 => ∃ v w, vs = [v, w] ∧ D.nx ((σ.set i (some v)).set j (some w)) H1
theorem ps_par {i j : Nat} {x y : Str} {a b : Expr} {ta : TA} {px py pt : Pos} {kt k2 pt2} (hc : X.calm = true) (hN : X.N.Nodup) (hi : X.N[i]? = some x) (hj : X.N[j]? = some y) (hij : i ≠ j)
    (hx : X.env.scope.names.lookup x = some .local) (hy : X.env.scope.names.lookup y = some .local) (ha : PA X [a, b] ta)
    (hw : swappedStores [.Tuple [.Name x px, .Name y py] kt pt] (.Tuple [a, b] k2 pt2) X.env = pure (some [x, y]))
    (hs : swapsWithSole [.Tuple [.Name x px, .Name y py] kt pt] (.Tuple [a, b] k2 pt2) pos.line X.env = pure false := by rfl) :
    PS X (.Assign [.Tuple [.Name x px, .Name y py] kt pt] (.Tuple [a, b] k2 pt2) pos) (tPar i j ta) := by
  intro pins s σ H D I h
  rw [exec_Assign_arm]
  refine wpAny_bind (wpAny_standAt ?_)
  rw [hs]
  refine wpAny_bind (wpAny_pure ?_)
  rw [if_neg (by decide)]
  refine wpAny_bind (Tuple_ (thn (ha _ pins s σ H _ I h) fun us s1 ⟨vs, H1, I1, r1, q1⟩ => ?_))
  obtain ⟨v, w, e1, q1⟩ := q1
  subst e1
  obtain ⟨u1, u2, rfl, rv, rw'⟩ : ∃ u1 u2, us = [u1, u2] ∧ RelV v u1 ∧ RelV w u2 := by
    cases r1 with
    | cons p q =>
      cases q with
      | cons p' q' =>
        cases q'
        exact ⟨_, _, rfl, p, p'⟩
  refine wpAny_newObj_type ?_ (by show 2 ≤ sizeLine; decide)
  have I2 : Inv X pins σ H1 { s1 with heap := s1.heap.push { cls := .type "tuple", data := .seq [u1, u2].toArray } } := I1.kept (t' := s1.toks) fun b o e => Heap.get?_push_of_some _ e
  rw [hw]
  refine wpAny_bind (wpAny_pure ?_)
  show wpAny (model X.prog X.w) X.A (do rule "assign.swapped-stores"; let items ← unpackItems (.ref s1.heap.objs.size) 2 none; assignInOrder [fun v => bindName X.env y v, fun v => bindName X.env x v] items.reverse; pure Flow.next) _ _ _
  refine wpAny_bind (wpAny_rule (wpAny_bind (unpackItems_tuple (items := #[u1, u2]) (I.ok.hd hc) (IsTup.new s1.heap _) fun h' hx' => ?_)))
  have I3 := I2.kept (h' := h') (t' := s1.toks) fun b o e => hx' b o (Nat.ne_of_lt (Heap.lt_size e)) e
  show wpAny _ _ (assignInOrder [fun v => bindName X.env y v, fun v => bindName X.env x v] [u2, u1] >>= fun _ => pure Flow.next) _ _ _
  refine wpAny_bind (assignInOrder_cons (wpAny_bindName (store_ok I3 hN hj (.inl hy) rw' (fun s2 I4 => ?_) (.inr hy))))
  refine assignInOrder_cons (wpAny_bindName (store_ok I4 hN hi (.inl hx) rv (fun s3 I5 => assignInOrder_nil (wpAny_pure ?_)) (.inr hx)))
  rw [List.set_comm _ _ (Ne.symm hij)] at I5
  exact ⟨_, H1, I5, q1⟩
end
section
variable {X : Cx} {pos : Pos}
end
structure It where
  go : Nat → Hp → Prop
  yld : Nat → Hp → V → Hp → Prop
  stop : Nat → Hp → Prop
def FpOk (X : Cx) (pins : List (Addr × Obj)) (H : Hp) (b : Addr) : Prop :=
  H b = none ∧ b ≠ X.env.locals ∧ b ∉ X.fs ∧ (b ∈ X.ex ∨ X.s_0.heap.objs.size ≤ b) ∧ (∀ x c, X.env.cells.lookup x = some c → c ≠ b) ∧ ∀ p ∈ X.pn ++ pins, p.1 ≠ b
theorem Inv.fpOk {X : Cx} {pins : List (Addr × Obj)} {σ : St} {H H' : Hp} {s : Shared} {b : Addr} (I : Inv X pins σ H s) (hb : s.heap.objs.size ≤ b) (hn : H' b = none) : FpOk X pins H' b := by
  refine ⟨hn, Nat.ne_of_gt (Nat.lt_of_lt_of_le I.lt hb), I.nofs hb, .inr (Nat.le_trans I.sz hb), fun x c e z => ?_, fun p hp z => ?_⟩
  · obtain ⟨v, q⟩ := I.cell x c e
    exact absurd (Nat.lt_of_lt_of_le q.lt (by rw [z]; exact hb)) (Nat.lt_irrefl _)
  · exact absurd (Nat.lt_of_lt_of_le (Heap.lt_size (I.pin p hp).1) (by rw [z]; exact hb)) (Nat.lt_irrefl _)
structure Turn (P : Program) (w : World) (K : PySem.W.Frag) (tg : Expr) (J : It) (fp : List Addr) (it : Addr) (tn : Nat → Heap → Prop) : Prop where
  mem : it ∈ fp
  obj : ∀ i h, tn i h → ∀ b ∈ fp, ∃ o, h.get? b = some o ∧ ∀ v, o.data ≠ .cell v
  keep : ∀ i h h', tn i h → (∀ b ∈ fp, ∀ o, h.get? b = some o → h'.get? b = some o) → tn i h'
  item : ∀ (X : Cx), X.prog = P → X.w = w → X.K = K → X.calm = true → ∀ (i : Nat) (pins : List (Addr × Obj)) (s : Shared) (σ : St) (H : Hp) (E : Value → Shared → Prop), Inv X pins σ H s → (∀ b ∈ fp, FpOk X pins H b) → tn i s.heap → J.go i H →
    wpAny (model P w) X.A (pyNext (.ref it)) (fun r s1 => ∃ u, r = some u ∧
      wpAny (model P w) X.A (letOwnedTupleGo tg (.ref it) u) (fun _ s2 => ∃ x H', Inv X pins σ H' s2 ∧ RelV x u ∧ J.yld i H x H' ∧ tn (i + 1) s2.heap ∧ ∀ b ∈ fp, H' b = none) E s1) E s
  done : ∀ (X : Cx), X.prog = P → X.w = w → X.K = K → X.calm = true → ∀ (i : Nat) (pins : List (Addr × Obj)) (s : Shared) (σ : St) (H : Hp) (E : Value → Shared → Prop), Inv X pins σ H s → (∀ b ∈ fp, FpOk X pins H b) → tn i s.heap → J.stop i H →
    wpAny (model P w) X.A (pyNext (.ref it)) (fun r s1 => r = none ∧ Inv X pins σ H s1) E s
  self : ∀ (A : Around) (i : Nat) (s : Shared) (Q : Value → Shared → Prop) (E : Value → Shared → Prop), tn i s.heap → Q (.ref it) s → wpAny (model P w) A (pyIter (.ref it)) Q E s
abbrev TI := St → Hp → (It → Hp → Prop) → Prop
def PIE (X : Cx) (pins : List (Addr × Obj)) (σ : St) (tg : Expr) (R : It → Hp → Prop) (itv : Value) (s2 : Shared) : Prop :=
  ∃ (it : Addr) (fp : List Addr) (tn : Nat → Heap → Prop) (J : It) (H' : Hp), itv = .ref it ∧ Inv X pins σ H' s2 ∧ Turn X.prog X.w X.K tg J fp it tn ∧ tn 0 s2.heap ∧ (∀ b ∈ fp, FpOk X pins H' b) ∧ R J H'
def PI (X : Cx) (tg iter : Expr) (wi : TI) : Prop :=
  ∀ (pins : List (Addr × Obj)) (s : Shared) (σ : St) (H : Hp) (R : It → Hp → Prop), Inv X pins σ H s → wi σ H R →
    wpAny (model X.prog X.w) X.A (eval iter X.env) (fun v s1 => wpAny (model X.prog X.w) X.A (pyIter v) (PIE X pins σ tg R) X.xe s1) X.xe s
theorem go_of {M : Model} {A : Around} {E : Value → Shared → Prop} {s : Shared} {tg : Expr} {it : Addr} {u : Value} {o : Obj} {n : String} {vs : Array Value} {Q : Unit → Shared → Prop} (ho : s.heap.get? it = some o) (hc : o.cls = .type n) (hd : o.data = .fields vs)
    (hn : ["enumerate", "zip", "dict_itemiterator", "dict_reverseitemiterator", "odict_iterator", "itertools.zip_longest", "itertools.pairwise"].contains n = false) (hQ : Q () s) : wpAny M A (letOwnedTupleGo tg (.ref it) u) Q E s := by
  unfold letOwnedTupleGo
  cases tg <;> first
    | exact wpAny_pure hQ
    | (cases u <;> first
        | exact wpAny_pure hQ
        | (refine wpAny_bind (wpAny_load ho ?_)
           rw [hc, hd]
           show wpAny M A (if (["enumerate", "zip", "dict_itemiterator", "dict_reverseitemiterator", "odict_iterator", "itertools.zip_longest", "itertools.pairwise"].contains n && vs[0]? == some (rawInt _)) = true then _ else _) Q E s
           rw [if_neg (by intro h; rw [hn, Bool.false_and] at h; cases h)]
           exact wpAny_pure hQ))
def Itl (K : PySem.W.Frag) (a : Addr) : It :=
  ⟨fun i H => ∃ xs x, SqL K H a xs ∧ xs[i]? = some x, fun i H x H' => H' = H ∧ ∀ xs, SqL K H a xs → xs[i]? = some x, fun i H => ∃ xs, SqL K H a xs ∧ xs.length ≤ i⟩
def Itt (K : PySem.W.Frag) (a : Addr) : It :=
  ⟨fun i H => ∃ xs x, SqT K H a xs ∧ xs[i]? = some x, fun i H x H' => H' = H ∧ ∀ xs, SqT K H a xs → xs[i]? = some x, fun i H => ∃ xs, SqT K H a xs ∧ xs.length ≤ i⟩
def Itr (lo : Int) (n : Nat) : It := ⟨fun i _ => i < n, fun i H x H' => H' = H ∧ x = .int (lo + i), fun i _ => n ≤ i⟩
theorem turn_list {P : Program} {w : World} {K : PySem.W.Frag} {tg : Expr} (a it : Addr) : Turn P w K tg (Itl K a) [it] it (fun i h => h.IsListIter it a i) where
  mem := by simp
  obj := fun i h st b hb => by
    have e : b = it := by simpa using hb
    subst e
    obtain ⟨o, e, c, d⟩ := st
    exact ⟨o, e, fun v z => by rw [d] at z; cases z⟩
  keep := fun i h h' st k => st.at fun o e => k it (by simp) o e
  item := by
    intro X hP hw hK hc i pins s σ H E I hf st hg
    subst hP hw hK
    obtain ⟨xs, x, hq, hx⟩ := hg
    obtain ⟨its, rv, p, hz⟩ := I.list hq
    obtain ⟨u, hu, ru⟩ := rv.get hx
    obtain ⟨f0, f1, f2, f3, f4, f5⟩ := hf it (by simp)
    refine wpAny_pyNext_list_item st p.isList (x := u) (by simpa using hu) fun h' st' sb => ?_
    have I1 : Inv X pins σ H { s with heap := h' } := I.turned (t' := s.toks) (fun b o hb e => (sb.2 b hb).trans e) f0 f1 f3 f4 f5
    obtain ⟨o, e, c, d⟩ := id st'
    exact ⟨u, rfl, go_of (s := { s with heap := h' }) e c d (by decide) ⟨x, H, I1, ru, ⟨rfl, fun ys hy => by rw [I.list_inj hy hq]; exact hx⟩, st', fun b hb => (hf b hb).1⟩⟩
  done := by
    intro X hP hw hK hc i pins s σ H E I hf st hg
    subst hP hw hK
    obtain ⟨xs, hq, hx⟩ := hg
    obtain ⟨its, rv, p, hz⟩ := I.list hq
    obtain ⟨f0, f1, f2, f3, f4, f5⟩ := hf it (by simp)
    have hl := rv.length
    exact wpAny_pyNext_list_end (I.ok.hd hc) st p.isList (by simp; omega) fun h' eb => ⟨rfl, I.turned (t' := s.toks) (fun b o hb e => eb b o hb e) f0 f1 f3 f4 f5⟩
  self := fun _ _ _ _ _ st h => wpAny_pyIter_listiter st h
theorem turn_tuple {P : Program} {w : World} {K : PySem.W.Frag} {tg : Expr} (a it : Addr) : Turn P w K tg (Itt K a) [it] it (fun i h => h.IsTupleIter it a i) where
  mem := by simp
  obj := fun i h st b hb => by
    have e : b = it := by simpa using hb
    subst e
    obtain ⟨o, e, c, d⟩ := st
    exact ⟨o, e, fun v z => by rw [d] at z; cases z⟩
  keep := fun i h h' st k => st.at fun o e => k it (by simp) o e
  item := by
    intro X hP hw hK hc i pins s σ H E I hf st hg
    subst hP hw hK
    obtain ⟨xs, x, hq, hx⟩ := hg
    obtain ⟨its, rv, p, hz⟩ := I.tuple hq
    obtain ⟨u, hu, ru⟩ := rv.get hx
    obtain ⟨f0, f1, f2, f3, f4, f5⟩ := hf it (by simp)
    refine wpAny_pyNext_tuple_item st (show s.heap.IsTuple a its.toArray from p) (x := u) (by simpa using hu) fun h' st' sb => ?_
    have I1 : Inv X pins σ H { s with heap := h' } := I.turned (t' := s.toks) (fun b o hb e => (sb.2 b hb).trans e) f0 f1 f3 f4 f5
    obtain ⟨o, e, c, d⟩ := id st'
    exact ⟨u, rfl, go_of (s := { s with heap := h' }) e c d (by decide) ⟨x, H, I1, ru, ⟨rfl, fun ys hy => by rw [I.tuple_inj hy hq]; exact hx⟩, st', fun b hb => (hf b hb).1⟩⟩
  done := by
    intro X hP hw hK hc i pins s σ H E I hf st hg
    subst hP hw hK
    obtain ⟨xs, hq, hx⟩ := hg
    obtain ⟨its, rv, p, hz⟩ := I.tuple hq
    obtain ⟨f0, f1, f2, f3, f4, f5⟩ := hf it (by simp)
    have hl := rv.length
    exact wpAny_pyNext_tuple_end (I.ok.hd hc) st (show s.heap.IsTuple a its.toArray from p) (by simp; omega) fun h' eb => ⟨rfl, I.turned (t' := s.toks) (fun b o hb e => eb b o hb e) f0 f1 f3 f4 f5⟩
  self := fun _ _ _ _ _ st h => wpAny_pyIter_tupleiter st h
theorem turn_range {P : Program} {w : World} {K : PySem.W.Frag} {tg : Expr} (it : Addr) (lo : Int) (n : Nat) : Turn P w K tg (Itr lo n) [it] it (fun i h => IsRangeIter h it (lo + (i : Nat) * 1) ((n : Int) - (i : Nat)) 1) where
  mem := by simp
  obj := fun i h st b hb => by
    have e : b = it := by simpa using hb
    subst e
    exact ⟨_, st, fun v z => by
      have z' : Data.fields _ = Data.cell v := z
      cases z'⟩
  keep := fun i h h' st k => k it (by simp) _ st
  item := by
    intro X hP hw hK hc i pins s σ H E I hf st hg
    subst hP hw hK
    obtain ⟨f0, f1, f2, f3, f4, f5⟩ := hf it (by simp)
    have W := Walks.range (prog := X.prog) (w := X.w) (I.ok.hd hc) it lo 1 n
    refine W.item i s _ _ hg st fun v h' tk hv st' kk => ?_
    obtain ⟨t, rfl⟩ := hv
    have I1 : Inv X pins σ H { s with heap := h', toks := tk } := I.turned (fun b o hb e => kk b o (by simpa using hb) e) f0 f1 f3 f4 f5
    refine ⟨_, rfl, go_of (s := { s with heap := h', toks := tk }) (n := "range_iterator") st' rfl rfl (by decide) ⟨.int (lo + i), H, I1, ⟨t, ?_⟩, ⟨rfl, rfl⟩, st', fun b hb => (hf b hb).1⟩⟩
    rw [Int.mul_one]
  done := by
    intro X hP hw hK hc i pins s σ H E I hf st hg
    subst hP hw hK
    obtain ⟨f0, f1, f2, f3, f4, f5⟩ := hf it (by simp)
    exact wpAny_pyNext_range_end (I.ok.hd hc) st (by have : n ≤ i := hg; omega) fun h' eb => ⟨rfl, I.turned (t' := s.toks) (fun b o hb e => eb b o hb e) f0 f1 f3 f4 f5⟩
  self := fun _ _ _ _ _ st h => wpAny_pyIter_rangeiter st h
end L2
namespace L2
open PySem PySem.Spec PyProof.Rows
section
variable {X : Cx} {tg : Expr}
def iList (K : PySem.W.Frag) (tl : TE) : TI := fun σ H R => tl σ H fun x H1 => ∃ a, x = .ref a ∧ (∃ xs, SqL K H1 a xs) ∧ R (Itl K a) H1
def iTup (K : PySem.W.Frag) (tl : TE) : TI := fun σ H R => tl σ H fun x H1 => ∃ a, x = .ref a ∧ (∃ xs, SqT K H1 a xs) ∧ R (Itt K a) H1
theorem pi_list {l : Expr} {tl : TE} (hl : PE X l tl) : PI X tg l (iList X.K tl) := by
  intro pins s σ H R I h
  refine thn (hl pins s σ H _ I h) fun v s1 ⟨x, H1, I1, r1, q1⟩ => ?_
  obtain ⟨a, e, ⟨xs, hq⟩, q⟩ := q1
  subst e
  cases r1
  obtain ⟨its, rv, p, hz⟩ := I1.list hq
  refine wpAny_pyIter_list p.isList ?_
  refine ⟨s1.heap.objs.size, [s1.heap.objs.size], _, _, H1, rfl, I1.kept (t' := s1.toks) fun b o e => Heap.get?_push_of_some _ e, turn_list a _, ⟨_, Heap.get?_push_size _ rfl, rfl, rfl⟩, fun b hb => ?_, q⟩
  have e : b = s1.heap.objs.size := by simpa using hb
  subst e
  exact I1.fpOk (Nat.le_refl _) (I1.hok.fresh (Nat.le_refl _))
theorem pi_tup {l : Expr} {tl : TE} (hl : PE X l tl) : PI X tg l (iTup X.K tl) := by
  intro pins s σ H R I h
  refine thn (hl pins s σ H _ I h) fun v s1 ⟨x, H1, I1, r1, q1⟩ => ?_
  obtain ⟨a, e, ⟨xs, hq⟩, q⟩ := q1
  subst e
  cases r1
  obtain ⟨its, rv, p, hz⟩ := I1.tuple hq
  refine wpAny_pyIter_tuple (show s1.heap.IsTuple a its.toArray from p) ?_
  refine ⟨s1.heap.objs.size, [s1.heap.objs.size], _, _, H1, rfl, I1.kept (t' := s1.toks) fun b o e => Heap.get?_push_of_some _ e, turn_tuple a _, ⟨_, Heap.get?_push_size _ rfl, rfl, rfl⟩, fun b hb => ?_, q⟩
  have e : b = s1.heap.objs.size := by simpa using hb
  subst e
  exact I1.fpOk (Nat.le_refl _) (I1.hok.fresh (Nat.le_refl _))
theorem range_it {pins : List (Addr × Obj)} {σ : St} {H : Hp} {s : Shared} {R : It → Hp → Prop} {E : Value → Shared → Prop} {lo hi : Int} {t u v : Tok} {tk : Nat} (I : Inv X pins σ H s) (h1 : -(2 ^ 62) ≤ lo) (h2 : lo < 2 ^ 62) (h3 : -(2 ^ 62) ≤ hi) (h4 : hi < 2 ^ 62)
    (q : R (Itr lo (hi - lo).toNat) H) : wpAny (model X.prog X.w) X.A (pyIter (.ref s.heap.objs.size)) (PIE X pins σ tg R) E { s with heap := s.heap.push { cls := .type "range", data := .fields #[.int lo t, .int hi u, .int 1 v] }, toks := tk } := by
  refine wpAny_pyIter_range (IsRange.new ..) (small_one h1 h2 h3 h4) ?_
  have I1 : Inv X pins σ H { s with heap := s.heap.push { cls := .type "range", data := .fields #[.int lo t, .int hi u, .int 1 v] }, toks := tk } := I.kept fun b o e => Heap.get?_push_of_some _ e
  refine ⟨(s.heap.push { cls := .type "range", data := .fields #[.int lo t, .int hi u, .int 1 v] }).objs.size, [(s.heap.push { cls := .type "range", data := .fields #[.int lo t, .int hi u, .int 1 v] }).objs.size], _, _, H, rfl,
    I1.kept (t' := tk) fun b o e => Heap.get?_push_of_some _ e, turn_range _ lo (hi - lo).toNat, ?_, fun b hb => ?_, q⟩
  · have e1 : lo + ((0 : Nat) : Int) * 1 = lo := by simp
    have e2 : (((hi - lo).toNat : Nat) : Int) - ((0 : Nat) : Int) = Builtin.Range.rangeSize lo hi 1 := by rw [rangeSize_one]; split <;> omega
    show IsRangeIter _ _ (lo + ((0 : Nat) : Int) * 1) ((((hi - lo).toNat : Nat) : Int) - ((0 : Nat) : Int)) 1
    rw [e1, e2]
    exact Heap.get?_push_size _ rfl
  · have e : b = (s.heap.push { cls := .type "range", data := .fields #[.int lo t, .int hi u, .int 1 v] }).objs.size := by simpa using hb
    subst e
    exact I1.fpOk (Nat.le_refl _) (I1.hok.fresh (Nat.le_refl _))
def iRng1 (ta : TA) : TI := fun σ H R => ta σ H fun vs H1 => ∃ j : Int, vs = [.int j] ∧ -(2 ^ 62) ≤ j ∧ j < 2 ^ 62 ∧ R (Itr 0 j.toNat) H1
def iRng2 (ta : TA) : TI := fun σ H R => ta σ H fun vs H1 => ∃ i j : Int, vs = [.int i, .int j] ∧ (-(2 ^ 62) ≤ i ∧ i < 2 ^ 62 ∧ -(2 ^ 62) ≤ j ∧ j < 2 ^ 62) ∧ R (Itr i (j - i).toNat) H1
theorem pi_range1 {a : Expr} {ta : TA} {p pos : Pos} (hg : Gl X "range") (hm : X.mg "range" = none) (ha : PA X [a] ta) (hs : starEach [a] X.env = [(false, eval a X.env)] := by rfl) : PI X tg (.Call (.Name "range" p) [a] [] pos) (iRng1 ta) := by
  intro pins s σ H R I h
  refine Call_ (ld_blt I hg hm boot_range (PyProof.Rows.callWith_type1 (thn (ha pos pins s σ H _ I h) fun us s1 ⟨vs, H1, I1, r1, q1⟩ => ?_) hs rfl))
  obtain ⟨j, e, q1, q2, q⟩ := q1
  subst e
  cases r1 with
  | cons r rr =>
    cases rr
    obtain ⟨t, rfl⟩ := r
    exact call_range_1 (range_it I1 (by omega) (by omega) q1 q2 (by simpa using q))
theorem pi_range2 {a b : Expr} {ta : TA} {p pos : Pos} (hg : Gl X "range") (hm : X.mg "range" = none) (ha : PA X [a, b] ta) (hs : starEach [a, b] X.env = [(false, eval a X.env), (false, eval b X.env)] := by rfl) (hs2 : starEach [b] X.env = [(false, eval b X.env)] := by rfl) :
    PI X tg (.Call (.Name "range" p) [a, b] [] pos) (iRng2 ta) := by
  intro pins s σ H R I h
  refine Call_ (ld_blt I hg hm boot_range (PyProof.Rows.callWith_type1 (thn (ha pos pins s σ H _ I h) fun us s1 ⟨vs, H1, I1, r1, q1⟩ => ?_) (by rw [hs, hs2]) (by rw [hs2]; rfl)))
  obtain ⟨i, j, e, ⟨q1, q2, q3, q4⟩, q⟩ := q1
  subst e
  cases r1 with
  | cons r rr =>
    cases rr with
    | cons r' rr =>
      cases rr
      obtain ⟨t, rfl⟩ := r
      obtain ⟨t', rfl⟩ := r'
      exact call_range_2 (range_it I1 q1 q2 q3 q4 q)
def tFor (wi : TI) (g : TG) (tb : TS) : TS := fun D σ H => wi σ H fun J H1 => ∃ W : Nat → Nat → St → Hp → Prop, (∃ m, W 0 m σ H1) ∧ ∀ i m σ H, W i m σ H →
  (J.stop i H ∧ D.nx σ H) ∨ (J.go i H ∧ ∃ N : St → Hp → Prop, (∀ σ' H', N σ' H' → ∃ m', m' < m ∧ W (i + 1) m' σ' H') ∧ ∀ x H', J.yld i H x H' → g x σ H' fun σ2 H2 => tb { D with nx := N, ct := N, bk := D.nx } σ2 H2)
def pinsAt (fp : List Addr) (h : Heap) : List (Addr × Obj) := fp.filterMap fun b => (h.get? b).map fun o => (b, o)
theorem mem_pinsAt {fp : List Addr} {h : Heap} {b : Addr} {o : Obj} (hb : b ∈ fp) (e : h.get? b = some o) : (b, o) ∈ pinsAt fp h := List.mem_filterMap.mpr ⟨b, hb, by rw [e]; rfl⟩
theorem of_pinsAt {fp : List Addr} {h : Heap} {p : Addr × Obj} (hp : p ∈ pinsAt fp h) : p.1 ∈ fp ∧ h.get? p.1 = some p.2 := by
  obtain ⟨b, hb, e⟩ := List.mem_filterMap.mp hp
  cases q : h.get? b with
  | none => rw [q] at e; cases e
  | some o =>
    rw [q] at e
    have e' : (b, o) = p := Option.some.inj e
    subst e'
    exact ⟨hb, q⟩
theorem Inv.pinned {pins : List (Addr × Obj)} {σ : St} {H : Hp} {s : Shared} {fp : List Addr} (I : Inv X pins σ H s) (hf : ∀ b ∈ fp, FpOk X pins H b) (ho : ∀ b ∈ fp, ∃ o, s.heap.get? b = some o ∧ ∀ v, o.data ≠ .cell v) : Inv X (pins ++ pinsAt fp s.heap) σ H s :=
  I.pins_of fun p hp => (List.mem_append.mp hp).elim (fun z => I.pin p (List.mem_append_right _ z)) fun z => by
    obtain ⟨hb, e⟩ := of_pinsAt z
    obtain ⟨f0, f1, f2, _⟩ := hf p.1 hb
    obtain ⟨o, e', d⟩ := ho p.1 hb
    rw [e] at e'; cases e'
    exact ⟨e, f0, f1, f2, d⟩
theorem Inv.unpinned {pins pl : List (Addr × Obj)} {σ : St} {H : Hp} {s : Shared} (I : Inv X (pins ++ pl) σ H s) : Inv X pins σ H s := I.pins_of fun p hp => I.pin p (List.mem_append_right _ (List.mem_append_left _ hp))
theorem ps_for {iter : Expr} {body : List Stmt} {wi : TI} {g : TG} {tb : TS} {pos : Pos} (hp : PassesOwn (model X.prog X.w) X.A X.env X.xe) (hc : X.calm = true) (hi : PI X tg iter wi) (hg : PG X tg g) (hb : PSs X body tb)
    (hs : ∀ x, foldedSetIterable iter X.env x = pure x := by intro _; rfl) : PS X (.For tg iter body [] pos) (tFor wi g tb) := by
  intro pins s σ H D I h
  refine wpAny_For (thn (hi pins s σ H _ I h) fun v s1 h1 => thn h1 fun itv s2 h2 => ?_) hs
  obtain ⟨it, fp, tn, J, H2, e, I2, T, st2, f2, W, ⟨m0, w0⟩, turn⟩ := h2
  subst e
  have stat : ∀ {H' : Hp}, (∀ b ∈ fp, H' b = none) → ∀ b ∈ fp, FpOk X pins H' b := fun hn b hb => ⟨hn b hb, (f2 b hb).2⟩
  refine codeAny_forLoop_any (fun n s' => ∃ i σ' H', Inv X pins σ' H' s' ∧ tn i s'.heap ∧ (∀ b ∈ fp, H' b = none) ∧ W i n σ' H') ?_ m0 ⟨0, σ, H2, I2, st2, fun b hb => (f2 b hb).1, w0⟩
  rintro n s3 ⟨i, σ3, H3, I3, st3, fr3, w3⟩
  rcases turn i n σ3 H3 w3 with ⟨stop, qn⟩ | ⟨go, N, hN, step⟩
  · refine wpAny_passesOwn hp (thn (T.done X rfl rfl rfl hc i pins s3 σ3 H3 X.xe I3 (stat fr3) st3 stop) fun r s4 ⟨hr, I4⟩ => ?_)
    subst hr
    exact wpAny_execs_nil ⟨σ3, H3, I4, qn⟩
  · refine wpAny_passesOwn hp (thn (T.item X rfl rfl rfl hc i pins s3 σ3 H3 X.xe I3 (stat fr3) st3 go) fun r s4 ⟨u, hr, h4⟩ => ?_)
    subst hr
    refine wpAny_passesOwn hp (thn h4 fun _ s5 ⟨x, H5, I5, r5, y5, st5, fr5⟩ => ?_)
    have I5' := I5.pinned (stat fr5) (T.obj _ _ st5)
    refine wpAny_passesOwn hp (thn (hg _ s5 σ3 H5 x u _ I5' r5 (step x H5 y5)) fun _ s6 ⟨σ6, H6, I6, q6⟩ => ?_)
    refine wpAny_passesOwn hp (thn (hb _ s6 σ6 H6 _ I6 q6) fun f s7 q7 => ?_)
    have again : ∀ {σ7 : St} {H7 : Hp}, Inv X (pins ++ pinsAt fp s5.heap) σ7 H7 s7 → N σ7 H7 → ∃ m, m < n ∧ ∃ i σ' H', Inv X pins σ' H' s7 ∧ tn i s7.heap ∧ (∀ b ∈ fp, H' b = none) ∧ W i m σ' H' := fun {σ7 H7} I7 n7 => by
      obtain ⟨m', hm, w7⟩ := hN σ7 H7 n7
      refine ⟨m', hm, i + 1, σ7, H7, I7.unpinned, T.keep _ _ _ st5 fun b hb o e => (I7.pin (b, o) (List.mem_append_right _ (List.mem_append_right _ (mem_pinsAt hb e)))).1, fun b hb => ?_, w7⟩
      obtain ⟨o, e, d⟩ := T.obj _ _ st5 b hb
      exact (I7.pin (b, o) (List.mem_append_right _ (List.mem_append_right _ (mem_pinsAt hb e)))).2.1
    cases f with
    | next => obtain ⟨σ7, H7, I7, n7⟩ := q7; exact again I7 n7
    | cont => obtain ⟨σ7, H7, I7, n7⟩ := q7; exact again I7 n7
    | brk => obtain ⟨σ7, H7, I7, q7⟩ := q7; exact ⟨σ7, H7, I7.unpinned, q7⟩
    | ret v => obtain ⟨x7, σ7, H7, I7, r7, q7⟩ := q7; exact ⟨x7, σ7, H7, I7.unpinned, r7, q7⟩
end
end L2
namespace L2
open PySem PySem.Spec PyProof.Rows
abbrev R2 := V → V → Hp → VK → Prop
def OpR (X : Cx) (f : Value → Value → Sem Value) (r : R2) : Prop :=
  ∀ (pins : List (Addr × Obj)) (s : Shared) (σ : St) (H : Hp) (x y : V) (v u : Value) (Q : VK), Inv X pins σ H s → RelV x v → RelV y u → r x y H Q →
    wpAny (model X.prog X.w) X.A (f v u) (EP X pins σ Q) X.xe s
def UnR (X : Cx) (f : Value → Sem Value) (r : V → Hp → VK → Prop) : Prop :=
  ∀ (pins : List (Addr × Obj)) (s : Shared) (σ : St) (H : Hp) (x : V) (v : Value) (Q : VK), Inv X pins σ H s → RelV x v → r x H Q →
    wpAny (model X.prog X.w) X.A (f v) (EP X pins σ Q) X.xe s
def CallR (X : Cx) (f : Value) (r : List V → Hp → VK → Prop) : Prop :=
  ∀ (pins : List (Addr × Obj)) (s : Shared) (σ : St) (H : Hp) (xs : List V) (us : List Value) (Q : VK), Inv X pins σ H s → Vals xs us → r xs H Q →
    wpAny (model X.prog X.w) X.A (call f us) (EP X pins σ Q) X.xe s
def tOp (r : R2) (ta tb : TE) : TE := fun σ H Q => ta σ H fun x H1 => tb σ H1 fun y H2 => r x y H2 Q
def tUn (r : V → Hp → VK → Prop) (ta : TE) : TE := fun σ H Q => ta σ H fun x H1 => r x H1 Q
def rI (C : Int → Int → Prop) (g : Int → Int → V) : R2 := fun x y H Q => ∃ i j, x = .int i ∧ y = .int j ∧ C i j ∧ Q (g i j) H
def rI0 (g : Int → Int → V) : R2 := fun x y H Q => ∃ i j, x = .int i ∧ y = .int j ∧ Q (g i j) H
def rU (g : Int → V) : V → Hp → VK → Prop := fun x H Q => ∃ i, x = .int i ∧ Q (g i) H
section
variable {X : Cx} {a b c : Expr} {ta tb tc : TE} {pos : Pos}
theorem binT (ha : PE X a ta) (hb : PE X b tb) {pins : List (Addr × Obj)} {s : Shared} {σ : St} {H : Hp} {R : V → V → Hp → Prop} (I : Inv X pins σ H s)
    (h : ta σ H fun x H1 => tb σ H1 fun y H2 => R x y H2) {Q : Value → Shared → Prop} {f : Value → Value → Sem Value}
    (hf : ∀ v u s2 x y H2, Inv X pins σ H2 s2 → RelV x v → RelV y u → R x y H2 → wpAny (model X.prog X.w) X.A (f v u) Q X.xe s2) :
    wpAny (model X.prog X.w) X.A (eval a X.env) (fun v s₁ => wpAny (model X.prog X.w) X.A (eval b X.env) (fun u s₂ => wpAny (model X.prog X.w) X.A (f v u) Q X.xe s₂) X.xe s₁) X.xe s := by
  refine thn (ha pins s σ H _ I h) fun v s1 ⟨x, H1, I1, r1, q1⟩ => ?_
  refine thn (hb pins s1 σ H1 _ I1 q1) fun u s2 ⟨y, H2, I2, r2, q2⟩ => ?_
  exact hf v u s2 x y H2 I2 r1 r2 q2
theorem pe_op {op : Operator} {r : R2} (ho : OpR X (binaryOp op) r) (ha : PE X a ta) (hb : PE X b tb) : PE X (.BinOp a op b pos) (tOp r ta tb) := by
  intro pins s σ H Q I h
  exact wpAny_BinOp (binT ha hb I h fun v u s2 x y H2 I2 rx ry q => ho pins s2 σ H2 x y v u Q I2 rx ry q)
theorem pe_un {op : UnaryOp} {r : V → Hp → VK → Prop} (ho : UnR X (unaryOp op) r) (ha : PE X a ta) : PE X (.UnaryOp op a pos) (tUn r ta) := by
  intro pins s σ H Q I h
  exact UnaryOp_ (thn (ha pins s σ H _ I h) fun v s1 ⟨x, H1, I1, r1, q1⟩ => ho pins s1 σ H1 x v Q I1 r1 q1)
theorem opI {f : Value → Value → Sem Value} {C : Int → Int → Prop} {g : Int → Int → Int}
    (rule : ∀ (i j : Int) (t u : Tok) (s : Shared) (Q : Value → Shared → Prop) (E : Value → Shared → Prop), C i j → Q (.int (g i j) s.toks) { s with toks := s.toks + 1 } → wpAny (model X.prog X.w) X.A (f (.int i t) (.int j u)) Q E s) :
    OpR X f (rI C fun i j => .int (g i j)) := by
  intro pins s σ H x y v u Q I rx ry h
  obtain ⟨i, j, rfl, rfl, hc, q⟩ := h
  obtain ⟨t, rfl⟩ := rx
  obtain ⟨t', rfl⟩ := ry
  exact rule i j t t' s _ _ hc ⟨.int (g i j), H, I.tok _, ⟨_, rfl⟩, q⟩
theorem opI0 {f : Value → Value → Sem Value} {g : Int → Int → Int}
    (rule : ∀ (i j : Int) (t u : Tok) (s : Shared) (Q : Value → Shared → Prop) (E : Value → Shared → Prop), Q (.int (g i j) s.toks) { s with toks := s.toks + 1 } → wpAny (model X.prog X.w) X.A (f (.int i t) (.int j u)) Q E s) :
    OpR X f (rI0 fun i j => .int (g i j)) := by
  intro pins s σ H x y v u Q I rx ry h
  obtain ⟨i, j, rfl, rfl, q⟩ := h
  obtain ⟨t, rfl⟩ := rx
  obtain ⟨t', rfl⟩ := ry
  exact rule i j t t' s _ _ ⟨.int (g i j), H, I.tok _, ⟨_, rfl⟩, q⟩
theorem opB0 {f : Value → Value → Sem Value} {g : Int → Int → Bool}
    (rule : ∀ (i j : Int) (t u : Tok) (s : Shared) (Q : Value → Shared → Prop) (E : Value → Shared → Prop), Q (.bool (g i j)) s → wpAny (model X.prog X.w) X.A (f (.int i t) (.int j u)) Q E s) :
    OpR X f (rI0 fun i j => .bl (g i j)) := by
  intro pins s σ H x y v u Q I rx ry h
  obtain ⟨i, j, rfl, rfl, q⟩ := h
  obtain ⟨t, rfl⟩ := rx
  obtain ⟨t', rfl⟩ := ry
  exact rule i j t t' s _ _ ⟨.bl (g i j), H, I, rfl, q⟩
def CDiv (i j : Int) : Prop := 0 < j ∧ j < 1073741824
def CMul (i j : Int) : Prop := (-(2 ^ 64) < i ∧ i < 2 ^ 64) ∨ (-(2 ^ 64) < j ∧ j < 2 ^ 64)
theorem CMul.ok {i j : Int} (h : CMul i j) : IntMulOk i j := by
  rcases h with ⟨h1, h2⟩ | ⟨h1, h2⟩
  · exact .of_left (intBits_le_64 h1 h2)
  · exact .of_right (intBits_le_64 h1 h2)
theorem op_add : OpR X (binaryOp .Add) (rI0 fun i j => .int (i + j)) := opI0 fun _ _ _ _ _ _ _ q => add_int q
theorem op_sub : OpR X (binaryOp .Sub) (rI0 fun i j => .int (i - j)) := opI0 fun _ _ _ _ _ _ _ q => sub_int q
theorem op_mul : OpR X (binaryOp .Mult) (rI CMul fun i j => .int (i * j)) := opI fun _ _ _ _ _ _ _ hc q => mul_int q hc.ok
theorem op_fdiv : OpR X (binaryOp .FloorDiv) (rI CDiv fun i j => .int (i / j)) := opI fun i j _ _ _ _ _ hc q => by
  have h1 : (0 : Int) < j := hc.1
  have h2 : j < 1073741824 := hc.2
  exact floordiv_int (by omega) (by rw [Int.fdiv_eq_ediv_of_nonneg i (by omega)]; exact q) (.inl (PyProof.noPylong_small (by omega)))
theorem op_mod : OpR X (binaryOp .Mod) (rI (fun _ j => 0 < j) fun i j => .int (i % j)) := opI fun i j _ _ _ _ _ hc q => by
  have h1 : (0 : Int) < j := hc
  exact mod_int' (by omega) (by rw [Int.fmod_eq_emod_of_nonneg i (by omega)]; exact q)
theorem unI {f : Value → Sem Value} {g : Int → Int}
    (rule : ∀ (i : Int) (t : Tok) (s : Shared) (Q : Value → Shared → Prop) (E : Value → Shared → Prop), Q (.int (g i) s.toks) { s with toks := s.toks + 1 } → wpAny (model X.prog X.w) X.A (f (.int i t)) Q E s) :
    UnR X f (rU fun i => .int (g i)) := by
  intro pins s σ H x v Q I rx h
  obtain ⟨i, rfl, q⟩ := h
  obtain ⟨t, rfl⟩ := rx
  exact rule i t s _ _ ⟨.int (g i), H, I.tok _, ⟨_, rfl⟩, q⟩
theorem un_neg : UnR X (unaryOp .USub) (rU fun i => .int (-i)) := unI fun _ _ _ _ _ q => neg_int q
end
def scal : V → V → Bool
  | .non, .non => true | .non, .int _ => true | .int _, .non => true | .non, .bl _ => true | .bl _, .non => true | .non, .str _ => true | .str _, .non => true
  | .int _, .int _ => true | .bl _, .bl _ => true | .str _, .str _ => true | .byt _, .byt _ => true
  | .int _, .str _ => true | .str _, .int _ => true | .bl _, .str _ => true | .str _, .bl _ => true
  | _, _ => false
def rNe : R2 := fun x y H Q => scal x y = true ∧ Q (.bl (!decide (x = y))) H
theorem dec_int {i j : Int} : decide (V.int i = V.int j) = (i == j) := by
  rw [Bool.eq_iff_iff]
  simp
theorem dec_bl {i j : Bool} : decide (V.bl i = V.bl j) = (i == j) := by
  rw [Bool.eq_iff_iff]
  simp
theorem dec_str {i j : Str} : decide (V.str i = V.str j) = (i == j) := by
  rw [Bool.eq_iff_iff]
  simp
theorem dec_byt {i j : Array UInt8} : decide (V.byt i = V.byt j) = (i.toList == j.toList) := by
  rw [Bool.eq_iff_iff]
  cases i
  cases j
  simp
section
variable {X : Cx} {a b c : Expr} {ta tb tc : TE} {pos : Pos}
theorem fin_bl {pins : List (Addr × Obj)} {σ : St} {H : Hp} {s : Shared} {Q : VK} {k k' : Bool} (I : Inv X pins σ H s) (q : Q (.bl k) H) (e : k = k') : EP X pins σ Q (.bool k') s := by
  subst e
  exact ⟨.bl k, H, I, rfl, q⟩
theorem op_ne : OpR X (compareOp .NotEq) rNe := by
  intro pins s σ H x y v u Q I rx ry h
  obtain ⟨hs, q⟩ := h
  cases x with
  | non =>
    cases rx
    cases y with
    | non => cases ry; exact PySem.EqNone.ne_none_none (fin_bl I q (by simp))
    | bl j => cases ry; exact PySem.EqNone.ne_none_bool (fin_bl I q (by simp))
    | int j => obtain ⟨t', rfl⟩ := ry; exact PySem.EqNone.ne_none_int (fin_bl I q (by simp))
    | str j => obtain ⟨t', rfl⟩ := ry; exact PySem.EqNone.ne_none_str (fin_bl I q (by simp))
    | _ => exact absurd (show false = true from hs) Bool.false_ne_true
  | bl i =>
    cases rx
    cases y with
    | non => cases ry; exact PySem.EqNone.ne_bool_none (fin_bl I q (by simp))
    | bl j => cases ry; exact ne_bool (fin_bl I q (congrArg not dec_bl))
    | str j => obtain ⟨t', rfl⟩ := ry; exact PySem.EqMixed.ne_bool_str (fin_bl I q (by simp))
    | _ => exact absurd (show false = true from hs) Bool.false_ne_true
  | int i =>
    obtain ⟨t, rfl⟩ := rx
    cases y with
    | non => cases ry; exact PySem.EqNone.ne_int_none (fin_bl I q (by simp))
    | int j => obtain ⟨t', rfl⟩ := ry; exact ne_int (fin_bl I q (congrArg not dec_int))
    | str j => obtain ⟨t', rfl⟩ := ry; exact PySem.EqMixed.ne_int_str (fin_bl I q (by simp))
    | _ => exact absurd (show false = true from hs) Bool.false_ne_true
  | str i =>
    obtain ⟨t, rfl⟩ := rx
    cases y with
    | non => cases ry; exact PySem.EqNone.ne_str_none (fin_bl I q (by simp))
    | bl j => cases ry; exact PySem.EqMixed.ne_str_bool (fin_bl I q (by simp))
    | int j => obtain ⟨t', rfl⟩ := ry; exact PySem.EqMixed.ne_str_int (fin_bl I q (by simp))
    | str j => obtain ⟨t', rfl⟩ := ry; exact ne_str (fin_bl I q (congrArg not dec_str))
    | _ => exact absurd (show false = true from hs) Bool.false_ne_true
  | byt i =>
    obtain ⟨t, rfl⟩ := rx
    cases y with
    | byt j => obtain ⟨t', rfl⟩ := ry; exact PySem.W.ne_bytes (fin_bl I q (congrArg not dec_byt))
    | _ => exact absurd (show false = true from hs) Bool.false_ne_true
  | _ => cases y <;> exact absurd (show false = true from hs) Bool.false_ne_true
theorem op_lt : OpR X (compareOp .Lt) (rI0 fun i j => .bl (decide (i < j))) := opB0 fun _ _ _ _ _ _ _ q => lt_int q
theorem op_le : OpR X (compareOp .LtE) (rI0 fun i j => .bl (decide (i ≤ j))) := opB0 fun _ _ _ _ _ _ _ q => le_int q
theorem op_gt : OpR X (compareOp .Gt) (rI0 fun i j => .bl (decide (j < i))) := opB0 fun _ _ _ _ _ _ _ q => gt_int q
theorem op_ge : OpR X (compareOp .GtE) (rI0 fun i j => .bl (decide (j ≤ i))) := opB0 fun _ _ _ _ _ _ _ q => ge_int q
theorem op_isN : OpR X (compareOp .Is) (fun x y H Q => y = .non ∧ Q (.bl (decide (x = .non))) H) := by
  intro pins s σ H x y v u Q I rx ry h
  obtain ⟨rfl, q⟩ := h
  cases ry
  refine is_none_gen (fin_bl I q ?_)
  cases x <;> first
    | (cases rx; rfl)
    | (obtain ⟨t, rfl⟩ := rx; rfl)
theorem nomark (b : Expr) {op : CmpOp} (h : op ≠ .In := by decide) (h2 : op ≠ .NotIn := by decide) : behindInMarks op b = false := by
  have e1 : (op == CmpOp.In) = false := by cases op <;> first | rfl | exact absurd rfl h
  have e2 : (op == CmpOp.NotIn) = false := by cases op <;> first | rfl | exact absurd rfl h2
  cases b <;> simp [behindInMarks, e1, e2]
theorem pe_cmpR {op : CmpOp} {r : R2} (ho : OpR X (compareOp op) r) (ha : PE X a ta) (hb : PE X b tb) (hm : behindInMarks op b = false) : PE X (.Compare a [op] [b] pos) (tOp r ta tb) := by
  intro pins s σ H Q I h
  exact wpAny_Compare1 (binT ha hb I h fun v u s2 x y H2 I2 rx ry q => ho pins s2 σ H2 x y v u Q I2 rx ry q) hm
def tTest (t : TE) : TT := fun σ H Q => t σ H fun x H' => ∃ k, x = .bl k ∧ Q k H'
theorem pt_cmpR {op : CmpOp} {r : R2} (ho : OpR X (compareOp op) r) (ha : PE X a ta) (hb : PE X b tb) (hm : behindInMarks op b = false) : PT X (.Compare a [op] [b] pos) (tTest (tOp r ta tb)) := by
  intro pins s σ H Q I h
  refine wpAny_isTrue_Compare1 (thn (ha pins s σ H _ I h) fun v s1 ⟨x, H1, I1, r1, q1⟩ => thn (hb pins s1 σ H1 _ I1 q1) fun u s2 ⟨y, H2, I2, r2, q2⟩ =>
    thn (ho pins s2 σ H2 x y v u _ I2 r1 r2 q2) fun c s3 ⟨z, H3, I3, r3, k, e, q3⟩ => ?_) hm
  subst e
  cases r3
  exact wpAny_truthy_bool ⟨H3, I3, q3⟩
def tChain (r r' : R2) (ta tb tc : TE) : TE := fun σ H Q => ta σ H fun x H1 => tb σ H1 fun y H2 => r x y H2 fun z H3 => ∃ k, z = .bl k ∧
  (if k = true then tc σ H3 fun w' H4 => r' y w' H4 Q else Q (.bl false) H3)
theorem pe_chain {op op' : CmpOp} {r r' : R2} (ho : OpR X (compareOp op) r) (ho' : OpR X (compareOp op') r') (ha : PE X a ta) (hb : PE X b tb) (hc : PE X c tc)
    (hm : lastMarks [op, op'] [b, c] = false := by with_unfolding_all rfl) : PE X (.Compare a [op, op'] [b, c] pos) (tChain r r' ta tb tc) := by
  intro pins s σ H Q I h
  refine Compare_chain (thn (ha pins s σ H _ I h) fun v s1 ⟨x, H1, I1, r1, q1⟩ => chain_link (thn (hb pins s1 σ H1 _ I1 q1) fun u s2 ⟨y, H2, I2, r2, q2⟩ =>
    thn (ho pins s2 σ H2 x y v u _ I2 r1 r2 q2) fun d s3 ⟨z, H3, I3, r3, k, e, q3⟩ => ?_)) hm
  subst e
  cases r3
  refine wpAny_truthy_bool ?_
  cases k with
  | false => exact ite_ff ⟨.bl false, H3, I3, rfl, q3⟩
  | true => exact ite_tt (chain_last (thn (hc pins s3 σ H3 _ I3 q3) fun w' s4 ⟨z', H4, I4, r4, q4⟩ => ho' pins s4 σ H4 y z' u w' Q I4 r2 r4 q4))
theorem pt_chain {op op' : CmpOp} {r r' : R2} (ho : OpR X (compareOp op) r) (ho' : OpR X (compareOp op') r') (ha : PE X a ta) (hb : PE X b tb) (hc : PE X c tc)
    (hm : lastMarks [op, op'] [b, c] = false := by with_unfolding_all rfl) : PT X (.Compare a [op, op'] [b, c] pos) (tTest (tChain r r' ta tb tc)) := by
  intro pins s σ H Q I h
  refine isTrue_chain (thn (ha pins s σ H _ I h) fun v s1 ⟨x, H1, I1, r1, q1⟩ => test_link (thn (hb pins s1 σ H1 _ I1 q1) fun u s2 ⟨y, H2, I2, r2, q2⟩ =>
    thn (ho pins s2 σ H2 x y v u _ I2 r1 r2 q2) fun d s3 ⟨z, H3, I3, r3, k, e, q3⟩ => ?_)) hm
  subst e
  cases r3
  refine wpAny_truthy_bool ?_
  cases k with
  | false =>
    obtain ⟨k', e', q'⟩ := q3
    cases e'
    exact ite_ff ⟨H3, I3, q'⟩
  | true =>
    refine ite_tt (test_last (thn (hc pins s3 σ H3 _ I3 q3) fun w' s4 ⟨z', H4, I4, r4, q4⟩ => thn (ho' pins s4 σ H4 y z' u w' _ I4 r2 r4 q4) fun d' s5 ⟨z2, H5, I5, r5, k2, e2, q5⟩ => ?_))
    subst e2
    cases r5
    exact wpAny_truthy_bool ⟨H5, I5, q5⟩
theorem line63 : (sizeLine : Nat) < 2 ^ 63 := by rw [sizeLine_eq]; decide
theorem vals1 {x : V} {us : List Value} (r : Vals [x] us) : ∃ u, us = [u] ∧ RelV x u := by
  cases r with
  | cons r1 r2 => cases r2; exact ⟨_, rfl, r1⟩
end
end L2
namespace L2
open PySem PySem.Spec PyProof.Rows
structure ObjM (h : Heap) (x dx C : Addr) (mA : Str → Option Value) : Prop where
  obj : h.get? x = some (PySem.W.instObj C dx)
  ns : h.Ns1 dx mA
  ne : dx ≠ x
theorem lookIn_ns {h : Heap} {dx : Addr} {mA : Str → Option Value} (n : h.Ns1 dx mA) : ∃ od, h.get? dx = some od ∧ ∀ name, PySem.W.lookIn name od = some (mA name) := by
  obtain ⟨o, es, ep, ho, hd, hk, _, hm⟩ := n
  refine ⟨o, ho, fun name => ?_⟩
  have e := hm name
  unfold nsFind findBy at e
  rw [← Array.find?_toList] at e
  unfold PySem.W.lookIn
  rw [hd]
  dsimp only
  split
  · rename_i y q
    rw [q] at e
    exact congrArg some e
  · rename_i q
    rw [q] at e
    have a : es.toList.any (·.refKey) = false := by
      rw [List.any_eq_false]
      intro y hy
      obtain ⟨z, t, hkey⟩ := hk y (Array.mem_toList_iff.mp hy)
      simp [DictEntry.refKey, hkey]
    have a' : ¬ es.toList.any (·.refKey) = true := by rw [a]; exact Bool.false_ne_true
    rw [if_neg a']
    exact congrArg some e
theorem ObjM.look {h : Heap} {x dx C : Addr} {mA : Str → Option Value} (I : ObjM h x dx C mA) : ∃ od, PySem.W.InstAt h x (PySem.W.instObj C dx) C (some od) ∧ ∀ name, PySem.W.lookIn name od = some (mA name) :=
  let ⟨od, ho, hl⟩ := lookIn_ns I.ns
  ⟨od, ⟨I.obj, rfl, rfl, ho⟩, hl⟩
section
variable {prog : Program} {w : World} {A : Around} {E : Value → Shared → Prop} {s : Shared} {K : PySem.W.Frag} {x dx C f : Addr} {mA : Str → Option Value} {name : Str} {v : Value}
theorem get_meth {pl : Sem Bool} {Q : Value × List Value → Shared → Prop} (X : K.In s.heap) (I : ObjM s.heap x dx C mA) (hg : PySem.W.plainGet K C name = true)
    (hf : PySem.W.findIn K (.ref C) name = some (some (.ref f))) (ht : PySem.W.isFn K (.ref f) = true) (hv : mA name = none) (h : Q (.ref f, [.ref x]) s) :
    wpAny (model prog w) A (getMethod (.ref x) name pl) Q E s := by
  obtain ⟨od, J, hl⟩ := I.look
  exact PySem.W.method_fn X J (PySem.W.plainGet_of hg).1 (PySem.W.plainGet_of hg).2 hf (beq_iff_eq.mp ht) (by show (PySem.W.lookIn name od).map (·.isSome) = some false; rw [hl, hv]; rfl) h
theorem set_map {ns : List Str} {Q : Unit → Shared → Prop} (X : K.In s.heap) (I : ObjM s.heap x dx C mA)
    (hs : PySem.W.findIn K (.ref C) "__setattr__" = some (some (.builtin "object.__setattr__"))) (hp : PySem.W.plainOver K C = true) (ht : PySem.W.takerIn K C name = some none) (hh : PySem.W.hasDictIn K C = true)
    (hw : PySem.Within mA ns) (hsz : ns.length ≤ sizeLine)
    (h : ∀ h', ObjM h' x dx C (fun y => if y = name then some v else mA y) → Heap.SameBut dx s.heap h' → Q () { s with heap := h', toks := s.toks + 2 }) :
    wpAny (model prog w) A (setAttr (.ref x) name v) Q E s := by
  obtain ⟨od, J, hl⟩ := I.look
  refine PySem.W.set_plain X J hs (PySem.W.osa_open (s := { s with toks := s.toks + 1 }) (r := none) X J hp ht fun b => ?_)
  obtain ⟨cd, hc, hd'⟩ := PySem.W.any_some hh
  have hx : s.heap.get? x = some ⟨.ref C, some dx, .plain, #[]⟩ := I.obj
  refine wpAny_bind (wpAny_pure (wpAny_bind (wpAny_bind (wpAny_loadPart hx (wpAny_bind (PySem.W.Looks.here (s := { s with toks := s.toks + 1 }) (PySem.W.looks_clsIn X hc) ?_))))))
  rw [hd']
  refine wpAny_pure (a := some dx) (wpAny_bind (wpAny_pure (wpAny_bind ?_)))
  refine wpAny_nsSet1 (s := { s with toks := s.toks + 1 }) I.ns fun h' hn2 hs2 => ?_
  obtain ⟨oD, esD, epD, hoD, hdD, hcD⟩ := hn2.count (PySem.Within.cons name v hw)
  refine wpAny_bind (wpAny_lookBehind hoD (by rw [hdD]; exact pastItsLine_dict (Nat.le_trans hcD (by rw [List.length_cons]; omega))) ?_)
  exact wpAny_pure (h _ ⟨(hs2.2 _ (Ne.symm I.ne)).trans I.obj, hn2, I.ne⟩ hs2)
theorem make_map {R : Result → Shared → Prop} {vs : List Value} {kw : List (Str × Value)} (X : K.In s.heap) (hm : PySem.W.makesIn K C = true)
    (hi : PySem.W.findIn K (.ref C) "__init__" = some (some (.ref f))) (hf : PySem.W.typeIn K (.ref f) = some (.type "function"))
    (h : codeAny (model prog w) (A.under (.builtin "type.__call__" ⟨.ref C :: vs, kw⟩)) (.call (.ref f) ⟨.ref (s.heap.objs.size + 1) :: vs, kw⟩) (PySem.W.InitBack (s.heap.objs.size + 1) R)
      { s with heap := (s.heap.push PySem.W.emptyDict).push (PySem.W.instObj C s.heap.objs.size) }) :
    codeAny (model prog w) A (.call (.ref C) ⟨vs, kw⟩) R s := by
  obtain ⟨hh, g, d, t, os⟩ := s
  exact PySem.W.make_core (PySem.W.makes_of X hm) (PySem.W.looks_findIn X hi) (fun self => PySem.W.bind_fn X self hf) (.inl rfl) h
end
def putF (f : Str) (v : V) : List (Str × V) → List (Str × V)
  | [] => [(f, v)]
  | (g, x) :: r => if g = f then (g, v) :: r else (g, x) :: putF f v r
theorem lookup_putF (f g : Str) (v : V) : ∀ fs : List (Str × V), (putF f v fs).lookup g = if g = f then some v else fs.lookup g
  | [] => by
    show List.lookup g [(f, v)] = _
    by_cases h : g = f
    · have hb : (g == f) = true := beq_iff_eq.mpr h
      simp only [List.lookup, hb, if_pos h]
    · have hb : (g == f) = false := beq_eq_false_iff_ne.mpr h
      simp only [List.lookup, hb, if_neg h]
  | (k, x) :: r => by
    have ih := lookup_putF f g v r
    rw [show putF f v ((k, x) :: r) = (if k = f then (k, v) :: r else (k, x) :: putF f v r) from rfl]
    by_cases hk : k = f
    · rw [if_pos hk]
      by_cases h : g = k
      · have hb : (g == k) = true := beq_iff_eq.mpr h
        simp only [List.lookup, hb, if_pos (h.trans hk)]
      · have hb : (g == k) = false := beq_eq_false_iff_ne.mpr h
        simp only [List.lookup, hb, if_neg (fun e : g = f => h (e.trans hk.symm))]
    · rw [if_neg hk]
      by_cases h : g = k
      · have hb : (g == k) = true := beq_iff_eq.mpr h
        simp only [List.lookup, hb, if_neg (fun e : g = f => hk (h.symm.trans e))]
      · have hb : (g == k) = false := beq_eq_false_iff_ne.mpr h
        simp only [List.lookup, hb]
        exact ih
theorem keys_putF (f : Str) (v : V) : ∀ fs : List (Str × V), f ∈ (putF f v fs).map (·.1) ∧ ∀ g, g ∈ fs.map (·.1) → g ∈ (putF f v fs).map (·.1)
  | [] => ⟨by simp [putF], fun g h => by simp at h⟩
  | (k, x) :: r => by
    obtain ⟨i1, i2⟩ := keys_putF f v r
    rw [show putF f v ((k, x) :: r) = (if k = f then (k, v) :: r else (k, x) :: putF f v r) from rfl]
    by_cases hk : k = f
    · rw [if_pos hk]
      subst hk
      exact ⟨by simp, fun g h => by simpa using h⟩
    · rw [if_neg hk]
      refine ⟨?_, fun g h => ?_⟩
      · rw [List.map_cons]
        exact List.mem_cons_of_mem _ i1
      · rw [List.map_cons] at h ⊢
        rcases List.mem_cons.mp h with e | e
        · exact List.mem_cons.mpr (.inl e)
        · exact List.mem_cons_of_mem _ (i2 g e)
theorem length_putF (f : Str) (v : V) : ∀ fs : List (Str × V), (putF f v fs).length ≤ fs.length + 1
  | [] => by simp [putF]
  | (k, x) :: r => by
    have ih := length_putF f v r
    rw [show putF f v ((k, x) :: r) = (if k = f then (k, v) :: r else (k, x) :: putF f v r) from rfl]
    by_cases hk : k = f
    · rw [if_pos hk, List.length_cons, List.length_cons]; omega
    · rw [if_neg hk, List.length_cons, List.length_cons]; omega
theorem RelO.none_of {o : Option Value} (r : RelO none o) : o = none := by
  cases o with
  | none => rfl
  | some u => exact (show False from r).elim
section
variable {P : Program} {w : World} {H H' : Hp} {h h' : Heap} {a C dx : Addr} {fs fs' : List (Str × V)}
theorem ins_get (hok : HOk P w H h) (e : H a = some (.ins C dx fs)) : ∃ mA, ObjM h a dx C mA ∧ (∀ f, RelO (fs.lookup f) (mA f)) ∧ PySem.Within mA (fs.map (·.1)) ∧ fs.length ≤ 1000 ∧ H dx = some (.own a) := by
  obtain ⟨d, z, ne, ob, mA, n, r, q⟩ := (show ObjOk P w H h a (.ins C dx fs) from hok a _ e)
  exact ⟨mA, ⟨ob, n, ne⟩, r, q, z, d⟩
end
structure Cls (K : PySem.W.Frag) (C : Addr) : Prop where
  pg : PySem.W.plainGet K C Str.empty = true
  hd : PySem.W.hasDictIn K C = true
  po : PySem.W.plainOver K C = true
  sa : PySem.W.findIn K (.ref C) "__setattr__" = some (some (.builtin "object.__setattr__"))
theorem Cls.get {K : PySem.W.Frag} {C : Addr} (c : Cls K C) (f : Str) : PySem.W.plainGet K C f = true := c.pg
def NoAttr (K : PySem.W.Frag) (C : Addr) (f : Str) : Prop := PySem.W.findIn K (.ref C) f = some none
theorem NoAttr.taker {K : PySem.W.Frag} {C : Addr} {f : Str} (n : NoAttr K C f) : PySem.W.takerIn K C f = some none := by
  unfold PySem.W.takerIn
  rw [show PySem.W.findIn K (.ref C) f = some none from n]
  rfl
structure Con (K : PySem.W.Frag) (C : Addr) (f : Str) (v : V) (u : Value) : Prop where
  at_ : PySem.W.findIn K (.ref C) f = some (some u)
  rel : RelV v u
  get : PySem.W.specialIn K u "__get__" = some none
  cp : PySem.W.copiedNames.contains f = false
structure Meth (K : PySem.W.Frag) (C : Addr) (m : Str) (f : Addr) : Prop where
  at_ : PySem.W.findIn K (.ref C) m = some (some (.ref f))
  fn : PySem.W.isFn K (.ref f) = true
  kp : PySem.W.keepIn K (.ref f) = true
section
variable {X : Cx} {pins : List (Addr × Obj)} {σ : St} {H : Hp} {s : Shared} {a C dx : Addr} {fs : List (Str × V)} {f : Str} {v : V} {A : Around} {E : Value → Shared → Prop}
theorem getmeth_ok {m : Str} {g : Addr} {pl : Sem Bool} {Q : Value × List Value → Shared → Prop} (I : Inv X pins σ H s) (e : H a = some (.ins C dx fs)) (c : Cls X.K C) (k : Meth X.K C m g) (l : fs.lookup m = none)
    (h : Q (.ref g, [.ref a]) s) : wpAny (model X.prog X.w) A (getMethod (.ref a) m pl) Q E s := by
  obtain ⟨mA, O, r, _, _, _⟩ := ins_get I.hok e
  have hn : mA m = none := RelO.none_of (by rw [← l]; exact r m)
  exact get_meth I.kIn O (c.get m) k.at_ k.fn hn h
theorem setattr_ok {y : V} {u : Value} {Q : Unit → Shared → Prop} (I : Inv X pins σ H s) (e : H a = some (.ins C dx fs)) (c : Cls X.K C) (n : NoAttr X.K C f) (hl : fs.length < 1000) (ry : RelV y u)
    (h : ∀ s', Inv X pins σ (upd H a (.ins C dx (putF f y fs))) s' → Q () s') : wpAny (model X.prog X.w) A (setAttr (.ref a) f u) Q E s := by
  obtain ⟨mA, O, r, wi, _, ho⟩ := ins_get I.hok e
  have hz : (fs.map (·.1)).length ≤ sizeLine := by rw [List.length_map, sizeLine_eq]; omega
  refine set_map I.kIn O c.sa c.po n.taker c.hd wi hz fun h' O' sb => h _ ?_
  have hd : ∃ o, h'.get? dx = some o := let ⟨o, _, _, e', _⟩ := O'.ns; ⟨o, e'⟩
  refine I.write (x := a) (e := dx) (by rw [e]; exact True.intro) (.inr ho) (fun b q hb z => (sb.2 b hb).trans z) hd ?_
  refine ⟨by rw [upd_ne O.ne]; exact ho, ?_, O.ne, O'.obj, _, O'.ns, fun g => ?_, fun g hg => ?_⟩
  · have := length_putF f y fs; omega
  · show RelO ((putF f y fs).lookup g) (if g = f then some u else mA g)
    rw [lookup_putF]
    by_cases q : g = f
    · rw [if_pos q, if_pos q]; exact ry
    · rw [if_neg q, if_neg q]; exact r g
  · by_cases q : g = f
    · rw [q]; exact (keys_putF f y fs).1
    · refine (keys_putF f y fs).2 g (wi g fun z => hg ?_)
      show (if g = f then some u else mA g) = none
      rw [if_neg q]; exact z
theorem Inv.made (I : Inv X pins σ H s) : Inv X pins σ (upd (upd H s.heap.objs.size (.own (s.heap.objs.size + 1))) (s.heap.objs.size + 1) (.ins C s.heap.objs.size []))
    { s with heap := (s.heap.push PySem.W.emptyDict).push (PySem.W.instObj C s.heap.objs.size) } := by
  have e1 : (s.heap.push PySem.W.emptyDict).get? s.heap.objs.size = some PySem.W.emptyDict := Heap.get?_push_size s.heap rfl
  have e2 : ((s.heap.push PySem.W.emptyDict).push (PySem.W.instObj C s.heap.objs.size)).get? (s.heap.objs.size + 1) = some (PySem.W.instObj C s.heap.objs.size) := by
    have := Heap.get?_push_size (s.heap.push PySem.W.emptyDict) (o := PySem.W.instObj C s.heap.objs.size) rfl
    rwa [Heap.size_push] at this
  have e3 : (s.heap.push PySem.W.emptyDict).Ns s.heap.objs.size (fun _ => none) := ⟨PySem.W.emptyDict, #[], _, e1, rfl, (fun e he => absurd he (by simp)), fun _ => rfl⟩
  have I1 := I.laid (a := s.heap.objs.size) (o := .own (s.heap.objs.size + 1)) (h' := s.heap.push PySem.W.emptyDict) (t' := s.toks) (fun b u q => Heap.get?_push_of_some _ q) (Nat.le_refl _) ⟨_, e1⟩
  refine I1.laid (a := s.heap.objs.size + 1) (o := .ins C s.heap.objs.size []) (t' := s.toks) (fun b u q => Heap.get?_push_of_some _ q) (Nat.le_of_eq (Heap.size_push _ _)) ?_
  have ne : s.heap.objs.size ≠ s.heap.objs.size + 1 := Nat.ne_of_lt (Nat.lt_succ_self _)
  refine ⟨by rw [upd_ne ne, upd_same], Nat.zero_le _, ne, e2, fun _ => none, (Heap.Ns1.of_empty e3).at fun o q => Heap.get?_push_of_some _ q, fun _ => True.intro, fun y hy => absurd rfl hy⟩
end
def sFld (K : PySem.W.Frag) (ta tv : TE) (f : Str) : TS := fun D σ H => tv σ H fun y H1 => ta σ H1 fun x H2 => ∃ a C dx fs, x = .ref a ∧ H2 a = some (.ins C dx fs) ∧ Cls K C ∧ NoAttr K C f ∧ fs.length < 1000 ∧
  D.nx σ (upd H2 a (.ins C dx (putF f y fs)))
section
variable {X : Cx} {o e value : Expr} {f : Str} {pos pos' tpos : Pos} {ta tv : TE}
theorem ps_fld (ha : PE X o ta) (hv : PE X value tv) (hs : swapsWith value (some (.Attribute o f pos')) pos.line X.env = pure false) : PS X (.Assign [.Attribute o f pos'] value pos) (sFld X.K ta tv f) := by
  intro pins s σ H D I h
  refine plainObj_wpAny_Assign_Attribute (thn (hv pins s σ H _ I h) fun u s1 ⟨y, H1, I1, ry, q⟩ => thn (ha pins s1 σ H1 _ I1 q) fun ov s2 ⟨x, H2, I2, rx, a, C, dx, fs, ex, ea, c, n, l, q2⟩ => ?_) hs
  subst ex
  obtain rfl : ov = Value.ref a := rx
  exact setattr_ok I2 ea c n l ry fun s3 I3 => ⟨σ, _, I3, q2⟩
end
section
variable {X : Cx} {pins : List (Addr × Obj)} {σ : St} {H : Hp} {s : Shared} {A : Around} {E : Value → Shared → Prop} {Q : Value → Shared → Prop} {c : Value} {b : Bool}
inductive TyOf (K : PySem.W.Frag) (H : Hp) : V → Value → Prop where
  | non : TyOf K H .non (.type "NoneType")
  | bl (x : Bool) : TyOf K H (.bl x) (.type "bool")
  | int (i : Int) : TyOf K H (.int i) (.type "int")
  | str (x : Str) : TyOf K H (.str x) (.type "str")
  | flt (x : UInt64) : TyOf K H (.flt x) (.type "float")
  | lst {a : Addr} {xs : List V} (e : H a = some (.lst xs)) : TyOf K H (.ref a) (.type "list")
  | frz {a : Addr} {o : Obj} {xs : List V} (e : H a = some (.frz o (.lst xs))) : TyOf K H (.ref a) (.type "list")
  | tup {a : Addr} {xs : List V} (e : H a = some (.tup xs)) : TyOf K H (.ref a) (.type "tuple")
  | dK {a : Addr} {kvs : List (Key × V)} (e : H a = some (.dK kvs)) : TyOf K H (.ref a) (.type "dict")
  | dT {a : Addr} {kvs : List (List Key × V)} (e : H a = some (.dT kvs)) : TyOf K H (.ref a) (.type "dict")
  | ins {a C dx : Addr} {fs : List (Str × V)} (e : H a = some (.ins C dx fs)) (cl : Cls K C) (ha : PySem.W.findIn K (.ref C) "__class__" = some (some (.builtin "object.__class__")))
      (hn : PySem.W.specialIn K (.builtin "object.__class__") "__get__" = some (some (.builtin "getset_descriptor.__get__"))) (htk : PySem.W.takesIn K (.builtin "object.__class__") = some true)
      (hm : PySem.W.mroIn K C (.type "object") = some true) : TyOf K H (.ref a) (.ref C)
end
end L2
namespace L2
open PySem PySem.Spec PyProof.Rows
structure Room (k : Nat) (A : Around) : Prop where
  hd : A.handled = none
  dp : A.depth + 3 * k + 5 < recursionLimit
  un : A.units + 16 * k + 200 < cLine
theorem Room.mono {j k : Nat} {A : Around} (r : Room k A) (h : j ≤ k) : Room j A := ⟨r.hd, by have := r.dp; omega, by have := r.un; omega⟩
theorem Room.deeper {k : Nat} {A : Around} (r : Room (k + 1) A) (env : Env) : Room k (A.deeper env) :=
  ⟨r.hd, by have := r.dp; show A.depth + 1 + 3 * k + 5 < _; omega, by have := r.un; show A.units + 3 + 16 * k + 200 < _; omega⟩
theorem Room.in1 {k : Nat} {A : Around} (r : Room (k + 1) A) : Room k A.in1 :=
  ⟨r.hd, by have := r.dp; show A.depth + 3 * k + 5 < _; omega, by have := r.un; show A.units + 1 + 16 * k + 200 < _; omega⟩
theorem make_depth {A : Around} {C : Addr} {us : List Value} {kw : List (Str × Value)} : (A.under (.builtin "type.__call__" ⟨.ref C :: us, kw⟩)).depth = A.depth + 1 := by
  first | rfl | simp [Around.under, Code.weight, Code.isCreation, Code.isGuard, Code.isCaller, Code.frames, Code.isFrame, guardIds]
theorem make_units {A : Around} {C : Addr} {us : List Value} {kw : List (Str × Value)} : (A.under (.builtin "type.__call__" ⟨.ref C :: us, kw⟩)).units = A.units + 1 := by
  first | rfl | simp [Around.under, Code.cUnits, Code.frames, Code.isFrame]
theorem Room.make {k : Nat} {A : Around} (r : Room (k + 1) A) (C : Addr) (us : List Value) (kw : List (Str × Value)) : Room k (A.under (.builtin "type.__call__" ⟨.ref C :: us, kw⟩)) :=
  ⟨r.hd, by have := r.dp; rw [make_depth]; omega, by have := r.un; rw [make_units]; omega⟩
theorem Room.depth {k : Nat} {A : Around} (r : Room k A) : A.depth < recursionLimit := by have := r.dp; omega
theorem Room.units {k : Nat} {A : Around} (r : Room k A) : A.units + 64 < cLine := by have := r.un; omega
def tNil : TA := fun _ H Q => Q [] H
def tCons (ta : TE) (tr : TA) : TA := fun σ H Q => ta σ H fun x H1 => tr σ H1 fun xs H2 => Q (x :: xs) H2
section
variable {X : Cx} {e : Expr} {es : List Expr} {te : TE} {t : TA} {pos : Pos}
theorem pa_nil : PA X [] tNil := fun _ _ _ _ H Q I h => Calls.spliced_nil ⟨[], H, I, .nil, h⟩
theorem pa_cons (ha : PE X e te) (hr : PA X es t) (hs : starEach (e :: es) X.env = (false, eval e X.env) :: starEach es X.env := by rfl) : PA X (e :: es) (tCons te t) := by
  intro pos pins s σ H Q I h
  rw [hs]
  show wpAny _ _ (spliced ((false, eval e X.env) :: backTo pos (starEach es X.env))) _ _ s
  refine Calls.spliced_cons (thn (ha pins s σ H _ I h) fun u s1 ⟨x, H1, I1, r1, q1⟩ => ?_)
  exact thn (hr pos pins s1 σ H1 _ I1 q1) fun us s2 ⟨xs, H2, I2, r2, q2⟩ => ⟨x :: xs, H2, I2, .cons r1 r2, q2⟩
def tTup (t : TA) : TE := fun σ H Q => t σ H fun xs H1 => xs.length ≤ sizeLine ∧ ∀ p, H1 p = none → Q (.ref p) (upd H1 p (.tup xs))
def tLst (t : TA) : TE := fun σ H Q => t σ H fun xs H1 => xs.length ≤ sizeLine ∧ ∀ p, H1 p = none → Q (.ref p) (upd H1 p (.lst xs))
theorem pe_tup {x1} (h : PA X es t) : PE X (.Tuple es x1 pos) (tTup t) := by
  intro pins s σ H Q I hq
  refine wpAny_Tuple_spliced (thn (h pos pins s σ H _ I hq) fun us s1 ⟨xs, H1, I1, r, z, q⟩ => ⟨by rw [← r.length]; exact z, ?_⟩)
  have hf : H1 s1.heap.objs.size = none := I1.hok.fresh (Nat.le_refl _)
  refine ⟨.ref s1.heap.objs.size, upd H1 s1.heap.objs.size (.tup xs), I1.laid (t' := s1.toks) (fun b u e => Heap.get?_push_of_some _ e) (Nat.le_refl _) ?_, rfl, q _ hf⟩
  exact ⟨z, us, r, ⟨_, Heap.get?_push_size _ rfl, ⟨rfl, rfl⟩, _, rfl⟩⟩
theorem pe_lst (h : PA X es t) : PE X (.List es pos) (tLst t) := by
  intro pins s σ H Q I hq
  refine wpAny_List_spliced (thn (h pos pins s σ H _ I hq) fun us s1 ⟨xs, H1, I1, r, z, q⟩ => ⟨by rw [← r.length]; exact z, ?_⟩)
  have hf : H1 s1.heap.objs.size = none := I1.hok.fresh (Nat.le_refl _)
  refine ⟨.ref s1.heap.objs.size, upd H1 s1.heap.objs.size (.lst xs), I1.laid (t' := s1.toks) (fun b u e => Heap.get?_push_of_some _ e) (Nat.le_refl _) ?_, rfl, q _ hf⟩
  exact ⟨z, us, 0, r, Heap.get?_push_size _ rfl⟩
end
abbrev Sp := List V → Hp → VK → XK → Prop
abbrev CXT := List Env → Hp → Shared → XK → Value → Shared → Prop
structure Env0 (P : Program) (w : World) (K : PySem.W.Frag) (mg : Str → Option Value) (base : Heap) (A : Around) (outer : List Env) (s : Shared) (H : Hp) : Prop where
  frames : A.frames = some outer
  mod : Mod K mg base
  bs : ∀ b o, base.get? b = some o → s.heap.get? b = some o ∧ H b = none
  bsz : base.objs.size ≤ s.heap.objs.size
  funs : s.heap.FunFrames base outer
  frf : ∀ b ∈ frs outer, H b = none
  hok : HOk P w H s.heap
  bare : AllBare s.gens
def CE (outer : List Env) (P : Program) (w : World) (H : Hp) (s : Shared) (Q : VK) (u : Value) (s' : Shared) : Prop :=
  ∃ v H', s'.os = s.os ∧ AllBare s'.gens ∧ Un (frs outer) [] H H' s.heap s'.heap ∧ HOk P w H' s'.heap ∧ RelV v u ∧ Q v H'
def CR (CX : CXT) (outer : List Env) (P : Program) (w : World) (H : Hp) (s : Shared) (Q : VK) (E : XK) (r : Result) (s' : Shared) : Prop :=
  match r with
  | .ok (.ret u) => CE outer P w H s Q u s'
  | .ok _ => False
  | .error e => CX outer H s E e s'
structure FnOk (P : Program) (w : World) (K : PySem.W.Frag) (mg : Str → Option Value) (base : Heap) (CX : CXT) (k : Nat) (f : Addr) (fd : FuncData) (ps : List Str) (sp : Sp) : Prop where
  len : ∀ vs H Q E, sp vs H Q E → vs.length = ps.length
  run : ∀ (A : Around) (outer : List Env) (s : Shared) (H : Hp) (args : Args) (us : List Value) (vs : List V) (Q : VK) (E : XK), Room k A → Env0 P w K mg base A outer s H → BindsTo s fd args (ps.zip us) → Vals vs us → sp vs H Q E →
    codeAny (model P w) A (.call (.ref f) args) (CR CX outer P w H s Q E) s
theorem FnOk.mono {P : Program} {w : World} {K : PySem.W.Frag} {mg : Str → Option Value} {base : Heap} {CX : CXT} {j k : Nat} {f : Addr} {fd : FuncData} {ps : List Str} {sp : Sp} (F : FnOk P w K mg base CX j f fd ps sp) (h : j ≤ k) :
    FnOk P w K mg base CX k f fd ps sp := ⟨F.len, fun A outer s H args us vs Q E hr => F.run A outer s H args us vs Q E (hr.mono h)⟩
theorem Env0.make {P : Program} {w : World} {K : PySem.W.Frag} {mg : Str → Option Value} {base : Heap} {A : Around} {outer : List Env} {s : Shared} {H : Hp} (e : Env0 P w K mg base A outer s H) (C : Addr) (us : List Value) (kw : List (Str × Value)) :
    Env0 P w K mg base (A.under (.builtin "type.__call__" ⟨.ref C :: us, kw⟩)) outer s H := ⟨by first | exact e.frames | (simpa [Around.under, Code.envs, Code.isFrame, pushEnvs] using e.frames), e.mod, e.bs, e.bsz, e.funs, e.frf, e.hok, e.bare⟩
theorem Env0.in1 {P : Program} {w : World} {K : PySem.W.Frag} {mg : Str → Option Value} {base : Heap} {A : Around} {outer : List Env} {s : Shared} {H : Hp} (e : Env0 P w K mg base A outer s H) :
    Env0 P w K mg base A.in1 outer s H := ⟨e.frames, e.mod, e.bs, e.bsz, e.funs, e.frf, e.hok, e.bare⟩
section
variable {X : Cx} {pins : List (Addr × Obj)} {σ : St} {H : Hp} {s s' : Shared}
theorem Inv.env0 (I : Inv X pins σ H s) : Env0 X.prog X.w X.K X.mg X.base X.A X.stack s H :=
  ⟨I.ok.frames, I.ok.mod, I.bs, Nat.le_trans I.ok.bsz I.sz, I.stack, I.stkFree, I.hok, I.bare⟩
theorem Inv.after {Q : VK} {u : Value} (I : Inv X pins σ H s) (h : CE X.stack X.prog X.w H s Q u s') : EP X pins σ Q u s' := by
  obtain ⟨v, H', os, bare, un, hok, r, q⟩ := h
  obtain ⟨hh, g, d, t, os'⟩ := s'
  obtain rfl : os' = s.os := os
  exact ⟨v, H', I.call (h' := hh) (g' := g) (d' := d) (t' := t) (ch := []) un hok bare (fun b z => absurd z (by simp)), r, q⟩
end
def tCall (sp : Sp) (dvs : List V) (E : XK) (t : TA) : TE := fun σ H Q => t σ H fun vs H1 => sp (vs ++ dvs) H1 Q E
def tMeth (C : Addr) (m : Str) (sp : Sp) (dvs : List V) (E : XK) (ta : TE) (t : TA) : TE := fun σ H Q => ta σ H fun x H1 => ∃ a dx fs, x = .ref a ∧ H1 a = some (.ins C dx fs) ∧ fs.lookup m = none ∧
  t σ H1 fun vs H2 => sp (x :: (vs ++ dvs)) H2 Q E
def tMake (C : Addr) (sp : Sp) (dvs : List V) (E : XK) (t : TA) : TE := fun σ H Q => t σ H fun vs H1 => ∀ x dx, H1 x = none → H1 dx = none → dx ≠ x →
  sp (.ref x :: (vs ++ dvs)) (upd (upd H1 dx (.own x)) x (.ins C dx [])) (fun v H2 => v = .non ∧ Q (.ref x) H2) E
def Binds (K : PySem.W.Frag) (fd : FuncData) (ps : List Str) (ds : List Value) : Prop :=
  ∀ (s : Shared) (us : List Value), K.In s.heap → (us ++ ds).length = ps.length → BindsTo s fd ⟨us, []⟩ (ps.zip (us ++ ds))
theorem Binds.all {K : PySem.W.Frag} {fd : FuncData} {ps : List Str} (h : ∀ us : List Value, us.length = ps.length → bindArgs fd ⟨us, []⟩ = pure (ps.zip us)) : Binds K fd ps [] := fun s us _ hl => by
  rw [List.append_nil] at hl ⊢
  exact .of_eq (h us hl)
def Passes (CX : CXT) (X : Cx) (E : XK) : Prop := ∀ (pins : List (Addr × Obj)) (σ : St) (H : Hp) (s : Shared) (e : Value) (s' : Shared), Inv X pins σ H s → CX X.stack H s E e s' → X.xe e s'
section
variable {X : Cx} {CX : CXT} {k : Nat} {f C : Addr} {fd : FuncData} {ps : List Str} {sp : Sp} {dvs : List V} {ds : List Value} {E : XK} {x m : Str} {p pos apos : Pos} {e o : Expr} {es : List Expr} {ta : TE} {t : TA}
theorem run_fn {pins : List (Addr × Obj)} {σ : St} {H : Hp} {s : Shared} {Q : VK} {us : List Value} {vs : List V} (F : FnOk X.prog X.w X.K X.mg X.base CX k f fd ps sp) (hr : Room k X.A) (hb : Binds X.K fd ps ds) (hd : Vals dvs ds) (hx : Passes CX X E)
    (I : Inv X pins σ H s) (r : Vals vs us) (h : sp (vs ++ dvs) H Q E) : wpAny (model X.prog X.w) X.A (call (.ref f) us) (EP X pins σ Q) X.xe s := by
  have r2 : Vals (vs ++ dvs) (us ++ ds) := r.append hd
  have hl : (us ++ ds).length = ps.length := by rw [← r2.length]; exact F.len _ _ _ _ h
  refine wpAny_call (codeAny_mono (F.run X.A X.stack s H ⟨us, []⟩ (us ++ ds) (vs ++ dvs) Q E hr I.env0 (hb s us I.kIn hl) r2 h) fun r s' hq => ?_)
  cases r with
  | error e => exact hx pins σ H s e s' I hq
  | ok fl =>
    cases fl with
    | ret u => exact I.after hq
    | next => exact False.elim hq
    | brk => exact False.elim hq
    | cont => exact False.elim hq
theorem pe_call (F : FnOk X.prog X.w X.K X.mg X.base CX k f fd ps sp) (hr : Room k X.A) (hg : Gl X x) (hm : X.mg x = some (.ref f)) (hk : PySem.W.keepIn X.K (.ref f) = true) (hb : Binds X.K fd ps ds) (hd : Vals dvs ds) (hx : Passes CX X E)
    (ha : PA X (e :: es) t) (hdb : (x == ("__debug__" : Str)) = false := by decide) (he : starEach (e :: es) X.env = (false, eval e X.env) :: starEach es X.env := by rfl) (hpl : (backTo pos (starEach es X.env)).any (·.1) = false := by rfl) :
    PE X (.Call (.Name x p) (e :: es) [] pos) (tCall sp dvs E t) := by
  intro pins s σ H Q I h
  refine wpAny_Call_Name_kw (ld_glob I hg hm ?_ hdb)
  refine PySem.W.callWith_K (h₀ := X.base) I.ok.mod.kin hk (thn (ha pos pins s σ H _ I h) fun us s1 ⟨vs, H1, I1, r, q⟩ => ⟨I1.kIn, ?_⟩) he hpl
  exact run_fn F hr hb hd hx I1 r q
theorem pe_meth {pl : Sem Bool} (he : PE X o ta) (c : Cls X.K C) (hm : Meth X.K C m f) (F : FnOk X.prog X.w X.K X.mg X.base CX k f fd ps sp) (hr : Room k X.A) (hb : Binds X.K fd ps ds) (hd : Vals dvs ds) (hx : Passes CX X E) (ha : PA X (e :: es) t)
    (hst : starEach (e :: es) X.env = (false, eval e X.env) :: starEach es X.env := by rfl) (hpl : (backTo pos (starEach es X.env)).any (·.1) = false := by rfl)
    (ht : eval (.Call (.Attribute o m apos) (e :: es) [] pos) X.env = (do
      let ov ← eval o X.env
      standAt apos.atName
      let (f, first) ← holding [ov] (getMethod ov m pl)
      callWith pos f first (backTo pos (starEach (e :: es) X.env)) (backToKw pos (keywordEach [] X.env))) := by rfl) :
    PE X (.Call (.Attribute o m apos) (e :: es) [] pos) (tMeth C m sp dvs E ta t) := by
  intro pins s σ H Q I h
  refine PySem.W.methodCall_KW (pl := pl) (thn (he pins s σ H _ I h) fun u s1 ⟨x, H1, I1, rx, a, dx, fs, ex, ea, l, q⟩ => ?_) ht
  subst ex
  obtain rfl : u = Value.ref a := rx
  refine getmeth_ok I1 ea c hm l ?_
  refine PySem.W.callWith_K (first := [.ref a]) (h₀ := X.base) I.ok.mod.kin hm.kp (thn (ha pos pins s1 σ H1 _ I1 q) fun us s2 ⟨vs, H2, I2, r, q2⟩ => ⟨I2.kIn, ?_⟩) hst hpl
  exact run_fn (us := .ref a :: us) (vs := .ref a :: vs) F hr hb hd hx I2 (.cons rfl r) q2
structure Mk (K : PySem.W.Frag) (C f : Addr) : Prop where
  makes : PySem.W.makesIn K C = true
  init : PySem.W.findIn K (.ref C) "__init__" = some (some (.ref f))
  fn : PySem.W.isFn K (.ref f) = true
  kp : PySem.W.keepIn K (.ref C) = true
theorem run_make {pins : List (Addr × Obj)} {σ : St} {H : Hp} {s : Shared} {Q : VK} {us : List Value} {vs : List V} (M : Mk X.K C f) (F : FnOk X.prog X.w X.K X.mg X.base CX k f fd ps sp) (hr : Room (k + 1) X.A) (hb : Binds X.K fd ps ds) (hd : Vals dvs ds)
    (hx : Passes CX X E) (I : Inv X pins σ H s) (r : Vals vs us)
    (h : ∀ x dx, H x = none → H dx = none → dx ≠ x → sp (.ref x :: (vs ++ dvs)) (upd (upd H dx (.own x)) x (.ins C dx [])) (fun v H2 => v = .non ∧ Q (.ref x) H2) E) :
    wpAny (model X.prog X.w) X.A (call (.ref C) us) (EP X pins σ Q) X.xe s := by
  have hq := h (s.heap.objs.size + 1) s.heap.objs.size (I.hok.fresh (Nat.le_succ _)) (I.hok.fresh (Nat.le_refl _)) (Nat.ne_of_lt (Nat.lt_succ_self _))
  have I2 := Inv.made (C := C) I
  have r2 : Vals (V.ref (s.heap.objs.size + 1) :: (vs ++ dvs)) (Value.ref (s.heap.objs.size + 1) :: (us ++ ds)) := .cons rfl (r.append hd)
  have hl : (Value.ref (s.heap.objs.size + 1) :: us ++ ds).length = ps.length := by
    have e := r2.length
    rw [F.len _ _ _ _ hq] at e
    exact e.symm
  refine wpAny_call (make_map (f := f) I.kIn M.makes M.init (beq_iff_eq.mp M.fn) (codeAny_mono (F.run _ X.stack _ _ ⟨Value.ref (s.heap.objs.size + 1) :: us, []⟩ (Value.ref (s.heap.objs.size + 1) :: (us ++ ds)) _ _ E (hr.make C us [])
    (I2.env0.make C us []) (hb _ (Value.ref (s.heap.objs.size + 1) :: us) I2.kIn hl) r2 hq) fun r s' hq' => ?_))
  cases r with
  | error e => exact hx pins σ _ _ e s' I2 hq'
  | ok fl =>
    cases fl with
    | ret u =>
      obtain ⟨v, H', I3, rv, ev, q3⟩ := I2.after hq'
      subst ev
      exact ⟨rv, ⟨V.ref (s.heap.objs.size + 1), H', I3, rfl, q3⟩⟩
    | next => exact False.elim hq'
    | brk => exact False.elim hq'
    | cont => exact False.elim hq'
theorem pe_make (M : Mk X.K C f) (F : FnOk X.prog X.w X.K X.mg X.base CX k f fd ps sp) (hr : Room (k + 1) X.A) (hg : Gl X x) (hm : X.mg x = some (.ref C)) (hb : Binds X.K fd ps ds) (hd : Vals dvs ds) (hx : Passes CX X E)
    (ha : PA X (e :: es) t) (hdb : (x == ("__debug__" : Str)) = false := by decide) (he : starEach (e :: es) X.env = (false, eval e X.env) :: starEach es X.env := by rfl) (hpl : (backTo pos (starEach es X.env)).any (·.1) = false := by rfl) :
    PE X (.Call (.Name x p) (e :: es) [] pos) (tMake C sp dvs E t) := by
  intro pins s σ H Q I h
  refine wpAny_Call_Name_kw (ld_glob I hg hm ?_ hdb)
  refine PySem.W.callWith_K (h₀ := X.base) I.ok.mod.kin M.kp (thn (ha pos pins s σ H _ I h) fun us s1 ⟨vs, H1, I1, r, q⟩ => ⟨I1.kIn, ?_⟩) he hpl
  exact run_make M F hr hb hd hx I1 r q
end
section
variable {X : Cx} {CX : CXT} {k : Nat} {f C : Addr} {fd : FuncData} {ps ks : List Str} {sp : Sp} {E : XK} {x m : Str} {p pos apos kpos : Pos} {e o : Expr} {es : List Expr} {kws : List Keyword} {te ta : TE} {t tk : TA} {nm : Option Str}
structure KBinds (K : PySem.W.Frag) (fd : FuncData) (ps ks : List Str) (g : List Value → List Value → List Value) (gV : List V → List V → List V) : Prop where
  to : ∀ (s : Shared) (us ws : List Value), K.In s.heap → (g us ws).length = ps.length → BindsTo s fd ⟨us, ks.zip ws⟩ (ps.zip (g us ws))
  rel : ∀ {vs : List V} {us : List Value} {zs : List V} {ws : List Value}, Vals vs us → Vals zs ws → Vals (gV vs zs) (g us ws)
variable {g : List Value → List Value → List Value} {gV : List V → List V → List V}
end
structure FnScope (N P : List Str) (sc : Scope) : Prop where
  kind : sc.kind = .function
  co : sc.isCoroutine = false
  gen : sc.isGenerator = false
  nd : N.Nodup
  pre : N.take P.length = P
  par : ∀ x ∈ P, sc.names.lookup x = some .local ∨ sc.names.lookup x = some .cell
  nofree : ∀ y ∈ sc.names, y.2 ≠ .free
theorem bindL_out {kindOf : Str → Option NameKind} {x : Str} : ∀ {binds : List (Str × Value)} {m : Str → Option Value}, (∀ v, (x, v) ∉ binds) → bindL kindOf binds m x = m x
  | [], _, _ => rfl
  | (n, v) :: r, m, h => by
    unfold bindL
    rw [bindL_out fun w hw => h w (List.mem_cons_of_mem _ hw)]
    split
    · have : x ≠ n := by rintro rfl; exact h v List.mem_cons_self
      simp [this]
    · rfl
theorem bindC_out {kindOf : Str → Option NameKind} {x : Str} : ∀ {binds : List (Str × Value)} {m : Str → Option Value}, (∀ v, (x, v) ∉ binds) → bindC kindOf binds m x = m x
  | [], _, _ => rfl
  | (n, v) :: r, m, h => by
    unfold bindC
    rw [bindC_out fun w hw => h w (List.mem_cons_of_mem _ hw)]
    split
    · rfl
    · have : x ≠ n := by rintro rfl; exact h v List.mem_cons_self
      simp [this]
theorem bindL_get {kindOf : Str → Option NameKind} {x : Str} {v : Value} : ∀ {P : List Str} {vs : List Value} {i : Nat} {m : Str → Option Value}, P.Nodup → P[i]? = some x → vs[i]? = some v → kindOf x = some .local →
    bindL kindOf (P.zip vs) m x = some v
  | [], _, _, _, _, h, _, _ => by simp at h
  | _ :: _, [], _, _, _, _, h, _ => by simp at h
  | p :: P, w :: vs, 0, m, nd, h1, h2, hk => by
    simp at h1 h2; subst h1; subst h2
    show bindL kindOf ((p, w) :: P.zip vs) m p = _
    unfold bindL
    rw [bindL_out fun v hv => (List.nodup_cons.mp nd).1 (List.of_mem_zip hv).1, if_pos hk]
    simp
  | p :: P, w :: vs, i + 1, m, nd, h1, h2, hk => by
    show bindL kindOf ((p, w) :: P.zip vs) m x = _
    unfold bindL
    exact bindL_get (i := i) (List.nodup_cons.mp nd).2 (by simpa using h1) (by simpa using h2) hk
theorem bindC_get {kindOf : Str → Option NameKind} {x : Str} {v : Value} : ∀ {P : List Str} {vs : List Value} {i : Nat} {m : Str → Option Value}, P.Nodup → P[i]? = some x → vs[i]? = some v → kindOf x ≠ some .local →
    bindC kindOf (P.zip vs) m x = some v
  | [], _, _, _, _, h, _, _ => by simp at h
  | _ :: _, [], _, _, _, _, h, _ => by simp at h
  | p :: P, w :: vs, 0, m, nd, h1, h2, hk => by
    simp at h1 h2; subst h1; subst h2
    show bindC kindOf ((p, w) :: P.zip vs) m p = _
    unfold bindC
    rw [bindC_out fun v hv => (List.nodup_cons.mp nd).1 (List.of_mem_zip hv).1, if_neg hk]
    simp
  | p :: P, w :: vs, i + 1, m, nd, h1, h2, hk => by
    show bindC kindOf ((p, w) :: P.zip vs) m x = _
    unfold bindC
    exact bindC_get (i := i) (List.nodup_cons.mp nd).2 (by simpa using h1) (by simpa using h2) hk
def start (N : List Str) (vs : List V) : St := vs.map some ++ List.replicate (N.length - vs.length) none
def cxOf (CX : CXT) (P : Program) (w : World) (K : PySem.W.Frag) (mg : Str → Option Value) (base : Heap) (N : List Str) (qual : Str) (scope : Scope) (f : Addr) (cd : Value) (A : Around) (outer : List Env) (s : Shared) (H : Hp) (E : XK) : Cx where
  prog := P
  w := w
  K := K
  mg := mg
  base := base
  A := A.deeper (envOfC qual scope s.heap.objs.size f cd)
  N := N
  s_0 := s
  H_0 := H
  env := envOfC qual scope s.heap.objs.size f cd
  outer := outer
  stack := envOfC qual scope s.heap.objs.size f cd :: outer
  ex := []
  calm := true
  fn := fun _ => true
  pn := []
  xe := fun e s' => wpAny (model P w) (A.deeper (envOfC qual scope s.heap.objs.size f cd)) (leaving (envOfC qual scope s.heap.objs.size f cd) e) (fun _ s'' => CX outer H s E e s'') (fun e' s'' => CX outer H s E e' s'') s'
theorem cell_has {sc : Scope} {n : Nat} {x : Str} (h : sc.names.lookup x = some .cell) : ∃ c, (cellsFrom n sc.names []).lookup x = some c := by
  have q := PySem.W.cellsFrom_some sc.names n [] (.inl h)
  exact Option.isSome_iff_exists.mp q
theorem inv_start {CX : CXT} {P : Program} {w : World} {K : PySem.W.Frag} {mg : Str → Option Value} {base : Heap} {N ps : List Str} {qual : Str} {scope : Scope} {f : Addr} {cd : Value} {A : Around} {outer : List Env} {s s1 : Shared} {H : Hp} {E : XK} {us : List Value} {vs : List V}
    (S : FnScope N ps scope) (hd : A.handled = none) (e0 : Env0 P w K mg base A outer s H) (hl : vs.length = ps.length) (r : Vals vs us)
    (x : InCallC s s.heap.objs.size (bindL (envOfC qual scope s.heap.objs.size f cd).kindOf (ps.zip us) fun _ => none) (cellsFrom (s.heap.objs.size + 1) scope.names []) (bindC (envOfC qual scope s.heap.objs.size f cd).kindOf (ps.zip us) fun _ => none) s1) :
    Inv (cxOf CX P w K mg base N qual scope f cd A outer s H E) [] (start N vs) H s1 := by
  have hpl : ps.length ≤ N.length := by have := congrArg List.length S.pre; rw [List.length_take] at this; omega
  obtain ⟨h1, tk, rfl, hk⟩ := x.done
  have noA : ∀ b : Addr, b ∉ (cxOf CX P w K mg base N qual scope f cd A outer s H E).ex := fun b z => absurd (show b ∈ ([] : List Addr) from z) (by simp)
  refine ⟨⟨e0.mod, S.kind, rfl, rfl, Nat.le_refl _, fun y z c h1 h2 => ?_, fun y hy => ?_, fun y c _ h => ?_, fun _ => hd, Around.frames_deeper e0.frames, .inr ⟨rfl, rfl⟩, fun b z => absurd z (noA b), e0.bs, e0.bsz, fun b _ _ => noA b, fun b z => absurd z (noA b), e0.funs, e0.frf⟩,
    rfl, e0.bare, Un.kept hk, ⟨_, x.toInCall.ns, fun i y v h1 h2 h3 => ?_⟩, fun y c h => ⟨_, x.cell y c h⟩, e0.hok.fresh (Nat.le_refl _), fun y c h => ?_, fun p hp => absurd (show p ∈ ([] : List (Addr × Obj)) from hp) (by simp), e0.hok.kept hk, ?_⟩
  · exact name_of_addr x.apart (PySem.mem_of_lookup h1) (PySem.mem_of_lookup h2)
  · have hy : scope.names.lookup y = some .cell ∨ scope.names.lookup y = some .free := hy
    rcases hy with hy | hy
    · exact cell_has hy
    · exact absurd rfl (S.nofree _ (PySem.mem_of_lookup hy))
  · exact Nat.le_of_lt (x.above y c (PySem.mem_of_lookup h))
  · have hi : i < vs.length := by
      unfold start at h2
      by_cases hi : i < vs.length
      · exact hi
      · rw [List.getElem?_append_right (by simpa using hi)] at h2
        rw [List.getElem?_replicate] at h2
        split at h2 <;> cases h2
    have ha : vs[i]? = some v := by
      unfold start at h2
      rw [List.getElem?_append_left (by simpa using hi), List.getElem?_map] at h2
      cases e : vs[i]? with
      | none => rw [e] at h2; cases h2
      | some a => rw [e] at h2; cases h2; rfl
    obtain ⟨u, hu, rv⟩ := r.get ha
    have hp : ps[i]? = some y := by
      rw [← S.pre, List.getElem?_take_of_lt (by omega)]; exact h1
    have ndP : ps.Nodup := by rw [← S.pre]; exact S.nd.sublist (List.take_sublist _ _)
    refine ⟨u, rv, ?_⟩
    rcases S.par y (List.mem_of_getElem? hp) with k | k
    · exact .inl ⟨k, bindL_get ndP hp hu k⟩
    · obtain ⟨c, e⟩ := cell_has (n := s.heap.objs.size + 1) k
      refine .inr ⟨.inl k, c, e, ?_⟩
      have q := x.cell y c e
      rw [bindC_get ndP hp hu (by show scope.names.lookup y ≠ _; rw [k]; decide)] at q
      exact q
  · exact e0.hok.fresh (Nat.le_of_lt (x.above y c (PySem.mem_of_lookup h)))
  · unfold start
    show _ = N.length
    rw [List.length_append, List.length_map, List.length_replicate]
    omega
theorem fn_of {CX : CXT} {P : Program} {w : World} {K : PySem.W.Frag} {mg : Str → Option Value} {base : Heap} {k : Nat} {f : Addr} {name qual : Str} {params : Arguments} {body : List Stmt} {scope : Scope} {dV kV doc pm cdv ct oc : Value} {an od : Option Addr}
    {osl : Array (Option Value)} {N ps : List Str} {sp : Sp} (lk : K.lookup f = some ⟨oc, od, .func (PySem.W.fnOf name qual params body scope dV kV doc pm an cdv ct), osl⟩) (hcd : PySem.W.codeIn K cdv qual = true) (S : FnScope N ps scope)
    (len : ∀ vs H Q E, sp vs H Q E → vs.length = ps.length)
    (hbody : ∀ (A : Around) (outer : List Env) (s : Shared) (H : Hp) (vs : List V) (Q : VK) (E : XK), Room k (A.deeper (envOfC qual scope s.heap.objs.size f cdv)) → sp vs H Q E →
      ∃ t, PSs (cxOf CX P w K mg base N qual scope f cdv A outer s H E) body t ∧ t { nx := fun _ H' => Q .non H', rt := Q } (start N vs) H) :
    FnOk P w K mg base CX (k + 1) f (PySem.W.fnOf name qual params body scope dV kV doc pm an cdv ct) ps sp := by
  refine ⟨len, fun A outer s H args us vs Q E hr e0 hb r hsp => ?_⟩
  have hl := len _ _ _ _ hsp
  have KX : K.In s.heap := e0.mod.kin.keeps fun b o e => (e0.bs b o e).1
  have lim : s.heap.NoLimit := e0.mod.nolimit.keeps fun b o e => (e0.bs b o e).1
  have hkind : ∀ y ∈ ps.zip us, scope.names.lookup y.1 = some .local ∨ (scope.names.lookup y.1 = some .cell ∧ ((cellsFrom (s.heap.objs.size + 1) scope.names []).lookup y.1).isSome = true) := fun ⟨n, v⟩ hy => by
    rcases S.par n (List.of_mem_zip hy).1 with q | q
    · exact .inl q
    · exact .inr ⟨q, PySem.W.cellsFrom_some _ _ _ (.inl q)⟩
  refine codeAny_call_function hr.depth (KX _ _ lk) rfl S.co S.gen rfl (PySem.W.codeRec_of KX hcd) (hb _ _ _ _ ?_)
  refine wpAny_newFunctionEnv_cells S.kind hkind fun env he s1 x => ?_
  subst he
  refine ⟨lim.keeps x.toInCall.keep, codeAny_func ?_⟩
  obtain ⟨t, ht, hq⟩ := hbody A outer s H vs Q E (hr.deeper _) hsp
  have I : Inv (cxOf CX P w K mg base N qual scope f cdv A outer s H E) [] (start N vs) H s1 := inv_start S hr.hd e0 hl r x
  refine wpAny_mono (ht [] s1 (start N vs) H _ I hq) (fun fl s' hs => ?_) fun e s' hs => hs
  have fin : ∀ {σ' : St} {H' : Hp} {v : V} {u : Value}, Inv (cxOf CX P w K mg base N qual scope f cdv A outer s H E) [] σ' H' s' → RelV v u → Q v H' → CE outer P w H s Q u s' :=
    fun {σ' H' v u} J rv q => ⟨v, H', J.os, J.bare, J.base, J.hok, rv, q⟩
  cases fl with
  | ret u =>
    obtain ⟨v, σ', H', J, rv, q⟩ := hs
    exact fin J rv q
  | next =>
    obtain ⟨σ', H', J, q⟩ := hs
    exact fin (v := V.non) (u := Value.none) J rfl q
  | brk =>
    obtain ⟨_, _, _, q⟩ := hs
    exact False.elim q
  | cont =>
    obtain ⟨_, _, _, q⟩ := hs
    exact False.elim q
end L2
namespace L2
open PySem PySem.Spec PyProof.Rows
section
variable {X : Cx} {x : Str} {p pos : Pos} {e : Expr} {es : List Expr} {t : TA} {id T : String} {r : List V → Hp → VK → Prop}
def tCB (r : List V → Hp → VK → Prop) (t : TA) : TE := fun σ H Q => t σ H fun vs H1 => r vs H1 Q
theorem pe_callB (hc : CallR X (.builtin id) r) (hg : Gl X x) (hm : X.mg x = none) (hv : bootBuiltins x = some (.builtin id)) (ha : PA X (e :: es) t) (hn : x ≠ "__name__" := by decide) (hdb : (x == ("__debug__" : Str)) = false := by decide)
    (he : starEach (e :: es) X.env = (false, eval e X.env) :: starEach es X.env := by rfl) (hpl : (backTo pos (starEach es X.env)).any (·.1) = false := by rfl) : PE X (.Call (.Name x p) (e :: es) [] pos) (tCB r t) := by
  intro pins s σ H Q I h
  refine wpAny_Call_Name_kw (ld_blt I hg hm hv ?_ hn hdb)
  exact PyProof.Rows.callWith_builtin1 (thn (ha pos pins s σ H _ I h) fun us s1 ⟨vs, H1, I1, r1, q1⟩ => hc pins s1 σ H1 vs us Q I1 r1 q1) he hpl
theorem pe_callTy (hc : CallR X (.type T) r) (hg : Gl X x) (hm : X.mg x = none) (hv : bootBuiltins x = some (.type T)) (ha : PA X (e :: es) t) (hn : x ≠ "__name__" := by decide) (hdb : (x == ("__debug__" : Str)) = false := by decide)
    (he : starEach (e :: es) X.env = (false, eval e X.env) :: starEach es X.env := by rfl) (hpl : (backTo pos (starEach es X.env)).any (·.1) = false := by rfl) : PE X (.Call (.Name x p) (e :: es) [] pos) (tCB r t) := by
  intro pins s σ H Q I h
  refine wpAny_Call_Name_kw (ld_blt I hg hm hv ?_ hn hdb)
  exact PyProof.Rows.callWith_type1 (thn (ha pos pins s σ H _ I h) fun us s1 ⟨vs, H1, I1, r1, q1⟩ => hc pins s1 σ H1 vs us Q I1 r1 q1) he hpl
end
end L2
namespace HT
open PySem PyProof.Rows
section
open PySem.SeqAt
open PySem.AutoSeq1 (wpAny_loadPart')
open PySem.MeetsSeq PySem.MeetsSeq2 PySem.MeetsSeq3
end
section
variable {prog : Program} {w : World} {A : Around} {E : Value → Shared → Prop} {s : Shared}
theorem cat_tup {t b : Addr} {vs ws : List Value} {Q : Value → Shared → Prop} (ht : IsTup s.heap t vs.toArray) (hb : IsTup s.heap b ws.toArray) (hv : vs ≠ [])
    (h1 : ws = [] → Q (.ref t) s) (h2 : ws ≠ [] → Q (.ref s.heap.objs.size) { s with heap := s.heap.push { cls := .type "tuple", data := .seq (vs ++ ws).toArray } })
    (hsz : vs.length + ws.length ≤ sizeLine) : wpAny (model prog w) A (binaryOp .Add (.ref t) (.ref b)) Q E s := by
  obtain ⟨⟨cls, dd, data, sl⟩, ho, hc, n, hd⟩ := id ht
  obtain ⟨⟨cls2, dd2, data2, sl2⟩, ho2, hc2, n2, hd2⟩ := id hb
  simp only at hc hd hc2 hd2
  subst hc hd hc2 hd2
  have e : vs.toArray ++ ws.toArray = (vs ++ ws).toArray := by simp
  by_cases hw : ws = []
  · exact concat_meets ⟨_, ho, rfl⟩ ⟨_, ho2, rfl⟩ noFill_tuple_add seq_tuple_add PySem.F.slot_tuple_add PySem.F.entry_tuple_add (PySem.F.args_tuple_add_2 _ _)
      (tuple_addW1 t b vs.toArray ws.toArray n n2 dd dd2 sl sl2 (by simpa using hv) (by simp [hw])) ⟨ho, ho2, h1 hw⟩
  · refine concat_meets ⟨_, ho, rfl⟩ ⟨_, ho2, rfl⟩ noFill_tuple_add seq_tuple_add PySem.F.slot_tuple_add PySem.F.entry_tuple_add (PySem.F.args_tuple_add_2 _ _)
      (tuple_addW2 t b vs.toArray ws.toArray n n2 dd dd2 sl sl2 (by simpa using hv) (by simpa using hw) (by rw [List.size_toArray, List.size_toArray]; exact hsz)) ⟨ho, ho2, ?_⟩
    rw [e]
    exact h2 hw
def sIx (n d : Nat) : Option Int → Nat
  | none => d
  | some v => if v < 0 then (v + (n : Int)).toNat else min v.toNat n
theorem sIx_none (n d : Nat) : sIx n d none = d := rfl
theorem sIx_nat (n d k : Nat) : sIx n d (some (k : Int)) = min k n := by
  show (if (k : Int) < 0 then ((k : Int) + (n : Int)).toNat else min (k : Int).toNat n) = min k n
  rw [if_neg (by omega), Int.toNat_natCast]
theorem sIx_le (n d : Nat) (hd : d ≤ n) (o : Option Int) : sIx n d o ≤ n := by
  cases o with
  | none => exact hd
  | some v =>
    show (if v < 0 then (v + (n : Int)).toNat else min v.toNat n) ≤ n
    by_cases hv : v < 0
    · rw [if_pos hv]; omega
    · rw [if_neg hv]; exact Nat.min_le_right _ _
theorem clip_eq (v : Int) (n d : Nat) : (if v < 0 then max (v + (n : Int)) 0 else min v (n : Int)) = ((sIx n d (some v) : Nat) : Int) := by
  show (if v < 0 then max (v + (n : Int)) 0 else min v (n : Int)) = (((if v < 0 then (v + (n : Int)).toNat else min v.toNat n) : Nat) : Int)
  by_cases hv : v < 0
  · simp only [if_pos hv]; omega
  · simp only [if_neg hv]; omega
theorem adjust_gen (lo hi : Option Int) (n : Nat) : Builtin.Slice.sliceAdjust lo hi 1 (n : Int) = (((sIx n 0 lo : Nat) : Int), ((sIx n n hi : Nat) : Int)) := by
  have h1 : ¬ ((1 : Int) < 0) := by omega
  unfold Builtin.Slice.sliceAdjust
  simp only [h1, if_false]
  refine Prod.ext ?_ ?_
  · cases lo with
    | none => rfl
    | some v => exact clip_eq v n 0
  · cases hi with
    | none => rfl
    | some v => exact clip_eq v n n
theorem places_gen (i j : Nat) : Builtin.Slice.slicePlaces (i : Int) (j : Int) 1 = j - i := by
  unfold Builtin.Slice.slicePlaces
  have h1 : (1 : Int) > 0 := by omega
  simp only [h1, if_true, Int.ediv_one]
  split <;> omega
theorem slicePart_ {v : Value} {o : Option Int} {Q : Option Int → Shared → Prop} (p : IsPart v o) (h : Q o s) : wpAny (model prog w) A (Builtin.Slice.slicePartIndex v) Q E s := by
  cases p with
  | none => exact slicePart_none h
  | int i t => exact slicePart_int h
theorem sliceApplied_gen {sl : Addr} {vl vu : Value} {lo hi : Option Int} {n : Nat} {Q : Int × Int × Nat → Shared → Prop} (hs : s.heap.IsSliceOf sl vl vu .none) (pl : IsPart vl lo) (pu : IsPart vu hi)
    (h : Q (((sIx n 0 lo : Nat) : Int), 1, sIx n n hi - sIx n 0 lo) s) : wpAny (model prog w) A (Builtin.Slice.sliceApplied (.ref sl) (pure (n : Int))) Q E s := by
  obtain ⟨os, hos, hcs, hds⟩ := id hs
  unfold Builtin.Slice.sliceApplied Builtin.Slice.sliceFields
  refine wpAny_bind (wpAny_bind (wpAny_field hos hds (x := vl) rfl (wpAny_bind (wpAny_field hos hds (x := vu) rfl (wpAny_bind (wpAny_field hos hds (x := .none) rfl (wpAny_pure ?_)))))))
  refine wpAny_bind (slicePart_none ?_)
  show wpAny _ _ (if ((1 : Int) == 0) = true then _ else _) _ _ s
  rw [if_neg (by decide)]
  refine wpAny_bind (slicePart_ pl (wpAny_bind (slicePart_ pu (wpAny_bind (wpAny_pure ?_)))))
  show wpAny _ _ (match Builtin.Slice.sliceAdjust lo hi 1 (n : Int) with | (lo, hi) => pure (lo, (1 : Int), Builtin.Slice.slicePlaces lo hi 1)) _ _ s
  rw [adjust_gen lo hi n]
  show wpAny _ _ (pure (((sIx n 0 lo : Nat) : Int), (1 : Int), Builtin.Slice.slicePlaces ((sIx n 0 lo : Nat) : Int) ((sIx n n hi : Nat) : Int) 1)) _ _ s
  rw [places_gen]
  exact wpAny_pure h
theorem pick_gen (xs : Array Value) (i k : Nat) : ((List.range k).filterMap fun (m : Nat) => xs[((i : Int) + (m : Int) * 1).toNat]?).toArray = ((xs.toList.drop i).take k).toArray := by
  have e : (fun (m : Nat) => xs[((i : Int) + (m : Int) * 1).toNat]?) = fun m => xs[i + m]? := by
    funext m
    have : ((i : Int) + (m : Int) * 1).toNat = i + m := by omega
    rw [this]
  rw [e]
  have := pick_run xs i k
  rw [List.filterMap_map] at this
  have e2 : ((fun x => xs[x]?) ∘ fun x => i + x) = fun m => xs[i + m]? := rfl
  rw [e2] at this
  rw [this]
theorem getItem_tuple_cut {t sl : Addr} {items : Array Value} {vl vu : Value} {lo hi : Option Int} {Q : Value → Shared → Prop} (ht : IsTup s.heap t items) (hs : s.heap.IsSliceOf sl vl vu .none) (pl : IsPart vl lo) (pu : IsPart vu hi)
    (hw : ¬ (sIx items.size 0 lo = 0 ∧ sIx items.size items.size hi = items.size))
    (h : Q (.ref s.heap.objs.size) { s with heap := s.heap.push { cls := .type "tuple", data := .seq ((items.toList.drop (sIx items.size 0 lo)).take (sIx items.size items.size hi - sIx items.size 0 lo)).toArray } })
    (hsz : items.size ≤ sizeLine) : wpAny (model prog w) A (getItem (.ref t) (.ref sl)) Q E s := by
  have htake : sizeOk (.seq ((items.toList.drop (sIx items.size 0 lo)).take (sIx items.size items.size hi - sIx items.size 0 lo)).toArray) := by
    show ((items.toList.drop (sIx items.size 0 lo)).take (sIx items.size items.size hi - sIx items.size 0 lo)).toArray.size ≤ sizeLine
    rw [List.size_toArray, List.length_take, List.length_drop, Array.length_toList]
    omega
  have hj : sIx items.size items.size hi ≤ items.size := sIx_le _ _ (Nat.le_refl _) hi
  obtain ⟨os, hos, hcs, hds⟩ := id hs
  have hTs : s.TypeIs (.ref sl) "slice" := ⟨os, hos, hcs⟩
  unfold getItem
  try with_reducible refine wpAny_holding ?_
  first | refine wpAny_bind (wpAny_pure ?_) | skip
  refine wpAny_bind (wpAny_sequenceKey ht.typeIs (by decide) ?_)
  refine wpAny_bind (wpAny_callSpecial?_slot (name := Str.ofString "__getitem__") ht.typeIs PyProof.Rows.slot_tuple_getitem
    (wpAny_call_entry PyProof.Rows.slot_tuple_getitem ht.typeIs entry_tuple_getitem ?_ (args_tuple_getitem _ _)))
  show wpAny _ _ (Builtin.Tuple.tupleItemsOf (.ref t) >>= _) _ _ s
  refine wpAny_bind (tupleItemsOf_ ht ?_)
  refine wpAny_bind (wpAny_typeOf hTs ?_)
  rw [if_pos (by decide)]
  refine wpAny_bind (sliceApplied_gen hs pl pu ?_)
  have hno : ¬ ((((sIx items.size 0 lo : Nat) : Int) == 0 && (1 : Int) == 1 && (sIx items.size items.size hi - sIx items.size 0 lo) == items.size) = true) := by
    intro q
    rw [Bool.and_eq_true, Bool.and_eq_true] at q
    have q1 : ((sIx items.size 0 lo : Nat) : Int) = 0 := eq_of_beq q.1.1
    have q2 : sIx items.size items.size hi - sIx items.size 0 lo = items.size := eq_of_beq q.2
    exact hw ⟨by omega, by omega⟩
  show wpAny _ _ (if (((sIx items.size 0 lo : Nat) : Int) == 0 && (1 : Int) == 1 && (sIx items.size items.size hi - sIx items.size 0 lo) == items.size) = true then _ else _) _ _ s
  rw [if_neg hno, pick_gen]
  first
    | exact wpAny_bind (m := Builtin.Tuple.tupleExact _) (wpAny_newObj_type (wpAny_pure ⟨_, rfl, wpAny_pure h⟩) htake)
    | exact wpAny_bind (m := Builtin.Tuple.tupleExact _) (wpAny_newObj_type (wpAny_bind (wpAny_pure (wpAny_pure ⟨_, rfl, wpAny_pure h⟩))) htake)
    | exact wpAny_bind (wpAny_bind (m := Builtin.Tuple.tupleExact _) (wpAny_newObj_type (wpAny_pure (wpAny_pure ⟨_, rfl, wpAny_pure h⟩)) htake))
    | exact wpAny_bind (wpAny_bind (m := Builtin.Tuple.tupleExact _) (wpAny_newObj_type (wpAny_pure ⟨_, rfl, wpAny_pure h⟩) htake))
end
end HT
namespace L2
open PySem PySem.Spec PyProof.Rows
abbrev TO := St → Hp → (Option Int → Hp → Prop) → Prop
def PO (X : Cx) (e : Option Expr) (t : TO) : Prop :=
  ∀ (pins : List (Addr × Obj)) (s : Shared) (σ : St) (H : Hp) (Q : Option Int → Hp → Prop), Inv X pins σ H s → t σ H Q →
    wpAny (model X.prog X.w) X.A (evalPart e X.env) (fun u s' => ∃ o H', Inv X pins σ H' s' ∧ IsPart u o ∧ Q o H') X.xe s
def tNoPart : TO := fun _ H Q => Q none H
def tPart (t : TE) : TO := fun σ H Q => t σ H fun x H1 => ∃ i, x = .int i ∧ Q (some i) H1
section
variable {X : Cx} {e : Expr} {te : TE} {lo hi : Option Expr} {tl th : TO} {pos p2 : Pos}
theorem po_none : PO X none tNoPart := by
  intro pins s σ H Q I h
  rw [evalPart_none]
  exact wpAny_pure ⟨none, H, I, .none, h⟩
theorem po_some (h : PE X e te) : PO X (some e) (tPart te) := by
  intro pins s σ H Q I hw
  rw [evalPart_some]
  refine thn (h pins s σ H _ I hw) fun u s1 ⟨x, H1, I1, r1, q1⟩ => ?_
  obtain ⟨i, rfl, q⟩ := q1
  obtain ⟨t, rfl⟩ := r1
  exact ⟨some i, H1, I1, .int i t, q⟩
def SlR (X : Cx) (r : V → Option Int → Option Int → Hp → VK → Prop) : Prop :=
  ∀ (pins : List (Addr × Obj)) (s : Shared) (σ : St) (H : Hp) (x : V) (v vl vu : Value) (lo hi : Option Int) (sl : Addr) (Q : VK), Inv X pins σ H s → RelV x v → s.heap.IsSliceOf sl vl vu .none → IsPart vl lo → IsPart vu hi → r x lo hi H Q →
    ∃ T id, typeLookup (.type T) "__getitem__" = pure (some (.builtin id)) ∧ s.TypeIs v T ∧ wpAny (model X.prog X.w) X.A (getItem v (.ref sl)) (EP X pins σ Q) X.xe s
def tSl (r : V → Option Int → Option Int → Hp → VK → Prop) (te : TE) (tl th : TO) : TE := fun σ H Q => te σ H fun x H1 => tl σ H1 fun l H2 => th σ H2 fun u H3 => r x l u H3 Q
theorem pe_slice {r : V → Option Int → Option Int → Hp → VK → Prop} (hr : SlR X r) (he : PE X e te) (hl : PO X lo tl) (hu : PO X hi th) : PE X (.Subscript e (.Slice lo hi none p2) pos) (tSl r te tl th) := by
  intro pins s σ H Q I h
  refine Subscript_ (thn (he pins s σ H _ I h) fun v s1 ⟨x, H1, I1, r1, q1⟩ => ?_)
  refine wpAny_Slice (thn (hl pins s1 σ H1 _ I1 q1) fun vl s2 ⟨l, H2, I2, pl, q2⟩ => thn (hu pins s2 σ H2 _ I2 q2) fun vu s3 ⟨u, H3, I3, pu, q3⟩ => ?_)
  rw [evalPart_none]
  refine wpAny_pure ?_
  have I4 : Inv X pins σ H3 { s3 with heap := s3.heap.push { cls := .type "slice", data := .fields #[vl, vu, .none] } } := I3.kept (t' := s3.toks) fun b ob q => Heap.get?_push_of_some _ q
  obtain ⟨T, id, hT, ht, hg⟩ := hr pins { s3 with heap := s3.heap.push { cls := .type "slice", data := .fields #[vl, vu, .none] } } σ H3 x v vl vu l u s3.heap.objs.size Q I4 r1 (Heap.IsSliceOf.new ..) pl pu q3
  show wpAny (model X.prog X.w) X.A (subscriptTail e (.Slice lo hi none p2) v (.ref s3.heap.objs.size)) (EP X pins σ Q) X.xe { s3 with heap := s3.heap.push { cls := .type "slice", data := .fields #[vl, vu, .none] } }
  exact tail_any (ops := [.ref s3.heap.objs.size, v]) ht hT hg (by with_unfolding_all rfl)
def cutV (xs : List V) (lo hi : Option Int) : List V := (xs.drop (HT.sIx xs.length 0 lo)).take (HT.sIx xs.length xs.length hi - HT.sIx xs.length 0 lo)
theorem cutV_length (xs : List V) (lo hi : Option Int) : (cutV xs lo hi).length ≤ xs.length := by
  unfold cutV
  rw [List.length_take, List.length_drop]
  omega
def rSlT (K : PySem.W.Frag) : V → Option Int → Option Int → Hp → VK → Prop := fun x lo hi H Q => ∃ a xs, x = .ref a ∧ SqT K H a xs ∧
  ¬ (HT.sIx xs.length 0 lo = 0 ∧ HT.sIx xs.length xs.length hi = xs.length) ∧ ∀ p, H p = none → Q (.ref p) (upd H p (.tup (cutV xs lo hi)))
theorem sl_tup : SlR X (rSlT X.K) := by
  intro pins s σ H x v vl vu lo hi sl Q I rx hs pl pu h
  obtain ⟨a, xs, rfl, hx, hw, q⟩ := h
  cases rx
  obtain ⟨its, r, ht, hz⟩ := I.tuple hx
  have hlen : its.toArray.size = xs.length := by rw [List.size_toArray]; exact r.length.symm
  refine ⟨"tuple", _, PyProof.Rows.slot_tuple_getitem.lookup, ht.typeIs, ?_⟩
  refine HT.getItem_tuple_cut ht hs pl pu (by rw [hlen]; exact hw) ?_ (by rw [hlen]; exact hz)
  rw [hlen]
  refine ⟨.ref s.heap.objs.size, _, I.laid (t' := s.toks) (o := .tup (cutV xs lo hi)) (fun b ob q => Heap.get?_push_of_some _ q) (Nat.le_refl _) ?_, rfl, q _ (I.hok.fresh (Nat.le_refl _))⟩
  exact ⟨Nat.le_trans (cutV_length xs lo hi) hz, _, (r.drop (HT.sIx xs.length 0 lo)).take (HT.sIx xs.length xs.length hi - HT.sIx xs.length 0 lo), IsTupD.new _ _⟩
def rCatT (K : PySem.W.Frag) : R2 := fun x y H Q => ∃ a b xs ys, x = .ref a ∧ y = .ref b ∧ SqT K H a xs ∧ SqT K H b ys ∧ xs ≠ [] ∧ xs.length + ys.length ≤ sizeLine ∧
  (ys = [] → Q (.ref a) H) ∧ (ys ≠ [] → ∀ p, H p = none → Q (.ref p) (upd H p (.tup (xs ++ ys))))
theorem Vals.nil_iff {xs : List V} {us : List Value} (r : Vals xs us) : us = [] ↔ xs = [] := by
  cases r with
  | nil => simp
  | cons _ _ => simp
theorem op_catT : OpR X (binaryOp .Add) (rCatT X.K) := by
  intro pins s σ H x y v u Q I rx ry h
  obtain ⟨a, b, xs, ys, rfl, rfl, ha, hb, hx, hz, q1, q2⟩ := h
  cases rx
  cases ry
  obtain ⟨its, r1, p1, _⟩ := I.tuple ha
  obtain ⟨its2, r2, p2, _⟩ := I.tuple hb
  refine HT.cat_tup p1 p2 (fun z => hx (r1.nil_iff.mp z)) (fun z => ⟨.ref a, H, I, rfl, q1 (r2.nil_iff.mp z)⟩) (fun z => ?_) (by rw [← r1.length, ← r2.length]; exact hz)
  refine ⟨.ref s.heap.objs.size, _, I.laid (t' := s.toks) (o := .tup (xs ++ ys)) (fun b ob q => Heap.get?_push_of_some _ q) (Nat.le_refl _) ?_, rfl, q2 (fun w => z (r2.nil_iff.mpr w)) _ (I.hok.fresh (Nat.le_refl _))⟩
  exact ⟨by rw [List.length_append]; exact hz, _, r1.append r2, IsTupD.new _ _⟩
end
end L2
namespace L2
open PySem PySem.Spec PyProof.Rows
def ixN (n : Nat) (i : Int) : Option Nat := if 0 ≤ i then (if i < n then some i.toNat else none) else if -(n : Int) ≤ i then some (i + n).toNat else none
def atI {α : Type} (xs : List α) (i : Int) : Option α := (ixN xs.length i).bind fun j => xs[j]?
theorem ixN_seq {n : Nat} {i : Int} {j : Nat} (h : ixN n i = some j) : seqIndex? i n = some j ∧ j < n ∧ -(n : Int) ≤ i ∧ i < n := by
  unfold ixN at h
  by_cases h0 : 0 ≤ i
  · rw [if_pos h0] at h
    by_cases h1 : i < n
    · rw [if_pos h1] at h
      have e : i.toNat = j := Option.some.inj h
      exact ⟨by rw [seqIndex_of h0 h1, e], by omega, by omega, h1⟩
    · rw [if_neg h1] at h; cases h
  · rw [if_neg h0] at h
    by_cases h1 : -(n : Int) ≤ i
    · rw [if_pos h1] at h
      have e : (i + n).toNat = j := Option.some.inj h
      exact ⟨by rw [seqIndex_neg (by omega) h1, e], by omega, h1, by omega⟩
    · rw [if_neg h1] at h; cases h
theorem atI_get {α : Type} {xs : List α} {i : Int} {v : α} (h : atI xs i = some v) : ∃ j, seqIndex? i xs.length = some j ∧ xs[j]? = some v ∧ j < xs.length ∧ -(xs.length : Int) ≤ i ∧ i < xs.length := by
  unfold atI at h
  cases e : ixN xs.length i with
  | none => rw [e] at h; cases h
  | some j =>
    rw [e] at h
    obtain ⟨h1, h2, h3, h4⟩ := ixN_seq e
    exact ⟨j, h1, h, h2, h3, h4⟩
theorem atI_nat {α : Type} {xs : List α} {j : Nat} {v : α} (h : xs[j]? = some v) : atI xs (j : Int) = some v := by
  have hj : j < xs.length := (List.getElem?_eq_some_iff.mp h).1
  have e : ixN xs.length (j : Int) = some j := by
    unfold ixN
    rw [if_pos (by omega), if_pos (by omega)]; simp
  unfold atI; rw [e]; exact h
def PlainIx (b : Expr) : Prop := ∀ o i, subscripted b false o i = operate [o, i] (getItem o i)
def IxR (X : Cx) (r : R2) : Prop :=
  ∀ (value slice : Expr) (pins : List (Addr × Obj)) (s : Shared) (σ : St) (H : Hp) (x y : V) (v u : Value) (Q : VK), Inv X pins σ H s → RelV x v → RelV y u → r x y H Q →
    subscripted slice false v u = operate [v, u] (getItem v u) → wpAny (model X.prog X.w) X.A (subscriptTail value slice v u) (EP X pins σ Q) X.xe s
def MtR (X : Cx) (id : String) (r : V → List V → Hp → VK → Prop) : Prop :=
  ∀ (pins : List (Addr × Obj)) (s : Shared) (σ : St) (H : Hp) (x : V) (xs : List V) (v : Value) (us : List Value) (Q : VK), Inv X pins σ H s → RelV x v → Vals xs us → r x xs H Q →
    wpAny (model X.prog X.w) X.A (call (.builtin id) (v :: us)) (EP X pins σ Q) X.xe s
section
variable {X : Cx} {a b : Expr} {ta tb : TE} {pos : Pos}
theorem pe_ix {r : R2} (hr : IxR X r) (ha : PE X a ta) (hb : PE X b tb) (hs : PlainIx b) : PE X (.Subscript a b pos) (tOp r ta tb) := by
  intro pins s σ H Q I h
  exact Subscript_ (binT ha hb I h fun v u s2 x y H2 I2 rx ry q => hr a b pins s2 σ H2 x y v u Q I2 rx ry q (hs _ _))
def rIxL (K : PySem.W.Frag) : R2 := fun x y H Q => ∃ p xs i v, x = .ref p ∧ y = .int i ∧ SqL K H p xs ∧ atI xs i = some v ∧ Q v H
def rIxT (K : PySem.W.Frag) : R2 := fun x y H Q => ∃ p xs i v, x = .ref p ∧ y = .int i ∧ SqT K H p xs ∧ atI xs i = some v ∧ Q v H
theorem ix_list : IxR X (rIxL X.K) := by
  intro value slice pins s σ H x y v u Q I rx ry h hs
  obtain ⟨p, xs, i, z, rfl, rfl, hq, he, q⟩ := h
  cases rx
  obtain ⟨t, rfl⟩ := ry
  obtain ⟨its, r, pl, hz⟩ := I.list hq
  obtain ⟨j, h1, h2, h3, h4, h5⟩ := atI_get he
  obtain ⟨w, ew, rw'⟩ := r.get h2
  have hl := r.length
  have hn := line63
  have fin : EP X pins σ Q w s := ⟨z, H, I, rw', q⟩
  by_cases h0 : 0 ≤ i
  · have hj : i.toNat = j := by
      rw [seqIndex_of h0 h5] at h1
      exact Option.some.inj h1
    exact item_listR pl.isList h0 (by omega) (by rw [hj]; simpa using ew) fin hs
  · have hj : (i + (its.toArray.size : Int)).toNat = j := by
      rw [seqIndex_neg (by omega) h4] at h1
      rw [List.size_toArray, ← hl]
      exact Option.some.inj h1
    exact subscriptTail_builtinR (x := w) pl.isList.typeIs slot_list_getitem.lookup
      (wpAny_getItem_list_neg (Q := fun r s' => r = w ∧ EP X pins σ Q r s') pl.isList (by omega) (by rw [List.size_toArray] <;> omega) (by omega) (by rw [hj]; simpa using ew) ⟨rfl, fin⟩) hs
theorem ix_tup : IxR X (rIxT X.K) := by
  intro value slice pins s σ H x y v u Q I rx ry h hs
  obtain ⟨p, xs, i, z, rfl, rfl, hq, he, q⟩ := h
  cases rx
  obtain ⟨t, rfl⟩ := ry
  obtain ⟨its, r, pl, hz⟩ := I.tuple hq
  obtain ⟨j, h1, h2, h3, h4, h5⟩ := atI_get he
  obtain ⟨w, ew, rw'⟩ := r.get h2
  have hl := r.length
  have hn := line63
  have fin : EP X pins σ Q w s := ⟨z, H, I, rw', q⟩
  exact subscriptTail_builtinR (x := w) pl.typeIs slot_tuple_getitem.lookup
    (getItem_tuple (j := j) (Q := fun r s' => r = w ∧ EP X pins σ Q r s') pl (by omega) (by omega) (by rw [List.size_toArray, ← hl]; exact h1) (by simpa using ew) ⟨rfl, fin⟩) hs
theorem Inv.lst {pins : List (Addr × Obj)} {σ : St} {H : Hp} {s : Shared} {p : Addr} {xs : List V} (I : Inv X pins σ H s) (h : H p = some (.lst xs)) :
    ∃ (its : List Value) (n : Nat), Vals xs its ∧ s.heap.get? p = some { cls := .type "list", data := .seq its.toArray n } ∧ xs.length ≤ sizeLine := by
  obtain ⟨z, its, n, r, e⟩ := I.hok p _ h
  exact ⟨its, n, r, e, z⟩
def flatV : V → Bool
  | .non => true
  | .bl _ => true
  | .int _ => true
  | .str _ => true
  | _ => false
def eqV : V → V → Bool
  | .non, .non => true
  | .bl a, .bl b => a == b
  | .bl a, .int b => (if a then 1 else 0) == b
  | .int a, .bl b => a == (if b then 1 else 0)
  | .int a, .int b => a == b
  | .str a, .str b => a == b
  | _, _ => false
theorem eqAt_V {A : Around} {s : Shared} {y x : V} {u v : Value} (ry : RelV y u) (rx : RelV x v) (fy : flatV y = true) (fx : flatV x = true) : SeqAt.EqAt A s u v (eqV y x) := by
  cases y with
  | non =>
    cases ry
    cases x with
    | non => cases rx; exact SeqAt.EqAt.same _
    | bl b => cases rx; exact SeqAt.EqAt.none_bool b
    | int b => obtain ⟨t, rfl⟩ := rx; exact SeqAt.EqAt.none_int b t
    | str b => obtain ⟨t, rfl⟩ := rx; exact SeqAt.EqAt.none_str b t
    | _ => exact absurd (show false = true from fx) Bool.false_ne_true
  | bl a =>
    cases ry
    cases x with
    | non => cases rx; exact SeqAt.EqAt.bool_none a
    | bl b => cases rx; exact SeqAt.EqAt.bool_bool a b
    | int b => obtain ⟨t, rfl⟩ := rx; exact SeqAt.EqAt.bool_int a b t
    | str b => obtain ⟨t, rfl⟩ := rx; exact SeqAt.EqAt.bool_str a b t
    | _ => exact absurd (show false = true from fx) Bool.false_ne_true
  | int a =>
    obtain ⟨t', rfl⟩ := ry
    cases x with
    | non => cases rx; exact SeqAt.EqAt.int_none a t'
    | bl b => cases rx; exact SeqAt.EqAt.int_bool a t' b
    | int b => obtain ⟨t, rfl⟩ := rx; exact SeqAt.EqAt.int_int a t' b t
    | str b => obtain ⟨t, rfl⟩ := rx; exact SeqAt.EqAt.int_str a t' b t
    | _ => exact absurd (show false = true from fx) Bool.false_ne_true
  | str a =>
    obtain ⟨t', rfl⟩ := ry
    cases x with
    | non => cases rx; exact SeqAt.EqAt.str_none a t'
    | bl b => cases rx; exact SeqAt.EqAt.str_bool a t' b
    | int b => obtain ⟨t, rfl⟩ := rx; exact SeqAt.EqAt.str_int a t' b t
    | str b => obtain ⟨t, rfl⟩ := rx; exact SeqAt.EqAt.str_str a t' b t
    | _ => exact absurd (show false = true from fx) Bool.false_ne_true
  | _ => exact absurd (show false = true from fy) Bool.false_ne_true
def eqU (x : V) (u : Value) : Bool := match u with
  | .none => eqV .non x
  | .bool b => eqV (.bl b) x
  | .int i _ => eqV (.int i) x
  | .str z _ => eqV (.str z) x
  | _ => false
theorem eqU_of {x y : V} {u : Value} (r : RelV y u) (f : flatV y = true) : eqU x u = eqV y x := by
  cases y with
  | non => cases r; rfl
  | bl b => cases r; rfl
  | int i => obtain ⟨t, rfl⟩ := r; rfl
  | str z => obtain ⟨t, rfl⟩ := r; rfl
  | _ => exact absurd (show false = true from f) Bool.false_ne_true
theorem mem_eqAt {A : Around} {s : Shared} {x : V} {v : Value} (rx : RelV x v) (fx : flatV x = true) : ∀ {xs : List V} {us : List Value}, Vals xs us → xs.all flatV = true → ∀ u ∈ us, SeqAt.EqAt A s u v (eqU x u)
  | _, _, .nil, _ => fun u hu => by cases hu
  | y :: xs, u :: us, .cons r t, f => fun u' hu => by
    rw [List.all_cons, Bool.and_eq_true] at f
    rcases List.mem_cons.mp hu with rfl | hu
    · rw [eqU_of r f.1]; exact eqAt_V r rx f.1 fx
    · exact mem_eqAt rx fx t f.2 u' hu
theorem call_len_seq : CallR X (.builtin "len") (fun xs H Q => ∃ p ys, xs = [.ref p] ∧ (SqL X.K H p ys ∨ SqT X.K H p ys) ∧ Q (.int ys.length) H) := by
  intro pins s σ H xs us Q I r h
  obtain ⟨p, ys, rfl, hq, q⟩ := h
  obtain ⟨u, rfl, rx⟩ := vals1 r
  cases rx
  have hn := line63
  rcases hq with hq | hq
  · obtain ⟨its, r', pl, hz⟩ := I.list hq
    have hlen := r'.length
    exact Calls.call_len_list pl.isList (by simp only [List.size_toArray] <;> omega) ⟨.int ys.length, H, I.tok _, ⟨s.toks + 1, by rw [List.size_toArray, hlen]⟩, q⟩
  · obtain ⟨its, r', pl, hz⟩ := I.tuple hq
    have hlen := r'.length
    exact len_tuple pl (by simp only [List.size_toArray] <;> omega) ⟨.int ys.length, H, I.tok _, ⟨s.toks + 1, by rw [List.size_toArray, hlen]⟩, q⟩
theorem call_list_of : CallR X (.type "list") (fun xs H Q => ∃ p ys, xs = [.ref p] ∧ (SqL X.K H p ys ∨ SqT X.K H p ys) ∧ ∀ l, H l = none → Q (.ref l) (upd H l (.lst ys))) := by
  intro pins s σ H xs us Q I r h
  obtain ⟨p, ys, rfl, hq, q⟩ := h
  obtain ⟨u, rfl, rx⟩ := vals1 r
  cases rx
  have fin : ∀ (its : List Value), Vals ys its → ys.length ≤ sizeLine → ∀ (h' : Heap) (c' : Nat), (∀ b o', s.heap.get? b = some o' → h'.get? b = some o') →
      h'.get? s.heap.objs.size = some { cls := .type "list", dict := none, data := .seq its.toArray c', slots := #[] } → EP X pins σ Q (.ref s.heap.objs.size) { s with heap := h' } := fun its r' hz h' c' kp e =>
    ⟨.ref s.heap.objs.size, _, I.laid (t' := s.toks) kp (Nat.le_refl _) (show ObjOk X.prog X.w _ h' _ (.lst ys) from ⟨hz, its, c', r', e⟩), rfl, q _ (I.hok.fresh (Nat.le_refl _))⟩
  rcases hq with hq | hq
  · obtain ⟨its, r', pl, hz⟩ := I.list hq
    have hlen := r'.length
    obtain ⟨o, ho, hc, n, hd⟩ := pl.isList
    exact call_list_seq p (.inl rfl) ho hc hd (fun h' c' kp e => fin its r' hz h' c' kp e) (by simp only [List.size_toArray] <;> omega)
  · obtain ⟨its, r', pl, hz⟩ := I.tuple hq
    have hlen := r'.length
    obtain ⟨o, ho, hc, n, hd⟩ := pl
    exact call_list_seq p (.inr rfl) ho hc hd (fun h' c' kp e => fin its r' hz h' c' kp e) (by simp only [List.size_toArray] <;> omega)
theorem call_tuple_of : CallR X (.type "tuple") (fun xs H Q => ∃ p ys, xs = [.ref p] ∧ ((SqL X.K H p ys ∧ ∀ l, H l = none → Q (.ref l) (upd H l (.tup ys))) ∨ (SqT X.K H p ys ∧ Q (.ref p) H))) := by
  intro pins s σ H xs us Q I r h
  obtain ⟨p, ys, rfl, h⟩ := h
  obtain ⟨u, rfl, rx⟩ := vals1 r
  cases rx
  rcases h with ⟨hq, q⟩ | ⟨hq, q⟩
  · obtain ⟨its, r', pl, hz⟩ := I.list hq
    have hlen := r'.length
    refine call_tuple_list pl.isList (fun h' kp => ?_) (by simp only [List.size_toArray] <;> omega)
    have I1 : Inv X pins σ H { s with heap := h' } := I.kept (t' := s.toks) kp
    have I2 : Inv X pins σ (upd H h'.objs.size (.tup ys)) { s with heap := h'.push { cls := .type "tuple", data := .seq its.toArray } } :=
      I1.laid (t' := s.toks) (fun b o e => Heap.get?_push_of_some _ e) (Nat.le_refl _) (show ObjOk X.prog X.w _ _ _ (.tup ys) from ⟨hz, its, r', IsTupD.new _ _⟩)
    exact ⟨.ref h'.objs.size, _, I2, rfl, q _ (I1.hok.fresh (Nat.le_refl _))⟩
  · obtain ⟨its, r', pl, hz⟩ := I.tuple hq
    exact call_tuple_same pl ⟨.ref p, H, I, rfl, q⟩
def tyV (K : PySem.W.Frag) (T : String) (x : V) (H : Hp) : Prop := match x with
  | .str _ => T = "str"
  | .int _ => T = "int"
  | .ref p => (T = "list" ∧ ∃ xs, SqL K H p xs) ∨ (T = "tuple" ∧ ∃ o, K.lookup p = some o ∧ o.cls = .type "tuple" ∧ o.dict = none) ∨
      (T = "dict" ∧ ((∃ kvs, H p = some (.dK kvs)) ∨ ∃ kvs, H p = some (.dT kvs))) ∨ (T = "set" ∧ ∃ S n, H p = some (.set S n))
  | _ => False
theorem tyV_is {pins : List (Addr × Obj)} {σ : St} {H : Hp} {s : Shared} {T : String} {x : V} {v : Value} (I : Inv X pins σ H s) (r : RelV x v) (ty : tyV X.K T x H) :
    s.TypeIs v T ∧ ∀ a, v = .ref a → ∃ ob, s.heap.get? a = some ob ∧ ob.dict = none := by
  cases x with
  | str z =>
    obtain ⟨t, rfl⟩ := r
    cases (show T = "str" from ty)
    exact ⟨typeIs_str s z t, fun _ e => nomatch e⟩
  | int i =>
    obtain ⟨t, rfl⟩ := r
    cases (show T = "int" from ty)
    exact ⟨typeIs_int s i t, fun _ e => nomatch e⟩
  | ref p =>
    cases r
    rcases ty with ⟨rfl, xs, hq⟩ | ⟨rfl, o, hk, hc, hd⟩ | ⟨rfl, hk⟩ | ⟨rfl, S, n, hk⟩
    · obtain ⟨its, _, pl, _⟩ := I.list hq
      refine ⟨pl.isList.typeIs, fun a e => ?_⟩
      cases e
      obtain ⟨o, n, e, c, hd, _⟩ := pl
      exact ⟨o, e, hd⟩
    · refine ⟨⟨o, I.kIn p o hk, hc⟩, fun a e => ?_⟩
      cases e
      exact ⟨o, I.kIn _ o hk, hd⟩
    · have z : ∃ o, s.heap.get? p = some o ∧ o.ExactDict := by
        rcases hk with ⟨kvs, hk⟩ | ⟨kvs, hk⟩
        · obtain ⟨_, _, _, _, o, _, _, e, ex, _⟩ := I.hok p _ hk
          exact ⟨o, e, ex⟩
        · obtain ⟨_, _, _, _, o, _, _, e, ex, _⟩ := I.hok p _ hk
          exact ⟨o, e, ex⟩
      obtain ⟨o, e, ex⟩ := z
      refine ⟨⟨o, e, ex.1⟩, fun a e2 => ?_⟩
      cases e2
      exact ⟨o, e, ex.2.1⟩
    · obtain ⟨o, _, _, _, e, ex, _⟩ := I.hok p _ hk
      refine ⟨⟨o, e, ex.1⟩, fun a e2 => ?_⟩
      cases e2
      exact ⟨o, e, ex.2.1⟩
  | _ => exact False.elim ty
def tBM (K : PySem.W.Frag) (T : String) (r : V → List V → Hp → VK → Prop) (to : TE) (t : TA) : TE := fun σ H Q => to σ H fun x H1 => tyV K T x H1 ∧ t σ H1 fun xs H2 => r x xs H2 Q
variable {o e : Expr} {es : List Expr} {to : TE} {t : TA} {name : Str} {apos cpos : Pos} {T id : String} {r : V → List V → Hp → VK → Prop}
theorem pe_bm (pa : PlainAttrs T) (slot : Slot T name id) (hty : typeOf (.builtin id) = pure (.type "method_descriptor")) (hm : MtR X id r) (ho : PE X o to) (ha : PA X (e :: es) t)
    (hbase : attributeBase o name X.env (eval o X.env) = eval o X.env := by rfl)
    (hfew : ((backTo cpos (starEach (e :: es) X.env)).all (fun x => !x.1) && (backToKw cpos (keywordEach [] X.env)).all (fun x => x.1.isSome)
      && decide ((e :: es).length + ([] : List Keyword).length + (if ([] : List Keyword).isEmpty then 0 else 1) < 30)) = true := by rfl)
    (hline : (apos.endLine == cpos.line) = true := by rfl) (hs : starEach (e :: es) X.env = (false, eval e X.env) :: starEach es X.env := by rfl) (hplain : (backTo cpos (starEach es X.env)).any (·.1) = false := by rfl) :
    PE X (.Call (.Attribute o name apos) (e :: es) [] cpos) (tBM X.K T r to t) := by
  intro pins s σ H Q I h
  refine wpAny_Call_method_late hbase hfew hline rfl (thn (ho pins s σ H _ I h) fun v s1 ⟨x, H1, I1, r1, ty, q1⟩ => ?_)
  obtain ⟨h1, h2⟩ := tyV_is I1 r1 ty
  refine ⟨T, id, pa, slot, hty, h1, h2, ?_⟩
  have hA := ha cpos pins s1 σ H1 _ I1 q1
  rw [hs] at hA ⊢
  refine Calls.callWith_builtin (by show (false || (backTo cpos (starEach es X.env)).any (·.1)) = false; rw [hplain] <;> rfl) (Calls.evalArgs_plain ?_)
  exact thn hA fun us s2 ⟨vs, H2, I2, r2, q2⟩ => hm pins s2 σ H2 x vs v us Q I2 r1 r2 q2
end
end L2
namespace L2
open PySem PySem.Spec PyProof.Rows
def MtM (X : Cx) (id : String) (r : V → List V → Hp → VK → Prop) : Prop :=
  ∀ (pins : List (Addr × Obj)) (s : Shared) (σ : St) (H : Hp) (x : V) (xs : List V) (v : Value) (us : List Value) (Q : VK), Inv X pins σ H s → RelV x v → Vals xs us → r x xs H Q →
    wpAny (model X.prog X.w) X.A (call (.builtin id) (v :: us)) (EP X pins σ Q) X.xe s
theorem Vals.one : ∀ {x : V} {us : List Value}, Vals [x] us → ∃ u, us = [u] ∧ RelV x u
  | _, _, .cons r .nil => ⟨_, rfl, r⟩
theorem Vals.two : ∀ {x y : V} {us : List Value}, Vals [x, y] us → ∃ u v, us = [u, v] ∧ RelV x u ∧ RelV y v
  | _, _, _, .cons r (.cons q .nil) => ⟨_, _, rfl, r, q⟩
theorem Vals.zero : ∀ {us : List Value}, Vals [] us → us = []
  | _, .nil => rfl
theorem Vals.eraseIdx : ∀ {xs : List V} {us : List Value} (i : Nat), Vals xs us → Vals (xs.eraseIdx i) (us.eraseIdx i)
  | _, _, _, .nil => .nil
  | _, _, 0, .cons _ t => t
  | _, _, i + 1, .cons r t => .cons r (Vals.eraseIdx i t)
theorem Vals.reverse {xs : List V} {us : List Value} (h : Vals xs us) : Vals xs.reverse us.reverse := by
  induction h with
  | nil => exact .nil
  | cons r t ih => rw [List.reverse_cons, List.reverse_cons]; exact Vals.append ih (.cons r .nil)
theorem Vals.rep {xs : List V} {us : List Value} (h : Vals xs us) : ∀ k : Nat, Vals (List.replicate k xs).flatten (List.replicate k us).flatten
  | 0 => .nil
  | k + 1 => by
    rw [List.replicate_succ, List.replicate_succ, List.flatten_cons, List.flatten_cons]
    exact Vals.append h (Vals.rep h k)
theorem foldl_rep (its : List Value) : ∀ (k : Nat) (acc : List Value),
    List.foldl (fun x1 x2 => x1 ++ x2) acc.toArray (List.replicate k its.toArray) = (acc ++ (List.replicate k its).flatten).toArray
  | 0, acc => by simp
  | k + 1, acc => by
    have e : acc.toArray ++ its.toArray = (acc ++ its).toArray := by simp
    have e2 : (acc ++ its) ++ (List.replicate k its).flatten = acc ++ (List.replicate (k + 1) its).flatten := by
      rw [List.replicate_succ, List.flatten_cons, List.append_assoc]
    rw [← e2, ← foldl_rep its k (acc ++ its), ← e, List.replicate_succ, List.foldl_cons]
section
variable {X : Cx} {pins : List (Addr × Obj)} {σ : St} {H : Hp} {s : Shared} {l b : Addr} {xs ys zs : List V}
theorem Inv.lset {its its' : List Value} {n : Nat} {f : Array Value → Array Value} {t' : Nat} (I : Inv X pins σ H s) (hH : H l = some (.lst xs))
    (e : s.heap.get? l = some { cls := .type "list", data := .seq its.toArray n }) (hf : f its.toArray = its'.toArray) (hv : Vals ys its') (hz : ys.length ≤ sizeLine) :
    Inv X pins σ (upd H l (.lst ys)) { s with heap := s.heap.update l (Obj.mapSeq f), toks := t' } := by
  have q := PySem.IsL.update e f
  rw [hf] at q
  refine I.write (x := l) (e := l) (by rw [hH]; exact trivial) (.inl rfl) (fun b' u hb hu => (Heap.get?_update_other s.heap (Obj.mapSeq f) (Ne.symm hb)).trans hu) ⟨_, q⟩ ?_
  exact ⟨hz, its', _, hv, q⟩
theorem Inv.lnew {its : List Value} {t' : Nat} (I : Inv X pins σ H s) (hv : Vals ys its) (hz : ys.length ≤ sizeLine) :
    Inv X pins σ (upd H s.heap.objs.size (.lst ys)) { s with heap := s.heap.push { cls := .type "list", data := .seq its.toArray }, toks := t' } :=
  I.laid (fun _ _ q => Heap.get?_push_of_some _ q) (Nat.le_refl _) ⟨hz, its, 0, hv, Heap.get?_push_size _ rfl⟩
theorem Inv.fresh (I : Inv X pins σ H s) : H s.heap.objs.size = none := I.hok.fresh (Nat.le_refl _)
theorem Inv.lstM (I : Inv X pins σ H s) (hH : H l = some (.lst xs)) : xs.length ≤ sizeLine ∧ ∃ (its : List Value) (n : Nat), Vals xs its ∧ xs.length = its.length ∧ s.heap.get? l = some { cls := .type "list", data := .seq its.toArray n } := by
  obtain ⟨z, its, n, r, e⟩ := I.hok l _ hH
  exact ⟨z, its, n, r, r.length, e⟩
theorem notLongL {n : Nat} (h : n ≤ sizeLine) : Builtin.List.listTooLong n = false := by
  unfold Builtin.List.listTooLong
  exact decide_eq_false (by omega)
end
section
variable {X : Cx}
def rAppend : V → List V → Hp → VK → Prop := fun x vs H Q => ∃ l xs y, x = .ref l ∧ vs = [y] ∧ H l = some (.lst xs) ∧ xs.length < sizeLine ∧ Q .non (upd H l (.lst (xs ++ [y])))
theorem mt_append : MtM X "list.append" rAppend := by
  intro pins s σ H x vs v us Q I rx rv h
  obtain ⟨l, xs, y, rfl, rfl, hH, hz, q⟩ := h
  cases rx
  obtain ⟨u, rfl, ru⟩ := rv.one
  obtain ⟨z, its, n, r, hl, e⟩ := I.lstM hH
  refine call_meets F.slot_list_append ⟨_, e, rfl⟩ F.entry_list_append (F.args_list_append_2 _ _) (PySem.list_append l its.toArray n u (by rw [List.size_toArray]; omega)) ⟨e, ?_⟩
  refine ⟨.non, _, I.lset (its' := its ++ [u]) hH e (by simp) (r.append (.cons ru .nil)) ?_, rfl, q⟩
  rw [List.length_append, List.length_singleton]
  omega
def rExtend : V → List V → Hp → VK → Prop := fun x vs H Q => ∃ l b xs zs, x = .ref l ∧ vs = [.ref b] ∧ H l = some (.lst xs) ∧ H b = some (.lst zs) ∧ xs.length + zs.length ≤ sizeLine ∧ Q .non (upd H l (.lst (xs ++ zs)))
theorem mt_extend : MtM X "list.extend" rExtend := by
  intro pins s σ H x vs v us Q I rx rv h
  obtain ⟨l, b, xs, zs, rfl, rfl, hH, hB, hz, q⟩ := h
  cases rx
  obtain ⟨u, rfl, ru⟩ := rv.one
  cases ru
  obtain ⟨z, its, n, r, hl, e⟩ := I.lstM hH
  obtain ⟨z2, its2, n2, r2, hl2, e2⟩ := I.lstM hB
  have hsz : its.toArray.size + its2.toArray.size ≤ sizeLine := by rw [List.size_toArray, List.size_toArray]; omega
  have hlong : ¬ (!its.toArray.isEmpty && Builtin.List.listTooLong (its.toArray.size + its2.toArray.size)) = true := by
    rw [notLongL hsz, Bool.and_false]
    exact Bool.false_ne_true
  refine call_meets F.slot_list_extend ⟨_, e, rfl⟩ F.entry_list_extend (F.args_list_extend_2 _ _)
    (AutoSeq1.list_extend_list_list_0 l its.toArray n b its2.toArray n2 hlong (by rw [List.size_toArray]; omega) (by omega)) ⟨e, e2, ?_⟩
  refine ⟨.non, _, I.lset (its' := its ++ its2) hH e (by simp) (r.append r2) ?_, rfl, q⟩
  rw [List.length_append]
  omega
def rCat : R2 := fun x y H Q => ∃ l b xs zs, x = .ref l ∧ y = .ref b ∧ H l = some (.lst xs) ∧ H b = some (.lst zs) ∧ xs.length + zs.length ≤ sizeLine ∧ ∀ p, H p = none → Q (.ref p) (upd H p (.lst (xs ++ zs)))
theorem op_cat : OpR X (binaryOp .Add) rCat := by
  intro pins s σ H x y v u Q I rx ry h
  obtain ⟨l, b, xs, zs, rfl, rfl, hH, hB, hz, q⟩ := h
  cases rx
  cases ry
  obtain ⟨z, its, n, r, hl, e⟩ := I.lstM hH
  obtain ⟨z2, its2, n2, r2, hl2, e2⟩ := I.lstM hB
  refine PySem.P.add_list e e2 ?_ (by rw [List.size_toArray, List.size_toArray]; omega)
  have ea : its.toArray ++ its2.toArray = (its ++ its2).toArray := by simp
  rw [ea]
  exact ⟨.ref _, _, I.lnew (t' := s.toks) (r.append r2) (by rw [List.length_append]; omega), rfl, q _ I.fresh⟩
def rRep : R2 := fun x y H Q => ∃ l k xs, x = .ref l ∧ y = .int k ∧ H l = some (.lst xs) ∧ -(2 ^ 63) ≤ k ∧ k < 2 ^ 63 ∧ xs.length * k.toNat ≤ sizeLine ∧
  ∀ p, H p = none → Q (.ref p) (upd H p (.lst (List.replicate k.toNat xs).flatten))
theorem len_rep {α : Type} (xs : List α) (k : Nat) : (List.replicate k xs).flatten.length = k * xs.length := by
  induction k with
  | zero => simp
  | succ k ih => rw [List.replicate_succ, List.flatten_cons, List.length_append, ih, Nat.succ_mul, Nat.add_comm]
theorem op_rep : OpR X (binaryOp .Mult) rRep := by
  intro pins s σ H x y v u Q I rx ry h
  obtain ⟨l, k, xs, rfl, rfl, hH, h1, h2, hz, q⟩ := h
  cases rx
  obtain ⟨t, rfl⟩ := ry
  obtain ⟨z, its, n, r, hl, e⟩ := I.lstM hH
  have hlen : its.toArray.size * k.toNat ≤ sizeLine := by rw [List.size_toArray, ← hl]; exact hz
  have hcap : ¬ its.toArray.size * k.toNat > (2 ^ 63 - 1) / 8 := by
    have : (sizeLine : Nat) ≤ (2 ^ 63 - 1) / 8 := by decide
    omega
  have hfit : ¬ (!Builtin.List.listFitsIndex k) = true := by
    rw [fitsIndex_both h1 h2]
    exact Bool.false_ne_true
  have hlong : ¬ Builtin.List.listTooLong (its.toArray.size * k.toNat) = true := by
    rw [notLongL hlen]
    exact Bool.false_ne_true
  have hnew : List.foldl (fun x1 x2 => x1 ++ x2) #[] (List.replicate (if its.toArray.isEmpty = true then 0 else k.toNat) its.toArray) = (List.replicate k.toNat its).flatten.toArray := by
    have f0 : ∀ m : Nat, List.foldl (fun x1 x2 => x1 ++ x2) #[] (List.replicate m its.toArray) = (List.replicate m its).flatten.toArray := fun m => by
      have := foldl_rep its m []
      rw [List.nil_append] at this
      exact this
    rw [f0]
    cases its with
    | nil => simp
    | cons a r' => rw [if_neg (by simp)]
  refine wpAny_binaryOp_repeat_ref (T := "list") (U := "int") (by decide) ⟨_, e, rfl⟩ (fun s' => typeIs_int s' k t) noFill_list_mul F.fills_int_mul F.slot_int_rmul repeat_list F.slot_int_index.lookup
    (call_meets F.slot_int_rmul (typeIs_int s k t) F.entry_int_rmul (F.args_int_rmul_2 _ _) (int___rmul___int_list k t l its.toArray n)
      ⟨e, rfl, ⟨_, e, rfl⟩, call_meets F.slot_list_mul ⟨_, e, rfl⟩ F.entry_list_mul (F.args_list_mul_2 _ _) (AutoListH.list___mul___list_int_3 l its.toArray n k t hfit hcap hlong) ⟨e, ?_⟩⟩)
  rw [hnew]
  exact ⟨.ref _, _, I.lnew (t' := s.toks) (r.rep k.toNat) (by rw [len_rep, Nat.mul_comm]; exact hz), rfl, q _ I.fresh⟩
end
section
variable {prog : Program} {w : World} {A : Around} {E : Value → Shared → Prop} {s : Shared}
end
section
variable {X : Cx}
end
end L2
namespace L2
open PySem PySem.Spec PyProof.Rows
theorem Vals.ints : ∀ {ns : List Int} {us : List Value}, Vals (ns.map V.int) us → IntsAre us ns
  | [], us, h => by
    rw [List.map_nil] at h
    cases h
    exact IntsAre.nil
  | n :: ns, us, h => by
    rw [List.map_cons] at h
    cases h with
    | cons r t =>
      obtain ⟨k, rfl⟩ := r
      exact IntsAre.cons n k (Vals.ints t)
theorem vals_of_ints : ∀ {us : List Value} {ns : List Int}, IntsAre us ns → Vals (ns.map V.int) us
  | _, _, .nil => by rw [List.map_nil]; exact Paired.nil
  | _, _, .cons n t h => by rw [List.map_cons]; exact Paired.cons (show RelV (V.int n) (Value.int n t) from ⟨t, rfl⟩) (vals_of_ints h)
theorem Vals.strs : ∀ {xs : List Str} {us : List Value}, Vals (xs.map V.str) us → StrsAre us xs
  | [], us, h => by
    rw [List.map_nil] at h
    cases h
    exact StrsAre.nil
  | x :: xs, us, h => by
    rw [List.map_cons] at h
    cases h with
    | cons r t =>
      obtain ⟨k, rfl⟩ := r
      exact StrsAre.cons x k (Vals.strs t)
theorem Vals.bls : ∀ {bs : List Bool} {us : List Value}, Vals (bs.map V.bl) us → us = bs.map Value.bool
  | [], us, h => by
    rw [List.map_nil] at h
    cases h
    rfl
  | b :: bs, us, h => by
    rw [List.map_cons] at h
    cases h with
    | cons r t =>
      cases r
      rw [Vals.bls t, List.map_cons]
theorem Vals.ref1 {a : Addr} {us : List Value} (r : Vals [V.ref a] us) : us = [Value.ref a] := by
  cases r with
  | cons r t =>
    cases t
    cases r
    rfl
section
variable {prog : Program} {w : World} {A : Around} {E : Value → Shared → Prop} {s : Shared} {l : Addr} {its : List Value} {ns : List Int} {Q : Value → Shared → Prop}
theorem sum_raw (hh : A.handled = none) (hl : s.heap.IsList l its.toArray) (hi : IntsAre its ns)
    (h : ∀ h' tk t', (∀ b o, s.heap.get? b = some o → h'.get? b = some o) → Q (.int ns.sum t') { s with heap := h', toks := tk }) : wpAny (model prog w) A (call (.builtin "sum") [.ref l]) Q E s := by
  obtain ⟨xs, e⟩ := hi.allInts.items
  have hn : numsOf (intItems xs).toList = ns := by rw [← e]; exact hi.numsOf
  rw [nums_intItems] at hn
  rw [e] at hl
  refine PySem.sum_intListG hh hl fun h' tk t' hk => ?_
  have := h h' tk t' hk
  rw [preSum_eq, List.take_of_length_le (by simp), hn]; exact this
end
section
variable {X : Cx}
def rSum (K : PySem.W.Frag) : List V → Hp → VK → Prop := fun vs H Q => ∃ (a : Addr) (ns : List Int), vs = [V.ref a] ∧ SqL K H a (ns.map V.int) ∧ Q (.int ns.sum) H
theorem cr_sum (hc : X.calm = true) : CallR X (.builtin "sum") (rSum X.K) := by
  intro pins s σ H vs us Q I r h
  obtain ⟨a, ns, rfl, hs, q⟩ := h
  obtain ⟨its, rv, hl, _⟩ := I.list hs
  rw [Vals.ref1 r]
  exact sum_raw (I.ok.hd hc) hl.isList rv.ints fun h' tk t' hk => ⟨.int _, H, I.kept hk, ⟨_, rfl⟩, q⟩
end
section
variable {X : Cx}
def rIndex (K : PySem.W.Frag) : V → List V → Hp → VK → Prop := fun x xs H Q => ∃ (a : Addr) (ys : List V) (y : V) (j : Nat) (z : V), x = V.ref a ∧ xs = [y] ∧ SqL K H a ys ∧ flatV y = true ∧ ys.all flatV = true ∧ ys[j]? = some z ∧ eqV z y = true ∧
  (∀ (m : Nat) (z' : V), m < j → ys[m]? = some z' → eqV z' y = false) ∧ Q (.int (j : Nat)) H
theorem flat_at {ys : List V} (f : ys.all flatV = true) {j : Nat} {z : V} (h : ys[j]? = some z) : flatV z = true := List.all_eq_true.mp f z (List.mem_of_getElem? h)
theorem mt_index : MtR X "list.index" (rIndex X.K) := by
  intro pins s σ H x xs v us Q I rx rxs h
  obtain ⟨a, ys, y, j, z, rfl, rfl, hs, fy, fys, hz, hzj, hno, q⟩ := h
  cases rx
  cases rxs with
  | cons ry rt =>
    rename_i uy ut
    cases rt
    obtain ⟨its, rv, ⟨⟨cls, dd, data, sl⟩, n, ho, hc, hdn, hd⟩, hlen⟩ := I.list hs
    simp only at hc hd
    subst hc hd
    obtain ⟨u, hu, ru⟩ := rv.get hz
    obtain ⟨hjl, hje⟩ := List.getElem?_eq_some_iff.mp hu
    have hvl := rv.length
    have hj : j < its.toArray.size := by simpa using hjl
    have hsl := sizeLine_eq
    refine call_meets PySem.F.slot_list_index ⟨_, ho, rfl⟩ PySem.F.entry_list_index (PySem.F.args_list_index_2 _ _)
      (SeqAt.list_indexAt a its.toArray n dd sl uy (eqU y) j hj (by omega) ?_ ?_) ⟨ho, fun u' hu' => mem_eqAt ry fy rv fys u' (by simpa using hu'), ?_⟩
    · have e1 : its.toArray[j] = u := by simpa using hje
      rw [e1, eqU_of ru (flat_at fys hz)]
      exact hzj
    · intro m hm hmj
      have hml : m < its.length := by simpa using hm
      have hmy : m < ys.length := by omega
      have hy' : ys[m]? = some ys[m] := List.getElem?_eq_getElem hmy
      obtain ⟨u2, hu2, ru2⟩ := rv.get hy'
      obtain ⟨_, hme⟩ := List.getElem?_eq_some_iff.mp hu2
      have e1 : its.toArray[m] = u2 := by simpa using hme
      rw [e1, eqU_of ru2 (flat_at fys hy')]
      exact hno m _ hmj hy'
    · exact ⟨.int (j : Nat), H, I.tok _, ⟨_, rfl⟩, q⟩
end
section
variable {X : Cx}
end
theorem iter_any {prog : Program} {w : World} {A : Around} {E : Value → Shared → Prop} {s : Shared} {l : Addr} {items : Array Value} {Q : Value → Shared → Prop} (hl : s.heap.IsList l items)
    (h : ∀ s₂ : Shared, s₂ = { s with heap := s.heap.push { cls := .type "list_iterator", data := .fields #[.ref l, .int 0 0] } } →
      (s₂.heap.IsListIter s.heap.objs.size l 0 ∧ s₂.heap.IsList l items) → l ≠ s.heap.objs.size → Q (.ref s.heap.objs.size) s₂) : wpAny (model prog w) A (pyIter (.ref l)) Q E s := by
  have hlt : l < s.heap.objs.size := by obtain ⟨_, e, _⟩ := hl; exact Heap.lt_size e
  exact wpAny_pyIter_list hl (h _ rfl ⟨⟨_, Heap.get?_push_size _ rfl, rfl, rfl⟩, hl.push _⟩ (Nat.ne_of_lt hlt))
theorem truth_bools {prog : Program} {w : World} {A : Around} {bs : List Bool} {its : List Value} (e : its = bs.map Value.bool) :
    TruthOf prog w A (fun i v => its.toArray[i]? = some v) (fun i => bs.getD i false) := fun i v s Q E hv hq => by
  have hv' : its[i]? = some v := by simpa using hv
  rw [e, List.getElem?_map] at hv'
  obtain ⟨b, hb, rfl⟩ := Option.map_eq_some_iff.mp hv'
  have hg : bs.getD i false = b := by rw [List.getD_eq_getElem?_getD, hb] <;> rfl
  have hq' : Q (bs.getD i false) s := hq
  rw [hg] at hq'
  exact wpAny_truthy_bool hq'
theorem all_range : ∀ bs : List Bool, (List.range bs.length).all (fun i => bs.getD i false) = bs.all id
  | [] => rfl
  | b :: bs => by
    rw [List.length_cons, List.range_succ_eq_map, List.all_cons, List.all_map, List.all_cons, ← all_range bs]
    all_goals rfl
section
variable {X : Cx}
def rAll (K : PySem.W.Frag) : List V → Hp → VK → Prop := fun vs H Q => ∃ (a : Addr) (bs : List Bool), vs = [V.ref a] ∧ SqL K H a (bs.map V.bl) ∧ Q (.bl (bs.all id)) H
theorem cr_all (hc : X.calm = true) : CallR X (.builtin "all") (rAll X.K) := by
  intro pins s σ H vs us Q I r h
  obtain ⟨a, bs, rfl, hs, q⟩ := h
  obtain ⟨its, rv, hl, _⟩ := I.list hs
  rw [Vals.ref1 r]
  have hb := rv.bls
  refine call_all_walk (iter_any hl.isList fun s₂ e2 st hne => ?_)
  subst e2
  refine ⟨_, _, _, _, _, _, _, rfl, Walks.list (A := X.A.in1) (I.ok.hd hc) _ a hne its.toArray, st, truth_bools hb, fun h' tk hk => ?_⟩
  refine ⟨.bl _, H, I.kept fun b o eo => hk b o (fun hmem => ?_) (Heap.get?_push_of_some _ eo), ?_, q⟩
  · rcases List.mem_cons.mp hmem with e1 | hmem
    · exact absurd (e1 ▸ Heap.lt_size eo) (Nat.lt_irrefl _)
    · cases hmem
  · show Value.bool _ = Value.bool _
    rw [← all_range, hb, List.size_toArray, List.length_map]
end
mutual
inductive Dp (K : PySem.W.Frag) (H : Hp) : V → PyData → Prop
  | non : Dp K H .non .none
  | bl (b : Bool) : Dp K H (.bl b) (.bool b)
  | int (i : Int) : Dp K H (.int i) (.int i)
  | str (x : Str) : Dp K H (.str x) (.str x)
  | lst {a : Addr} {xs : List V} {ds : List PyData} : SqL K H a xs → DpAll K H xs ds → Dp K H (.ref a) (.list ds)
  | tup {a : Addr} {xs : List V} {ds : List PyData} : SqT K H a xs → DpAll K H xs ds → Dp K H (.ref a) (.tuple ds)
inductive DpAll (K : PySem.W.Frag) (H : Hp) : List V → List PyData → Prop
  | nil : DpAll K H [] []
  | cons {v : V} {vs : List V} {d : PyData} {ds : List PyData} : Dp K H v d → DpAll K H vs ds → DpAll K H (v :: vs) (d :: ds)
end
section
variable {X : Cx} {pins : List (Addr × Obj)} {σ : St} {H : Hp} {s : Shared}
mutual
theorem Dp.reads (I : Inv X pins σ H s) : ∀ (d : PyData) (v : V) (u : Value), Dp X.K H v d → RelV v u → ∃ as, Reads s.heap u d as
  | .none, _, _, h, r => by
    cases h
    cases r
    exact ⟨_, Reads.none⟩
  | .bool b, _, _, h, r => by
    cases h
    cases r
    exact ⟨_, Reads.bool b⟩
  | .int i, _, _, h, r => by
    cases h
    obtain ⟨t, rfl⟩ := r
    exact ⟨_, Reads.int i t⟩
  | .str x, _, _, h, r => by
    cases h
    obtain ⟨t, rfl⟩ := r
    exact ⟨_, Reads.str x t⟩
  | .list ds, _, _, h, r => by
    cases h with
    | lst hs ha =>
      cases r
      obtain ⟨its, rv, ⟨o, n, ho, hc, _, hd⟩, _⟩ := I.list hs
      obtain ⟨as, hr⟩ := Dp.readsAll I ds _ its ha rv
      exact ⟨_, Reads.list ho hc hd hr⟩
  | .tuple ds, _, _, h, r => by
    cases h with
    | tup hs ha =>
      cases r
      obtain ⟨its, rv, ⟨o, ho, hc, n, hd⟩, _⟩ := I.tuple hs
      obtain ⟨as, hr⟩ := Dp.readsAll I ds _ its ha rv
      exact ⟨_, Reads.tuple ho hc hd hr⟩
  | .dict _, _, _, h, _ => by cases h
theorem Dp.readsAll (I : Inv X pins σ H s) : ∀ (ds : List PyData) (vs : List V) (us : List Value), DpAll X.K H vs ds → Vals vs us → ∃ as, ReadsAll s.heap us ds as
  | [], _, _, h, r => by
    cases h
    cases r
    exact ⟨_, ReadsAll.nil⟩
  | d :: ds, _, _, h, r => by
    cases h with
    | cons h1 h2 =>
      cases r with
      | cons r1 r2 =>
        obtain ⟨as, q1⟩ := Dp.reads I d _ _ h1 r1
        obtain ⟨bs, q2⟩ := Dp.readsAll I ds _ _ h2 r2
        exact ⟨_, ReadsAll.cons q1 q2⟩
end
end
section
variable {X : Cx}
def rEqD (K : PySem.W.Frag) : R2 := fun x y H Q => ∃ d e, Dp K H x d ∧ Dp K H y e ∧ SeqAt.shaped d = true ∧ SeqAt.shaped e = true ∧ Q (.bl (PyData.eqv d e)) H
def rNeD (K : PySem.W.Frag) : R2 := fun x y H Q => ∃ d e, Dp K H x d ∧ Dp K H y e ∧ SeqAt.shaped d = true ∧ SeqAt.shaped e = true ∧ Q (.bl (!PyData.eqv d e)) H
theorem op_eqD (hu : X.A.units + 64 < cLine) : OpR X (compareOp .Eq) (rEqD X.K) := by
  intro pins s σ H x y v u Q I rx ry h
  obtain ⟨d, e, hd, he, sd, se, q⟩ := h
  obtain ⟨as, r1⟩ := Dp.reads I d x v hd rx
  obtain ⟨bs, r2⟩ := Dp.reads I e y u he ry
  exact SeqAt.compareEq_shaped r1 r2 sd se hu ⟨.bl _, H, I, rfl, q⟩
theorem op_neD (hu : X.A.units + 64 < cLine) : OpR X (compareOp .NotEq) (rNeD X.K) := by
  intro pins s σ H x y v u Q I rx ry h
  obtain ⟨d, e, hd, he, sd, se, q⟩ := h
  obtain ⟨as, r1⟩ := Dp.reads I d x v hd rx
  obtain ⟨bs, r2⟩ := Dp.reads I e y u he ry
  exact SeqAt.compareNe_shaped r1 r2 sd se hu ⟨.bl _, H, I, rfl, q⟩
end
end L2
namespace L2
open PySem PySem.Spec PyProof.Rows
abbrev CellAt (h : Heap) (c : Addr) (v : Option Value) : Prop := h.IsCell c v
def relS (scope sc : Scope) : Scope :=
  { scope with names := scope.names.map fun (n, k) => if (k == .free && sc.kind == .function && sc.names.lookup n == some .cell) then (n, .cell) else (n, k) }
def cloFrom (cells : List (Str × Addr)) : List (Str × NameKind) → List (Str × Addr) → List (Str × Addr)
  | [], acc => acc
  | (n, k) :: r, acc => if k == .free then cloFrom cells r ((n, (cells.lookup n).getD 0) :: acc) else cloFrom cells r acc
theorem closure_loop (env : Env) (f : Str × NameKind → List (Str × Addr) → Sem (ForInStep (List (Str × Addr))))
    (hf : ∀ n k c, f (n, k) c = if k == .free then (do let a ← cellOf env n; pure (.yield ((n, a) :: c))) else pure (.yield c)) :
    ∀ (names : List (Str × NameKind)) (acc : List (Str × Addr)), (∀ y ∈ names, y.2 = .free → ∃ c, env.cells.lookup y.1 = some c) → forIn names acc f = pure (cloFrom env.cells names acc)
  | [], acc, _ => by rw [List.forIn_nil]; rfl
  | (n, k) :: r, acc, h => by
    rw [List.forIn_cons, hf]
    have ih := fun acc => closure_loop env f hf r acc fun y hy => h y (List.mem_cons_of_mem _ hy)
    unfold cloFrom
    by_cases hk : (k == NameKind.free) = true
    · rw [if_pos hk, if_pos hk]
      obtain ⟨c, hc⟩ := h (n, k) List.mem_cons_self (by simpa using hk)
      have e : cellOf env n = pure c := by unfold cellOf; rw [hc]
      rw [e]
      have e2 : (env.cells.lookup n).getD 0 = c := by rw [hc]; rfl
      rw [e2]
      exact ih _
    · rw [if_neg hk, if_neg hk]
      exact ih _
theorem closure_ok {scope : Scope} {env : Env} (h : ∀ y ∈ scope.names, y.2 = .free → ∃ c, env.cells.lookup y.1 = some c) : closureFor scope env = pure (cloFrom env.cells scope.names []) := by
  simp only [closureFor]
  rw [closure_loop env _ (fun n k c => rfl) scope.names [] h]
  rfl
theorem mem_lookup {α : Type} : ∀ {l : List (Str × α)} {n : Str} {c : α}, (n, c) ∈ l → ∃ c', l.lookup n = some c'
  | (k, v) :: r, n, c, h => by
    rw [List.lookup_cons]
    cases hb : n == k with
    | true => exact ⟨_, rfl⟩
    | false =>
      rcases List.mem_cons.mp h with e | h
      · cases e; simp at hb
      · exact mem_lookup h
theorem cloFrom_mem {cells : List (Str × Addr)} : ∀ {names : List (Str × NameKind)} {acc : List (Str × Addr)} {n : Str} {c : Addr}, (n, c) ∈ cloFrom cells names acc → (n, c) ∈ acc ∨ ((n, .free) ∈ names ∧ c = (cells.lookup n).getD 0)
  | [], _, _, _, h => .inl h
  | (m, k) :: r, acc, n, c, h => by
    unfold cloFrom at h
    split at h
    · rename_i hk
      have hk : k = .free := by simpa using hk
      rcases cloFrom_mem h with h | ⟨h1, h2⟩
      · rcases List.mem_cons.mp h with e | h
        · cases e; exact .inr ⟨hk ▸ List.mem_cons_self, rfl⟩
        · exact .inl h
      · exact .inr ⟨List.mem_cons_of_mem _ h1, h2⟩
    · rcases cloFrom_mem h with h | ⟨h1, h2⟩
      · exact .inl h
      · exact .inr ⟨List.mem_cons_of_mem _ h1, h2⟩
theorem cloFrom_acc {cells : List (Str × Addr)} : ∀ {names : List (Str × NameKind)} {acc : List (Str × Addr)} {p : Str × Addr}, p ∈ acc → p ∈ cloFrom cells names acc
  | [], _, _, h => h
  | (m, k) :: r, acc, p, h => by
    unfold cloFrom
    split
    · exact cloFrom_acc (List.mem_cons_of_mem _ h)
    · exact cloFrom_acc h
theorem cloFrom_has {cells : List (Str × Addr)} : ∀ {names : List (Str × NameKind)} {acc : List (Str × Addr)} {n : Str}, (n, .free) ∈ names → (n, (cells.lookup n).getD 0) ∈ cloFrom cells names acc
  | (m, k) :: r, acc, n, h => by
    unfold cloFrom
    rcases List.mem_cons.mp h with e | h
    · cases e
      exact cloFrom_acc List.mem_cons_self
    · split
      · exact cloFrom_has h
      · exact cloFrom_has h
theorem cells_mem : ∀ {names : List (Str × NameKind)} {h : Heap} {acc : List (Str × Addr)} {x : Str} {c : Addr}, (x, c) ∈ cellsFrom h.objs.size names acc →
    (x, c) ∈ acc ∨ ((x, .cell) ∈ names ∧ h.objs.size ≤ c ∧ CellAt (pushCells h names) c none)
  | [], _, _, _, _, h => .inl h
  | (n, k) :: r, h, acc, x, c, hm => by
    unfold cellsFrom at hm
    unfold pushCells
    split at hm
    · rename_i hk
      rw [if_pos hk]
      have hk : k = .cell := by simpa using hk
      rw [← Heap.size_push h { cls := .type "cell", data := .cell none }] at hm
      rcases cells_mem hm with hm | ⟨h1, h2, h3⟩
      · rcases List.mem_cons.mp hm with e | hm
        · cases e
          exact .inr ⟨hk ▸ List.mem_cons_self, Nat.le_refl _, _, pushCells_keeps r _ _ _ (Heap.get?_push_size _ rfl), rfl⟩
        · exact .inl hm
      · rw [Heap.size_push] at h2
        exact .inr ⟨List.mem_cons_of_mem _ h1, Nat.le_of_succ_le h2, h3⟩
    · rename_i hk
      rw [if_neg hk]
      rcases cells_mem hm with hm | ⟨h1, h2, h3⟩
      · exact .inl hm
      · exact .inr ⟨List.mem_cons_of_mem _ h1, h2, h3⟩
theorem cells_acc : ∀ {names : List (Str × NameKind)} {n : Nat} {acc : List (Str × Addr)} {p : Str × Addr}, p ∈ acc → p ∈ cellsFrom n names acc
  | [], _, _, _, h => h
  | (m, k) :: r, n, acc, p, h => by
    unfold cellsFrom
    split
    · exact cells_acc (List.mem_cons_of_mem _ h)
    · exact cells_acc h
theorem cells_has : ∀ {names : List (Str × NameKind)} {n : Nat} {acc : List (Str × Addr)} {x : Str}, (x, .cell) ∈ names → ∃ c, (x, c) ∈ cellsFrom n names acc
  | (m, k) :: r, n, acc, x, h => by
    unfold cellsFrom
    rcases List.mem_cons.mp h with e | h
    · cases e
      exact ⟨n, cells_acc List.mem_cons_self⟩
    · split
      · exact cells_has h
      · exact cells_has h
theorem cells_inj : ∀ {names : List (Str × NameKind)} {h : Heap} {acc : List (Str × Addr)} {x y : Str} {c : Addr}, (∀ p ∈ acc, p.2 < h.objs.size) → (∀ x y c, (x, c) ∈ acc → (y, c) ∈ acc → x = y) →
    (x, c) ∈ cellsFrom h.objs.size names acc → (y, c) ∈ cellsFrom h.objs.size names acc → x = y
  | [], _, _, _, _, _, _, hi, h1, h2 => hi _ _ _ h1 h2
  | (n, k) :: r, h, acc, x, y, c, hl, hi, h1, h2 => by
    unfold cellsFrom at h1 h2
    split at h1
    · rename_i hk
      rw [if_pos hk] at h2
      rw [← Heap.size_push h { cls := .type "cell", data := .cell none }] at h1 h2
      refine cells_inj (h := h.push _) (fun p hp => ?_) (fun x y c a b => ?_) h1 h2
      · rw [Heap.size_push]
        rcases List.mem_cons.mp hp with rfl | hp
        · exact Nat.lt_succ_self _
        · exact Nat.lt_succ_of_lt (hl p hp)
      · rcases List.mem_cons.mp a with e | a <;> rcases List.mem_cons.mp b with e' | b
        · cases e; cases e'; rfl
        · cases e; exact absurd (hl _ b) (Nat.lt_irrefl _)
        · cases e'; exact absurd (hl _ a) (Nat.lt_irrefl _)
        · exact hi _ _ _ a b
    · rename_i hk
      rw [if_neg hk] at h2
      exact cells_inj hl hi h1 h2
theorem newEnv_comp {M : Model} {A : Around} {E : Value → Shared → Prop} {s : Shared} {scope : Scope} {globals : Addr} {closure : List (Str × Addr)} {qual : Str} {func : Option Addr} {code : Value} {around : Env} {builtins : Addr} {Q : Env → Shared → Prop}
    (h : Q (newEnv scope s.heap.objs.size globals (cellsFrom (s.heap.objs.size + 1) scope.names closure) qual func code (some around) builtins)
      { s with heap := pushCells (s.heap.push { cls := .type "dict", data := .dict #[] }) scope.names }) :
    wpAny M A (newFunctionEnv scope globals closure [] qual func code (some around) builtins) Q E s := by
  simp only [newFunctionEnv, Option.isSome_some, if_true]
  refine wpAny_bind (wpAny_alloc ?_)
  refine wpAny_bind (wpAny_layCells _ (fun n k c => rfl) scope.names closure _ _ ?_)
  rw [show ({ s with heap := s.heap.push { cls := .type "dict", data := .dict #[] } } : Shared).heap.objs.size = s.heap.objs.size + 1 from Heap.size_push ..]
  rw [List.forIn_nil]
  exact wpAny_bind (wpAny_pure (wpAny_pure h))
theorem lookup_relS {sc : Scope} : ∀ {names : List (Str × NameKind)} {x : Str} {k : NameKind},
    (names.map fun (n, k) => if (k == NameKind.free && sc.kind == .function && sc.names.lookup n == some .cell) then (n, NameKind.cell) else (n, k)).lookup x = some k →
    ∃ k', names.lookup x = some k' ∧ (k = k' ∨ (k' = .free ∧ k = .cell))
  | [], _, _, h => by simp at h
  | (n, k₀) :: r, x, k, h => by
    have ih := @lookup_relS sc r x k
    have h' : List.lookup x ((if (k₀ == NameKind.free && sc.kind == .function && sc.names.lookup n == some .cell) = true then (n, NameKind.cell) else (n, k₀)) :: (r.map _)) = some k := h
    cases hx : x == n with
    | true =>
      simp only [List.lookup_cons, hx]
      by_cases hc : (k₀ == NameKind.free && sc.kind == .function && sc.names.lookup n == some .cell) = true
      · rw [if_pos hc] at h'
        simp only [List.lookup_cons, hx] at h'
        cases h'
        simp only [Bool.and_eq_true, beq_iff_eq] at hc
        exact ⟨k₀, rfl, .inr ⟨hc.1.1, rfl⟩⟩
      · rw [if_neg hc] at h'
        simp only [List.lookup_cons, hx] at h'
        cases h'
        exact ⟨_, rfl, .inl rfl⟩
    | false =>
      simp only [List.lookup_cons, hx]
      by_cases hc : (k₀ == NameKind.free && sc.kind == .function && sc.names.lookup n == some .cell) = true
      · rw [if_pos hc] at h'
        simp only [List.lookup_cons, hx] at h'
        exact ih h'
      · rw [if_neg hc] at h'
        simp only [List.lookup_cons, hx] at h'
        exact ih h'
structure BlkOk (N : List Str) (sc scope : Scope) (own : List (Str × Nat)) : Prop where
  kind : scope.kind = .function
  uniq : ∀ y ∈ scope.names, scope.names.lookup y.1 = some y.2
  ix : ∀ p ∈ own, N[p.2]? = some p.1
  free : ∀ y ∈ scope.names, y.2 = .free → sc.names.lookup y.1 = some .cell ∨ sc.names.lookup y.1 = some .free
  own : ∀ y ∈ scope.names, y.2 = .local ∨ y.2 = .cell → y.1 ∈ own.map (·.1) ∨ y.1 ∉ N
def wipe (σ : St) : List Nat → St
  | [] => σ
  | v :: vs => (wipe σ vs).set v none
theorem wipe_length (σ : St) : ∀ vs : List Nat, (wipe σ vs).length = σ.length
  | [] => rfl
  | v :: vs => by unfold wipe; rw [List.length_set, wipe_length σ vs]
theorem wipe_some {σ : St} {i : Nat} {x : V} : ∀ {vs : List Nat}, (wipe σ vs)[i]? = some (some x) → σ[i]? = some (some x) ∧ i ∉ vs
  | [], h => ⟨h, by simp⟩
  | v :: vs, h => by
    unfold wipe at h
    by_cases hi : v = i
    · subst hi
      by_cases hv : v < (wipe σ vs).length
      · rw [List.getElem?_set_self hv] at h; cases h
      · rw [List.getElem?_eq_none (by simpa using hv)] at h; cases h
    · rw [List.getElem?_set_ne hi] at h
      obtain ⟨h1, h2⟩ := wipe_some h
      exact ⟨h1, by simp only [List.mem_cons, not_or]; exact ⟨fun e => hi e.symm, h2⟩⟩
abbrev Cx.blk (X : Cx) (s : Shared) (H : Hp) (scope : Scope) (cenv : Env) (fp : List Addr) : Cx := { X with s_0 := s, H_0 := H, env := cenv, outer := X.stack, ex := fp, fn := fun x => scope.names.lookup x == some .cell, pn := [], xe := fun _ _ => False }
section
variable {X : Cx} {pins : List (Addr × Obj)} {σ : St} {H : Hp} {s : Shared}
theorem block_start {scope : Scope} {own : List (Str × Nat)} {fp : List Addr} (I : Inv X pins σ H s) (ok : BlkOk X.N X.env.scope scope own) (hN : X.N.Nodup) (hfp : ∀ b ∈ fp, FpOk X pins H b ∧ b < s.heap.objs.size) :
    Inv (X.blk s H scope (compEnvC scope (cellsFrom (s.heap.objs.size + 1) scope.names (cloFrom X.env.cells scope.names [])) s.heap.objs.size X.env) fp) [] (wipe σ (own.map (·.2))) H { s with heap := pushCells (s.heap.push { cls := .type "dict", data := .dict #[] }) scope.names } := by
  have hfree : ∀ y ∈ scope.names, y.2 = .free → ∃ c, X.env.cells.lookup y.1 = some c := fun y hy e => by
    rcases ok.free y hy e with k | k
    · exact I.ok.has _ (.inl k)
    · exact I.ok.has _ (.inr k)
  generalize hcenv : compEnvC scope (cellsFrom (s.heap.objs.size + 1) scope.names (cloFrom X.env.cells scope.names [])) s.heap.objs.size X.env = cenv
  have kp : ∀ b o, s.heap.get? b = some o → (pushCells (s.heap.push { cls := .type "dict", data := .dict #[] }) scope.names).get? b = some o := fun b o e => pushCells_keeps _ _ _ _ (Heap.get?_push_of_some _ e)
  have hL : cenv.locals = s.heap.objs.size := by rw [← hcenv]; rfl
  have hcl : cenv.cells = cellsFrom (s.heap.objs.size + 1) scope.names (cloFrom X.env.cells scope.names []) := by rw [← hcenv]; rfl
  have hsc : cenv.scope = relS scope X.env.scope := by rw [← hcenv]; rfl
  rw [← Heap.size_push s.heap { cls := .type "dict", data := .dict #[] }] at hcl
  have cm : ∀ {y c}, (y, c) ∈ cloFrom X.env.cells scope.names [] → X.env.cells.lookup y = some c ∧ c < s.heap.objs.size := fun {y c} hm => by
    rcases cloFrom_mem hm with hm | ⟨h1, rfl⟩
    · cases hm
    · obtain ⟨c, hc⟩ := hfree _ h1 rfl
      rw [hc]
      obtain ⟨w, z⟩ := I.cell _ _ hc
      exact ⟨rfl, z.lt⟩
  have mem : ∀ {y c}, cenv.cells.lookup y = some c → (X.env.cells.lookup y = some c ∧ c < s.heap.objs.size) ∨ (s.heap.objs.size + 1 ≤ c ∧ CellAt (pushCells (s.heap.push { cls := .type "dict", data := .dict #[] }) scope.names) c none) := fun {y c} e => by
    rw [hcl] at e
    rcases cells_mem (PySem.mem_of_lookup e) with hm | ⟨_, h2, h3⟩
    · exact .inl (cm hm)
    · rw [Heap.size_push] at h2; exact .inr ⟨h2, h3⟩
  have look : ∀ {y}, scope.names.lookup y = some .free → ∃ c, cenv.cells.lookup y = some c ∧ X.env.cells.lookup y = some c := fun {y} hl => by
    have hy : (y, NameKind.free) ∈ scope.names := PySem.mem_of_lookup hl
    obtain ⟨c', e'⟩ := mem_lookup (cells_acc (names := scope.names) (n := (s.heap.push { cls := .type "dict", data := .dict #[] }).objs.size) (cloFrom_has (cells := X.env.cells) (acc := []) hy))
    rw [← hcl] at e'
    refine ⟨c', e', ?_⟩
    rw [hcl] at e'
    rcases cells_mem (PySem.mem_of_lookup e') with hm | ⟨h1, _, _⟩
    · exact (cm hm).1
    · have := ok.uniq _ h1
      rw [hl] at this; cases this
  have okB : (X.blk s H scope cenv fp).Ok := by
    refine ⟨I.ok.mod, by show cenv.scope.kind = _; rw [hsc]; exact ok.kind, by show cenv.globals = _; rw [← hcenv]; exact I.ok.glob, by show cenv.builtins = _; rw [← hcenv]; exact I.ok.blt, by show s.heap.objs.size ≤ cenv.locals; rw [hL]; exact Nat.le_refl _,
      fun y z c e1 e2 => ?_, fun y hy => ?_, fun y c z e => ?_, I.ok.hd, I.ok.frames, .inl rfl, fun b hb => ⟨?_, fun y c e z => ?_⟩, I.bs, Nat.le_trans I.ok.bsz I.sz, fun b o e hb => ?_, fun b hb z => ?_, I.stack, I.stkFree⟩
    · have e1 : cenv.cells.lookup y = some c := e1
      have e2 : cenv.cells.lookup z = some c := e2
      rw [hcl] at e1 e2
      refine cells_inj (fun p hp => ?_) (fun y z c a b => I.ok.inj y z c (cm a).1 (cm b).1) (PySem.mem_of_lookup e1) (PySem.mem_of_lookup e2)
      rw [Heap.size_push]
      exact Nat.lt_succ_of_lt (cm (y := p.1) (c := p.2) hp).2
    · show ∃ c, cenv.cells.lookup y = some c
      have key : ∀ k, cenv.kindOf y = some k → (k = .cell ∨ k = .free) → ∃ c, cenv.cells.lookup y = some c := fun k hk hk' => by
        unfold Env.kindOf at hk
        rw [hsc] at hk
        obtain ⟨k', e, r⟩ := lookup_relS hk
        have : k' = .cell ∨ k' = .free := by
          rcases r with rfl | ⟨rfl, _⟩
          · exact hk'
          · exact .inr rfl
        rcases this with rfl | rfl
        · obtain ⟨c, hm⟩ := cells_has (n := (s.heap.push { cls := .type "dict", data := .dict #[] }).objs.size) (acc := cloFrom X.env.cells scope.names []) (PySem.mem_of_lookup e)
          obtain ⟨c', e'⟩ := mem_lookup hm
          exact ⟨c', by rw [hcl]; exact e'⟩
        · obtain ⟨c, h1, _⟩ := look e
          exact ⟨c, h1⟩
      rcases hy with hy | hy
      · exact key _ hy (.inl rfl)
      · exact key _ hy (.inr rfl)
    · have z : (scope.names.lookup y == some NameKind.cell) = true := z
      have z : scope.names.lookup y = some .cell := by simpa using z
      have e : cenv.cells.lookup y = some c := e
      rw [hcl] at e
      rcases cells_mem (PySem.mem_of_lookup e) with hm | ⟨_, h2, _⟩
      · rcases cloFrom_mem hm with hm | ⟨h1, _⟩
        · cases hm
        · have q := ok.uniq _ h1
          rw [z] at q; cases q
      · rw [Heap.size_push] at h2
        exact Nat.le_of_succ_le h2
    · show b ≠ cenv.locals
      rw [hL]; exact Nat.ne_of_lt (hfp b hb).2
    · have e : cenv.cells.lookup y = some c := e
      rcases mem e with ⟨h1, _⟩ | ⟨h1, _⟩
      · exact (hfp b hb).1.2.2.2.2.1 y c h1 z
      · have h2 : s.heap.objs.size + 1 ≤ b := by rw [← z]; exact h1
        exact absurd (Nat.lt_of_lt_of_le (hfp b hb).2 (Nat.le_of_succ_le h2)) (Nat.lt_irrefl _)
    · rcases (hfp b hb).1.2.2.2.1 with z | z
      · exact I.ok.noex b o e z
      · exact absurd (Nat.lt_of_lt_of_le (Heap.lt_size e) (Nat.le_trans I.ok.bsz z)) (Nat.lt_irrefl _)
    · rcases List.mem_cons.mp (I.stkSub b z) with z | z
      · exact (hfp b hb).1.2.1 z
      · exact (hfp b hb).1.2.2.1 z
  refine ⟨okB, rfl, I.bare, Un.kept kp, ⟨fun _ => none, ?_, fun i y av e1 e2 e3 => ?_⟩, fun y c e => ?_, ?_, fun y c e => ?_, fun p hp => ?_, I.hok.kept kp, by rw [wipe_length]; exact I.len⟩
  · show Heap.Ns _ cenv.locals _
    rw [hL]
    exact Heap.Ns.keeps (Heap.Ns.new ..) fun b o e => pushCells_keeps _ _ _ _ e
  · obtain ⟨e2, hne⟩ := wipe_some e2
    have hfr : scope.names.lookup y = some .free ∧ (cenv.kindOf y = some .cell ∨ cenv.kindOf y = some .free) := by
      have key : ∀ k, cenv.scope.names.lookup y = some k → k = .local ∨ k = .cell ∨ k = .free → scope.names.lookup y = some .free ∧ (cenv.kindOf y = some .cell ∨ cenv.kindOf y = some .free) := fun k hk hk' => by
        have hk0 := hk
        rw [hsc] at hk
        obtain ⟨k', e, r⟩ := lookup_relS hk
        have no : ¬ (k' = .local ∨ k' = .cell) := fun hh => by
          rcases ok.own _ (PySem.mem_of_lookup e) hh with e' | e'
          · obtain ⟨p, hp, hpy⟩ := List.mem_map.mp e'
            have e3 := ok.ix p hp
            have : p.1 = y := hpy
            rw [this] at e3
            exact hne (List.mem_map.mpr ⟨p, hp, nodup_ix hN e3 e1⟩)
          · exact e' (List.mem_of_getElem? e1)
        rcases r with rfl | ⟨rfl, rfl⟩
        · rcases hk' with rfl | rfl | rfl
          · exact absurd (.inl rfl) no
          · exact absurd (.inr rfl) no
          · exact ⟨e, .inr hk0⟩
        · exact ⟨e, .inl hk0⟩
      have e3 : Vis cenv.scope y := e3
      rcases e3 with e3 | e3 | e3
      · exact key _ e3 (.inl rfl)
      · exact key _ e3 (.inr (.inl rfl))
      · exact key _ e3 (.inr (.inr rfl))
    obtain ⟨m, hn, hl⟩ := I.loc
    have hvis : Vis X.env.scope y := (ok.free _ (PySem.mem_of_lookup hfr.1) rfl).elim (fun k => .inr (.inl k)) (fun k => .inr (.inr k))
    obtain ⟨w, r, q⟩ := hl i y av e1 e2 hvis
    refine ⟨w, r, .inr ⟨hfr.2, ?_⟩⟩
    obtain ⟨c, h1, h2⟩ := look hfr.1
    rcases q with ⟨k, _⟩ | ⟨_, c', e', z⟩
    · have k : X.env.scope.names.lookup y = some .local := k
      rcases ok.free _ (PySem.mem_of_lookup hfr.1) rfl with k' | k' <;> rw [show X.env.scope.names.lookup y = _ from k'] at k <;> cases k
    · rw [h2] at e'; cases e'
      exact ⟨c, h1, z.keeps kp⟩
  · have e : cenv.cells.lookup y = some c := e
    rcases mem e with ⟨h1, _⟩ | ⟨_, z⟩
    · obtain ⟨w, z⟩ := I.cell y c h1
      exact ⟨w, z.keeps kp⟩
    · exact ⟨_, z⟩
  · show H cenv.locals = none
    rw [hL]; exact I.hok.fresh (Nat.le_refl _)
  · have e : cenv.cells.lookup y = some c := e
    rcases mem e with ⟨h1, _⟩ | ⟨h1, _⟩
    · exact I.freeC y c h1
    · exact I.hok.fresh (Nat.le_of_succ_le h1)
  · exact absurd (show p ∈ ([] : List (Addr × Obj)) ++ [] from hp) (by simp)
theorem app_ok {E : Value → Shared → Prop} {D : Addr} {xs : List V} {y : V} {v : Value} {Q : Value → Shared → Prop} (I : Inv X pins σ H s) (hD : H D = some (.lst xs)) (hz : xs.length < sizeLine) (r : RelV y v)
    (h : ∀ s', Inv X pins σ (upd H D (.lst (xs ++ [y]))) s' → Q .none s') : wpAny (model X.prog X.w) X.A (call (.builtin "list.append") [.ref D, v]) Q E s := by
  obtain ⟨hz', its, n, ri, e⟩ := I.hok D _ hD
  have hl := ri.length
  refine append_at (hsz := by rw [List.size_toArray]; omega) e fun h' sb ho' => ?_
  refine h { s with heap := h' } (I.write (t' := s.toks) (by rw [hD]; trivial) (.inl rfl) (fun b u hb q => (sb.2 b hb).trans q) ⟨_, ho'⟩ ⟨by rw [List.length_append]; exact hz, its ++ [v], n + 1, ri.append (.cons r .nil), ?_⟩)
  rw [ho']
  simp
def PTs (X : Cx) (ifs : List Expr) (t : TT) : Prop :=
  ∀ (pins : List (Addr × Obj)) (s : Shared) (σ : St) (H : Hp) (Q : Bool → Hp → Prop), Inv X pins σ H s → t σ H Q →
    wpAny (model X.prog X.w) X.A (forIn ifs true fun c r => if r = true then do let ok ← isTrue c X.env (eval c X.env); pure (ForInStep.yield ok) else pure (ForInStep.yield r)) (TP X pins σ Q) X.xe s
def tYes : TT := fun _ H Q => Q true H
theorem pts_nil : PTs X [] tYes := fun _ _ _ H _ I h => wpAny_tests_nil ⟨H, I, h⟩
theorem pts_one {c : Expr} {t : TT} (h : PT X c t) : PTs X [c] t := fun pins s σ H Q I hw => wpAny_tests_one (h pins s σ H Q I hw)
end
theorem thnF {α : Type} {t : Sem α} {Q Q' : α → Shared → Prop} {M : Model} {A : Around} {E : Value → Shared → Prop} {s : Shared} (h : wpAny M A t Q (fun _ _ => False) s) (hQ : ∀ a s, Q a s → Q' a s) : wpAny M A t Q' E s := wpAny_mono h hQ fun _ _ z => False.elim z
theorem compLoop_any {prog : Program} {w : World} {A : Around} {R : Result → Shared → Prop} {s : Shared} {elt target iter : Expr} {ifs : List Expr} {scope : Scope} {pos : Pos} {it acc : Value} {env : Env} (I : Nat → Shared → Prop)
    (turn : ∀ n s, I n s → wpAny (model prog w) A (pyNext it) (fun r s₁ => match r with
      | none => R (.ok .next) s₁
      | some v => wpAny (model prog w) A (letOwnedTupleGo target it v) (fun _ s₁' => wpAny (model prog w) A (assign target env v) (fun _ s₂ =>
          wpAny (model prog w) A (forIn ifs true fun c r => if r = true then do let ok ← isTrue c env (eval c env); pure (ForInStep.yield ok) else pure (ForInStep.yield r)) (fun ok s₃ =>
            if ok = true then wpAny (model prog w) A (eval elt env) (fun x s₄ =>
              wpAny (model prog w) A (call (.builtin "list.append") [acc, x]) (fun _ s₅ => ∃ m, m < n ∧ I m s₅) (notedBy (model prog w) A env fun e s' => R (.error e) s') s₄) (notedBy (model prog w) A env fun e s' => R (.error e) s') s₃
            else ∃ m, m < n ∧ I m s₃) (notedBy (model prog w) A env fun e s' => R (.error e) s') s₂) (notedBy (model prog w) A env fun e s' => R (.error e) s') s₁') (notedBy (model prog w) A env fun e s' => R (.error e) s') s₁) (notedBy (model prog w) A env fun e s' => R (.error e) s') s)
    (n : Nat) (h : I n s) :
    codeAny (model prog w) A (.compLoop (.ListComp elt [⟨target, iter, ifs, 0⟩] scope pos) 0 it acc env) R s := by
  refine codeAny_loop rfl I (fun n s hI => ?_) n h
  show wpAny _ A ((compTurn (.ListComp elt [⟨target, iter, ifs, 0⟩] scope pos) 0 it acc env).onRaise (fun x => do noteFrame x env; theTreesLotGoes x)) _ _ s
  refine wpAny_noted ?_
  rw [compTurn_list]
  refine wpAny_bind (wpAny_standAt (wpAny_bind (wpAny_mono (turn n s hI) (fun r s₁ h₁ => ?_) fun _ _ h' => h')))
  cases r with
  | none => exact wpAny_pure h₁
  | some v =>
    refine wpAny_bind (wpAny_mono h₁ (fun _ s₁' h₁' => ?_) fun _ _ h' => h')
    refine wpAny_bind (wpAny_mono h₁' (fun _ s₂ h₂ => wpAny_bind (wpAny_mono h₂ (fun ok s₃ h₃ => ?_) fun _ _ h' => h')) fun _ _ h' => h')
    cases ok with
    | false => exact wpAny_pure ⟨rfl, h₃⟩
    | true =>
      exact wpAny_bind (wpAny_bind (wpAny_mono h₃ (fun x s₄ h₄ => wpAny_bind (wpAny_mono h₄ (fun _ s₅ h₅ => wpAny_pure (wpAny_pure ⟨rfl, h₅⟩)) fun _ _ h' => h')) fun _ _ h' => h'))
section
variable {X : Cx}
def tLc (wi : TI) (g : TG) (tt : TT) (te : TE) (vs : List Nat) : TE := fun σ H Q => wi σ H fun J H1 => ∀ D, H1 D = none → ∃ W : Nat → Nat → Hp → Prop, (∃ m, W 0 m (upd H1 D (.lst []))) ∧ ∀ i m H, W i m H →
  (J.stop i H ∧ Q (.ref D) H) ∨ (J.go i H ∧ ∃ Nx : Hp → Prop, (∀ H', Nx H' → ∃ m', m' < m ∧ W (i + 1) m' H') ∧ ∀ x H', J.yld i H x H' → g x (wipe σ vs) H' fun σ2 H2 => wipe σ2 vs = wipe σ vs ∧ tt σ2 H2 fun b H3 =>
    if b = true then te σ2 H3 fun y H4 => ∃ acc, H4 D = some (.lst acc) ∧ acc.length < sizeLine ∧ Nx (upd H4 D (.lst (acc ++ [y]))) else Nx H3)
theorem lc_core {pins : List (Addr × Obj)} {s : Shared} {σ : St} {H : Hp} {Q : VK} {elt tg iter : Expr} {ifs : List Expr} {scope : Scope} {own : List (Str × Nat)} {pos pos' : Pos} {wi : TI} {g : TG} {tt : TT} {te : TE} {use : Option (Value → Sem Unit)} {Qf : Value → Shared → Prop}
    (hc : X.calm = true) (hN : X.N.Nodup) (I : Inv X pins σ H s) (hi : PI X tg iter wi) (ok : BlkOk X.N X.env.scope scope own)
    (hg : ∀ (s : Shared) (H : Hp) (C : Addr) (cl : List (Str × Addr)) (fp : List Addr), PG (X.blk s H scope (compEnvC scope cl C X.env) fp) tg g) (ht : ∀ (s : Shared) (H : Hp) (C : Addr) (cl : List (Str × Addr)) (fp : List Addr), PTs (X.blk s H scope (compEnvC scope cl C X.env) fp) ifs tt)
    (he : ∀ (s : Shared) (H : Hp) (C : Addr) (cl : List (Str × Addr)) (fp : List Addr), PE (X.blk s H scope (compEnvC scope cl C X.env) fp) elt te) (hs : ∀ x, foldedSetIterable iter X.env x = pure x)
    (h : tLc wi g tt te (own.map (·.2)) σ H Q)
    (hRR : ∀ D C s' m H', Inv X pins σ H' s' → Q (.ref D) H' → s'.heap.Ns C m → FpOk X pins H' C → compPost (model X.prog X.w) X.A X.xe use Qf (.ref D) C (.ok .next) s') :
    wpAny (model X.prog X.w) X.A (comprehension (.ListComp elt [⟨tg, iter, ifs, 0⟩] scope pos) scope X.env pos' (newList []) false (eval iter X.env) use) Qf X.xe s := by
  have hfree : ∀ y ∈ scope.names, y.2 = .free → ∃ c, X.env.cells.lookup y.1 = some c := fun y hy e => by
    rcases ok.free y hy e with k | k
    · exact I.ok.has _ (.inl k)
    · exact I.ok.has _ (.inr k)
  refine wpAny_comprehension_free (use := use) rfl hs (closure_ok hfree) ok.kind (fun y hy e => by rw [ok.uniq y hy, e])
    (thn (hi pins s σ H _ I h) fun xv s1 hx => thn hx fun itv s2 h2 => ?_)
  obtain ⟨it, fp, tn, J, H2, e, I2, T, st2, f2, q⟩ := h2
  subst e
  refine wpAny_newObj_type (newEnv_comp ?_) (by show 0 ≤ sizeLine; decide)
  generalize hD : s2.heap.objs.size = D
  have hDn : H2 D = none := I2.hok.fresh (Nat.le_of_eq hD)
  obtain ⟨W, ⟨m0, w0⟩, turn⟩ := q D hDn
  generalize hs3 : ({ s2 with heap := s2.heap.push { cls := .type "list", data := .seq ([] : List Value).toArray } } : Shared) = s3
  have I3 : Inv X pins σ (upd H2 D (.lst [])) s3 := by
    rw [← hs3]
    refine I2.laid (t' := s2.toks) (fun b o e => Heap.get?_push_of_some _ e) (Nat.le_of_eq hD) ⟨Nat.zero_le _, [], 0, .nil, ?_⟩
    rw [← hD]
    exact Heap.get?_push_size _ rfl
  have h3 : s3.heap = s2.heap.push { cls := .type "list", data := .seq ([] : List Value).toArray } := by rw [← hs3]
  have sz : ∀ b ∈ fp, b < s2.heap.objs.size := fun b hb => by
    obtain ⟨o, e, _⟩ := T.obj _ _ st2 b hb
    exact Heap.lt_size e
  have f3 : ∀ b ∈ fp, FpOk X pins (upd H2 D (.lst [])) b ∧ b < s3.heap.objs.size := fun b hb => by
    have hlt := sz b hb
    refine ⟨⟨?_, (f2 b hb).2⟩, by rw [h3, Heap.size_push]; exact Nat.lt_succ_of_lt hlt⟩
    rw [upd_ne (by rw [← hD]; exact Nat.ne_of_lt hlt)]
    exact (f2 b hb).1
  have st3 : tn 0 s3.heap := T.keep _ _ _ st2 fun b _ o e => by rw [h3]; exact Heap.get?_push_of_some _ e
  have I4 := block_start I3 ok hN f3
  have pg := hg s3 (upd H2 D (.lst [])) s3.heap.objs.size (cellsFrom (s3.heap.objs.size + 1) scope.names (cloFrom X.env.cells scope.names [])) fp
  have pt := ht s3 (upd H2 D (.lst [])) s3.heap.objs.size (cellsFrom (s3.heap.objs.size + 1) scope.names (cloFrom X.env.cells scope.names [])) fp
  have pe := he s3 (upd H2 D (.lst [])) s3.heap.objs.size (cellsFrom (s3.heap.objs.size + 1) scope.names (cloFrom X.env.cells scope.names [])) fp
  show codeAny _ _ (.compStart (.ListComp elt [⟨tg, iter, ifs, 0⟩] scope pos) 0 (.ref it) (.ref D) (compEnvC scope (cellsFrom (s3.heap.objs.size + 1) scope.names (cloFrom X.env.cells scope.names [])) s3.heap.objs.size X.env)) (compPost (model X.prog X.w) X.A X.xe use Qf (.ref D) s3.heap.objs.size) { s3 with heap := pushCells (s3.heap.push { cls := .type "dict", data := .dict #[] }) scope.names }
  have nfp : ∀ b ∈ fp, (upd H2 D (.lst [])) b = none := fun b hb => (f3 b hb).1.1
  generalize hce : compEnvC scope (cellsFrom (s3.heap.objs.size + 1) scope.names (cloFrom X.env.cells scope.names [])) s3.heap.objs.size X.env = ce at I4 pg pt pe ⊢
  have cL : ce.locals = s3.heap.objs.size := by subst hce; rfl
  generalize hH3 : upd H2 D (.lst []) = H3 at I3 I4 pg pt pe w0 nfp f3
  generalize hs4 : ({ s3 with heap := pushCells (s3.heap.push { cls := .type "dict", data := .dict #[] }) scope.names } : Shared) = s4 at I4 ⊢
  have st4 : tn 0 s4.heap := T.keep _ _ _ st3 fun b _ o e => by rw [← hs4]; exact pushCells_keeps _ _ _ _ (Heap.get?_push_of_some _ e)
  have stat : ∀ {σ' : St} {H' : Hp} {s' : Shared}, Inv (X.blk s3 H3 scope ce fp) [] σ' H' s' → (∀ b ∈ fp, H' b = none) → ∀ b ∈ fp, FpOk (X.blk s3 H3 scope ce fp) [] H' b := fun {σ' H' s'} I' hn b hb =>
    ⟨hn b hb, (I'.ok.exf b hb).1, I'.ok.exfs b hb, .inl hb, fun x c e => (I'.ok.exf b hb).2 x c e, fun p hp => absurd (show p ∈ ([] : List (Addr × Obj)) ++ [] from hp) (by simp)⟩
  have loop : codeAny (model X.prog X.w) X.A (.compLoop (.ListComp elt [⟨tg, iter, ifs, 0⟩] scope pos) 0 (.ref it) (.ref D) ce) (compPost (model X.prog X.w) X.A X.xe use Qf (.ref D) s3.heap.objs.size) s4 := by
    refine compLoop_any (fun n s' => ∃ i H', Inv (X.blk s3 H3 scope ce fp) [] (wipe σ (own.map (·.2))) H' s' ∧ tn i s'.heap ∧ (∀ b ∈ fp, H' b = none) ∧ W i n H') ?_ m0 ⟨0, H3, I4, st4, nfp, w0⟩
    rintro n s5 ⟨i, H5, I5, st5, n5, w5⟩
    rcases turn i n H5 w5 with ⟨stop, qq⟩ | ⟨go, Nx, hNx, step⟩
    · have td := T.done (X.blk s3 H3 scope ce fp) rfl rfl rfl hc i [] s5 _ H5 (fun _ _ => False) I5 (stat I5 n5) st5 stop
      refine thnF td fun r s6 ⟨hr, I6⟩ => ?_
      subst hr
      have I7 : Inv X pins σ H5 s6 := I3.call' (ch := fp) I6.os I6.base I6.hok I6.bare fun b hb => ⟨(f3 b hb).1.2.2.2.1, (f3 b hb).1.2.1, (f3 b hb).1.2.2.2.2.1, (f3 b hb).1.2.2.2.2.2⟩
      have nC : H5 s3.heap.objs.size = none := by
        have z : H5 ce.locals = none := I6.free
        rw [cL] at z
        exact z
      obtain ⟨m, hn, _⟩ := I6.loc
      have hn : s6.heap.Ns ce.locals m := hn
      rw [cL] at hn
      exact hRR D s3.heap.objs.size s6 m H5 I7 qq hn (I3.fpOk (Nat.le_refl _) nC)
    · have ti := T.item (X.blk s3 H3 scope ce fp) rfl rfl rfl hc i [] s5 _ H5 (fun _ _ => False) I5 (stat I5 n5) st5 go
      refine thnF ti fun r s6 ⟨u, hr, h6⟩ => ?_
      subst hr
      refine thnF h6 fun _ s7 ⟨x, H7, I7, r7, y7, st7, n7⟩ => ?_
      have I7' := I7.pinned (stat I7 n7) (T.obj _ _ st7)
      refine thnF (pg _ s7 _ H7 x u _ I7' r7 (step x H7 y7)) fun _ s8 ⟨σ8, H8, I8, hw8, q8⟩ => ?_
      refine thnF (pt _ s8 σ8 H8 _ I8 q8) fun b s9 ⟨H9, I9, q9⟩ => ?_
      have fin : ∀ {s' : Shared} {H' : Hp}, Inv (X.blk s3 H3 scope ce fp) ([] ++ pinsAt fp s7.heap) σ8 H' s' → Nx H' → ∃ m, m < n ∧ ∃ i H', Inv (X.blk s3 H3 scope ce fp) [] (wipe σ (own.map (·.2))) H' s' ∧ tn i s'.heap ∧ (∀ b ∈ fp, H' b = none) ∧ W i m H' := fun {s' H'} I' nx => by
        obtain ⟨m', hm, w'⟩ := hNx H' nx
        have pin' : ∀ b ∈ fp, ∀ o, s7.heap.get? b = some o → s'.heap.get? b = some o ∧ H' b = none := fun b hb o e =>
          let z := I'.pin (b, o) (List.mem_append_right _ (List.mem_append_right _ (mem_pinsAt hb e)))
          ⟨z.1, z.2.1⟩
        have hl : (wipe σ (own.map (·.2))).length = σ8.length := by rw [← hw8, wipe_length]
        refine ⟨m', hm, i + 1, H', (I'.unpinned (pins := [])).weak hl (fun j v e => ?_), T.keep _ _ _ st7 fun b hb o e => (pin' b hb o e).1, fun b hb => ?_, w'⟩
        · rw [← hw8] at e
          exact (wipe_some e).1
        · obtain ⟨o, e, _⟩ := T.obj _ _ st7 b hb
          exact (pin' b hb o e).2
      cases b with
      | false =>
        simp only [Bool.false_eq_true, if_false] at q9 ⊢
        exact fin I9 q9
      | true =>
        simp only [if_true] at q9 ⊢
        refine thnF (pe _ s9 σ8 H9 _ I9 q9) fun z s10 ⟨yv, H10, I10, r10, acc, hD10, hz10, nx⟩ => ?_
        exact app_ok (X := X.blk s3 H3 scope ce fp) I10 hD10 hz10 r10 fun s11 I11 => fin I11 nx
  exact codeAny_compStart_list loop (T.self X.A 0 _ _ _ st4 loop)
theorem pe_lc {elt tg iter : Expr} {ifs : List Expr} {scope : Scope} {own : List (Str × Nat)} {pos : Pos} {wi : TI} {g : TG} {tt : TT} {te : TE} (hc : X.calm = true) (hN : X.N.Nodup) (hi : PI X tg iter wi) (ok : BlkOk X.N X.env.scope scope own)
    (hg : ∀ (s : Shared) (H : Hp) (C : Addr) (cl : List (Str × Addr)) (fp : List Addr), PG (X.blk s H scope (compEnvC scope cl C X.env) fp) tg g) (ht : ∀ (s : Shared) (H : Hp) (C : Addr) (cl : List (Str × Addr)) (fp : List Addr), PTs (X.blk s H scope (compEnvC scope cl C X.env) fp) ifs tt)
    (he : ∀ (s : Shared) (H : Hp) (C : Addr) (cl : List (Str × Addr)) (fp : List Addr), PE (X.blk s H scope (compEnvC scope cl C X.env) fp) elt te) (hs : ∀ x, foldedSetIterable iter X.env x = pure x := by intro _; rfl) :
    PE X (.ListComp elt [⟨tg, iter, ifs, 0⟩] scope pos) (tLc wi g tt te (own.map (·.2))) := by
  intro pins s σ H Q I h
  rw [eval_ListComp]
  refine lc_core hc hN I hi ok hg ht he hs h fun D C s' m H' I' q hn f => ⟨m, hn, fun h'' sb => ?_⟩
  obtain ⟨f0, f1, f2, f3, f4, f5⟩ := f
  exact ⟨.ref D, H', I'.turned (t' := s'.toks) (fun b o hb e => (sb.2 b hb).trans e) f0 f1 f3 f4 f5, rfl, q⟩
theorem ps_setLc {i : Nat} {y : Str} {py : Pos} {elt tg iter : Expr} {ifs : List Expr} {scope : Scope} {own : List (Str × Nat)} {pos spos : Pos} {wi : TI} {g : TG} {tt : TT} {te : TE} (hc : X.calm = true) (hN : X.N.Nodup) (hy : X.N[i]? = some y) (hyl : X.env.scope.names.lookup y = some .local)
    (hsw : swapsWith (.ListComp elt [⟨tg, iter, ifs, 0⟩] scope pos) (some (.Name y py)) spos.line X.env = pure true) (hi : PI X tg iter wi) (ok : BlkOk X.N X.env.scope scope own)
    (hg : ∀ (s : Shared) (H : Hp) (C : Addr) (cl : List (Str × Addr)) (fp : List Addr), PG (X.blk s H scope (compEnvC scope cl C X.env) fp) tg g) (ht : ∀ (s : Shared) (H : Hp) (C : Addr) (cl : List (Str × Addr)) (fp : List Addr), PTs (X.blk s H scope (compEnvC scope cl C X.env) fp) ifs tt)
    (he : ∀ (s : Shared) (H : Hp) (C : Addr) (cl : List (Str × Addr)) (fp : List Addr), PE (X.blk s H scope (compEnvC scope cl C X.env) fp) elt te) (hs : ∀ x, foldedSetIterable iter X.env x = pure x := by intro _; rfl) :
    PS X (.Assign [.Name y py] (.ListComp elt [⟨tg, iter, ifs, 0⟩] scope pos) spos) (tAsg (tLc wi g tt te (own.map (·.2))) (gName i)) := by
  intro pins s σ H D I h
  rw [exec_Assign_Name_used _ _ _ _ hsw]
  refine wpAny_bind (wpAny_standAt (wpAny_bind ?_))
  show wpAny _ X.A (do let _ ← comprehension (.ListComp elt [⟨tg, iter, ifs, 0⟩] scope pos) scope X.env (firstIterPos [⟨tg, iter, ifs, 0⟩] pos) (newList []) false (eval iter X.env) (some (assign (.Name y py) X.env))) _ _ s
  have h : tLc wi g tt te (own.map (·.2)) σ H (fun x H1 => gName i x σ H1 D.nx) := h
  refine wpAny_bind (thn (lc_core (Qf := fun _ s' => SP X pins D .next s') hc hN I hi ok hg ht he hs h fun L C s' m H' I' q hn f => ?_) fun _ s' hq => wpAny_pure (wpAny_pure hq))
  show wpAny _ _ (assign (.Name y py) X.env (.ref L)) _ _ _
  refine wpAny_assign_Name (store_ok2 (v := V.ref L) I' hN hy (.inl hyl) rfl (fun s2 I2 ⟨a, sb, ha⟩ => ?_) (.inr hyl))
  obtain ⟨f0, f1, f2, f3, f4, f5⟩ := f
  have haC : C ≠ a := by
    rcases ha with z | z
    · rw [z]; exact f1
    · exact fun e => f4 y a z e.symm
  refine ⟨m, hn.sameBut sb haC, fun h3 sb3 => ?_⟩
  exact ⟨_, H', I2.turned (t' := s2.toks) (fun b o hb e => (sb3.2 b hb).trans e) f0 f1 f3 f4 f5, q⟩
theorem sw_true {elt : Expr} {gs : List Comprehension} {scope : Scope} {pos py : Pos} {y : Str} {l : Nat} {env : Env} (hk : env.scope.kind = .function) (hy : env.scope.names.lookup y = some .local) (hl : (py.line == pos.line) = true)
    (ha : (scope.names.any fun (n, k) => n == y && (k == .local || k == .cell)) = false) : swapsWith (.ListComp elt gs scope pos) (some (.Name y py)) l env = pure true := by
  have ky : env.kindOf y = some .local := hy
  have hb : env.blockKind = .function := by unfold Env.blockKind; rw [hk]; rfl
  unfold swapsWith
  simp only [hb, ky, ha, Expr.pos, hl]
  rfl
end
def blkC (N : List Str) (sc scope : Scope) (own : List (Str × Nat)) : Bool :=
  (match scope.kind with | .function => true | _ => false) && (scope.names.all fun y => decide (scope.names.lookup y.1 = some y.2)) && (own.all fun p => decide (N[p.2]? = some p.1)) &&
    (scope.names.all fun y => match y.2 with
      | .free => (match sc.names.lookup y.1 with | some .cell => true | some .free => true | _ => false)
      | .local => decide (y.1 ∈ own.map (·.1)) || decide (y.1 ∉ N)
      | .cell => decide (y.1 ∈ own.map (·.1)) || decide (y.1 ∉ N)
      | _ => true)
theorem blkOk_by {N : List Str} {sc scope : Scope} {own : List (Str × Nat)} (h : blkC N sc scope own = true) : BlkOk N sc scope own := by
  unfold blkC at h
  simp only [Bool.and_eq_true, List.all_eq_true, decide_eq_true_eq] at h
  obtain ⟨⟨⟨h1, h2⟩, h3⟩, h4⟩ := h
  refine ⟨?_, h2, h3, fun y hy e => ?_, fun y hy e => ?_⟩
  · split at h1
    · assumption
    · cases h1
  · have q := h4 y hy
    simp only [e] at q
    split at q <;> first | exact .inl (by assumption) | exact .inr (by assumption) | cases q
  · have q := h4 y hy
    rcases e with e | e <;> (simp only [e, Bool.or_eq_true, decide_eq_true_eq] at q; exact q)
end L2
namespace L2
open PySem PySem.Spec PyProof.Rows
section
variable {prog : Program} {w : World} {A : Around} {R : Result → Shared → Prop} {s : Shared} {elt t0 i0 t1 i1 : Expr} {ifs0 ifs1 : List Expr} {scope : Scope} {pos : Pos} {it acc : Value} {env : Env}
end
section
variable {X : Cx}
end
end L2
namespace L2
open PySem PySem.Spec PyProof.Rows
section
variable {κ : Type} [DecidableEq κ]
def valV (kvs : List (κ × V)) (k : κ) : Option V := (kvs.find? fun kv => decide (kv.1 = k)).map (·.2)
def putK (kvs : List (κ × V)) (k : κ) (v : V) : List (κ × V) :=
  if (kvs.any fun kv => decide (kv.1 = k)) = true then kvs.map (fun kv => if kv.1 = k then (kv.1, v) else kv) else kvs ++ [(k, v)]
def dropK (kvs : List (κ × V)) (k : κ) : List (κ × V) := kvs.filter fun kv => decide (kv.1 ≠ k)
theorem valV_pos {p : κ × V} {r : List (κ × V)} {k : κ} (e : p.1 = k) : valV (p :: r) k = some p.2 := by simp [valV, List.find?_cons, e]
theorem valV_neg {p : κ × V} {r : List (κ × V)} {k : κ} (e : ¬ p.1 = k) : valV (p :: r) k = valV r k := by simp [valV, List.find?_cons, e]
theorem RelO.getD {o : Option V} {u : Option Value} {d : V} {d' : Value} (r : RelO o u) (rd : RelV d d') : RelV (o.getD d) (u.getD d') := by
  cases o with
  | none => cases u with
    | none => exact rd
    | some _ => exact (show False from r).elim
  | some _ => cases u with
    | none => exact (show False from r).elim
    | some _ => exact r
theorem KV.val {kvs : List (κ × V)} {vs : List (κ × Value)} (r : KV kvs vs) (k : κ) : RelO (valV kvs k) (valueAt vs k) := by
  unfold KV at r
  induction r with
  | nil => exact True.intro
  | @cons p q ps qs h t ih =>
    obtain ⟨h1, h2⟩ := h
    by_cases e : p.1 = k
    · have e' : q.1 = k := h1.symm.trans e
      have b : valueAt (q :: qs) k = some q.2 := by simp [valueAt, List.find?_cons, e']
      rw [valV_pos e, b]; exact h2
    · have e' : ¬ q.1 = k := fun z => e (h1.trans z)
      have b : valueAt (q :: qs) k = valueAt qs k := by simp [valueAt, List.find?_cons, e']
      rw [valV_neg e, b]; exact ih
theorem KV.any {kvs : List (κ × V)} {vs : List (κ × Value)} (r : KV kvs vs) (k : κ) : (kvs.any fun kv => decide (kv.1 = k)) = vs.any fun kv => decide (kv.1 = k) := by
  unfold KV at r
  induction r with
  | nil => rfl
  | cons h t ih => rw [List.any_cons, List.any_cons, ih, h.1]
theorem KV.repl {kvs : List (κ × V)} {vs : List (κ × Value)} (r : KV kvs vs) (k : κ) {y : V} {u : Value} (ry : RelV y u) :
    KV (kvs.map fun kv => if kv.1 = k then (kv.1, y) else kv) (vs.map fun kv => if kv.1 = k then (kv.1, u) else kv) := by
  unfold KV at r ⊢
  induction r with
  | nil => exact .nil
  | @cons p q ps qs h t ih =>
    rw [List.map_cons, List.map_cons]
    refine .cons ?_ ih
    obtain ⟨h1, h2⟩ := h
    by_cases e : p.1 = k
    · rw [if_pos e, if_pos (h1.symm.trans e)]; exact ⟨h1, ry⟩
    · rw [if_neg e, if_neg (fun z => e (h1.trans z))]; exact ⟨h1, h2⟩
theorem KV.drop {kvs : List (κ × V)} {vs : List (κ × Value)} (r : KV kvs vs) (k : κ) : KV (dropK kvs k) (without vs k) := by
  unfold KV at r ⊢
  unfold dropK without
  induction r with
  | nil => exact .nil
  | @cons p q ps qs h t ih =>
    obtain ⟨h1, h2⟩ := h
    rw [List.filter_cons, List.filter_cons]
    by_cases e : p.1 = k
    · have a : ¬ decide (p.1 ≠ k) = true := by simp [e]
      have b : ¬ decide (q.1 ≠ k) = true := by simp [h1.symm.trans e]
      rw [if_neg a, if_neg b]; exact ih
    · have e' : ¬ q.1 = k := fun z => e (h1.trans z)
      have a : decide (p.1 ≠ k) = true := by simp [e]
      have b : decide (q.1 ≠ k) = true := by simp [e']
      rw [if_pos a, if_pos b]; exact .cons ⟨h1, h2⟩ ih
theorem KV.keys {kvs : List (κ × V)} {vs : List (κ × Value)} (r : KV kvs vs) : kvs.map (·.1) = vs.map (·.1) := by
  unfold KV at r
  induction r with
  | nil => rfl
  | cons h t ih => rw [List.map_cons, List.map_cons, ih, h.1]
theorem KV.length {kvs : List (κ × V)} {vs : List (κ × Value)} (r : KV kvs vs) : kvs.length = vs.length := Paired.length r
end
abbrev KT (H : Hp) : List (List Key × V) → List (List Key × Addr × Value) → Prop := Paired fun p q => p.1 = q.1 ∧ H q.2.1 = some (.tup (p.1.map kV)) ∧ RelV p.2 q.2.2
theorem KT.val {H : Hp} {kvs : List (List Key × V)} {xs : List (List Key × Addr × Value)} (r : KT H kvs xs) (k : List Key) : RelO (valV kvs k) ((atKey xs k).map (·.2)) := by
  induction r with
  | nil => exact True.intro
  | @cons p q ps qs h t ih =>
    obtain ⟨h1, _, h2⟩ := h
    by_cases e : p.1 = k
    · have e' : q.1 = k := h1.symm.trans e
      have b : atKey (q :: qs) k = some q.2 := by simp [atKey, List.find?_cons, e']
      rw [valV_pos e, b]; exact h2
    · have e' : ¬ q.1 = k := fun z => e (h1.trans z)
      have b : atKey (q :: qs) k = atKey qs k := by simp [atKey, List.find?_cons, e']
      rw [valV_neg e, b]; exact ih
theorem KT.repl {H : Hp} {kvs : List (List Key × V)} {xs : List (List Key × Addr × Value)} (r : KT H kvs xs) (k : List Key) {y : V} {u : Value} (ry : RelV y u) :
    KT H (kvs.map fun kv => if kv.1 = k then (kv.1, y) else kv) (xs.map (putAt k u)) := by
  induction r with
  | nil => exact .nil
  | @cons p q ps qs h t ih =>
    rw [List.map_cons, List.map_cons]
    refine .cons ?_ ih
    obtain ⟨h1, h2, h3⟩ := h
    unfold putAt
    by_cases e : p.1 = k
    · rw [if_pos e, if_pos (h1.symm.trans e)]; exact ⟨h1, h2, ry⟩
    · rw [if_neg e, if_neg (fun z => e (h1.trans z))]; exact ⟨h1, h2, h3⟩
theorem KT.keeps {H H' : Hp} {kvs : List (List Key × V)} {xs : List (List Key × Addr × Value)} (r : KT H kvs xs) (ht : ∀ b ys, H b = some (.tup ys) → H' b = some (.tup ys)) : KT H' kvs xs :=
  Paired.mapP r fun _ _ z => ⟨z.1, ht _ _ z.2.1, z.2.2⟩
section
variable {P : Program} {w : World} {H : Hp} {h : Heap} {a : Addr}
end
def DGet (H : Hp) (a : Addr) (y : V) (r : Option V) : Prop :=
  (∃ kvs k, Rd H a (.dK kvs) ∧ y = kV k ∧ r = valV kvs k) ∨ ∃ kvs k b, Rd H a (.dT kvs) ∧ y = .ref b ∧ H b = some (.tup (k.map kV)) ∧ r = valV kvs k
def DPut (H : Hp) (a : Addr) (y v : V) (H' : Hp) : Prop :=
  (∃ kvs k, H a = some (.dK kvs) ∧ y = kV k ∧ kvs.length < sizeLine ∧ H' = upd H a (.dK (putK kvs k v))) ∨
  ∃ kvs k b, H a = some (.dT kvs) ∧ y = .ref b ∧ H b = some (.tup (k.map kV)) ∧ kvs.length < sizeLine ∧ H' = upd H a (.dT (putK kvs k v))
theorem DGet.k {H : Hp} {a : Addr} {kvs : List (Key × V)} {k : Key} (e : H a = some (.dK kvs)) : DGet H a (kV k) (valV kvs k) := .inl ⟨kvs, k, .inl e, rfl, rfl⟩
theorem DGet.t {H : Hp} {a b : Addr} {kvs : List (List Key × V)} {k : List Key} (e : H a = some (.dT kvs)) (eb : H b = some (.tup (k.map kV))) : DGet H a (.ref b) (valV kvs k) := .inr ⟨kvs, k, b, .inl e, rfl, eb, rfl⟩
theorem DPut.k {H : Hp} {a : Addr} {kvs : List (Key × V)} {k : Key} {v : V} (e : H a = some (.dK kvs)) (hl : kvs.length < sizeLine) : DPut H a (kV k) v (upd H a (.dK (putK kvs k v))) := .inl ⟨kvs, k, e, rfl, hl, rfl⟩
theorem DPut.t {H : Hp} {a b : Addr} {kvs : List (List Key × V)} {k : List Key} {v : V} (e : H a = some (.dT kvs)) (eb : H b = some (.tup (k.map kV))) (hl : kvs.length < sizeLine) :
    DPut H a (.ref b) v (upd H a (.dT (putK kvs k v))) := .inr ⟨kvs, k, b, e, rfl, eb, hl, rfl⟩
section
variable {X : Cx} {pins : List (Addr × Obj)} {σ : St} {H : Hp} {s : Shared} {a : Addr} {y v : V} {u r : Value} {o : Option V} {A : Around} {E : Value → Shared → Prop}
end
section
variable {X : Cx} {pins : List (Addr × Obj)} {σ : St} {H : Hp} {s : Shared} {a : Addr} {kvs : List (Key × V)} {k : Key} {u : Value} {A : Around} {E : Value → Shared → Prop}
end
section
variable {X : Cx} {o i e value : Expr} {pos pos' tpos : Pos} {td ty tv : TE}
end
section
variable {X : Cx} {pos : Pos}
end
structure M1 (X : Cx) (o : Expr) (m : Str) (apos : Pos) (e : Expr) (cpos : Pos) : Prop where
  base : attributeBase o m X.env (eval o X.env) = eval o X.env
  few : ((backTo cpos (starEach [e] X.env)).all (fun x => !x.1) && (backToKw cpos (keywordEach [] X.env)).all (fun x => x.1.isSome)
    && decide (([e] : List Expr).length + ([] : List Keyword).length + (if ([] : List Keyword).isEmpty then 0 else 1) < 30)) = true
  line : (apos.endLine == cpos.line) = true
  trees : backTo cpos (starEach [e] X.env) = [(false, eval e X.env)]
structure M2 (X : Cx) (o : Expr) (m : Str) (apos : Pos) (e f : Expr) (cpos : Pos) : Prop where
  base : attributeBase o m X.env (eval o X.env) = eval o X.env
  few : ((backTo cpos (starEach [e, f] X.env)).all (fun x => !x.1) && (backToKw cpos (keywordEach [] X.env)).all (fun x => x.1.isSome)
    && decide (([e, f] : List Expr).length + ([] : List Keyword).length + (if ([] : List Keyword).isEmpty then 0 else 1) < 30)) = true
  line : (apos.endLine == cpos.line) = true
  trees : backTo cpos (starEach [e, f] X.env) = [(false, eval e X.env), (false, eval f X.env)]
section
variable {X : Cx} {pins : List (Addr × Obj)} {σ : St} {H : Hp} {s : Shared} {a : Addr} {y d : V} {u r : Value} {o : Option V} {A : Around} {E : Value → Shared → Prop}
end
section
variable {X : Cx} {o e f : Expr} {apos cpos : Pos} {td ty tx : TE}
end
section
variable {X : Cx} {pins : List (Addr × Obj)} {σ : St} {H : Hp} {s : Shared} {a : Addr} {kvs : List (Key × V)} {A : Around} {E : Value → Shared → Prop}
end
section
variable {X : Cx} {pins : List (Addr × Obj)} {σ : St} {H : Hp} {s : Shared} {a : Addr} {y : V} {u : Value} {A : Around} {E : Value → Shared → Prop}
end
end L2
namespace L2
open PySem PySem.Spec PyProof.Rows
section
variable {prog : Program} {w : World} {A : Around} {E : Value → Shared → Prop}
end
section
variable {X : Cx}
end
end L2
namespace L2
open PySem PySem.Spec PyProof.Rows
section
variable {X : Cx} {pins : List (Addr × Obj)} {σ : St} {H : Hp} {s : Shared} {h' : Heap}
theorem Inv.turnedL {t' : Nat} {ch : List Addr} (I : Inv X pins σ H s) (k : ∀ b o, b ∉ ch → s.heap.get? b = some o → h'.get? b = some o) (hf : ∀ b ∈ ch, FpOk X pins H b) : Inv X pins σ H { s with heap := h', toks := t' } := by
  have nit : ∀ b u, H b = some u → b ∉ ch := fun b u e z => by
    have q := (hf b z).1
    rw [q] at e; cases e
  refine I.step (g' := s.gens) (d' := s.drawn) (ch := ch) (fun b hb => ⟨(hf b hb).2.2.2.1, (hf b hb).2.1, (hf b hb).2.2.2.2.1, (hf b hb).2.2.2.2.2⟩) (fun b o _ _ hc e _ => k b o hc e) (fun b o _ _ hc e _ => ⟨o.slots, k b o hc e⟩)
    (fun _ _ _ _ n => n) (fun b o hc e => ⟨o, k b o hc e⟩) (fun _ _ e => e) (fun _ _ _ e => e) (fun b ps e => ⟨#[], by rw [e]; simp⟩) (fun m hm => ?_) (fun b u e => ?_) I.bare
  · obtain ⟨o, es, ep, ho, r⟩ := hm
    exact ⟨o, es, ep, k _ o (fun z => (hf _ z).2.1 rfl) ho, r⟩
  · refine (I.hok b u e).stay (fun c v hc q => k c v ?_ q) (fun _ q => q) fun _ _ q => q
    rcases hc with z | z
    · rw [z]; exact nit b u e
    · exact nit c _ z
theorem Inv.turnedNew {t' : Nat} {ch : List Addr} {T : Addr} {ob : HO} (I : Inv X pins σ H s) (k : ∀ b o, b ∉ ch → s.heap.get? b = some o → h'.get? b = some o) (hf : ∀ b ∈ ch, FpOk X pins H b) (hT : s.heap.objs.size ≤ T)
    (new : ObjOk X.prog X.w (upd H T ob) h' T ob) : Inv X pins σ (upd H T ob) { s with heap := h', toks := t' } := by
  have hn : H T = none := I.hok.fresh hT
  have nit : ∀ b u, H b = some u → b ∉ ch := fun b u e z => by
    have q := (hf b z).1
    rw [q] at e; cases e
  refine I.step (g' := s.gens) (d' := s.drawn) (ch := ch) (fun b hb => ⟨(hf b hb).2.2.2.1, (hf b hb).2.1, (hf b hb).2.2.2.2.1, (hf b hb).2.2.2.2.2⟩) (fun b o _ _ hc e _ => k b o hc e) (fun b o _ _ hc e _ => ⟨o.slots, k b o hc e⟩)
    (fun b o _ e n => ?_) (fun b o hc e => ⟨o, k b o hc e⟩) (fun b xs e => ?_) (fun b o u e => ?_) (fun b ps e => ⟨#[], ?_⟩) (fun m hm => ?_) (fun b u e => ?_) I.bare
  · rw [upd_ne (Nat.ne_of_lt (Nat.lt_of_lt_of_le (Heap.lt_size e) hT))]; exact n
  · rw [upd_ne (ne_of_none e hn)]; exact e
  · rw [upd_ne (ne_of_none e hn)]; exact e
  · rw [upd_ne (ne_of_none e hn), e]; simp
  · obtain ⟨o, es, ep, ho, r⟩ := hm
    exact ⟨o, es, ep, k _ o (fun z => (hf _ z).2.1 rfl) ho, r⟩
  · by_cases hb : b = T
    · subst hb
      rw [upd_same] at e
      cases e
      exact new
    · rw [upd_ne hb] at e
      refine (I.hok b u e).stay (fun c v hc q => k c v ?_ q) (fun c q => by rw [upd_ne (ne_of_none q hn)]; exact q) fun c xs q => by rw [upd_ne (ne_of_none q hn)]; exact q
      rcases hc with z | z
      · rw [z]; exact nit b u e
      · exact nit c _ z
end
section
variable {X : Cx}
end
section
variable {X : Cx} {tg : Expr}
end
section
variable {X : Cx} {tg : Expr}
end
section
variable {prog : Program} {w : World} {A : Around} {E : Value → Shared → Prop} {s : Shared}
end
section
variable {X : Cx} {pins : List (Addr × Obj)} {σ : St} {H : Hp} {s : Shared} {d : Addr} {o : Obj}
end
section
variable {P : Program} {w : World} {K : PySem.W.Frag} {tg : Expr} {d : Addr} {o : Obj} {es : Array DictEntry} {ep : Nat}
end
section
variable {X : Cx} {tg e : Expr} {td : TE} {apos cpos : Pos}
end
theorem boot_zip5 : bootBuiltins "zip" = some (.type "zip") := by decide +kernel
end L2
section 
namespace Bits
open PySem PyProof.Rows
end Bits
end 
section 
namespace TL
open PySem PySem.Builtin PySem.Builtin.Str PySem.StrLaws
abbrev tl (x : Str) : List Nat := x.cps.toList
def pre (S l : List Nat) : Bool := l.take S.length == S
def par (S : List Nat) : List Nat → List Nat → Option (List Nat × List Nat)
  | _, [] => none
  | acc, c :: r => if pre S (c :: r) = true then some (acc, (c :: r).drop S.length) else par S (acc ++ [c]) r
end TL
end 
namespace L2
open PySem PySem.Spec PyProof.Rows
section
variable {X : Cx} {pins : List (Addr × Obj)} {σ : St} {H : Hp} {s : Shared} {Q : VK}
end
section
variable {X : Cx}
end
section
variable {X : Cx} {o e : Expr} {to te : TE}
end
end L2
namespace L2
open PySem PySem.Spec PyProof.Rows
section
variable {X : Cx}
end
end L2
namespace Att
open PySem PySem.W PySem.Calls PyProof.Rows
theorem ints_of_wellAll {P : Params} {h : Heap} : ∀ (ns : List Int) (vs : List Value), WellAll P h vs (ns.map WData.int) → IntsAre vs ns := by
  intro ns
  induction ns with
  | nil =>
    intro vs w
    rw [List.map_nil] at w
    cases w
    exact .nil
  | cons n ns ih =>
    intro vs w
    rw [List.map_cons] at w
    cases w with
    | cons a b =>
      cases a
      exact .cons _ _ (ih _ b)
theorem script_of {l : OpenLaw} {n : Nat} (hn : l.most = some n) {P : Params} {h : Heap} {args : List WData} {vals : List Value}
    (hpre : l.row.toRowW.claim.pre args = true) (hwl : WellAll P h vals args) :
    ∃ a vs ns, vals = [Value.ref a] ∧ args = [WData.list (ns.map WData.int)] ∧ h.get? a = some { cls := .type "list", data := .seq vs.toArray } ∧ IntsAre vs ns ∧ ns.length ≤ n := by
  have hsh : WShape.hasAll [] args [.list .int] = true := (pre_splitW hpre).1
  have hc : l.pre.holds [] { args := args } = true := (pre_splitW hpre).2
  obtain ⟨d, r, rfl, h1, h2⟩ := hasAllW_cons hsh
  obtain rfl := hasAllW_nil h2
  obtain ⟨xs, rfl, h3⟩ := hasW_list h1
  obtain ⟨ns, rfl⟩ := items_int h3
  have hlen : ns.length ≤ n := by
    unfold OpenLaw.pre at hc
    have h4 : (WTm.not (.lt (.lit (.int (n : Int))) (.len (.arg 0)))).holds [] { args := [.list (ns.map .int)] } = true := by
      have h4 := (holds_andW hc).1
      rw [hn] at h4
      exact h4
    have h5 := condW_of h4 (w_not (w_lt w_lit (w_len_list (w_arg rfl))))
    rw [List.length_map] at h5
    refine Nat.le_of_not_lt fun q => ?_
    have q' : (n : Int) < ((ns.length : Nat) : Int) := by omega
    first
      | (rw [decide_eq_true q'] at h5; exact absurd h5 (by decide))
      | (simp at h5; omega)
  cases hwl with
  | cons w1 w2 =>
    cases w2
    cases w1 with
    | list ho hall => exact ⟨_, _, ns, rfl, rfl, ho, ints_of_wellAll ns _ hall, hlen⟩
theorem post_true (l : OpenLaw) (args : List WData) : l.row.toRowW.claim.post args (.bool true) args = true :=
  postW_of (r := l.row.toRowW) (X := (true == true))
    (show WShape.has [] (.bool true) .bool = true by first | rfl | decide | simp [WShape.has, WShape.arms, WShape.armsAll])
    (show (WTm.eq .res (.lit (.bool true))).value [] { args := args, res := some (.bool true), after := args } = some (.bool (true == true)) from w_eq_bool (w_res rfl) w_lit) rfl
theorem attach_call {l : OpenLaw} {n : Nat} {q : Program} {loose : List Str} {XP : (Str → Option Value) → Heap → Prop} {YP : World → Heap → Prop} {d : DefRec}
    (hn : l.most = some n) (hdf : d.params.defaults = [])
    (call : ∀ (w : World) (s₀ s₁ : Shared) (mg mb : Str → Option Value) (fa : Addr) (o : Obj) (pm cd doc : Value) (a : Addr) (vs : List Value) (ns : List Int),
      Ground q loose [] XP w s₀ mg mb s₁.heap → YP w s₁.heap →
      s₁.heap.get? fa = some o → o.data = .func (docDef d.name d.params d.body d.scope pm cd doc) → s₁.heap.CodeRec cd d.name → mg d.name = some (.ref fa) →
      s₁.heap.get? a = some { cls := .type "list", data := .seq vs.toArray } → IntsAre vs ns → ns.length ≤ n → s₁.gens = #[] →
      codeAny (model l.prog w) callerA (.call (.ref fa) ⟨[.ref a], []⟩) (fun r s' => r = .ok (.ret (.bool true)) ∧ OldK s₁.heap s'.heap ∧ s'.os = s₁.os ∧ AllBare s'.gens) s₁) :
    WalkO q loose XP YP l.row.toRowW d [] (fun f vs => PySem.call f vs) := by
  intro w s₀ s₁ mg mb G Y fa o pm cd doc dV kV ho hd hcd hD hmg hg args vals as hpre hlay hrd hwl hlo
  obtain rfl : dV = .none := Dflts.none hD hdf
  obtain rfl : kV = .none := Dflts.noKw hD
  obtain ⟨a, vs, ns, rfl, rfl, hobj, hints, hlen⟩ := script_of hn hpre hwl
  refine enter_call (codeAny_mono (call w s₀ s₁ mg mb fa o pm cd doc a vs ns G Y ho (fd_plain hd) hcd hmg hobj hints hlen hg) fun r s' hq => ?_)
  obtain ⟨rfl, h2, h3, h4⟩ := hq
  exact ⟨.inl ⟨.bool true, .bool true, [], rfl, fun _ => rfl, .bool true, post_true l _, fun _ => ⟨List.Pairwise.nil, fun _ hm => (nomatch hm)⟩⟩, h2, h3, h4⟩
section
variable {prog : Program} {w : World} {A : Around} {E : Value → Shared → Prop} {s : Shared} {K : Frag}
end
end Att
namespace L2
open PySem PySem.Spec PyProof.Rows
theorem vals_ints : ∀ {vs : List Value} {ns : List Int}, IntsAre vs ns → Vals (ns.map V.int) vs
  | _, _, .nil => .nil
  | _, _, .cons n t h => .cons ⟨t, rfl⟩ (vals_ints h)
def Only (H : Hp) : Prop := ∀ b, H b = none ∨ ∃ o xs, H b = some (.frz o (.lst xs))
theorem law_call {P : Program} {w : World} {K : PySem.W.Frag} {mg mb : Str → Option Value} {CX : CXT} {k : Nat} {fa a : Addr} {fd : FuncData} {x : Str} {sp : Sp} {s₁ : Shared} {vs : List Value} {ns : List Int}
    (KX : K.In s₁.heap) (hns : s₁.heap.Ns mainGlobals mg) (hb : s₁.heap.Ns builtinsNs mb) (hbb : ∀ x : Str, x ≠ "__name__" → mb x = bootBuiltins x) (hlim : s₁.heap.NoLimit) (hg : s₁.gens = #[])
    (ha : s₁.heap.get? a = some { cls := .type "list", data := .seq vs.toArray }) (hi : IntsAre vs ns) (hl : ns.length ≤ sizeLine) (hr : Room k callerA)
    (F : ∀ base : Heap, K.In base → base.Ns mainGlobals mg → FnOk P w K mg base CX k fa fd [x] sp) (hbind : ∀ (s : Shared) (u : Value), BindsTo s fd ⟨[u], []⟩ [(x, u)])
    (hsp : ∀ H : Hp, Only H → SqL K H a (ns.map V.int) → sp [.ref a] H (fun v _ => v = .bl true) fun _ _ _ => False)
    (hCX : ∀ H e s', CX [] H s₁ (fun _ _ _ => False) e s' → False) :
    codeAny (model P w) callerA (.call (.ref fa) ⟨[.ref a], []⟩) (fun r s' => r = .ok (.ret (.bool true)) ∧ OldK s₁.heap s'.heap ∧ s'.os = s₁.os ∧ AllBare s'.gens) s₁ := by
  have rv := vals_ints hi
  have lenV := hi.length
  have core : ∀ H : Hp, Only H → SqL K H a (ns.map V.int) → HOk P w H s₁.heap → (∀ b, H b ≠ none → b = a) → (H a ≠ none → K.lookup a = none) →
      codeAny (model P w) callerA (.call (.ref fa) ⟨[.ref a], []⟩) (fun r s' => r = .ok (.ret (.bool true)) ∧ OldK s₁.heap s'.heap ∧ s'.os = s₁.os ∧ AllBare s'.gens) s₁ := by
    intro H hO hS hok hA hK
    have base_of : ∀ {b : Addr} {o : Obj}, s₁.heap.get? b = some o → H b = none → (hidT s₁.heap H).get? b = some o := fun e n => hidT_get e n
    have noA : ∀ {b : Addr} {o : Obj} {es : Array DictEntry} {ep : Nat}, s₁.heap.get? b = some o → o.data = .dict es ep → H b = none := fun {b o es ep} e d => by
      cases q : H b with
      | none => rfl
      | some u =>
        have e' : b = a := hA b (by rw [q]; simp)
        subst e'
        rw [ha] at e; cases e
        have d' : Data.seq vs.toArray _ = Data.dict es ep := d
        cases d'
    have nsK : ∀ {b : Addr} {m : Str → Option Value}, s₁.heap.Ns b m → (hidT s₁.heap H).Ns b m := fun {b m} ⟨o, es, ep, e, d, r⟩ => ⟨o, es, ep, base_of e (noA e d), d, r⟩
    have hKb : K.In (hidT s₁.heap H) := fun b o e => base_of (KX b o e) (by
      cases q : H b with
      | none => rfl
      | some u =>
        have e' : b = a := hA b (by rw [q]; simp)
        subst e'
        rw [hK (by rw [q]; simp)] at e; cases e)
    have hM : Mod K mg (hidT s₁.heap H) := ⟨hKb, nsK hns, ⟨mb, nsK hb, hbb⟩, let ⟨mc, h1, h2⟩ := hlim; ⟨mc, nsK h1, h2⟩⟩
    have e0 : Env0 P w K mg (hidT s₁.heap H) callerA [] s₁ H := ⟨rfl, hM, fun b o e => of_hidT e, Nat.le_of_eq (hidT_size _ _), trivial, fun b hb => absurd (show b ∈ ([] : List Addr) from hb) (by simp), hok, .of_eq hg⟩
    refine codeAny_mono ((F _ hKb (nsK hns)).run callerA [] s₁ H ⟨[.ref a], []⟩ [.ref a] [.ref a] _ _ hr e0 (hbind s₁ (.ref a)) (.cons rfl .nil) (hsp H hO hS)) fun r s' h => ?_
    cases r with
    | error e => exact (hCX H e s' h).elim
    | ok fl =>
      cases fl with
      | next => exact False.elim h
      | brk => exact False.elim h
      | cont => exact False.elim h
      | ret u =>
        obtain ⟨v, H', os, bare, un, hok', r', q⟩ := h
        have q' : v = .bl true := q
        subst q'
        obtain rfl : u = Value.bool true := r'
        refine ⟨rfl, OldK.of_keep fun b o e => ?_, os, bare⟩
        cases q : H b with
        | none => exact un.keep b o e q (by intro z; exact absurd (show b ∈ ([] : List Addr) from z) (by simp)) (by simp)
        | some u =>
          rcases hO b with z | ⟨ob, xs, z⟩
          · rw [q] at z; cases z
          · have z2 := un.frzs b ob _ z
            obtain ⟨e1, _⟩ := hok b _ z
            obtain ⟨e2, _⟩ := hok' b _ z2
            rw [e] at e1; cases e1
            exact e2
  cases hk : K.lookup a with
  | some o =>
    have e := KX a o hk
    rw [ha] at e
    cases e
    refine core (fun _ => none) (fun _ => .inl rfl) (.inr ⟨_, vs.toArray, _, hk, rfl, rfl, rfl, by rw [List.size_toArray, lenV]; exact hl, by simpa using rv⟩) (fun b u z => by have z' : (none : Option HO) = some u := z; cases z') (fun b z => absurd rfl z) fun z => absurd rfl z
  | none =>
    refine core (fun b => if b = a then some (.frz { cls := .type "list", data := .seq vs.toArray } (.lst (ns.map V.int))) else none) (fun b => ?_) (.inl (.inr ⟨{ cls := .type "list", data := .seq vs.toArray }, if_pos rfl⟩)) (fun b u z => ?_) (fun b z => ?_) fun _ => hk
    · by_cases hb : b = a
      · exact .inr ⟨_, _, if_pos hb⟩
      · exact .inl (if_neg hb)
    · by_cases hb : b = a
      · have z' := (if_pos hb).symm.trans z
        cases z'
        subst hb
        exact ⟨ha, by rw [List.length_map]; exact hl, vs, _, rv, ha⟩
      · have z' := (if_neg hb).symm.trans z
        cases z'
    · by_cases hb : b = a
      · exact hb
      · exact absurd (if_neg hb) z
end L2
namespace L2
open PySem PySem.Spec PyProof.Rows
abbrev KOf {K : PySem.W.Frag} {h : Heap} (_ : K.In h) : PySem.W.Frag := K
theorem walk_of {l : PySem.W.OpenLaw} {n k : Nat} {q : Program} {loose : List Str} {XP : (Str → Option Value) → Heap → Prop} {YP : World → Heap → Prop} {d : DefRec} {K : Params → PySem.W.Frag} {CX : World → CXT} {sp : World → Sp} {x : Str}
    (hn : l.most = some n) (hn2 : n ≤ sizeLine) (hdf : d.params.defaults = []) (hr : Room k callerA)
    (hY : ∀ (w : World) (h : Heap), YP w h → (K w.params).In h)
    (F : ∀ (w : World) (mg : Str → Option Value) (fa : Addr) (h : Heap), (K w.params).In h → h.Ns mainGlobals mg → mg d.name = some (.ref fa) →
      ∃ fd : FuncData, (∀ (s : Shared) (u : Value), BindsTo s fd ⟨[u], []⟩ [(x, u)]) ∧
        ∀ base : Heap, (K w.params).In base → base.Ns mainGlobals mg → FnOk l.prog w (K w.params) mg base (CX w) k fa fd [x] (sp w))
    (hsp : ∀ (w : World) (H : Hp) (a : Addr) (ns : List Int), ns.length ≤ n → Only H → SqL (K w.params) H a (ns.map V.int) → sp w [.ref a] H (fun v _ => v = .bl true) fun _ _ _ => False)
    (hCX : ∀ (w : World) (H : Hp) (s : Shared) (e : Value) (s' : Shared), CX w [] H s (fun _ _ _ => False) e s' → False) :
    PySem.W.WalkO q loose XP YP l.row.toRowW d [] (fun f vs => PySem.call f vs) := by
  refine Att.attach_call hn hdf fun w s₀ s₁ mg mb fa o pm cd doc a vs ns G Y ho hd hcd hmg hobj hints hlen hg => ?_
  have KX := hY w _ Y
  obtain ⟨fd, hb, hF⟩ := F w mg fa _ KX G.T.g hmg
  exact law_call KX G.T.g G.T.b G.T.builtins G.T.nolimit hg hobj hints (Nat.le_trans hlen hn2) hr hF hb (fun H hO hS => hsp w H a ns hlen hO hS) fun H e s' => hCX w H s₁ e s'
end L2
namespace L2
open PySem PySem.Spec PyProof.Rows
def inClass (s : Stmt) (j : Nat) : Stmt := match s with
  | .ClassDef _ _ _ body _ _ _ _ _ _ _ => body.getD j (.Pass ⟨0, 0, 0, 0⟩)
  | _ => .Pass ⟨0, 0, 0, 0⟩
def defArgs (s : Stmt) : Arguments := match s with
  | .FunctionDef _ a _ _ _ _ _ _ _ _ => a
  | _ => { posonlyargs := [], args := [], vararg := none, kwonlyargs := [], kw_defaults := [], kwarg := none, defaults := [] }
def defBody (s : Stmt) : List Stmt := match s with
  | .FunctionDef _ _ b _ _ _ _ _ _ _ => b
  | _ => []
def defScope (s : Stmt) : Scope := match s with
  | .FunctionDef _ _ _ _ _ _ sc _ _ _ => sc
  | _ => { kind := .function, names := [], isGenerator := false, isCoroutine := false }
abbrev CX0 : CXT := fun _ _ _ _ _ _ => False
abbrev E0 : XK := fun _ _ _ => False
structure Fun (K : PySem.W.Frag) (x qual : Str) (st : Stmt) (f : Addr) (fd : FuncData) : Prop where
  ex : ∃ (oc : Value) (od : Option Addr) (kV doc pm : Value) (an : Option Addr) (cdv ct : Value) (osl : Array (Option Value)),
    fd = PySem.W.fnOf x qual (defArgs st) (defBody st) (defScope st) .none kV doc pm an cdv ct ∧ K.lookup f = some ⟨oc, od, .func fd, osl⟩ ∧ PySem.W.codeIn K cdv qual = true
  kp : PySem.W.keepIn K (.ref f) = true
section
variable {P : Program} {w : World} {K : PySem.W.Frag} {mg : Str → Option Value} {base : Heap}
theorem Fun.ok {x qual : Str} {st : Stmt} {f : Addr} {fd : FuncData} {N ps : List Str} {k : Nat} {sp : Sp} (F : Fun K x qual st f fd) (S : FnScope N ps (defScope st)) (len : ∀ vs H Q E, sp vs H Q E → vs.length = ps.length)
    (hbody : ∀ (cdv : Value) (A : Around) (outer : List Env) (s : Shared) (H : Hp) (vs : List V) (Q : VK) (E : XK), Room k (A.deeper (envOfC qual (defScope st) s.heap.objs.size f cdv)) → sp vs H Q E →
      ∃ t, PSs (cxOf CX0 P w K mg base N qual (defScope st) f cdv A outer s H E).nox (defBody st) t ∧ t { nx := fun _ H' => Q .non H', rt := Q } (start N vs) H) : FnOk P w K mg base CX0 (k + 1) f fd ps sp := by
  obtain ⟨oc, od, kV, doc, pm, an, cdv, ct, osl, rfl, lk, hcd⟩ := F.ex
  refine fn_of lk hcd S len fun A outer s H vs Q E hr hsp => ?_
  obtain ⟨t, h, q⟩ := hbody cdv A outer s H vs Q E hr hsp
  exact ⟨t, h.nox, q⟩
theorem Fun.binds {x qual : Str} {st : Stmt} {f : Addr} {fd : FuncData} {ps : List Str} (F : Fun K x qual st f fd)
    (h : ∀ (kV doc pm : Value) (an : Option Addr) (cdv ct : Value) (us : List Value), us.length = ps.length → bindArgs (PySem.W.fnOf x qual (defArgs st) (defBody st) (defScope st) .none kV doc pm an cdv ct) ⟨us, []⟩ = pure (ps.zip us)) : Binds K fd ps [] := by
  obtain ⟨oc, od, kV, doc, pm, an, cdv, ct, osl, rfl, lk, hcd⟩ := F.ex
  exact .all (h kV doc pm an cdv ct)
theorem fun_mk {x qual : Str} {st : Stmt} {f : Addr} {oc : Value} {od an : Option Addr} {osl : Array (Option Value)} {kV doc pm cdv ct : Value} (l : K.lookup f = some ⟨oc, od, .func (PySem.W.fnOf x qual (defArgs st) (defBody st) (defScope st) .none kV doc pm an cdv ct), osl⟩)
    (c : PySem.W.codeIn K cdv qual = true) (k : PySem.W.keepIn K (.ref f) = true) : Fun K x qual st f (PySem.W.fnOf x qual (defArgs st) (defBody st) (defScope st) .none kV doc pm an cdv ct) := ⟨⟨oc, od, kV, doc, pm, an, cdv, ct, osl, rfl, l, c⟩, k⟩
end
section
variable {X : Cx}
theorem pv (i : Nat) {x : Str} {pos : Pos} (hN : X.N[i]? = some x := by rfl) (hv : Vis X.env.scope x := by first | exact Or.inl rfl | exact Or.inr (Or.inl rfl) | exact Or.inr (Or.inr rfl)) (hd : (x == ("__debug__" : Str)) = false := by decide)
    (hcd : (x == ("__classdict__" : Str)) = false := by decide) : PE X (.Name x pos) (tVar i) := pe_var hN hv hd hcd
end
theorem iteF {A B : Prop} (h : B) : if false = true then A else B := by
  rw [if_neg Bool.false_ne_true]
  exact h
theorem iteT {A B : Prop} (h : A) : if true = true then A else B := by
  rw [if_pos rfl]
  exact h
def Same (H H' : Hp) : Prop := ∀ b o, H b = some o → H' b = some o
theorem Same.refl (H : Hp) : Same H H := fun _ _ h => h
theorem Same.trans {H H1 H2 : Hp} (a : Same H H1) (b : Same H1 H2) : Same H H2 := fun c o h => b c o (a c o h)
theorem Same.free {H H' : Hp} (e : Same H H') {l : Addr} (h : H' l = Option.none) : H l = Option.none := by
  cases q : H l with
  | none => rfl
  | some o =>
    rw [e l o q] at h
    cases h
theorem Same.seq {K : PySem.W.Frag} {H H' : Hp} {a : Addr} {xs : List V} (e : Same H H') (h : SqL K H a xs) : SqL K H' a xs := by
  rcases h with (h | ⟨o, h⟩) | h
  · exact .inl (.inl (e _ _ h))
  · exact .inl (.inr ⟨o, e _ _ h⟩)
  · exact .inr h
section
variable {κ : Type} [DecidableEq κ]
end
theorem Same.made {H H1 : Hp} {x dx C : Addr} (nx : H x = Option.none) (nd : H dx = Option.none) (k : ∀ b o, (upd (upd H dx (.own x)) x (.ins C dx [])) b = some o → b ≠ x → H1 b = some o) : Same H H1 := fun b o e =>
  k b o (by rw [upd_ne (ne_of_none e nx), upd_ne (ne_of_none e nd)]; exact e) (ne_of_none e nx)
end L2
namespace L2
open PySem PySem.Spec PyProof.Rows
structure Where (K : PySem.W.Frag) (mg : Str → Option Value) (x : Str) (st : Stmt) : Prop where
  ex : ∃ f fd, Fun K x x st f fd ∧ mg x = some (.ref f)
structure Def (P : Program) (w : World) (K : PySem.W.Frag) (mg : Str → Option Value) (base : Heap) (k : Nat) (x : Str) (ps : List Str) (sp : Sp) : Prop where
  ex : ∃ f fd, mg x = some (.ref f) ∧ PySem.W.keepIn K (.ref f) = true ∧ Binds K fd ps [] ∧ FnOk P w K mg base CX0 k f fd ps sp
theorem Def.up {P : Program} {w : World} {K : PySem.W.Frag} {mg : Str → Option Value} {base : Heap} {j k : Nat} {x : Str} {ps : List Str} {sp : Sp} (D : Def P w K mg base j x ps sp) (h : j ≤ k) : Def P w K mg base k x ps sp := by
  obtain ⟨f, fd, h1, h2, h3, h4⟩ := D.ex
  exact ⟨f, fd, h1, h2, h3, h4.mono h⟩
section
variable {P : Program} {w : World} {K : PySem.W.Frag} {mg : Str → Option Value} {base : Heap}
theorem Where.def {x : Str} {st : Stmt} {N ps : List Str} {k : Nat} {sp : Sp} (W : Where K mg x st) (S : FnScope N ps (defScope st))
    (hb : ∀ (kV doc pm : Value) (an : Option Addr) (cdv ct : Value) (us : List Value), us.length = ps.length → bindArgs (PySem.W.fnOf x x (defArgs st) (defBody st) (defScope st) .none kV doc pm an cdv ct) ⟨us, []⟩ = pure (ps.zip us))
    (len : ∀ vs H Q E, sp vs H Q E → vs.length = ps.length)
    (hbody : ∀ (f : Addr) (cdv : Value) (A : Around) (outer : List Env) (s : Shared) (H : Hp) (vs : List V) (Q : VK) (E : XK), Room k (A.deeper (envOfC x (defScope st) s.heap.objs.size f cdv)) → sp vs H Q E →
      ∃ t, PSs (cxOf CX0 P w K mg base N x (defScope st) f cdv A outer s H E).nox (defBody st) t ∧ t { nx := fun _ H' => Q .non H', rt := Q } (start N vs) H) : Def P w K mg base (k + 1) x ps sp := by
  obtain ⟨f, fd, F, hm⟩ := W.ex
  exact ⟨f, fd, hm, F.kp, F.binds hb, F.ok S len (hbody f)⟩
end
section
variable {X : Cx} {k : Nat} {ps : List Str} {sp : Sp} {x : Str} {p pos : Pos} {e : Expr} {es : List Expr} {t : TA}
end
theorem Same.tup {K : PySem.W.Frag} {H H' : Hp} {a : Addr} {xs : List V} (e : Same H H') (h : SqT K H a xs) : SqT K H' a xs := by
  rcases h with (h | ⟨o, h⟩) | h
  · exact .inl (.inl (e _ _ h))
  · exact .inl (.inr ⟨o, e _ _ h⟩)
  · exact .inr h
theorem Same.upd {H : Hp} {p : Addr} {o : HO} (h : H p = none) : Same H (upd H p o) := fun b u e => by
  rw [upd_ne (ne_of_none e h)]
  exact e
theorem DpAll.ints {K : PySem.W.Frag} {H : Hp} : ∀ (ns : List Int), DpAll K H (ns.map V.int) (ns.map PyData.int)
  | [] => .nil
  | n :: ns => .cons (.int n) (DpAll.ints ns)
theorem Dp.intsL {K : PySem.W.Frag} {H : Hp} {a : Addr} {ns : List Int} (h : SqL K H a (ns.map V.int)) : Dp K H (.ref a) (.list (ns.map PyData.int)) := .lst h (DpAll.ints ns)
end L2
namespace L2
open PySem PySem.Spec PyProof.Rows
def tyD : PyData → String
  | .none => "NoneType"
  | .bool _ => "bool"
  | .int _ => "int"
  | .str _ => "str"
  | .list _ => "list"
  | .tuple _ => "tuple"
  | .dict _ => "dict"
def isD : PyData → String → Bool
  | .bool _, c => c == "bool" || c == "int"
  | d, c => tyD d == c
def okC (c : String) : Bool := c == "int" || c == "bool" || c == "tuple" || c == "list" || c == "str"
theorem kit_isD (K : PySem.W.Frag) : ∀ (d : PyData) (c : String), okC c = true → (∀ kvs, d ≠ .dict kvs) → PySem.W.kitOne K (.type (tyD d)) (.type c) = some (isD d c) := by
  intro d c hc hd
  have hc' : c = "int" ∨ c = "bool" ∨ c = "tuple" ∨ c = "list" ∨ c = "str" := by
    simp [okC] at hc
    rcases hc with (((h | h) | h) | h) | h <;> simp [h]
  cases d with
  | dict kvs => exact absurd rfl (hd kvs)
  | none => rcases hc' with rfl | rfl | rfl | rfl | rfl <;> with_unfolding_all rfl
  | bool b => rcases hc' with rfl | rfl | rfl | rfl | rfl <;> with_unfolding_all rfl
  | int i => rcases hc' with rfl | rfl | rfl | rfl | rfl <;> with_unfolding_all rfl
  | str x => rcases hc' with rfl | rfl | rfl | rfl | rfl <;> with_unfolding_all rfl
  | list xs => rcases hc' with rfl | rfl | rfl | rfl | rfl <;> with_unfolding_all rfl
  | tuple xs => rcases hc' with rfl | rfl | rfl | rfl | rfl <;> with_unfolding_all rfl
theorem Dp.noDict {K : PySem.W.Frag} {H : Hp} {v : V} {d : PyData} (h : Dp K H v d) : ∀ kvs, d ≠ .dict kvs := by
  intro kvs e
  subst e
  cases h
section
variable {X : Cx}
theorem call_isD : CallR X (.builtin "isinstance") (fun xs H Q => ∃ x c d, xs = [x, .ty c] ∧ Dp X.K H x d ∧ okC c = true ∧ Q (.bl (isD d c)) H) := by
  intro pins s σ H xs us Q I r h
  obtain ⟨x, c, d, rfl, hd, hc, q⟩ := h
  cases r with
  | cons r1 r2 =>
    cases r2 with
    | cons r2 r3 =>
      cases r3
      have e := kit_isD X.K d c hc hd.noDict
      rename_i u u2
      cases (show u2 = Value.type c from r2)
      have fin : ∀ tk, EP X pins σ Q (.bool (isD d c)) { s with toks := tk } := fun tk => ⟨.bl (isD d c), H, I.tok tk, rfl, q⟩
      cases hd with
      | non => cases (show u = Value.none from r1); exact PySem.W.kia_one PySem.W.kitx_none I.kIn True.intro e (fun z => nomatch z) fin
      | bl b => cases (show u = Value.bool b from r1); exact PySem.W.kia_one PySem.W.kitx_bool I.kIn True.intro e (fun z => nomatch z) fin
      | int i => obtain ⟨t, z⟩ := (show ∃ t, u = Value.int i t from r1); cases z; exact PySem.W.kia_one PySem.W.kitx_int I.kIn True.intro e (fun z => nomatch z) fin
      | str y => obtain ⟨t, z⟩ := (show ∃ t, u = Value.str y t from r1); cases z; exact PySem.W.kia_one PySem.W.kitx_str I.kIn True.intro e (fun z => nomatch z) fin
      | @lst a ys ds hs ha =>
        cases (show u = Value.ref a from r1)
        obtain ⟨its, _, ⟨o, n, h1, h2, _, _⟩, _⟩ := I.list hs
        exact PySem.W.kia_one PySem.W.kitx_list I.kIn ⟨o, h1, h2⟩ e (fun z => nomatch z) fin
      | @tup a ys ds hs ha =>
        cases (show u = Value.ref a from r1)
        obtain ⟨its, _, ⟨o, h1, h2, _, _⟩, _⟩ := I.tuple hs
        exact PySem.W.kia_one PySem.W.kitx_tuple I.kIn ⟨o, h1, h2⟩ e (fun z => nomatch z) fin
theorem pe_isD {e : Expr} {te : TE} {T : Str} {c : String} {p p2 pos : Pos} (hm : X.mg "isinstance" = none) (hT : X.mg T = none) (he : PE X e te) (hb : bootBuiltins T = some (.type c) := by decide +kernel) (hgT : Gl X T := by rfl)
    (hg : Gl X "isinstance" := by rfl) (hn : T ≠ "__name__" := by decide) (hdb : (T == ("__debug__" : Str)) = false := by decide)
    (hst : starEach [e, .Name T p2] X.env = (false, eval e X.env) :: starEach [.Name T p2] X.env := by rfl) (hst2 : starEach [.Name T p2] X.env = (false, eval (.Name T p2) X.env) :: starEach [] X.env := by rfl)
    (hpl : (backTo pos (starEach [.Name T p2] X.env)).any (·.1) = false := by rfl) :
    PE X (.Call (.Name "isinstance" p) [e, .Name T p2] [] pos) (tCB (fun xs H Q => ∃ x c d, xs = [x, .ty c] ∧ Dp X.K H x d ∧ okC c = true ∧ Q (.bl (isD d c)) H) (tCons te (tCons (tC (.ty c)) tNil))) :=
  pe_callB call_isD hg hm (by decide +kernel) (pa_cons he (pa_cons (pe_bltn hgT hT hb rfl hn hdb) pa_nil hst2) hst) (by decide) (by decide) hst hpl
end
end L2
namespace ZT
open PySem PySem.Spec PyProof.Rows
section
variable {prog : Program} {w : World} {A : Around} {E : Value → Shared → Prop} {s : Shared}
theorem step {j t : Addr} {n : Nat} {xs : Array Value} {x : Value} {Q : Value → Shared → Prop} (it : s.heap.IsTupleIter j t n) (tu : s.heap.IsTuple t xs) (at_n : xs[n]? = some x)
    (k : ∀ h2, h2.IsTupleIter j t (n + 1) → Heap.SameBut j s.heap h2 → Q x { s with heap := h2 }) : wpAny (model prog w) A (Builtin.SmallTypes.nextOf (.ref j)) Q E s := by
  obtain ⟨oj, gj, cj, dj⟩ := id it
  obtain ⟨ot, gt, ct, m, dt⟩ := tu
  unfold Builtin.SmallTypes.nextOf
  apply wpAny_bind
  apply wpAny_callSpecial?_slot (name := Str.ofString "__next__") it.typeIs slot_tupleiter_next
  refine wpAny_call_entry slot_tupleiter_next it.typeIs entry_tupleiter_next ?_ (args_tupleiter_next _)
  show wpAny _ _ (field (.ref j) 0 >>= _) _ _ s
  apply wpAny_bind
  refine wpAny_field gj dj (x := .ref t) rfl ?_
  have nt : ¬ ((Value.ref t == Value.none) = true) := Bool.false_ne_true
  show wpAny _ _ (if (Value.ref t == Value.none) = true then _ else _) _ _ s
  rw [if_neg nt]
  show wpAny _ _ (field (.ref j) 1 >>= _) _ _ s
  apply wpAny_bind
  refine wpAny_field gj dj (x := .int n 0) rfl ?_
  show wpAny _ _ (seqItems? (.ref t) >>= _) _ _ s
  apply wpAny_bind
  refine wpAny_seqItems gt dt ?_
  simp only [at_n, Int.toNat_natCast]
  apply wpAny_bind
  refine wpAny_setField gj dj (by simp) (wpAny_pure ⟨x, rfl, wpAny_pure (k _ ?_ (Heap.SameBut.update ..))⟩)
  exact ⟨_, Heap.get?_update_self _ gj (Obj.isFreed_of_fields (Obj.data_mapFields dj _)), (Obj.cls_mapFields ..).trans cj, (Obj.data_mapFields dj _).trans (by simp [rawInt])⟩
theorem last {j t : Addr} {n : Nat} {xs : Array Value} {Q : Value → Shared → Prop} (calm : A.handled = none) (it : s.heap.IsTupleIter j t n) (tu : s.heap.IsTuple t xs) (at_n : xs[n]? = none)
    (k : ∀ h2 e, Heap.ExtBut j s.heap h2 → (∃ o, h2.get? e = some o ∧ o.cls = .type "StopIteration") → E (.ref e) { s with heap := h2 }) : wpAny (model prog w) A (Builtin.SmallTypes.nextOf (.ref j)) Q E s := by
  obtain ⟨oj, gj, cj, dj⟩ := id it
  obtain ⟨ot, gt, ct, m, dt⟩ := tu
  unfold Builtin.SmallTypes.nextOf
  apply wpAny_bind
  apply wpAny_callSpecial?_slot (name := Str.ofString "__next__") it.typeIs slot_tupleiter_next
  refine wpAny_call_entry slot_tupleiter_next it.typeIs entry_tupleiter_next ?_ (args_tupleiter_next _)
  show wpAny _ _ (field (.ref j) 0 >>= _) _ _ s
  apply wpAny_bind
  refine wpAny_field gj dj (x := .ref t) rfl ?_
  have nt : ¬ ((Value.ref t == Value.none) = true) := Bool.false_ne_true
  show wpAny _ _ (if (Value.ref t == Value.none) = true then _ else _) _ _ s
  rw [if_neg nt]
  show wpAny _ _ (field (.ref j) 1 >>= _) _ _ s
  apply wpAny_bind
  refine wpAny_field gj dj (x := .int n 0) rfl ?_
  show wpAny _ _ (seqItems? (.ref t) >>= _) _ _ s
  apply wpAny_bind
  refine wpAny_seqItems gt dt ?_
  simp only [at_n, Int.toNat_natCast]
  apply wpAny_bind
  apply wpAny_rule
  apply wpAny_bind
  refine wpAny_setField gj dj (by simp) ?_
  show wpAny _ _ (newExc (.type "StopIteration") [] >>= _) _ _ _
  apply wpAny_bind
  simp only [newTuple, newExc]
  apply wpAny_bind
  refine wpAny_newObj_type ?_ (by size_fits)
  refine wpAny_bind (m := firstArgMember _ _) (wpAny_of_eq (a := Value.none) (by simp only [firstArgMember]; rfl) ?_)
  refine wpAny_newObj_type ?_ (by size_fits)
  simp only [raiseNew]
  apply wpAny_bind
  apply wpAny_handled
  first | rw [calm] | rw [show A.in1.handled = none from calm]
  refine wpAny_throw ?_
  exact k _ _ (((Heap.SameBut.update ..).extBut.push _).push _) ⟨_, Heap.get?_push_size _ rfl, rfl⟩
structure Apart (z ti to j1 j2 t1 t2 : Addr) : Prop where
  a1 : ti ≠ z
  a2 : to ≠ z
  a3 : j1 ≠ z
  a4 : j2 ≠ z
  a5 : ti ≠ to
  a6 : ti ≠ j1
  a7 : ti ≠ j2
  a8 : to ≠ j1
  a9 : to ≠ j2
  b1 : j1 ≠ j2
  b2 : t1 ≠ z
  b3 : t1 ≠ to
  b4 : t1 ≠ j1
  b5 : t1 ≠ j2
  b6 : t2 ≠ z
  b7 : t2 ≠ to
  b8 : t2 ≠ j1
  b9 : t2 ≠ j2
theorem turn {z ti to j1 j2 t1 t2 : Addr} {n1 n2 : Nat} {xs ys : Array Value} {x y p q : Value} {Q : Value → Shared → Prop} (D : Apart z ti to j1 j2 t1 t2)
    (gz : IsZip s.heap z ti to .none) (gi : IsPair s.heap ti (.ref j1) (.ref j2)) (go : IsPair s.heap to p q)
    (i1 : s.heap.IsTupleIter j1 t1 n1) (i2 : s.heap.IsTupleIter j2 t2 n2) (u1 : s.heap.IsTuple t1 xs) (u2 : s.heap.IsTuple t2 ys) (e1 : xs[n1]? = some x) (e2 : ys[n2]? = some y)
    (k : ∀ h2, IsZip h2 z ti to (rawInt s.heap.objs.size) → IsPair h2 to x y → h2.IsTupleIter j1 t1 (n1 + 1) → h2.IsTupleIter j2 t2 (n2 + 1) → IsPair h2 s.heap.objs.size x y → h2.objs.size = s.heap.objs.size + 1 →
      (∀ c o, c ≠ z → c ≠ to → c ≠ j1 → c ≠ j2 → s.heap.get? c = some o → h2.get? c = some o) → Q (.ref s.heap.objs.size) { s with heap := h2 }) :
    wpAny (model prog w) A (Builtin.«zip.__next__» ⟨[.ref z], []⟩) (fun fin s2 => ∃ v, fin = .done (.ret v) ∧ Q v s2) E s := by
  show wpAny _ _ (field (.ref z) 2 >>= _) _ _ _
  apply wpAny_bind
  refine wpAny_field gz rfl (x := .bool false) rfl ?_
  show wpAny _ _ (field (.ref z) 3 >>= _) _ _ _
  apply wpAny_bind
  refine wpAny_field gz rfl (x := .ref ti) rfl ?_
  apply wpAny_bind
  refine wpAny_seqItems gi rfl ?_
  show wpAny _ _ (Builtin.SmallTypes.ownedTupleIsFree (.ref z) >>= _) _ _ _
  apply wpAny_bind
  unfold Builtin.SmallTypes.ownedTupleIsFree
  apply wpAny_bind
  refine wpAny_field gz rfl (x := .none) rfl (wpAny_pure ?_)
  simp only [if_true]
  apply wpAny_bind
  apply wpAny_rule
  apply wpAny_bind
  refine wpAny_field gz rfl (x := .ref to) rfl ?_
  apply wpAny_bind
  refine wpAny_setField_rec gz (by simp) fun ha za sa => ?_
  replace za : IsZip ha z ti to .ellipsis := za
  apply wpAny_bind
  simp only [List.forIn_cons, List.forIn_nil, List.zipIdx_cons, List.zipIdx_nil]
  apply wpAny_bind
  apply wpAny_bind
  apply wpAny_onRaise
  show wpAny _ _ (Builtin.SmallTypes.nextOf (.ref j1) >>= _) _ _ _
  apply wpAny_bind
  refine step (i1.extBut sa.extBut D.a3) (u1.extBut sa.extBut D.b2) e1 fun hb ib sb => wpAny_pure ?_
  have gb : IsPair hb to p q := sb.extBut _ _ D.a8 (sa.extBut _ _ D.a2 go)
  apply wpAny_bind
  refine wpAny_seqItems gb rfl ?_
  apply wpAny_bind
  refine wpAny_updateSeq_pair gb fun hc gc sc => ?_
  replace gc : IsPair hc to x q := gc
  apply wpAny_bind
  refine wpAny_letGo (wpAny_pure ?_)
  apply wpAny_bind
  apply wpAny_bind
  apply wpAny_onRaise
  show wpAny _ _ (Builtin.SmallTypes.nextOf (.ref j2) >>= _) _ _ _
  apply wpAny_bind
  have i2c : hc.IsTupleIter j2 t2 n2 := ((i2.extBut sa.extBut D.a4).extBut sb.extBut D.b1.symm).extBut sc.extBut D.a9.symm
  have u2c : hc.IsTuple t2 ys := ((u2.extBut sa.extBut D.b6).extBut sb.extBut D.b8).extBut sc.extBut D.b7
  refine step i2c u2c e2 fun hd id sd => wpAny_pure ?_
  have gd : IsPair hd to x q := sd.extBut _ _ D.a9 gc
  apply wpAny_bind
  refine wpAny_seqItems gd rfl ?_
  apply wpAny_bind
  refine wpAny_updateSeq_pair gd fun hf gf sf => ?_
  replace gf : IsPair hf to x y := gf
  apply wpAny_bind
  refine wpAny_letGo (wpAny_pure (wpAny_pure ?_))
  apply wpAny_bind
  refine wpAny_seqItems gf rfl ?_
  apply wpAny_bind
  refine wpAny_newTuple ?_
  have size : hf.objs.size = s.heap.objs.size := sf.1.trans (sd.1.trans (sc.1.trans (sb.1.trans sa.1)))
  have zf : IsZip hf z ti to .ellipsis := sf.extBut _ _ D.a2.symm (sd.extBut _ _ D.a4.symm (sc.extBut _ _ D.a2.symm (sb.extBut _ _ D.a3.symm za)))
  have kf : ∀ c o, c ≠ z → c ≠ to → c ≠ j1 → c ≠ j2 → s.heap.get? c = some o → hf.get? c = some o := fun c o n1 n2 n3 n4 g =>
    sf.extBut _ _ n2 (sd.extBut _ _ n4 (sc.extBut _ _ n2 (sb.extBut _ _ n3 (sa.extBut _ _ n1 g))))
  have i1f : hf.IsTupleIter j1 t1 (n1 + 1) := ((ib.extBut sc.extBut D.a8.symm).extBut sd.extBut D.b1).extBut sf.extBut D.a8.symm
  have i2f : hf.IsTupleIter j2 t2 (n2 + 1) := id.extBut sf.extBut D.a9.symm
  have lz : z < hf.objs.size := Heap.lt_size zf
  show wpAny _ _ (Builtin.SmallTypes.ownedTupleHandOut (.ref z) (.ref hf.objs.size) >>= _) _ _ _
  apply wpAny_bind
  unfold Builtin.SmallTypes.ownedTupleHandOut
  have zg : IsZip (hf.push { cls := .type "tuple", data := .seq #[x, y] }) z ti to .ellipsis := Heap.get?_push_of_some _ zf
  apply wpAny_bind
  refine wpAny_setField_rec zg (by simp) fun hi zi si => ?_
  replace zi : IsZip hi z ti to (rawInt hf.objs.size) := zi
  refine wpAny_setField_rec zi (by simp) fun hj zj sj => ?_
  replace zj : IsZip hj z ti to (rawInt hf.objs.size) := zj
  have up : ∀ c o, c ≠ z → hf.get? c = some o → hj.get? c = some o := fun c o n g => sj.extBut _ _ n (si.extBut _ _ n (Heap.get?_push_of_some _ g))
  have new : IsPair hj hf.objs.size x y := sj.extBut _ _ (Nat.ne_of_gt lz) (si.extBut _ _ (Nat.ne_of_gt lz) (Heap.get?_push_size _ rfl))
  have sz : hj.objs.size = hf.objs.size + 1 := by rw [sj.1, si.1, Heap.size_push]
  rw [size] at zj new sz
  refine wpAny_pure ⟨_, rfl, ?_⟩
  show Q (.ref hf.objs.size) _
  rw [size]
  refine k hj zj (up _ _ D.a2 gf) (i1f.at fun o g => up _ o D.a3 g) (i2f.at fun o g => up _ o D.a4 g) new sz fun c o n1 n2 n3 n4 g => ?_
  exact up c o n1 (kf c o n1 n2 n3 n4 g)
theorem stop {z ti to j1 j2 t1 t2 : Addr} {n1 n2 : Nat} {xs ys : Array Value} {p q : Value} {Q : Fin → Shared → Prop} (calm : A.handled = none) (D : Apart z ti to j1 j2 t1 t2)
    (gz : IsZip s.heap z ti to .none) (gi : IsPair s.heap ti (.ref j1) (.ref j2)) (go : IsPair s.heap to p q)
    (i1 : s.heap.IsTupleIter j1 t1 n1) (i2 : s.heap.IsTupleIter j2 t2 n2) (u1 : s.heap.IsTuple t1 xs) (u2 : s.heap.IsTuple t2 ys) (ends : xs[n1]? = none ∨ ys[n2]? = none)
    (k : ∀ h2 e, (∀ c o, c ≠ z → c ≠ to → c ≠ j1 → c ≠ j2 → s.heap.get? c = some o → h2.get? c = some o) → (∃ o, h2.get? e = some o ∧ o.cls = .type "StopIteration") → E (.ref e) { s with heap := h2 }) :
    wpAny (model prog w) A (Builtin.«zip.__next__» ⟨[.ref z], []⟩) Q E s := by
  show wpAny _ _ (field (.ref z) 2 >>= _) _ _ _
  apply wpAny_bind
  refine wpAny_field gz rfl (x := .bool false) rfl ?_
  show wpAny _ _ (field (.ref z) 3 >>= _) _ _ _
  apply wpAny_bind
  refine wpAny_field gz rfl (x := .ref ti) rfl ?_
  apply wpAny_bind
  refine wpAny_seqItems gi rfl ?_
  show wpAny _ _ (Builtin.SmallTypes.ownedTupleIsFree (.ref z) >>= _) _ _ _
  apply wpAny_bind
  unfold Builtin.SmallTypes.ownedTupleIsFree
  apply wpAny_bind
  refine wpAny_field gz rfl (x := .none) rfl (wpAny_pure ?_)
  simp only [if_true]
  apply wpAny_bind
  apply wpAny_rule
  apply wpAny_bind
  refine wpAny_field gz rfl (x := .ref to) rfl ?_
  apply wpAny_bind
  refine wpAny_setField_rec gz (by simp) fun ha za sa => ?_
  replace za : IsZip ha z ti to .ellipsis := za
  apply wpAny_bind
  simp only [List.forIn_cons, List.forIn_nil, List.zipIdx_cons, List.zipIdx_nil]
  apply wpAny_bind
  apply wpAny_bind
  apply wpAny_onRaise
  show wpAny _ _ (Builtin.SmallTypes.nextOf (.ref j1) >>= _) _ _ _
  cases e1 : xs[n1]? with
  | none =>
    apply wpAny_bind
    refine last calm (i1.extBut sa.extBut D.a3) (u1.extBut sa.extBut D.b2) e1 fun hb e sb he => ?_
    obtain ⟨oe, ge, ce⟩ := he
    have zb : IsZip hb z ti to .ellipsis := sb _ _ D.a3.symm za
    have ne : e ≠ z := fun v => by
      subst v
      rw [zb] at ge
      cases ge
      simp at ce
    refine wpAny_setField_rec zb (by simp) fun hc _ sc => k hc e (fun c o n1 _ n3 _ g => ?_) ⟨oe, sc.extBut _ _ ne ge, ce⟩
    exact sc.extBut _ _ n1 (sb _ _ n3 (sa.extBut _ _ n1 g))
  | some x =>
    have e2 : ys[n2]? = none := ends.resolve_left fun v => by
      rw [e1] at v
      cases v
    apply wpAny_bind
    refine step (i1.extBut sa.extBut D.a3) (u1.extBut sa.extBut D.b2) e1 fun hb ib sb => wpAny_pure ?_
    have gb : IsPair hb to p q := sb.extBut _ _ D.a8 (sa.extBut _ _ D.a2 go)
    apply wpAny_bind
    refine wpAny_seqItems gb rfl ?_
    apply wpAny_bind
    refine wpAny_updateSeq_pair gb fun hc gc sc => ?_
    apply wpAny_bind
    refine wpAny_letGo (wpAny_pure ?_)
    apply wpAny_bind
    apply wpAny_bind
    apply wpAny_onRaise
    show wpAny _ _ (Builtin.SmallTypes.nextOf (.ref j2) >>= _) _ _ _
    apply wpAny_bind
    have i2c : hc.IsTupleIter j2 t2 n2 := ((i2.extBut sa.extBut D.a4).extBut sb.extBut D.b1.symm).extBut sc.extBut D.a9.symm
    have u2c : hc.IsTuple t2 ys := ((u2.extBut sa.extBut D.b6).extBut sb.extBut D.b8).extBut sc.extBut D.b7
    refine last calm i2c u2c e2 fun hd e sd he => ?_
    obtain ⟨oe, ge, ce⟩ := he
    have zd : IsZip hd z ti to .ellipsis := sd _ _ D.a4.symm (sc.extBut _ _ D.a2.symm (sb.extBut _ _ D.a3.symm za))
    have ne : e ≠ z := fun v => by
      subst v
      rw [zd] at ge
      cases ge
      simp at ce
    refine wpAny_setField_rec zd (by simp) fun hf _ sf => k hf e (fun c o n1 n2 n3 n4 g => ?_) ⟨oe, sf.extBut _ _ ne ge, ce⟩
    exact sf.extBut _ _ n1 (sd _ _ n4 (sc.extBut _ _ n2 (sb.extBut _ _ n3 (sa.extBut _ _ n1 g))))
theorem next_turn {z ti to j1 j2 t1 t2 : Addr} {n1 n2 : Nat} {xs ys : Array Value} {x y p q : Value} {Q : Option Value → Shared → Prop} (D : Apart z ti to j1 j2 t1 t2)
    (gz : IsZip s.heap z ti to .none) (gi : IsPair s.heap ti (.ref j1) (.ref j2)) (go : IsPair s.heap to p q)
    (i1 : s.heap.IsTupleIter j1 t1 n1) (i2 : s.heap.IsTupleIter j2 t2 n2) (u1 : s.heap.IsTuple t1 xs) (u2 : s.heap.IsTuple t2 ys) (e1 : xs[n1]? = some x) (e2 : ys[n2]? = some y)
    (k : ∀ h2, IsZip h2 z ti to (rawInt s.heap.objs.size) → IsPair h2 to x y → h2.IsTupleIter j1 t1 (n1 + 1) → h2.IsTupleIter j2 t2 (n2 + 1) → IsPair h2 s.heap.objs.size x y → h2.objs.size = s.heap.objs.size + 1 →
      (∀ c o, c ≠ z → c ≠ to → c ≠ j1 → c ≠ j2 → s.heap.get? c = some o → h2.get? c = some o) → Q (some (.ref s.heap.objs.size)) { s with heap := h2 }) : wpAny (model prog w) A (pyNext (.ref z)) Q E s := by
  have ty : s.TypeIs (.ref z) "zip" := ⟨_, gz, rfl⟩
  unfold pyNext
  apply wpAny_bind
  apply wpAny_attempt
  apply wpAny_callSpecial?_slot (name := Str.ofString "__next__") ty F.slot_zip_next
  refine wpAny_call_entry F.slot_zip_next ty F.entry_zip_next ?_ (F.args_zip_next_1 _)
  exact turn D gz gi go i1 i2 u1 u2 e1 e2 fun h2 c1 c2 c3 c4 c5 c6 c7 => wpAny_pure (k h2 c1 c2 c3 c4 c5 c6 c7)
theorem next_stop {z ti to j1 j2 t1 t2 : Addr} {n1 n2 : Nat} {xs ys : Array Value} {p q : Value} {Q : Option Value → Shared → Prop} (calm : A.handled = none) (D : Apart z ti to j1 j2 t1 t2)
    (gz : IsZip s.heap z ti to .none) (gi : IsPair s.heap ti (.ref j1) (.ref j2)) (go : IsPair s.heap to p q)
    (i1 : s.heap.IsTupleIter j1 t1 n1) (i2 : s.heap.IsTupleIter j2 t2 n2) (u1 : s.heap.IsTuple t1 xs) (u2 : s.heap.IsTuple t2 ys) (ends : xs[n1]? = none ∨ ys[n2]? = none)
    (k : ∀ h2, (∀ c o, c ≠ z → c ≠ to → c ≠ j1 → c ≠ j2 → s.heap.get? c = some o → h2.get? c = some o) → Q none { s with heap := h2 }) : wpAny (model prog w) A (pyNext (.ref z)) Q E s := by
  have ty : s.TypeIs (.ref z) "zip" := ⟨_, gz, rfl⟩
  unfold pyNext
  apply wpAny_bind
  apply wpAny_attempt
  apply wpAny_callSpecial?_slot (name := Str.ofString "__next__") ty F.slot_zip_next
  refine wpAny_call_entry F.slot_zip_next ty F.entry_zip_next ?_ (F.args_zip_next_1 _)
  refine stop calm D gz gi go i1 i2 u1 u2 ends fun h2 e kept ⟨o, ge, ce⟩ => ?_
  apply wpAny_bind
  exact wpAny_isInstance (T := "StopIteration") (b := true) ⟨o, ge, ce⟩ isSubtype_stop (wpAny_pure (k h2 kept))
end
abbrev hA (h : Heap) (t1 : Addr) : Heap := h.push { cls := .type "tuple_iterator", data := .fields #[.ref t1, .int 0 0] }
abbrev hB (h : Heap) (t1 t2 : Addr) : Heap := (hA h t1).push { cls := .type "tuple_iterator", data := .fields #[.ref t2, .int 0 0] }
abbrev hC (h : Heap) (t1 t2 : Addr) : Heap := (hB h t1 t2).push { cls := .type "tuple", data := .seq #[.ref h.objs.size, .ref (hA h t1).objs.size] }
abbrev hD (h : Heap) (t1 t2 : Addr) : Heap := (hC h t1 t2).push { cls := .type "tuple", data := .seq #[.none, .none] }
abbrev hE (h : Heap) (t1 t2 : Addr) : Heap := (hD h t1 t2).push { cls := .type "zip", data := .fields #[.none, .bool false, .bool false, .ref (hB h t1 t2).objs.size, .ref (hC h t1 t2).objs.size] }
theorem made (t1 t2 : Addr) (xs ys : Array Value) : Meets (Builtin.«zip.__new__» ⟨[.type "zip", .ref t1, .ref t2], []⟩) (fun _ R s => s.heap.IsTuple t1 xs ∧ s.heap.IsTuple t2 ys ∧
      R (.ok (.ret (.ref (hD s.heap t1 t2).objs.size))) { s with heap := hE s.heap t1 t2 }) :=
  .of_wp fun prog w A R s h => by
    obtain ⟨hp, g, d, tk, os⟩ := s
    obtain ⟨l1, l2, h⟩ := h
    have hsub := sub_zip
    have q1 : Heap.IsTuple (Shared.heap ⟨hp, g, d, tk, os⟩) t1 xs := l1
    have q2 : Heap.IsTuple (Shared.heap ⟨hp.push { cls := .type "tuple_iterator", data := .fields #[.ref t1, .int 0 0] }, g, d, tk, os⟩) t2 ys := Heap.IsTuple.push l2 _
    wp_walk using wpAny_pyIter_tuple q1, wpAny_pyIter_tuple q2
    exact ⟨_, rfl, h⟩
theorem apart_new (n t1 t2 : Nat) (h1 : t1 < n) (h2 : t2 < n) : Apart (n + 4) (n + 2) (n + 3) n (n + 1) t1 t2 := by
  constructor <;> (intro e; have e' : (_ : Nat) = _ := e; omega)
section
variable {prog : Program} {w : World} {A : Around} {E : Value → Shared → Prop} {s : Shared}
theorem call_zip {t1 t2 : Addr} {xs ys : Array Value} {Q : Value → Shared → Prop} (l1 : s.heap.IsTuple t1 xs) (l2 : s.heap.IsTuple t2 ys)
    (k : ∀ h2, IsZip h2 (s.heap.objs.size + 4) (s.heap.objs.size + 2) (s.heap.objs.size + 3) .none → IsPair h2 (s.heap.objs.size + 2) (.ref s.heap.objs.size) (.ref (s.heap.objs.size + 1)) →
      IsPair h2 (s.heap.objs.size + 3) .none .none → h2.IsTupleIter s.heap.objs.size t1 0 → h2.IsTupleIter (s.heap.objs.size + 1) t2 0 →
      (∀ c o, s.heap.get? c = some o → h2.get? c = some o) → Q (.ref (s.heap.objs.size + 4)) { s with heap := h2 }) : wpAny (model prog w) A (call (.type "zip") [.ref t1, .ref t2]) Q E s := by
  refine callType_new F.called_zip (by decide) (F.typeCall_zip_2 _ _) (F.newCall_zip_2 _ _) (fun obj => F.args_object_init_3 obj _ _) F.entry_zip_new (made t1 t2 xs ys) ⟨l1, l2, ?_⟩
  have n1 : (hA s.heap t1).objs.size = s.heap.objs.size + 1 := Heap.size_push ..
  have n2 : (hB s.heap t1 t2).objs.size = s.heap.objs.size + 2 := by rw [Heap.size_push, n1]
  have n3 : (hC s.heap t1 t2).objs.size = s.heap.objs.size + 3 := by rw [Heap.size_push, n2]
  have n4 : (hD s.heap t1 t2).objs.size = s.heap.objs.size + 4 := by rw [Heap.size_push, n3]
  have m5 : (hE s.heap t1 t2).get? (hD s.heap t1 t2).objs.size = some _ := Heap.get?_push_size _ rfl
  have m4 : (hE s.heap t1 t2).get? (hC s.heap t1 t2).objs.size = some _ := Heap.get?_push_of_some _ (Heap.get?_push_size _ rfl)
  have m3 : (hE s.heap t1 t2).get? (hB s.heap t1 t2).objs.size = some _ := Heap.get?_push_of_some _ (Heap.get?_push_of_some _ (Heap.get?_push_size _ rfl))
  have m2 : (hE s.heap t1 t2).get? (hA s.heap t1).objs.size = some _ := Heap.get?_push_of_some _ (Heap.get?_push_of_some _ (Heap.get?_push_of_some _ (Heap.get?_push_size _ rfl)))
  have m1 : (hE s.heap t1 t2).get? s.heap.objs.size = some _ := Heap.get?_push_of_some _ (Heap.get?_push_of_some _ (Heap.get?_push_of_some _ (Heap.get?_push_of_some _ (Heap.get?_push_size _ rfl))))
  show _ ∧ _
  rw [n2, n3, n4] at m5
  rw [n1, n2] at m3
  rw [n3] at m4
  rw [n1] at m2
  rw [n4]
  refine ⟨⟨_, m5, rfl⟩, k _ m5 m3 m4 ⟨_, m1, rfl, rfl⟩ ⟨_, m2, rfl, rfl⟩ fun c o g => ?_⟩
  exact Heap.get?_push_of_some _ (Heap.get?_push_of_some _ (Heap.get?_push_of_some _ (Heap.get?_push_of_some _ (Heap.get?_push_of_some _ g))))
end
end ZT
namespace L2
open PySem PySem.Spec PyProof.Rows
def ItzT (K : PySem.W.Frag) (a b : Addr) : It :=
  ⟨fun i H => ∃ (xs ys : List V) (x y : V), SqT K H a xs ∧ SqT K H b ys ∧ xs[i]? = some x ∧ ys[i]? = some y,
    fun i H v H2 => ∃ T x y, v = .ref T ∧ H T = none ∧ H2 = upd H T (.tup [x, y]) ∧ (∀ xs, SqT K H a xs → xs[i]? = some x) ∧ ∀ ys, SqT K H b ys → ys[i]? = some y,
    fun i H => ∃ xs ys : List V, SqT K H a xs ∧ SqT K H b ys ∧ (xs.length ≤ i ∨ ys.length ≤ i)⟩
theorem turn_zipT {P : Program} {w : World} {K : PySem.W.Frag} {elts : List Expr} {kk : Nat} {tpos : Pos} {a b z ti to j1 j2 : Addr} (D : ZT.Apart z ti to j1 j2 a b) :
    Turn P w K (.Tuple elts kk tpos) (ItzT K a b) [z, ti, to, j1, j2] z (fun i h => IsZip h z ti to .none ∧ IsPair h ti (.ref j1) (.ref j2) ∧ (∃ x y, IsPair h to x y) ∧ h.IsTupleIter j1 a i ∧ h.IsTupleIter j2 b i) where
  mem := List.mem_cons_self ..
  obj := fun i h st c hc => by
    obtain ⟨gz, gi, ⟨x, y, go⟩, ⟨o1, g1, _, d1⟩, ⟨o2, g2, _, d2⟩⟩ := st
    have cs : c = z ∨ c = ti ∨ c = to ∨ c = j1 ∨ c = j2 := by simpa using hc
    rcases cs with v | v | v | v | v <;> rw [v]
    · exact ⟨_, gz, fun _ u => nomatch u⟩
    · exact ⟨_, gi, fun _ u => nomatch u⟩
    · exact ⟨_, go, fun _ u => nomatch u⟩
    · exact ⟨o1, g1, fun _ u => by rw [d1] at u; cases u⟩
    · exact ⟨o2, g2, fun _ u => by rw [d2] at u; cases u⟩
  keep := fun i h h2 st k => by
    obtain ⟨gz, gi, ⟨x, y, go⟩, i1, i2⟩ := st
    refine ⟨k z (by simp) _ gz, k ti (by simp) _ gi, ⟨x, y, k to (by simp) _ go⟩, i1.at fun o g => k j1 (by simp) o g, i2.at fun o g => k j2 (by simp) o g⟩
  item := by
    intro X hP hw hK hc i pins s σ H E I hf st hg
    subst hP hw hK
    obtain ⟨gz, gi, ⟨x0, y0, go⟩, i1, i2⟩ := st
    obtain ⟨xs, ys, x, y, qx, qy, ex, ey⟩ := hg
    obtain ⟨its, rv, p1, _⟩ := I.tuple qx
    obtain ⟨its2, rv2, p2, _⟩ := I.tuple qy
    obtain ⟨u, hu, ru⟩ := rv.get ex
    obtain ⟨u2, hu2, ru2⟩ := rv2.get ey
    have lz : z < s.heap.objs.size := Heap.lt_size gz
    refine ZT.next_turn D gz gi go i1 i2 p1 p2 (x := u) (y := u2) (by simpa using hu) (by simpa using hu2) fun h2 gz2 go2 i12 i22 new sz kept => ?_
    refine ⟨_, rfl, wpAny_letOwnedTupleGo_zip (s := { s with heap := h2 }) gz2 fun h3 gz3 sb => ?_⟩
    have new3 : h3.get? s.heap.objs.size = some { cls := .type "tuple", data := .seq #[u, u2] } := (sb.2 _ (Nat.ne_of_gt lz)).trans new
    have okn : ObjOk X.prog X.w (upd H s.heap.objs.size (.tup [x, y])) h3 s.heap.objs.size (.tup [x, y]) :=
      ⟨by show 2 ≤ sizeLine; decide, [u, u2], .cons ru (.cons ru2 .nil), ⟨_, new3, ⟨rfl, rfl⟩, _, rfl⟩⟩
    have I1 : Inv X pins σ (upd H s.heap.objs.size (.tup [x, y])) { s with heap := h3 } := by
      refine I.turnedNew (t' := s.toks) (ch := [z, ti, to, j1, j2]) (fun c o nc g => ?_) hf (Nat.le_refl _) okn
      have n1 : c ≠ z := fun v => nc (by simp [v])
      have n3 : c ≠ to := fun v => nc (by simp [v])
      have n4 : c ≠ j1 := fun v => nc (by simp [v])
      have n5 : c ≠ j2 := fun v => nc (by simp [v])
      exact (sb.2 c n1).trans (kept c o n1 n3 n4 n5 g)
    refine ⟨.ref s.heap.objs.size, _, I1, rfl, ⟨_, x, y, rfl, I.hok.fresh (Nat.le_refl _), rfl, fun l hl => by rw [I.tuple_inj hl qx]; exact ex, fun l hl => by rw [I.tuple_inj hl qy]; exact ey⟩, ⟨gz3, ?_, ⟨u, u2, ?_⟩, ?_, ?_⟩, fun c cm => ?_⟩
    · exact (sb.2 _ D.a1).trans (kept _ _ D.a1 D.a5 D.a6 D.a7 gi)
    · exact (sb.2 _ D.a2).trans go2
    · exact i12.at fun o g => (sb.2 _ D.a3).trans g
    · exact i22.at fun o g => (sb.2 _ D.a4).trans g
    · have lt : c < s.heap.objs.size := by
        have cs : c = z ∨ c = ti ∨ c = to ∨ c = j1 ∨ c = j2 := by simpa using cm
        rcases cs with v | v | v | v | v <;> rw [v]
        · exact lz
        · exact Heap.lt_size gi
        · exact Heap.lt_size go
        · exact Heap.lt_size i1.choose_spec.1
        · exact Heap.lt_size i2.choose_spec.1
      rw [upd_ne (Nat.ne_of_lt lt)]
      exact (hf c cm).1
  done := by
    intro X hP hw hK hc i pins s σ H E I hf st hg
    subst hP hw hK
    obtain ⟨gz, gi, ⟨x0, y0, go⟩, i1, i2⟩ := st
    obtain ⟨xs, ys, qx, qy, ends⟩ := hg
    obtain ⟨its, rv, p1, _⟩ := I.tuple qx
    obtain ⟨its2, rv2, p2, _⟩ := I.tuple qy
    have l1 := rv.length
    have l2 := rv2.length
    have en : its.toArray[i]? = none ∨ its2.toArray[i]? = none := by
      rcases ends with v | v
      · left; simp; omega
      · right; simp; omega
    refine ZT.next_stop (I.ok.hd hc) D gz gi go i1 i2 p1 p2 en fun h2 kept => ⟨rfl, I.turnedL (t' := s.toks) (ch := [z, ti, to, j1, j2]) (fun c o nc g => ?_) hf⟩
    exact kept c o (fun v => nc (by simp [v])) (fun v => nc (by simp [v])) (fun v => nc (by simp [v])) (fun v => nc (by simp [v])) g
  self := fun A i s Q E st h => wpAny_pyIter_zip st.1 h
def iZipT (K : PySem.W.Frag) (ta : TA) : TI := fun σ H R => ta σ H fun vs H1 => ∃ a b xs ys, vs = [.ref a, .ref b] ∧ SqT K H1 a xs ∧ SqT K H1 b ys ∧ R (ItzT K a b) H1
theorem pi_zipT {X : Cx} {e e2 : Expr} {ta : TA} {p pos tpos : Pos} {elts : List Expr} {kk : Nat} (hm : X.mg "zip" = none) (ha : PA X [e, e2] ta) (hg : Gl X "zip" := by rfl)
    (hs : starEach [e, e2] X.env = (false, eval e X.env) :: starEach [e2] X.env := by rfl) (hpl : (backTo pos (starEach [e2] X.env)).any (·.1) = false := by rfl) :
    PI X (.Tuple elts kk tpos) (.Call (.Name "zip" p) [e, e2] [] pos) (iZipT X.K ta) := by
  intro pins s σ H R I h
  refine Call_ (ld_blt I hg hm boot_zip5 (PyProof.Rows.callWith_type1 (thn (ha pos pins s σ H _ I h) fun us s1 ⟨vs, H1, I1, r1, q1⟩ => ?_) hs hpl))
  obtain ⟨a, b, xs, ys, ex, qx, qy, q⟩ := q1
  subst ex
  cases r1 with
  | cons ra rr =>
    cases rr with
    | cons rb rr =>
      cases rr
      cases ra
      cases rb
      obtain ⟨its, rv, p1, _⟩ := I1.tuple qx
      obtain ⟨its2, rv2, p2, _⟩ := I1.tuple qy
      refine ZT.call_zip p1 p2 fun h2 gz gi go i1 i2 kept => wpAny_pyIter_zip gz ?_
      have I2 : Inv X pins σ H1 { s1 with heap := h2 } := I1.kept (t' := s1.toks) kept
      refine ⟨s1.heap.objs.size + 4, [s1.heap.objs.size + 4, s1.heap.objs.size + 2, s1.heap.objs.size + 3, s1.heap.objs.size, s1.heap.objs.size + 1], _, _, H1, rfl, I2, turn_zipT (ZT.apart_new s1.heap.objs.size a b p1.lt p2.lt), ⟨gz, gi, ⟨_, _, go⟩, i1, i2⟩, fun c cm => ?_, q⟩
      have le : s1.heap.objs.size ≤ c := by
        have cs : c = s1.heap.objs.size + 4 ∨ c = s1.heap.objs.size + 2 ∨ c = s1.heap.objs.size + 3 ∨ c = s1.heap.objs.size ∨ c = s1.heap.objs.size + 1 := by simpa using cm
        rcases cs with v | v | v | v | v <;> rw [v] <;> first | exact Nat.le_refl _ | exact Nat.le_add_right _ _
      exact I1.fpOk le (I1.hok.fresh le)
end L2
namespace HT
open PySem PySem.Spec PyProof.Rows
section
variable {prog : Program} {w : World} {A : Around} {E : Value → Shared → Prop} {s : Shared}
theorem whole_tuple {t sl : Addr} {items : Array Value} {vl vu : Value} {lo hi : Option Int} {Q : Value → Shared → Prop} (tu : IsTup s.heap t items) (hs : s.heap.IsSliceOf sl vl vu .none) (pl : IsPart vl lo) (pu : IsPart vu hi)
    (all : sIx items.size 0 lo = 0 ∧ sIx items.size items.size hi = items.size) (h : Q (.ref t) s) : wpAny (model prog w) A (getItem (.ref t) (.ref sl)) Q E s := by
  obtain ⟨os, gs, cs, ds⟩ := id hs
  have ty : s.TypeIs (.ref sl) "slice" := ⟨os, gs, cs⟩
  unfold getItem
  try with_reducible refine wpAny_holding ?_
  first | refine wpAny_bind (wpAny_pure ?_) | skip
  apply wpAny_bind
  refine wpAny_sequenceKey tu.typeIs (by decide) ?_
  apply wpAny_bind
  apply wpAny_callSpecial?_slot (name := Str.ofString "__getitem__") tu.typeIs PyProof.Rows.slot_tuple_getitem
  refine wpAny_call_entry PyProof.Rows.slot_tuple_getitem tu.typeIs entry_tuple_getitem ?_ (args_tuple_getitem _ _)
  show wpAny _ _ (Builtin.Tuple.tupleItemsOf (.ref t) >>= _) _ _ s
  apply wpAny_bind
  refine tupleItemsOf_ tu ?_
  apply wpAny_bind
  refine wpAny_typeOf ty ?_
  rw [if_pos (by decide)]
  apply wpAny_bind
  refine sliceApplied_gen hs pl pu ?_
  have yes : (((sIx items.size 0 lo : Nat) : Int) == 0 && (1 : Int) == 1 && (sIx items.size items.size hi - sIx items.size 0 lo) == items.size) = true := by
    rw [all.1, all.2]
    simp
  show wpAny _ _ (if (((sIx items.size 0 lo : Nat) : Int) == 0 && (1 : Int) == 1 && (sIx items.size items.size hi - sIx items.size 0 lo) == items.size) = true then _ else _) _ _ s
  rw [if_pos yes]
  apply wpAny_bind
  have ex : wpAny (model prog w) A.in1 (Builtin.Tuple.tupleIsExact (Value.ref t)) (fun b s2 => b = true ∧ s2 = s) E s := by
    unfold Builtin.Tuple.tupleIsExact
    apply wpAny_bind
    exact wpAny_typeOf tu.typeIs (wpAny_pure ⟨rfl, rfl⟩)
  refine wpAny_mono ex (fun b s2 hb => ?_) fun _ _ z => z
  obtain ⟨rfl, rfl⟩ := hb
  rw [if_pos rfl]
  apply wpAny_bind
  apply wpAny_rule
  exact wpAny_pure ⟨_, rfl, wpAny_pure h⟩
end
end HT
namespace L2
open PySem PySem.Spec PyProof.Rows
def rSlW (K : PySem.W.Frag) : V → Option Int → Option Int → Hp → VK → Prop := fun x lo hi H Q => ∃ a xs, x = .ref a ∧ SqT K H a xs ∧
  (cutV xs lo hi = xs → Q (.ref a) H) ∧ ∀ p, H p = none → Q (.ref p) (upd H p (.tup (cutV xs lo hi)))
theorem sl_tupW {X : Cx} : SlR X (rSlW X.K) := by
  intro pins s σ H x v vl vu lo hi sl Q I rx hs pl pu h
  obtain ⟨a, xs, rfl, hx, q1, q2⟩ := h
  by_cases all : HT.sIx xs.length 0 lo = 0 ∧ HT.sIx xs.length xs.length hi = xs.length
  · cases rx
    obtain ⟨its, r, ht, hz⟩ := I.tuple hx
    have hlen : its.toArray.size = xs.length := by rw [List.size_toArray]; exact r.length.symm
    refine ⟨"tuple", _, PyProof.Rows.slot_tuple_getitem.lookup, ht.typeIs, ?_⟩
    refine HT.whole_tuple ht hs pl pu (by rw [hlen]; exact all) ⟨.ref a, H, I, rfl, q1 ?_⟩
    unfold cutV
    rw [all.1, all.2]
    simp
  · exact sl_tup pins s σ H _ v vl vu lo hi sl Q I rx hs pl pu ⟨a, xs, rfl, hx, all, q2⟩
end L2
namespace L2
open PySem PySem.Spec PyProof.Rows
theorem where_mk {K : PySem.W.Frag} {h : Heap} {mg : Str → Option Value} {x : Str} {st : Stmt} {f : Addr} {oc : Value} {od an : Option Addr} {sl : Array (Option Value)} {kV dc pm cd ct : Value} (X : K.In h) (G : h.Ns mainGlobals mg)
    (a : PySem.W.nsIn K mainGlobals x = some (some (.ref f))) (l : K.lookup f = some ⟨oc, od, .func (PySem.W.fnOf x x (defArgs st) (defBody st) (defScope st) .none kV dc pm an cd ct), sl⟩)
    (c : PySem.W.codeIn K cd x = true) (k : PySem.W.keepIn K (.ref f) = true) : Where K mg x st := ⟨f, _, fun_mk l c k, PySem.W.mg_of X G a⟩
theorem none_mk {K : PySem.W.Frag} {h : Heap} {mg : Str → Option Value} {x : Str} (X : K.In h) (G : h.Ns mainGlobals mg) (a : PySem.W.nsIn K mainGlobals x = some none) : mg x = none := PySem.W.mg_none_of X G a
theorem const_mk {K : PySem.W.Frag} {h : Heap} {mg : Str → Option Value} {x : Str} {i : Int} {t : Tok} (X : K.In h) (G : h.Ns mainGlobals mg) (a : PySem.W.nsIn K mainGlobals x = some (some (.int i t))) : ∃ t, mg x = some (.int i t) := ⟨t, PySem.W.mg_of X G a⟩
theorem Where.top {P : Program} {w : World} {K : PySem.W.Frag} {mg : Str → Option Value} {x y : Str} {st : Stmt} {N : List Str} {k : Nat} {sp : Sp} {fa : Addr} (W : Where K mg x st) (hfa : mg x = some (.ref fa)) (S : FnScope N [y] (defScope st))
    (hb : ∀ (kV doc pm : Value) (an : Option Addr) (cdv ct : Value) (us : List Value), us.length = 1 → bindArgs (PySem.W.fnOf x x (defArgs st) (defBody st) (defScope st) .none kV doc pm an cdv ct) ⟨us, []⟩ = pure ([y].zip us))
    (len : ∀ vs H Q E, sp vs H Q E → vs.length = 1)
    (hbody : ∀ (base : Heap), K.In base → base.Ns mainGlobals mg → ∀ (f : Addr) (cdv : Value) (A : Around) (outer : List Env) (s : Shared) (H : Hp) (vs : List V) (Q : VK) (E : XK), Room k (A.deeper (envOfC x (defScope st) s.heap.objs.size f cdv)) → sp vs H Q E →
      ∃ t, PSs (cxOf CX0 P w K mg base N x (defScope st) f cdv A outer s H E).nox (defBody st) t ∧ t { nx := fun _ H' => Q .non H', rt := Q } (start N vs) H) :
    ∃ fd : FuncData, (∀ (s : Shared) (v : Value), BindsTo s fd ⟨[v], []⟩ [(y, v)]) ∧ ∀ base : Heap, K.In base → base.Ns mainGlobals mg → FnOk P w K mg base CX0 (k + 1) fa fd [y] sp := by
  obtain ⟨f, fd, F, hm⟩ := W.ex
  have e := hfa.symm.trans hm
  injection e with e
  injection e with e
  subst e
  refine ⟨fd, fun s v => ?_, fun base kb nb => F.ok S len (hbody base kb nb fa)⟩
  obtain ⟨oc, od, kV, doc, pm, an, cdv, ct, osl, rfl, lk, hcd⟩ := F.ex
  exact .of_eq (hb kV doc pm an cdv ct [v] rfl)
def spLaw (K : PySem.W.Frag) : Sp := fun vs H Q _ => ∃ (a : Addr) (ns : List Int), vs = [.ref a] ∧ SqL K H a (ns.map V.int) ∧ ns.length ≤ 63 ∧ ∀ H', Q (.bl true) H'
theorem spLaw_len {K : PySem.W.Frag} : ∀ vs H Q E, spLaw K vs H Q E → vs.length = 1 := fun vs H Q E h => by
  obtain ⟨a, ns, rfl, _⟩ := h
  rfl
theorem law_walk {l : PySem.W.OpenLaw} {q : Program} {loose : List Str} {XP : (Str → Option Value) → Heap → Prop} {YP : World → Heap → Prop} {d : DefRec} {K : Params → PySem.W.Frag} {y : Str} {k : Nat} (hn : l.most = some 63) (hdf : d.params.defaults = []) (hk : k ≤ 40)
    (hY : ∀ (w : World) (h : Heap), YP w h → (K w.params).In h)
    (F : ∀ (w : World) (mg : Str → Option Value) (fa : Addr) (h : Heap), (K w.params).In h → h.Ns mainGlobals mg → mg d.name = some (.ref fa) →
      ∃ fd : FuncData, (∀ (s : Shared) (u : Value), BindsTo s fd ⟨[u], []⟩ [(y, u)]) ∧ ∀ base : Heap, (K w.params).In base → base.Ns mainGlobals mg → FnOk l.prog w (K w.params) mg base CX0 k fa fd [y] (spLaw (K w.params))) :
    PySem.W.WalkO q loose XP YP l.row.toRowW d [] (fun f vs => PySem.call f vs) := by
  have hr : Room 40 callerA := ⟨rfl, by decide, by decide⟩
  refine L2.walk_of (n := 63) (k := k) (x := y) (CX := fun _ => CX0) (sp := fun w => spLaw (K w.params)) hn (by decide) hdf (hr.mono hk) hY F ?_ ?_
  · exact fun _ _ a ns hl _ hS => ⟨a, ns, rfl, hS, hl, fun _ => rfl⟩
  · exact fun _ _ _ _ _ z => z
end L2
namespace L2
open PySem PySem.Spec PyProof.Rows
theorem ObjOk.there {P : Program} {w : World} {H : Hp} {h : Heap} {a : Addr} {o : HO} (x : ObjOk P w H h a o) : ∃ u, h.get? a = some u := by
  cases o with
  | lst xs => obtain ⟨_, _, _, _, e⟩ := x; exact ⟨_, e⟩
  | tup xs => obtain ⟨_, _, _, o, e, _⟩ := x; exact ⟨_, e⟩
  | dK kvs => obtain ⟨_, _, _, _, o, _, _, e, _⟩ := x; exact ⟨_, e⟩
  | dT kvs => obtain ⟨_, _, _, _, o, _, _, e, _⟩ := x; exact ⟨_, e⟩
  | set S n => obtain ⟨o, _, _, _, e, _⟩ := x; exact ⟨_, e⟩
  | ins C dx fs => obtain ⟨_, _, _, e, _⟩ := x; exact ⟨_, e⟩
  | own y => exact x
  | xd fs => obtain ⟨_, ⟨_, _, _, e, _⟩, _⟩ := x; exact ⟨_, e⟩
  | rng lo hi => obtain ⟨_, _, _, e⟩ := x; exact ⟨_, e⟩
  | frz ob u => obtain ⟨e, _⟩ := x; exact ⟨_, e⟩
  | tbl ps => exact ⟨_, x⟩
  | met f y => exact ⟨_, x⟩
  | ext φ => exact x.2.1
inductive Up (B : Heap) (fr : List Env) (x : Addr) (C : Value) (h : Heap) : Prop
  | made {a0 : Value} {oe : Obj} {vs : Array Value} (st : B.StaysIn h) (nx : B.get? x = none) (ff : h.FunFrames B fr) (g : h.get? x = some oe) (c : oe.cls = C) (d : oe.data = .fields vs) (v1 : vs[1]? = some .none) (v0 : vs[0]? = some a0)
  | fly {a0 : Value} (f : Heap.FlyingW B fr x C a0 h)
  | held {a0 : Value} {env : Env} {rest : List Env} {L : Addr} (e : fr = env :: rest) (ef : env.frame = some L) (f : Heap.HeldW B fr x C a0 L h)
theorem Up.stays {B : Heap} {fr : List Env} {x : Addr} {C : Value} {h : Heap} (u : Up B fr x C h) : B.StaysIn h ∧ B.get? x = none ∧ h.FunFrames B fr ∧ ∃ oe vs, h.get? x = some oe ∧ oe.cls = C ∧ oe.data = .fields vs := by
  cases u with
  | made st nx ff g c d v1 v0 => exact ⟨st, nx, ff, _, _, g, c, d⟩
  | fly f =>
    obtain ⟨a, b, c, oe, vs, T, oT, ts, g, hc, hd, _⟩ := f
    exact ⟨a, b, c, oe, vs, g, hc.1, hd⟩
  | held e ef f =>
    obtain ⟨a, b, c, oe, vs, T, oT, ts, g, hc, hd, _⟩ := f
    exact ⟨a, b, c, oe, vs, g, hc.1, hd⟩
def Fast (B : Heap) (fr : List Env) (H : Hp) (h0 h : Heap) : Prop := ∀ b o, h.get? b = some o → b ∉ frs fr → B.get? b = some o ∨ (H b = none ∧ h0.get? b = none)
def FlU (fr : List Env) (H : Hp) (h0 : Heap) (x : Addr) (C : Value) (h : Heap) : Prop := ∃ B, Up B fr x C h ∧ Fast B fr H h0 h
def Fl (fr : List Env) (H : Hp) (h0 : Heap) (x : Addr) (C : Value) (h : Heap) : Prop := ∃ B a0, Heap.FlyingW B fr x C a0 h ∧ Fast B fr H h0 h
theorem Fl.up {fr : List Env} {H : Hp} {h0 h : Heap} {x : Addr} {C : Value} (f : Fl fr H h0 x C h) : FlU fr H h0 x C h := by
  obtain ⟨B, a0, f, g⟩ := f
  exact ⟨B, .fly f, g⟩
section
variable {M : Model} {A : Around} {E : Value → Shared → Prop} {s : Shared} {B : Heap} {env : Env} {outer : List Env} {L x : Addr} {C : Value} {Q : Unit → Shared → Prop}
theorem leave_up (hfr : A.frames = some (env :: outer)) (hf : env.frame = some L) (u : Up B (env :: outer) x C s.heap) (k : ∀ h2 a0, Heap.FlyingW B outer x C a0 h2 → s.heap.UpToSlots h2 → Q () { s with heap := h2 }) : wpAny M A (leaving env (.ref x)) Q E s := by
  cases u with
  | made st nx ff g c d v1 v0 =>
    subst c
    refine wpAny_leaving_firstW hfr ff hf g st nx d v1 v0 fun h2 l => ?_
    obtain ⟨k1, ⟨_, _, k2⟩, k3, k4⟩ := l
    exact k h2 _ ⟨k1, nx, k2, k3⟩ k4
  | fly f => exact wpAny_leaves_onW hfr hf f fun h2 f2 up => k h2 _ f2 up
  | held e ef f =>
    injection e with e1 e2
    subst e1 e2
    rw [hf] at ef
    injection ef with ef
    subst ef
    unfold leaving
    apply wpAny_bind
    refine wpAny_noteFrame_againW hf f.2.2.2 ?_
    refine wpAny_landsW f fun h2 fl up => ?_
    obtain ⟨k1, k2, ⟨_, _, k3⟩, k4⟩ := fl
    exact k h2 _ ⟨k1, k2, k3, k4⟩ up
theorem note_up (hfr : A.frames = some (env :: outer)) (hf : env.frame = some L) (u : Up B (env :: outer) x C s.heap) (k : ∀ h2 a0, Heap.HeldW B (env :: outer) x C a0 L h2 → s.heap.UpToSlots h2 → Q () { s with heap := h2 }) : wpAny M A (noteFrame (.ref x) env) Q E s := by
  cases u with
  | made st nx ff g c d v1 v0 =>
    subst c
    unfold noteFrame
    simp only [hf]
    apply wpAny_bind
    refine wpAny_field g d v1 ?_
    rw [if_neg (by decide)]
    refine wpAny_entryW hfr ff hf g st nx d (Array.getElem?_eq_some_iff.mp v1).1 v0 fun h2 n => ?_
    obtain ⟨k1, k2, k3, k4⟩ := n
    exact k h2 _ ⟨k1, nx, k2, k3⟩ k4
  | fly f => exact wpAny_looks_onW hfr hf f fun h2 f2 up => k h2 _ f2 up
  | held e ef f =>
    injection e with e1 e2
    subst e1 e2
    rw [hf] at ef
    injection ef with ef
    subst ef
    exact wpAny_noteFrame_againW hf f.2.2.2 (k s.heap _ f (Heap.UpToSlots.refl _))
end
theorem Fast.move {B : Heap} {fr fr2 : List Env} {H : Hp} {h0 h h2 : Heap} {P : Program} {w : World} (f : Fast B fr H h0 h) (st : B.StaysIn h2) (hok : HOk P w H h) (hfree : ∀ b ∈ frs fr, H b = none) (old : ∀ b o, h0.get? b = some o → ∃ u, h.get? b = some u)
    (sub : ∀ b, b ∈ frs fr → b ∈ frs fr2 ∨ h0.get? b = none) : Fast B fr2 H h0 h2 := by
  intro b o hb hn
  cases e : B.get? b with
  | some o2 =>
    have := st b o2 e
    rw [hb] at this
    exact .inl this.symm
  | none =>
    refine .inr ⟨?_, ?_⟩
    · cases q : H b with
      | none => rfl
      | some u =>
        obtain ⟨o1, g1⟩ := (hok b u q).there
        have nf : b ∉ frs fr := fun z => by rw [hfree b z] at q; cases q
        rcases f b o1 g1 nf with z | z
        · rw [e] at z; cases z
        · rw [q] at z; cases z.1
    · cases q : h0.get? b with
      | none => rfl
      | some u =>
        obtain ⟨o1, g1⟩ := old b u q
        have nf : b ∉ frs fr := fun z => by
          rcases sub b z with y | y
          · exact hn y
          · rw [q] at y; cases y
        rcases f b o1 g1 nf with z | z
        · rw [e] at z; cases z
        · rw [q] at z; cases z.2
theorem HOk.fast {B : Heap} {fr : List Env} {H : Hp} {h0 h h2 : Heap} {P : Program} {w : World} (hok : HOk P w H h) (f : Fast B fr H h0 h) (st : B.StaysIn h2) (hfree : ∀ b ∈ frs fr, H b = none) : HOk P w H h2 := fun a o e =>
  (hok a o e).stay (fun b u hb hu => by
    have tr : H b ≠ none := by
      rcases hb with z | z
      · rw [z, e]; simp
      · rw [z]; simp
    rcases f b u hu fun z => tr (hfree b z) with z | z
    · exact st b u z
    · exact absurd z.1 tr) (fun _ q => q) fun _ _ q => q
theorem Un.fast {B : Heap} {fr : List Env} {fs : List Addr} {H0 H : Hp} {h0 h h2 : Heap} (un : Un fs [] H0 H h0 h) (f : Fast B fr H h0 h) (st : B.StaysIn h2) (up : h.UpToSlots h2) (ff : h.FunFrames B fr) (sub : ∀ b, b ∈ frs fr → b ∈ fs ∨ h0.get? b = none) : Un fs [] H0 H h0 h2 where
  keep := fun b o q n hb hx => by
    have g := un.keep b o q n hb hx
    have nf : b ∉ frs fr := fun z => by
      rcases sub b z with y | y
      · exact hb y
      · rw [q] at y; cases y
    rcases f b o g nf with z | z
    · exact st b o z
    · rw [q] at z; cases z.2
  slot := fun b o q n hb hx => by
    obtain ⟨sl, g⟩ := un.slot b o q n hb hx
    by_cases hm : b ∈ frs fr
    · obtain ⟨_, o1, g1, nf⟩ := ff.mem hm
      rw [g] at g1
      cases g1
      obtain ⟨sl2, g2⟩ := up b { o with slots := sl } g nf
      exact ⟨sl2, g2⟩
    · rcases f b _ g hm with z | z
      · exact ⟨sl, st b _ z⟩
      · rw [q] at z; cases z.2
  free := un.free
  there := fun b o q hx => by
    obtain ⟨u, g⟩ := un.there b o q hx
    by_cases hm : b ∈ frs fr
    · obtain ⟨_, o1, g1, nf⟩ := ff.mem hm
      rw [g] at g1
      cases g1
      obtain ⟨sl, g2⟩ := up b _ g nf
      exact ⟨_, g2⟩
    · rcases f b _ g hm with z | z
      · exact ⟨_, st b _ z⟩
      · rw [q] at z; cases z.2
  tups := un.tups
  frzs := un.frzs
  tbls := un.tbls
def CXX (P : Program) (w : World) : CXT := fun outer H s E e s' => ∃ x C H', e = .ref x ∧ s'.os = s.os ∧ AllBare s'.gens ∧ Un (frs outer) [] H H' s.heap s'.heap ∧ HOk P w H' s'.heap ∧ Fl outer H' s.heap x C s'.heap ∧ E C none H'
theorem FnOk.quiet {P : Program} {w : World} {K : PySem.W.Frag} {mg : Str → Option Value} {base : Heap} {k : Nat} {f : Addr} {fd : FuncData} {ps : List Str} {sp : Sp} (F : FnOk P w K mg base CX0 k f fd ps sp) (CX : CXT) : FnOk P w K mg base CX k f fd ps sp :=
  ⟨F.len, fun A outer s H args us vs Q E hr e0 hb r hs => codeAny_mono (F.run A outer s H args us vs Q E hr e0 hb r hs) fun res s' h => by
    cases res with
    | error e => exact False.elim h
    | ok fl => cases fl <;> exact h⟩
def Out (X : Cx) (W : Value → Hp → Prop) : Value → Shared → Prop := fun e s => ∃ x C σ H B, e = .ref x ∧ Inv X [] σ H s ∧ Up B X.stack x C s.heap ∧ Fast B X.stack H X.s_0.heap s.heap ∧ (∀ p ∈ X.pn, B.get? p.1 = some p.2) ∧ W C H
theorem out_xe {P : Program} {w : World} {K : PySem.W.Frag} {mg : Str → Option Value} {base : Heap} {N : List Str} {qual : Str} {scope : Scope} {f : Addr} {cd : Value} {A : Around} {outer : List Env} {s : Shared} {H : Hp} {E : XK} {e : Value} {s' : Shared}
    (h : Out (cxOf (CXX P w) P w K mg base N qual scope f cd A outer s H E) (fun C H' => E C none H') e s') : (cxOf (CXX P w) P w K mg base N qual scope f cd A outer s H E).xe e s' := by
  obtain ⟨x, C, σ, H', B, rfl, I, u, fa, _, q⟩ := h
  have hf : (envOfC qual scope s.heap.objs.size f cd).frame = some s.heap.objs.size := rfl
  have ms : ∀ b, b ∈ frs (envOfC qual scope s.heap.objs.size f cd :: outer) → b ∈ frs outer ∨ s.heap.get? b = none := fun b hb => by
    have : b ∈ s.heap.objs.size :: frs outer := hb
    rcases List.mem_cons.mp this with z | z
    · right
      rw [z]
      exact Heap.get?_none_of_le (Nat.le_refl _)
    · exact .inl z
  have fre : ∀ b ∈ frs (envOfC qual scope s.heap.objs.size f cd :: outer), H' b = none := I.stkFree
  have un : Un (frs outer) [] H H' s.heap s'.heap := I.base
  show wpAny _ _ (leaving _ (.ref x)) _ _ _
  refine leave_up (A := A.deeper (envOfC qual scope s.heap.objs.size f cd)) I.ok.frames hf u fun h2 a0 fl up => ?_
  refine ⟨x, C, H', rfl, I.os, I.bare, un.fast fa fl.1 up u.stays.2.2.1 ms, I.hok.fast fa fl.1 fre, ⟨B, a0, fl, ?_⟩, q⟩
  exact fa.move fl.1 I.hok fre (fun b o g => un.there b o g (by simp)) ms
theorem passX {X : Cx} {W : Value → Hp → Prop} {E : XK} (hE : ∀ C H, E C none H → W C H) (hex : X.ex = []) : Passes (CXX X.prog X.w) (X.wish (Out X W)) E := by
  rintro pins σ H s e s' I ⟨x, C, H', rfl, os, bare, un, hok, ⟨B, a0, fl, fa⟩, q⟩
  have J : Inv X pins σ H' s' := I.unwish.call' os un hok bare (fun b z => absurd z (by simp))
  refine ⟨x, C, σ, H', B, rfl, J.pins_of (by simp), .fly fl, fun b o g n => ?_, fun p hp => ?_, hE _ _ q⟩
  · rcases fa b o g n with z | z
    · exact .inl z
    · refine .inr ⟨z.1, ?_⟩
      cases r : X.s_0.heap.get? b with
      | none => rfl
      | some u =>
        obtain ⟨u2, g2⟩ := I.base.there b u r (by show b ∉ X.ex; rw [hex]; simp)
        rw [z.2] at g2
        cases g2
  · obtain ⟨g1, _, n1, n2, _⟩ := J.pin p (List.mem_append_left _ hp)
    obtain ⟨g0, _⟩ := I.unwish.pin p (List.mem_append_left _ hp)
    have nf : p.1 ∉ frs X.stack := fun z => by
      rcases List.mem_cons.mp (J.stkSub _ z) with y | y
      · exact n1 y
      · exact n2 y
    rcases fa p.1 p.2 g1 nf with z | z
    · exact z
    · rw [g0] at z
      cases z.2
theorem PS.nox {X : Cx} {st : Stmt} {t : TS} (h : PS X.nox st t) : PS X st t := fun pins s σ H D I hw =>
  wpAny_mono (h pins s σ H D (I.wish _) hw) (fun _ _ q => q.unwish) fun _ _ z => False.elim z
theorem PSs.out {X : Cx} {W : Value → Shared → Prop} {sts : List Stmt} {t : TS} (h : PSs (X.wish W) sts t) (hw : ∀ e s, W e s → X.xe e s) : PSs X sts t := fun pins s σ H D I hq =>
  wpAny_mono (h pins s σ H D (I.wish _) hq) (fun _ _ q => q.unwish) hw
end L2
namespace L2
open PySem PySem.Spec PyProof.Rows
abbrev bmV : List Value := [.type "ValueError", .type "Exception", .type "BaseException", .type "object"]
def IsExc (K : PySem.W.Frag) (C : Addr) : Prop := PySem.W.excIn K C bmV "ValueError.__new__" = true
theorem IsExc.obj {K : PySem.W.Frag} {C : Addr} {h : Heap} (q : IsExc K C) (X : K.In h) : ∃ bm N nm qn bs hdct sn sub ab col dd k0 k1 k2 k3 k5 mN, h.get? C = some (excClassObj nm qn C N bs bm hdct sn sub ab col dd k0 k1 k2 k3 k5 "ValueError.__new__") ∧ h.Ns N mN ∧ mN "__init__" = none ∧ OwnTail h bmV bm := by
  unfold IsExc PySem.W.excIn at q
  split at q
  · rename_i dd cd sl g
    split at q
    · rename_i C2 bm k0 k1 k2 k3 n k5 e1 e2
      simp only [Bool.and_eq_true, beq_iff_eq, Bool.not_eq_true'] at q
      obtain ⟨⟨⟨⟨⟨c1, c2⟩, c3⟩, c4⟩, c5⟩, c6⟩ := q
      subst c1 c2
      obtain ⟨nm, bs, mro, ns, qn, hd, sn, sub, ab, col, del⟩ := cd
      dsimp only at e1 c3 c5 c6
      subst e1 c3
      have e3 : sl = #[k0, k1, k2, k3, some (.builtin "ValueError.__new__"), k5] := by
        cases sl with
        | mk l =>
          simp only at e2
          rw [e2]
      subst e3
      refine ⟨bm, ns, nm, qn, bs, hd, sn, sub, ab, col, dd, k0, k1, k2, k3, k5, _, X _ _ g, .of_isNs (PySem.W.isNs_of_in X c5), ?_, PySem.W.tail_of_in X c4⟩
      exact PySem.W.nsMap_none_of_in X c5 c6
    · cases q
  · cases q
section
variable {X : Cx} {W : Value → Hp → Prop} {x : Str} {C : Addr} {e : Expr} {te : TE} {np cpos pos : Pos}
theorem ps_raise (hm : X.mg x = some (.ref C)) (hq : IsExc X.K C) (he : PE (X.wish (Out X W)) e te) (hc : X.calm = true := by rfl) (hex : X.ex = [] := by rfl) (hg : Gl X x := by rfl) (hdb : (x == ("__debug__" : Str)) = false := by decide)
    (hst : starEach [e] X.env = (false, eval e X.env) :: starEach [] X.env := by rfl) :
    PS (X.wish (Out X W)) (.Raise (some (.Call (.Name x np) [e] [] cpos)) none pos) (fun _ σ H => te σ H fun _ H1 => W (.ref C) H1) := by
  intro pins s σ H D I h
  obtain ⟨tl, N, nm, qn, bs, hdct, sn, sub, ab, col, dd, k0, k1, k2, k3, k5, mN, gC, gN, ni, T⟩ := hq.obj I.mod.kin
  have bk : ∀ {s2 : Shared} {σ2 : St} {H2 : Hp} {pins2 : List (Addr × Obj)}, Inv (X.wish (Out X W)) pins2 σ2 H2 s2 → ∀ b o, X.base.get? b = some o → s2.heap.get? b = some o := fun J => J.bk
  refine wpAny_Raise_call_subU (C := C) (nm := nm) (q := qn) (N := N) (bs := bs) (bm := tl) (hdct := hdct) (sn := sn) (sub := sub) (ab := ab) (col := col) (dd := dd) (k0 := k0) (k1 := k1) (k2 := k2) (k3 := k3) (k5 := k5) (newId := "ValueError.__new__")
    (Bn := "ValueError") (bmB := bmV) F.excBase_ValueError (by decide) F.excBase_ValueError (mN := mN) (T.hasType (by decide)) (I.ok.hd hc) (by rw [hst]; rfl) ni (ld_glob I hg hm ⟨rfl, ?_⟩ hdb)
  rw [hst]
  refine Calls.evalArgs_plain ?_
  refine Calls.spliced_cons (thn (he pins s σ H _ I h) fun u s2 hs2 => ?_)
  obtain ⟨v, H1, J, r, q⟩ := hs2
  refine Calls.spliced_nil ?_
  refine ⟨rfl, (by show 1 ≤ sizeLine; decide), bk J _ _ gC, gN.keeps (bk J), T.keeps (bk J), fun h2 a made => ?_⟩
  · have J2 : Inv X pins σ H1 { s2 with heap := h2 } := (J.unwish).kept (t' := s2.toks) made.keeps
    obtain ⟨t, ga, nt, gt⟩ := made.there
    have ff := (J.unwish).stack
    have hin : ∀ env ∈ X.stack, ∀ b, env.frame = some b → b ∈ frs X.stack := fun env hm b hb => List.mem_filterMap.mpr ⟨env, hm, hb⟩
    have none_of : ∀ {b : Addr}, s2.heap.get? b = none → (PySem.W.hideAll s2.heap (frs X.stack)).get? b = none := fun {b} hb => by
      cases r : (PySem.W.hideAll s2.heap (frs X.stack)).get? b with
      | none => rfl
      | some o => rw [PySem.W.of_hideAll _ r] at hb; cases hb
    have stay : (PySem.W.hideAll s2.heap (frs X.stack)).StaysIn h2 := fun b o g => made.keeps b o (PySem.W.of_hideAll _ g)
    refine ⟨a, .ref C, σ, H1, PySem.W.hideAll s2.heap (frs X.stack), rfl, J2.pins_of (by simp), .made stay (none_of made.new) ?_ ga rfl rfl rfl rfl, fun b o g n => ?_, fun p hp => ?_, q⟩
    · exact (PySem.W.funFrames_hide ff hin).of_keeps fun b o g _ => ⟨o, made.keeps b o g, rfl⟩
    · cases r : s2.heap.get? b with
      | some o2 =>
        have e := made.keeps b o2 r
        have g' : h2.get? b = some o := g
        rw [g'] at e
        cases e
        exact .inl (PySem.W.hideAll_get _ r n)
      | none =>
        refine .inr ⟨?_, ?_⟩
        · cases z : H1 b with
          | none => rfl
          | some u =>
            obtain ⟨o1, g1⟩ := (J.hok b u z).there
            rw [r] at g1
            cases g1
        · cases z : X.s_0.heap.get? b with
          | none => rfl
          | some u =>
            obtain ⟨o1, g1⟩ := J.base.there b u z (by show b ∉ X.ex; rw [hex]; simp)
            rw [r] at g1
            cases g1
    · obtain ⟨g1, _, n1, n2, _⟩ := J.unwish.pin p (List.mem_append_left _ hp)
      refine PySem.W.hideAll_get _ g1 fun z => ?_
      rcases List.mem_cons.mp (J.unwish.stkSub _ z) with y | y
      · exact n1 y
      · exact n2 y
end
end L2
namespace L2
open PySem PySem.Spec PyProof.Rows PySem.W PySem.Builtin.Getset_descriptor PySem.Builtin.ObjectAttr
section
variable {prog : Program} {w : World} {A : Around} {E : Value → Shared → Prop} {s : Shared} {K : Frag} {x D : Addr} {o : Obj}
theorem class_getE {R : Result → Shared → Prop} {tp : Value} (X : K.In s.heap) (hx : s.heap.get? x = some o) (hc : o.cls = .ref D) (hm : mroIn K D (.type "object") = some true) (h : R (.ok (.ret (.ref D))) s) :
    codeAny (model prog w) A (.call (.builtin "getset_descriptor.__get__") ⟨[.builtin "object.__class__", .ref x, tp], []⟩) R s := by
  obtain ⟨hh, g, d, t, os⟩ := s
  have M0 : Looks (model prog w) hh (typeOf (.ref x)) (.ref D) := hc ▸ (Looks.ld hx).andThen .now
  have M1 := looks_mroIn (M := model prog w) X hm
  refine codeAny_call_builtin KF.slot_gs.plain KF.entry_gs ?_
  refine KF.slot_gs.check _ _ _ _ _ _ _ _ KF.type_class (KF.args_gs _ _ _) ?_
  unfold Builtin.«getset_descriptor.__get__» descrGet
  rw [dga_obj]
  apply wpAny_bind
  apply wpAny_pure
  unfold descrGetter descrCheckInstance descrNameAndClass isInstance
  simp only [KF.owner_class]
  repeat lk
  refine ⟨Code.quiet_builtin _ (by decide +kernel), ?_⟩
  refine codeAny_builtin KF.entry_class ?_
  unfold Builtin.«object.__class__» shownTypeOf
  repeat lk
  exact h
set_option maxHeartbeats 1000000 in
theorem exc_class {Q : Option Value → Shared → Prop} (X : K.In s.heap) (hx : s.heap.get? x = some o) (hc : o.cls = .ref D) (hga : findIn K (.ref D) "__getattribute__" = some (some (.builtin "BaseException.__getattribute__"))) (hgt : findIn K (.ref D) "__getattr__" = some none)
    (ha : findIn K (.ref D) "__class__" = some (some (.builtin "object.__class__"))) (hn : specialIn K (.builtin "object.__class__") "__get__" = some (some (.builtin "getset_descriptor.__get__"))) (htk : takesIn K (.builtin "object.__class__") = some true)
    (hm : mroIn K D (.type "object") = some true) (hb : mroIn K D (.type "BaseException") = some true) (h : Q (some (.ref D)) { s with toks := s.toks + 1 }) : wpAny (model prog w) A (getAttr? (.ref x) "__class__") Q E s := by
  obtain ⟨hh, g, d, t, os⟩ := s
  have L0 : Looks (model prog w) hh (typeOf (.ref x)) (.ref D) := hc ▸ (Looks.ld hx).andThen .now
  have L1 := looks_findIn (M := model prog w) X hga
  have L2 := looks_findIn (M := model prog w) X hgt
  have L3 := looks_mroIn (M := model prog w) X hb
  have f3 := F.excAttr_ValueError.ga.bind (.ref x)
  unfold getAttr? getAttrBy? getAttrBy
  refine wpAny_bind (wpAny_mkText (wpAny_bind (wpAny_attempt (wpAny_holding (wpAny_bind (L0.at (wpAny_bind (L1.at ?_))))))))
  have hx2 : (Value.builtin "BaseException.__getattribute__" == Value.builtin "object.__getattribute__") = false := by decide +kernel
  have hx1 : (onTheHeap (Value.ref D) && Value.builtin "BaseException.__getattribute__" == Value.builtin "object.__getattribute__") = false := by rw [hx2]; rfl
  dsimp only
  rw [if_neg (by rw [hx1]; decide)]
  dsimp only at X hx L1 L2 L3
  have hx0 : (false && onTheHeap (Value.builtin "BaseException.__getattribute__")) = false := rfl
  repeat (any_goals (first | assumption | with_reducible refine L0.at ?_ | with_reducible refine L1.at ?_ | with_reducible refine L2.at ?_ | wp_step))
  have hk : builtinKind "BaseException.__getattribute__" = some .slot := by decide +kernel
  have hsplit : splitId "BaseException.__getattribute__" = some ("BaseException", "__getattribute__") := by decide +kernel
  have hargs := F.args_bexc_ga (.ref x) (.str "__class__" t)
  refine codeAny_call_builtin F.excAttr_ValueError.ga.plain F.entry_bexc_ga ?_
  show wpAny _ _ (checkBuiltinCall "BaseException.__getattribute__" ⟨[.ref x, .str "__class__" t], []⟩) _ _ _
  simp only [checkBuiltinCall, hk, hsplit]
  apply wpAny_bind
  unfold isInstance
  have L4 := looks_findIn (M := model prog w) X ha
  have f5 := F.typeOf_object_class
  have f6 := F.slot_gs_get.lookup
  have f7 := F.slot_gs_set.lookup
  repeat (any_goals (first | assumption | with_reducible refine L0.at ?_ | with_reducible refine L3.at ?_ | with_reducible refine L4.at ?_ | wp_step))
  refine class_getE (s := ⟨hh, g, d, t + 1, os⟩) X hx hc hm ?_
  show wpAny _ _ (ret (.ref D)) _ _ _
  refine wpAny_pure ?_
  show wpAny _ _ (handedOut (.ref D)) _ _ _
  exact handed_on rfl (wpAny_pure h)
structure ExcLook (K : Frag) (D : Addr) : Prop where
  ga : findIn K (.ref D) "__getattribute__" = some (some (.builtin "BaseException.__getattribute__"))
  gt : findIn K (.ref D) "__getattr__" = some none
  cl : findIn K (.ref D) "__class__" = some (some (.builtin "object.__class__"))
  sp : specialIn K (.builtin "object.__class__") "__get__" = some (some (.builtin "getset_descriptor.__get__"))
  tk : takesIn K (.builtin "object.__class__") = some true
  mo : mroIn K D (.type "object") = some true
  mb : mroIn K D (.type "BaseException") = some true
  cs : (clsIn K D).isSome = true
def ExcAt (x : Addr) (C : Value) : Heap → Prop := fun h => ∃ o vs, h.get? x = some o ∧ o.cls = C ∧ o.data = .fields vs
theorem kitx_exc (T : ExcLook K D) : KitX K (.ref x) (.ref D) (ExcAt x (.ref D)) where
  ty := fun M h _ p => by
    obtain ⟨o, vs, g, c, _⟩ := p
    exact c ▸ (Looks.ld g).andThen .now
  it := fun _ _ X _ => by
    obtain ⟨cd, e⟩ := Option.isSome_iff_exists.mp T.cs
    unfold clsIn at e
    split at e
    · rename_i g
      intro A2 Q2 E2 s2 k q
      unfold isType loadHead
      apply wpAny_bind
      exact wpAny_loadPart (k _ _ (X _ _ g)) (wpAny_pure q)
    · cases e
  ne := fun h tp dd its n sl X g => by
    obtain ⟨cd, e⟩ := Option.isSome_iff_exists.mp T.cs
    refine Bool.eq_false_iff.mpr fun q => ?_
    have e2 : D = tp := Value.ref.inj (beq_iff_eq.mp q)
    subst e2
    unfold clsIn at e
    split at e
    · rename_i g2
      have z := (X _ _ g2).symm.trans g
      cases z
    · cases e
  ca := fun X p k => by
    obtain ⟨o, vs, g, c, _⟩ := p
    exact exc_class X g c T.ga T.gt T.cl T.sp T.tk T.mo T.mb k
end
end L2
namespace L2
open PySem PySem.Spec PyProof.Rows
structure DefX (P : Program) (w : World) (K : PySem.W.Frag) (mg : Str → Option Value) (base : Heap) (k : Nat) (x : Str) (ps : List Str) (sp : Sp) : Prop where
  ex : ∃ f fd, mg x = some (.ref f) ∧ PySem.W.keepIn K (.ref f) = true ∧ Binds K fd ps [] ∧ FnOk P w K mg base (CXX P w) k f fd ps sp
theorem Def.x {P : Program} {w : World} {K : PySem.W.Frag} {mg : Str → Option Value} {base : Heap} {k : Nat} {x : Str} {ps : List Str} {sp : Sp} (D : Def P w K mg base k x ps sp) : DefX P w K mg base k x ps sp := by
  obtain ⟨f, fd, h1, h2, h3, h4⟩ := D.ex
  exact ⟨f, fd, h1, h2, h3, h4.quiet _⟩
abbrev cxX (P : Program) (w : World) (K : PySem.W.Frag) (mg : Str → Option Value) (base : Heap) (N : List Str) (qual : Str) (scope : Scope) (f : Addr) (cd : Value) (A : Around) (outer : List Env) (s : Shared) (H : Hp) (E : XK) : Cx := cxOf (CXX P w) P w K mg base N qual scope f cd A outer s H E
abbrev ctX (P : Program) (w : World) (K : PySem.W.Frag) (mg : Str → Option Value) (base : Heap) (N : List Str) (qual : Str) (scope : Scope) (f : Addr) (cd : Value) (A : Around) (outer : List Env) (s : Shared) (H : Hp) (E : XK) : Cx :=
  (cxX P w K mg base N qual scope f cd A outer s H E).wish (Out (cxX P w K mg base N qual scope f cd A outer s H E) fun C H' => E C none H')
section
variable {P : Program} {w : World} {K : PySem.W.Frag} {mg : Str → Option Value} {base : Heap}
theorem Where.defX {x : Str} {st : Stmt} {N ps : List Str} {k : Nat} {sp : Sp} (W : Where K mg x st) (S : FnScope N ps (defScope st))
    (hb : ∀ (kV doc pm : Value) (an : Option Addr) (cdv ct : Value) (us : List Value), us.length = ps.length → bindArgs (PySem.W.fnOf x x (defArgs st) (defBody st) (defScope st) .none kV doc pm an cdv ct) ⟨us, []⟩ = pure (ps.zip us))
    (len : ∀ vs H Q E, sp vs H Q E → vs.length = ps.length)
    (hbody : ∀ (f : Addr) (cdv : Value) (A : Around) (outer : List Env) (s : Shared) (H : Hp) (vs : List V) (Q : VK) (E : XK), Room k (A.deeper (envOfC x (defScope st) s.heap.objs.size f cdv)) → sp vs H Q E →
      ∃ t, PSs (ctX P w K mg base N x (defScope st) f cdv A outer s H E) (defBody st) t ∧ t { nx := fun _ H' => Q .non H', rt := Q } (start N vs) H) : DefX P w K mg base (k + 1) x ps sp := by
  obtain ⟨f, fd, F, hm⟩ := W.ex
  refine ⟨f, fd, hm, F.kp, F.binds hb, ?_⟩
  obtain ⟨oc, od, kV, doc, pm, an, cdv, ct, osl, rfl, lk, hcd⟩ := F.ex
  refine fn_of lk hcd S len fun A outer s H vs Q E hr hsp => ?_
  obtain ⟨t, h, q⟩ := hbody f cdv A outer s H vs Q E hr hsp
  exact ⟨t, h.out fun e s2 => out_xe, q⟩
end
section
variable {X : Cx} {W : Value → Hp → Prop} {k : Nat} {ps : List Str} {sp : Sp} {x : Str} {p pos : Pos} {e : Expr} {es : List Expr} {t : TA}
theorem pe_callX (D : DefX X.prog X.w X.K X.mg X.base k x ps sp) (hr : Room k X.A) (ha : PA (X.wish (Out X W)) (e :: es) t) (hex : X.ex = [] := by rfl) (hg : Gl X x := by rfl) (hdb : (x == ("__debug__" : Str)) = false := by decide)
    (he : starEach (e :: es) X.env = (false, eval e X.env) :: starEach es X.env := by rfl) (hpl : (backTo pos (starEach es X.env)).any (·.1) = false := by rfl) :
    PE (X.wish (Out X W)) (.Call (.Name x p) (e :: es) [] pos) (tCall sp [] (fun C _ H => W C H) t) := by
  obtain ⟨f, fd, hm, hk, hb, F⟩ := D.ex
  exact pe_call (X := X.wish (Out X W)) F hr hg hm hk hb .nil (passX (fun _ _ h => h) hex) ha hdb he hpl
theorem pe_callN (D : DefX X.prog X.w X.K X.mg X.base k x ps sp) (hr : Room k X.A) (ha : PA X (e :: es) t) (hg : Gl X x := by rfl) (hdb : (x == ("__debug__" : Str)) = false := by decide)
    (he : starEach (e :: es) X.env = (false, eval e X.env) :: starEach es X.env := by rfl) (hpl : (backTo pos (starEach es X.env)).any (·.1) = false := by rfl) :
    PE X (.Call (.Name x p) (e :: es) [] pos) (tCall sp [] E0 t) := by
  obtain ⟨f, fd, hm, hk, hb, F⟩ := D.ex
  refine pe_call F hr hg hm hk hb .nil (fun pins σ H s e s' I h => ?_) ha hdb he hpl
  obtain ⟨_, _, _, _, _, _, _, _, _, z⟩ := h
  exact z.elim
end
theorem Inv.fast {X : Cx} {σ : St} {H : Hp} {s : Shared} {B h2 : Heap} (I : Inv X [] σ H s) (f : Fast B X.stack H X.s_0.heap s.heap) (st : B.StaysIn h2) (up : s.heap.UpToSlots h2) (ff : s.heap.FunFrames B X.stack) (hex : X.ex = []) (hpn : ∀ p ∈ X.pn, B.get? p.1 = some p.2) (t2 : Nat) :
    Inv X [] σ H { s with heap := h2, toks := t2 } := by
  have un : Un X.fs [] X.H_0 H X.s_0.heap s.heap := hex ▸ I.base
  have cellK : ∀ {c : Addr} {v : Option Value}, s.heap.IsCell c v → h2.IsCell c v := fun {c v} hc => by
    obtain ⟨o, g, d⟩ := hc
    obtain ⟨sl, g2⟩ := up c o g fun vs q => by rw [d] at q; cases q
    exact ⟨_, g2, d⟩
  refine ⟨I.ok, I.os, I.bare, ?_, ?_, fun x c e => ?_, I.free, I.freeC, fun p hp => ?_, I.hok.fast f st I.stkFree, I.len⟩
  · have un2 := un.fast f st up ff fun b hb => by
      rcases List.mem_cons.mp (I.stkSub b hb) with z | z
      · right
        rw [z]
        exact Heap.get?_none_of_le I.ok.above
      · exact .inl z
    exact hex ▸ un2
  · obtain ⟨m, hn, hl⟩ := I.loc
    refine ⟨m, up.ns hn, fun i x v e1 e2 e3 => ?_⟩
    obtain ⟨u, r, q⟩ := hl i x v e1 e2 e3
    refine ⟨u, r, ?_⟩
    rcases q with q | ⟨k, c, e, z⟩
    · exact .inl q
    · exact .inr ⟨k, c, e, cellK z⟩
  · obtain ⟨v, z⟩ := I.cell x c e
    exact ⟨v, cellK z⟩
  · obtain ⟨_, a1, a2, a3, a4⟩ := I.pin p hp
    rw [List.append_nil] at hp
    exact ⟨st _ _ (hpn p hp), a1, a2, a3, a4⟩
theorem Inv.seize {X : Cx} {σ : St} {H : Hp} {s : Shared} {x : Addr} {C : Value} (I : Inv X [] σ H s) (hx : ExcAt x C s.heap) (hn : H x = none) (h0 : X.s_0.heap.get? x = none) (hpn : ∀ p ∈ X.pn, p.1 ≠ x) : Inv X [] σ (upd H x (.ext (ExcAt x C))) s := by
  obtain ⟨ox, vs, gx, cx, dx⟩ := id hx
  have nx : ∀ {b : Addr} {u : HO}, H b = some u → b ≠ x := fun hb => ne_of_none hb hn
  refine ⟨I.ok, I.os, I.bare, ⟨I.base.keep, I.base.slot, fun b o g n hb => ?_, I.base.there, fun b xs q => ?_, fun b o u q => ?_, fun b ps q => ?_⟩, I.loc, I.cell, ?_, fun y c e => ?_, fun p hp => ?_, fun b u q => ?_, I.len⟩
  · rw [upd_ne (fun z => by rw [z, h0] at g; cases g)]
    exact I.base.free b o g n hb
  · have := I.base.tups b xs q
    rw [upd_ne (nx this)]
    exact this
  · have := I.base.frzs b o u q
    rw [upd_ne (nx this)]
    exact this
  · obtain ⟨more, z⟩ := I.base.tbls b ps q
    exact ⟨more, by rw [upd_ne (nx z)]; exact z⟩
  · obtain ⟨m, ⟨o, es, ep, g, d, _⟩, _⟩ := I.loc
    rw [upd_ne (fun z => by rw [z, gx] at g; cases g; rw [dx] at d; cases d)]
    exact I.free
  · obtain ⟨v, o, g, d⟩ := I.cell y c e
    rw [upd_ne (fun z => by rw [z, gx] at g; cases g; rw [dx] at d; cases d)]
    exact I.freeC y c e
  · obtain ⟨a0, a1, a2, a3, a4⟩ := I.pin p hp
    rw [List.append_nil] at hp
    exact ⟨a0, by rw [upd_ne (hpn p hp)]; exact a1, a2, a3, a4⟩
  · by_cases hb : b = x
    · subst hb
      rw [upd_same] at q
      cases q
      refine ⟨hx, ⟨ox, gx⟩, fun h1 h2 p k => ?_⟩
      obtain ⟨o, ws, g, c, d⟩ := p
      exact ⟨o, ws, k o g, c, d⟩
    · rw [upd_ne hb] at q
      refine (I.hok b u q).stay (fun _ _ _ z => z) (fun c z => ?_) fun c xs z => ?_
      · rw [upd_ne (nx z)]; exact z
      · rw [upd_ne (nx z)]; exact z
end L2
namespace L2
open PySem PySem.Spec PyProof.Rows
abbrev Cx.pinned (X : Cx) (pins : List (Addr × Obj)) : Cx := { X with pn := X.pn ++ pins }
abbrev Cx.hand (X : Cx) (x : Addr) : Cx := { X with A := X.A.mark (some (.ref x)), calm := false, xe := fun _ _ => False }
section
variable {X : Cx} {pins : List (Addr × Obj)} {σ : St} {H : Hp} {s : Shared}
theorem Cx.Ok.pinned (ok : X.Ok) (pins : List (Addr × Obj)) : (X.pinned pins).Ok :=
  ⟨ok.mod, ok.kind, ok.glob, ok.blt, ok.above, ok.inj, ok.has, ok.cab, ok.hd, ok.frames, ok.stk, ok.exf, ok.bs, ok.bsz, ok.noex, ok.exfs, ok.funs, ok.frf⟩
theorem Cx.Ok.unpinned (ok : (X.pinned pins).Ok) : X.Ok :=
  ⟨ok.mod, ok.kind, ok.glob, ok.blt, ok.above, ok.inj, ok.has, ok.cab, ok.hd, ok.frames, ok.stk, ok.exf, ok.bs, ok.bsz, ok.noex, ok.exfs, ok.funs, ok.frf⟩
theorem Inv.toP (I : Inv X pins σ H s) : Inv (X.pinned pins) [] σ H s := ⟨I.ok.pinned _, I.os, I.bare, I.base, I.loc, I.cell, I.free, I.freeC, fun p hp => I.pin p (by simpa using hp), I.hok, I.len⟩
theorem Inv.ofP (I : Inv (X.pinned pins) [] σ H s) : Inv X pins σ H s := ⟨I.ok.unpinned, I.os, I.bare, I.base, I.loc, I.cell, I.free, I.freeC, fun p hp => I.pin p (by simpa using hp), I.hok, I.len⟩
theorem Cx.Ok.hand (ok : X.Ok) (x : Addr) : (X.hand x).Ok :=
  ⟨ok.mod, ok.kind, ok.glob, ok.blt, ok.above, ok.inj, ok.has, ok.cab, (fun z => nomatch z), ok.frames, ok.stk, ok.exf, ok.bs, ok.bsz, ok.noex, ok.exfs, ok.funs, ok.frf⟩
theorem Inv.hand (I : Inv X pins σ H s) (x : Addr) : Inv (X.hand x) pins σ H s := ⟨I.ok.hand x, I.os, I.bare, I.base, I.loc, I.cell, I.free, I.freeC, I.pin, I.hok, I.len⟩
theorem Inv.unhand {x : Addr} (ok : X.Ok) (I : Inv (X.hand x) pins σ H s) : Inv X pins σ H s := ⟨ok, I.os, I.bare, I.base, I.loc, I.cell, I.free, I.freeC, I.pin, I.hok, I.len⟩
theorem Inv.unname {h2 : Heap} {t2 : Nat} {i : Nat} {n : Str} {v : Option Value} {m : Str → Option Value} (I : Inv X [] σ H s) (hN : X.N.Nodup) (hi : X.N[i]? = some n) (hm : s.heap.Ns X.env.locals m ∧ ∀ (i : Nat) (x : Str) (v : V), X.N[i]? = some x → σ[i]? = some (some v) → Vis X.env.scope x → ∃ u, RelV v u ∧ Look X.env s.heap m x u)
    (hn : h2.Ns X.env.locals (fun y => if y = n then v else m y)) (same : Heap.SameBut X.env.locals s.heap h2) : Inv X [] (σ.set i none) H { s with heap := h2, toks := t2 } := by
  have ne : ∀ {b : Addr} {o : Obj}, X.s_0.heap.get? b = some o → b ≠ X.env.locals := fun g => Nat.ne_of_lt (Nat.lt_of_lt_of_le (Heap.lt_size g) I.ok.above)
  refine ⟨I.ok, I.os, I.bare, ⟨fun b o g q hb hx => ?_, fun b o g q hb hx => ?_, I.base.free, fun b o g hx => ?_, I.base.tups, I.base.frzs, I.base.tbls⟩, ⟨_, hn, fun j y w e1 e2 e3 => ?_⟩, fun y c e => ?_, I.free, I.freeC, fun p hp => ?_, fun b u e => ?_, by simpa using I.len⟩
  · exact (same.2 b (ne g)).trans (I.base.keep b o g q hb hx)
  · obtain ⟨sl, z⟩ := I.base.slot b o g q hb hx
    exact ⟨sl, (same.2 b (ne g)).trans z⟩
  · obtain ⟨u, z⟩ := I.base.there b o g hx
    exact ⟨u, (same.2 b (ne g)).trans z⟩
  · by_cases hj : j = i
    · subst hj
      by_cases hl : j < σ.length
      · rw [List.getElem?_set_self hl] at e2
        cases e2
      · rw [List.getElem?_eq_none (by simp; omega)] at e2
        cases e2
    · rw [List.getElem?_set_ne (Ne.symm hj)] at e2
      obtain ⟨u, r, q⟩ := hm.2 j y w e1 e2 e3
      refine ⟨u, r, ?_⟩
      rcases q with ⟨k, z⟩ | ⟨k, c, z, y2⟩
      · refine .inl ⟨k, ?_⟩
        have : y ≠ n := fun e => hj (nodup_ix hN e1 (e ▸ hi))
        simp [this, z]
      · exact .inr ⟨k, c, z, y2.sameBut same (I.cne y c z)⟩
  · obtain ⟨w, z⟩ := I.cell y c e
    exact ⟨w, z.sameBut same (I.cne y c e)⟩
  · obtain ⟨a0, a1, a2, a3, a4⟩ := I.pin p hp
    exact ⟨(same.2 p.1 a2).trans a0, a1, a2, a3, a4⟩
  · refine (I.hok b u e).stay (fun c w hc g => (same.2 c ?_).trans g) (fun _ q => q) fun _ _ q => q
    intro z
    rcases hc with y | y
    · rw [← y, z, I.free] at e
      cases e
    · rw [z, I.free] at y
      cases y
end
def tTry (W : Value → Hp → Prop) (tb ts : TS) (i : Nat) : TS := fun D σ H => tb D σ H ∧ ∀ x C H', W C H' → H' x = none →
  ts ⟨fun σ2 H2 => D.nx (σ2.set i none) H2, D.rt, fun σ2 H2 => D.bk (σ2.set i none) H2, fun σ2 H2 => D.ct (σ2.set i none) H2⟩ ((List.replicate σ.length none).set i (some (.ref x))) (upd H' x (.ext (ExcAt x C)))
section
variable {X : Cx} {W : Value → Hp → Prop} {body suite : List Stmt} {b0 : Stmt} {tb ts : TS} {i : Nat} {n cn : Str} {Cc : Addr} {np hpos pos : Pos}
theorem ps_try (hb : ∀ pins, PSs ((X.pinned pins).wish (Out (X.pinned pins) W)) body tb) (hm : X.mg cn = some (.ref Cc)) (hW : ∀ C H, W C H → PySem.W.exmOne X.K C (.ref Cc) = some true)
    (hs : ∀ pins x, PSs ((X.pinned pins).hand x) (b0 :: suite) ts) (hN : X.N.Nodup) (hi : X.N[i]? = some n) (hlo : X.env.scope.names.lookup n = some .local := by rfl) (hst : X.stack = X.env :: X.outer := by rfl) (hfm : X.env.frame = some X.env.locals := by rfl) (hex : X.ex = [] := by rfl)
    (hg : Gl X cn := by rfl) (hdb : (cn == ("__debug__" : Str)) = false := by decide) :
    PS X (.Try body [.ExceptHandler (some (.Name cn np)) (some n) (b0 :: suite) hpos] [] [] pos) (tTry W tb ts i) := by
  intro pins s σ H D I h
  obtain ⟨h1, h2⟩ := h
  refine wpAny_Try_except (wpAny_mono (hb pins [] s σ H D (I.toP.wish _) h1) (fun f s1 q => ?_) fun e s1 q => ?_)
  · have q := q.unwish
    cases f with
    | next =>
      obtain ⟨σ1, H1, J, z⟩ := q
      exact pss_nil pins s1 σ1 H1 D J.ofP z
    | brk => obtain ⟨σ1, H1, J, z⟩ := q; exact ⟨σ1, H1, J.ofP, z⟩
    | cont => obtain ⟨σ1, H1, J, z⟩ := q; exact ⟨σ1, H1, J.ofP, z⟩
    | ret u => obtain ⟨v, σ1, H1, J, r, z⟩ := q; exact ⟨v, σ1, H1, J.ofP, r, z⟩
  · obtain ⟨x, C, σ1, H1, B, rfl, J, u, fa, pn, w⟩ := q
    have fr : X.A.frames = some (X.env :: X.outer) := by rw [← hst]; exact J.ok.frames
    have u' : Up B (X.env :: X.outer) x C s1.heap := by rw [← hst]; exact u
    refine note_up (A := X.A) fr hfm u' fun h3 a0 held up3 => ?_
    refine wpAny_landsW held fun h4 fl up4 => ?_
    have old : ∀ b o, X.s_0.heap.get? b = some o → ∃ v, s1.heap.get? b = some v := fun b o g => J.base.there b o g (by show b ∉ X.ex; rw [hex]; simp)
    have st4 : B.StaysIn h4 := fl.1
    have I4 : Inv (X.pinned pins) [] σ1 H1 { s1 with heap := h4 } := J.fast fa st4 (up3.trans up4) u.stays.2.2.1 hex pn s1.toks
    have fa4 : Fast B (X.pinned pins).stack H1 (X.pinned pins).s_0.heap h4 := fa.move st4 J.hok J.stkFree old fun b z => .inl z
    refine wpAny_handleBy_cons (codeAny_handlers_test ?_) (by intro z; cases z)
    refine ld_glob (X := (X.pinned pins).hand x) (I4.hand x) hg hm ?_ hdb
    have LT : PySem.W.Looks (model X.prog X.w) h4 (typeOf (.ref x)) C := by
      obtain ⟨o, g, c⟩ := fl.there
      exact c ▸ (PySem.W.Looks.ld g).andThen .now
    refine (PySem.W.exm_one (M := model X.prog X.w) I4.kIn LT (hW C H1 w)).at ?_
    refine codeAny_handlers_suite_as ?_
    refine lands_againW fl fun h5 fl5 up5 => ?_
    have st5 : B.StaysIn h5 := fl5.1
    have fst : h4.FunFrames B (X.pinned pins).stack := by
      show h4.FunFrames B X.stack
      rw [hst]
      exact fl.2.2.1
    have I5 : Inv (X.pinned pins) [] σ1 H1 { s1 with heap := h5 } := I4.fast fa4 st5 up5 fst hex pn s1.toks
    have ex5 : ExcAt x C h5 := by
      obtain ⟨oe, vs, g, c, d, _⟩ := fl5.first
      exact ⟨oe, vs, g, c, d⟩
    have fa5 : Fast B (X.pinned pins).stack H1 (X.pinned pins).s_0.heap h5 := fa4.move st5 I4.hok I4.stkFree (fun b o g => I4.base.there b o g (by show b ∉ X.ex; rw [hex]; simp)) fun b z => .inl z
    have nx : H1 x = none ∧ X.s_0.heap.get? x = none := by
      obtain ⟨o, vs, g, c, d⟩ := ex5
      have nf : x ∉ frs X.stack := fun z => by
        have z' : x ∈ frs (X.env :: X.outer) := hst ▸ z
        obtain ⟨_, o2, g2, n2⟩ := fl5.2.2.1.mem z'
        rw [g] at g2
        cases g2
        exact n2 vs d
      rcases fa5 x o g nf with z | z
      · rw [fl5.2.1] at z
        cases z
      · exact z
    have I6 : Inv (X.pinned pins) [] σ1 (upd H1 x (.ext (ExcAt x C))) { s1 with heap := h5 } := I5.seize ex5 nx.1 nx.2 fun p hp z => by
      have := pn p hp
      rw [z, fl5.2.1] at this
      cases this
    have I7 : Inv (X.pinned pins) [] (List.replicate σ.length none) (upd H1 x (.ext (ExcAt x C))) { s1 with heap := h5 } := by
      refine I6.weak ?_ fun j v e => ?_
      · rw [List.length_replicate, I.len, I6.len]
      · rw [List.getElem?_replicate] at e
        split at e <;> cases e
    refine store_ok (X := (X.pinned pins).hand x) (I7.hand x) hN hi (Or.inl hlo) (v := .ref x) rfl (fun s8 I8 => ?_) (.inr hlo)
    refine wpAny_mono (hs pins x [] s8 _ _ _ I8 (h2 x C H1 w nx.1)) (fun f s9 q => ?_) fun _ _ z => z.elim
    have hp : (X.env.scope.kind == .class || (X.env.scope.kind == .module && X.env.locals != X.env.globals)) = false := by rw [I.ok.kind]; rfl
    have fin : ∀ {σ9 : St} {H9 : Hp}, Inv ((X.pinned pins).hand x) [] σ9 H9 s9 → (∀ s', Inv X pins (σ9.set i none) H9 s' → SP X pins D f s') → wpAny (model X.prog X.w) X.A (do bindName X.env n .none; unbindBehindTheSuite X.env n hpos) (fun _ s' => SP X pins D f s') X.xe s9 := fun {σ9 H9} I9 k => by
      obtain ⟨m, hn, hl⟩ := id I9.loc
      refine wpAny_nameGoes_keeps hlo hn hp fun h' v hn' same => ?_
      exact k _ ((I9.unhand (x := x) I4.ok).unname (t2 := s9.toks + 1) hN hi ⟨hn, hl⟩ hn' same).ofP
    cases f with
    | next => obtain ⟨σ9, H9, I9, z⟩ := q; exact fin I9 fun s' J' => ⟨_, H9, J', z⟩
    | brk => obtain ⟨σ9, H9, I9, z⟩ := q; exact fin I9 fun s' J' => ⟨_, H9, J', z⟩
    | cont => obtain ⟨σ9, H9, I9, z⟩ := q; exact fin I9 fun s' J' => ⟨_, H9, J', z⟩
    | ret u => obtain ⟨v, σ9, H9, I9, r, z⟩ := q; exact fin I9 fun s' J' => ⟨v, _, H9, J', r, z⟩
end
end L2
namespace L2
open PySem PySem.Spec PyProof.Rows
structure Rf (K : PySem.W.Frag) (mg : Str → Option Value) (x : Str) (c : Addr) : Prop where
  at_ : mg x = some (.ref c)
  exc : IsExc K c
section
variable {X : Cx}
theorem call_isE : CallR X (.builtin "isinstance") (fun xs H Q => ∃ x D c b, xs = [.ref x, .ref c] ∧ H x = some (.ext (ExcAt x (.ref D))) ∧ ExcLook X.K D ∧ PySem.W.kitOne X.K (.ref D) (.ref c) = some b ∧ Q (.bl b) H) := by
  intro pins s σ H xs us Q I r h
  obtain ⟨x, D, c, b, rfl, hx, T, e, q⟩ := h
  cases r with
  | cons r1 r2 =>
    cases r2 with
    | cons r2 r3 =>
      cases r3
      cases r1
      cases r2
      have at_ : ExcAt x (.ref D) s.heap := (show ObjOk X.prog X.w H s.heap x (.ext (ExcAt x (.ref D))) from I.hok x _ hx).1
      exact PySem.W.kia_one (kitx_exc T) I.kIn at_ e (fun z => nomatch z) fun tk => ⟨.bl b, H, I.tok tk, rfl, q⟩
theorem call_isT : CallR X (.builtin "isinstance") (fun xs H Q => ∃ x D c b, xs = [.ref x, .ty c] ∧ H x = some (.ext (ExcAt x (.ref D))) ∧ ExcLook X.K D ∧ PySem.W.kitOne X.K (.ref D) (.type c) = some b ∧ Q (.bl b) H) := by
  intro pins s σ H xs us Q I r h
  obtain ⟨x, D, c, b, rfl, hx, T, e, q⟩ := h
  cases r with
  | cons r1 r2 =>
    cases r2 with
    | cons r2 r3 =>
      cases r3
      cases r1
      cases r2
      have at_ : ExcAt x (.ref D) s.heap := (show ObjOk X.prog X.w H s.heap x (.ext (ExcAt x (.ref D))) from I.hok x _ hx).1
      exact PySem.W.kia_one (kitx_exc T) I.kIn at_ e (fun z => nomatch z) fun tk => ⟨.bl b, H, I.tok tk, rfl, q⟩
theorem mt_countF : MtR X "list.count" (fun x xs H Q => ∃ (a : Addr) (ys : List V) (y : V), x = .ref a ∧ xs = [y] ∧ SqL X.K H a ys ∧ flatV y = true ∧ ys.all flatV = true ∧ Q (.int (ys.countP (fun z => eqV z y) : Nat)) H) := by
  intro pins s σ H x xs v us Q I rx rxs h
  obtain ⟨a, ys, y, rfl, rfl, hs, fy, fys, q⟩ := h
  cases rx
  cases rxs with
  | cons ry rt =>
    rename_i uy ut
    cases rt
    obtain ⟨its, rv, ⟨⟨cls, dd, data, sl⟩, n, ho, hc, hdn, hd⟩, hlen⟩ := I.list hs
    simp only at hc hd
    subst hc hd
    have cnt : ∀ {zs : List V} {ws : List Value}, Vals zs ws → zs.all flatV = true → ws.countP (eqU y) = zs.countP fun z => eqV z y := by
      intro zs ws r
      induction r with
      | nil => intro _; rfl
      | cons r1 _ ih =>
        intro f
        rw [List.all_cons, Bool.and_eq_true] at f
        rw [List.countP_cons, List.countP_cons, ih f.2, eqU_of r1 f.1]
    refine call_meets PySem.F.slot_list_count ⟨_, ho, rfl⟩ PySem.F.entry_list_count (PySem.F.args_list_count_2 _ _) (SeqAt.list_countAt a its.toArray n dd sl uy (eqU y)) ⟨ho, fun u hu => mem_eqAt ry fy rv fys u (by simpa using hu), ?_⟩
    refine ⟨.int (ys.countP (fun z => eqV z y) : Nat), H, I.tok _, ⟨s.toks, ?_⟩, q⟩
    rw [cnt rv fys]
end
end L2
namespace HT
open PySem PySem.Spec PyProof.Rows
section
variable {prog : Program} {w : World} {A : Around} {E : Value → Shared → Prop} {s : Shared}
def stepA {α : Type} (xs : List α) (lo hi : Option Int) (st : Int) : List α :=
  (List.range (Builtin.Slice.slicePlaces (Builtin.Slice.sliceAdjust lo hi st xs.length).1 (Builtin.Slice.sliceAdjust lo hi st xs.length).2 st)).filterMap fun (k : Nat) => xs[((Builtin.Slice.sliceAdjust lo hi st xs.length).1 + (k : Int) * st).toNat]?
end
end HT
namespace L2
open PySem PySem.Spec PyProof.Rows
section
variable {X : Cx} {e es : Expr} {te ts : TE} {lo hi : Option Expr} {tl th : TO} {pos p2 : Pos}
theorem Vals.pick {xs : List V} {us : List Value} (r : Vals xs us) : ∀ js : List Nat, Vals (js.filterMap (xs[·]?)) (js.filterMap (us[·]?))
  | [] => .nil
  | j :: js => by
    have ih := Vals.pick r js
    have hl := r.length
    cases g : xs[j]? with
    | some x =>
      obtain ⟨u, gu, ru⟩ := r.get g
      simp only [List.filterMap_cons, g, gu]
      exact .cons ru ih
    | none =>
      have gu : us[j]? = none := by
        rw [List.getElem?_eq_none_iff] at g ⊢
        omega
      simp only [List.filterMap_cons, g, gu]
      exact ih
theorem stepA_pick {α : Type} (xs : List α) (lo hi : Option Int) (st : Int) : HT.stepA xs lo hi st = ((List.range (Builtin.Slice.slicePlaces (Builtin.Slice.sliceAdjust lo hi st xs.length).1 (Builtin.Slice.sliceAdjust lo hi st xs.length).2 st)).map fun (k : Nat) => ((Builtin.Slice.sliceAdjust lo hi st xs.length).1 + (k : Int) * st).toNat).filterMap (xs[·]?) := by
  unfold HT.stepA
  rw [List.filterMap_map]
  rfl
theorem Vals.step {xs : List V} {us : List Value} (r : Vals xs us) (lo hi : Option Int) (st : Int) : Vals (HT.stepA xs lo hi st) (HT.stepA us lo hi st) := by
  rw [stepA_pick, stepA_pick, ← r.length]
  exact r.pick _
end
end L2
namespace L2
open PySem PySem.Spec PyProof.Rows
def IsDef (X : Cx) (v : V) (sp : Sp) : Prop := ∃ (k : Nat) (x : Str) (ps : List Str) (f : Addr), v = .ref f ∧ X.mg x = some (.ref f) ∧ DefX X.prog X.w X.K X.mg X.base k x ps sp ∧ Room k X.A
def tCallV (X : Cx) (E : XK) (tf : TE) (t : TA) : TE := fun σ H Q => tf σ H fun v H1 => ∃ sp, IsDef X v sp ∧ t σ H1 fun vs H2 => sp vs H2 Q E
section
variable {X : Cx} {W : Value → Hp → Prop} {pos : Pos} {fe e : Expr} {es : List Expr} {tf : TE} {t : TA}
theorem run_defX {Y : Cx} {v : V} {sp : Sp} {E : XK} {pins : List (Addr × Obj)} {σ : St} {H : Hp} {s : Shared} {Q : VK} {u : Value} {us : List Value} {vs : List V} (D : IsDef Y v sp) (hx : Passes (CXX Y.prog Y.w) Y E) (I : Inv Y pins σ H s) (ru : RelV v u) (r : Vals vs us) (h : sp vs H Q E) :
    PySem.W.keepIn Y.K u = true ∧ wpAny (model Y.prog Y.w) Y.A (call u us) (EP Y pins σ Q) Y.xe s := by
  obtain ⟨k, x, ps, f, rfl, hm, D, hr⟩ := D
  obtain ⟨f2, fd, hm2, hk, hb, F⟩ := D.ex
  have e := hm.symm.trans hm2
  injection e with e
  injection e with e
  subst e
  cases ru
  exact ⟨hk, run_fn F hr hb .nil hx I r (by rw [List.append_nil]; exact h)⟩
theorem IsDef.keep {Y : Cx} {v : V} {sp : Sp} {u : Value} (D : IsDef Y v sp) (ru : RelV v u) : PySem.W.keepIn Y.K u = true := by
  obtain ⟨k, x, ps, f, rfl, hm, D, hr⟩ := D
  obtain ⟨f2, fd, hm2, hk, hb, F⟩ := D.ex
  have e := hm.symm.trans hm2
  injection e with e
  injection e with e
  subst e
  cases ru
  exact hk
theorem pe_callV (hf : PE (X.wish (Out X W)) fe tf) (ha : PA (X.wish (Out X W)) (e :: es) t) (hex : X.ex = [] := by rfl) (hst : starEach (e :: es) X.env = (false, eval e X.env) :: starEach es X.env := by rfl) (hpl : (backTo pos (starEach es X.env)).any (·.1) = false := by rfl)
    (hcall : eval (.Call fe (e :: es) [] pos) X.env = (do callWith pos (← eval fe X.env) [] (backTo pos (starEach (e :: es) X.env)) (backToKw pos (keywordEach [] X.env))) := by rfl) :
    PE (X.wish (Out X W)) (.Call fe (e :: es) [] pos) (tCallV (X.wish (Out X W)) (fun C _ H => W C H) tf t) := by
  intro pins s σ H Q I h
  refine Call_ (thn (hf pins s σ H _ I h) fun u s1 ⟨v, H1, I1, ru, sp, D, q⟩ => ?_) hcall
  refine PySem.W.callWith_K (first := []) (h₀ := X.base) I.ok.mod.kin (D.keep ru) (thn (ha pos pins s1 σ H1 _ I1 q) fun us s2 ⟨vs, H2, I2, r, q2⟩ => ⟨I2.kIn, ?_⟩) hst hpl
  exact (run_defX D (passX (fun _ _ z => z) hex) I2 ru r q2).2
end
end L2
namespace L2
open PySem PySem.Spec PyProof.Rows
section
variable {X : Cx}
end
end L2
namespace L2
open PySem PySem.Spec PyProof.Rows
end L2
namespace L2
open PySem PySem.Spec PyProof.Rows
section
variable {prog : Program} {w : World} {A : Around} {E : Value → Shared → Prop} {s : Shared} {l : Addr} {its : List Value} {ns : List Int} {Q : Value → Shared → Prop}
end
section
variable {X : Cx}
end
end L2
namespace L2
open PySem PySem.Spec PyProof.Rows
end L2
namespace L2
open PySem PySem.Spec PyProof.Rows
end L2
namespace L2
open PySem PySem.Spec PyProof.Rows
section
variable {X : Cx} {W : Value → Hp → Prop} {pos : Pos} {fe e : Expr} {es : List Expr} {tf : TE} {t : TA}
end
end L2
namespace L2
open PySem PySem.Spec PyProof.Rows
section
variable {X : Cx} {pos : Pos}
end
end L2
namespace L2
open PySem PySem.Spec PyProof.Rows
theorem star_tup {es rest : List Expr} {k pos} {env : Env} : starEach (.Tuple es k pos :: rest) env = (false, eval (.Tuple es k pos) env) :: starEach rest env := by rw [starEach]; intros; rename_i h; cases h
theorem star_lst {es rest : List Expr} {pos} {env : Env} : starEach (.List es pos :: rest) env = (false, eval (.List es pos) env) :: starEach rest env := by rw [starEach]; intros; rename_i h; cases h
theorem star_bin {a b : Expr} {op pos} {rest : List Expr} {env : Env} : starEach (.BinOp a op b pos :: rest) env = (false, eval (.BinOp a op b pos) env) :: starEach rest env := by rw [starEach]; intros; rename_i h; cases h
section
variable {X : Cx} {o : Expr} {es : List Expr} {to : TE} {t : TA} {name : Str} {apos cpos p : Pos} {T id : String} {te : TE} {r : V → List V → Hp → VK → Prop}
end
end L2
namespace L2
open PySem PySem.Spec PyProof.Rows
theorem star_con {v k pos} {rest : List Expr} {env : Env} : starEach (.Constant v k pos :: rest) env = (false, eval (.Constant v k pos) env) :: starEach rest env := by rw [starEach]; intros; rename_i h; cases h
theorem star_nam {x pos} {rest : List Expr} {env : Env} : starEach (.Name x pos :: rest) env = (false, eval (.Name x pos) env) :: starEach rest env := by rw [starEach]; intros; rename_i h; cases h
theorem star_un {op a pos} {rest : List Expr} {env : Env} : starEach (.UnaryOp op a pos :: rest) env = (false, eval (.UnaryOp op a pos) env) :: starEach rest env := by rw [starEach]; intros; rename_i h; cases h
theorem star_call {f a k pos} {rest : List Expr} {env : Env} : starEach (.Call f a k pos :: rest) env = (false, eval (.Call f a k pos) env) :: starEach rest env := by rw [starEach]; intros; rename_i h; cases h
theorem star_sub {a i pos} {rest : List Expr} {env : Env} : starEach (.Subscript a i pos :: rest) env = (false, eval (.Subscript a i pos) env) :: starEach rest env := by rw [starEach]; intros; rename_i h; cases h
theorem star_lc {e g s pos} {rest : List Expr} {env : Env} : starEach (.ListComp e g s pos :: rest) env = (false, eval (.ListComp e g s pos) env) :: starEach rest env := by rw [starEach]; intros; rename_i h; cases h
theorem star_if {c a b pos} {rest : List Expr} {env : Env} : starEach (.IfExp c a b pos :: rest) env = (false, eval (.IfExp c a b pos) env) :: starEach rest env := by rw [starEach]; intros; rename_i h; cases h
end L2
namespace L2
open PySem PySem.Spec PyProof.Rows
section
variable {K : PySem.W.Frag}
mutual
theorem Dp.up {H H' : Hp} (e : Same H H') : ∀ {d : PyData} {v : V}, Dp K H v d → Dp K H' v d
  | _, _, .non => .non
  | _, _, .bl b => .bl b
  | _, _, .int i => .int i
  | _, _, .str x => .str x
  | _, _, .lst h a => .lst (e.seq h) (DpAll.up e a)
  | _, _, .tup h a => .tup (e.tup h) (DpAll.up e a)
theorem DpAll.up {H H' : Hp} (e : Same H H') : ∀ {ds : List PyData} {vs : List V}, DpAll K H vs ds → DpAll K H' vs ds
  | _, _, .nil => .nil
  | _, _, .cons a b => .cons (Dp.up e a) (DpAll.up e b)
end
theorem DpAll.lenE {H : Hp} : ∀ {vs : List V} {ds : List PyData}, DpAll K H vs ds → vs.length = ds.length
  | _, _, .nil => rfl
  | _, _, .cons _ b => by simp [DpAll.lenE b]
theorem DpAll.at_ {H : Hp} : ∀ {vs : List V} {ds : List PyData} {i : Nat} {d : PyData}, DpAll K H vs ds → ds[i]? = some d → ∃ v, vs[i]? = some v ∧ Dp K H v d
  | _, _, i, d, .nil, e => by simp at e
  | _, _, 0, d, .cons a b, e => by simp at e; subst e; exact ⟨_, rfl, a⟩
  | _, _, i + 1, d, .cons a b, e => by
    obtain ⟨v, h1, h2⟩ := DpAll.at_ (i := i) b (by simpa using e)
    exact ⟨v, by simpa using h1, h2⟩
theorem DpAll.app {H : Hp} : ∀ {vs ws : List V} {ds es : List PyData}, DpAll K H vs ds → DpAll K H ws es → DpAll K H (vs ++ ws) (ds ++ es)
  | _, _, _, _, .nil, h => h
  | _, _, _, _, .cons a b, h => .cons a (DpAll.app b h)
theorem DpAll.take {H : Hp} : ∀ {vs : List V} {ds : List PyData} (n : Nat), DpAll K H vs ds → DpAll K H (vs.take n) (ds.take n)
  | _, _, 0, _ => .nil
  | _, _, _ + 1, .nil => .nil
  | _, _, n + 1, .cons a b => .cons a (DpAll.take n b)
theorem DpAll.drop {H : Hp} : ∀ {vs : List V} {ds : List PyData} (n : Nat), DpAll K H vs ds → DpAll K H (vs.drop n) (ds.drop n)
  | _, _, 0, h => h
  | _, _, _ + 1, .nil => .nil
  | _, _, n + 1, .cons a b => DpAll.drop n b
theorem DpAll.set {H : Hp} {v : V} {d : PyData} (r : Dp K H v d) : ∀ {vs : List V} {ds : List PyData} (i : Nat), DpAll K H vs ds → DpAll K H (vs.set i v) (ds.set i d)
  | _, _, _, .nil => .nil
  | _, _, 0, .cons _ t => .cons r t
  | _, _, i + 1, .cons q t => .cons q (DpAll.set r i t)
theorem DpAll.two {H : Hp} {vs : List V} {d e : PyData} (h : DpAll K H vs [d, e]) : ∃ v w, vs = [v, w] ∧ Dp K H v d ∧ Dp K H w e := by
  cases h with
  | cons a b => cases b with
    | cons a' b' => cases b'; exact ⟨_, _, rfl, a, a'⟩
theorem DpAll.one {H : Hp} {vs : List V} {d : PyData} (h : DpAll K H vs [d]) : ∃ v, vs = [v] ∧ Dp K H v d := by
  cases h with
  | cons a b => cases b; exact ⟨_, rfl, a⟩
theorem DpAll.ints_inv {H : Hp} : ∀ {ns : List Int} {vs : List V}, DpAll K H vs (ns.map PyData.int) → vs = ns.map V.int
  | [], _, h => by cases h; rfl
  | n :: ns, _, h => by
    cases h with
    | cons a b => cases a; rw [DpAll.ints_inv b]; rfl
theorem DpAll.bls_inv {H : Hp} : ∀ {ns : List Bool} {vs : List V}, DpAll K H vs (ns.map PyData.bool) → vs = ns.map V.bl
  | [], _, h => by cases h; rfl
  | n :: ns, _, h => by
    cases h with
    | cons a b => cases a; rw [DpAll.bls_inv b]; rfl
theorem DpAll.strs {H : Hp} : ∀ (ns : List Str), DpAll K H (ns.map V.str) (ns.map PyData.str)
  | [] => .nil
  | n :: ns => .cons (.str n) (DpAll.strs ns)
theorem DpAll.bls {H : Hp} : ∀ (ns : List Bool), DpAll K H (ns.map V.bl) (ns.map PyData.bool)
  | [] => .nil
  | n :: ns => .cons (.bl n) (DpAll.bls ns)
end
theorem DpAll.lls {K : PySem.W.Frag} {H : Hp} : ∀ {as : List Addr} {dss : List (List PyData)}, as.length = dss.length → (∀ (i : Nat) (b : Addr) (ds : List PyData), as[i]? = some b → dss[i]? = some ds → ∃ vs, SqL K H b vs ∧ DpAll K H vs ds) → DpAll K H (as.map V.ref) (dss.map PyData.list)
  | [], [], _, _ => .nil
  | [], _ :: _, h, _ => by simp at h
  | _ :: _, [], h, _ => by simp at h
  | a :: as, ds :: dss, h, k => by
    obtain ⟨vs, h1, h2⟩ := k 0 a ds rfl rfl
    exact .cons (.lst h1 h2) (DpAll.lls (by simpa using h) fun i b es e1 e2 => k (i + 1) b es (by simpa using e1) (by simpa using e2))
def CodeAt (c : Addr) (q : Str) : Heap → Prop := fun h => ∃ o vs t, h.get? c = some o ∧ o.data = .fields vs ∧ vs[1]? = some (.str q t)
inductive Ow where
  | no
  | dat (d : PyData)
  | lst (ds : List PyData)
  | obj (w : Option Addr) (C : Addr) (fs : List (Str × Ow))
  | rob (C : Addr) (fs : List (Str × Ow))
  | exc (C : Value)
  | hol (v : V)
  | tab (P : Addr) (q : Str)
  | lls (dss : List (List PyData))
  | dic (kvs : List (Int × Int))
inductive OwAt (K : PySem.W.Frag) (Hm H : Hp) : Ow → Option V → List Addr → Prop
  | no {o : Option V} : OwAt K Hm H .no o []
  | dat {v : V} {d : PyData} : Dp K Hm v d → OwAt K Hm H (.dat d) (some v) []
  | lst {a : Addr} {vs : List V} {ds : List PyData} : H a = some (.lst vs) → DpAll K Hm vs ds → OwAt K Hm H (.lst ds) (some (.ref a)) [a]
  | obj {a C dx : Addr} {w : Option Addr} {fs : List (Str × V)} {ts : List (Str × Ow)} {val : Str → V} {g : Str → List Addr} : (∀ b, w = some b → b = a) → H a = some (.ins C dx fs) → H dx = some (.own a) → a ≠ dx → fs.length ≤ ts.length →
      (∀ f, ts.lookup f = none → fs.lookup f = none) → (∀ f s, ts.lookup f = some s → fs.lookup f = some (val f)) → (∀ f s, ts.lookup f = some s → OwAt K Hm H s (some (val f)) (g f)) →
      (∀ f f' s s', ts.lookup f = some s → ts.lookup f' = some s' → f ≠ f' → ∀ c ∈ g f, ¬ c ∈ g f') → (∀ f s, ts.lookup f = some s → ∀ c ∈ g f, c ≠ a ∧ c ≠ dx) →
      OwAt K Hm H (.obj w C ts) (some (.ref a)) (a :: dx :: (ts.map (·.1)).flatMap g)
  | rob {a C dx : Addr} {fs : List (Str × V)} {ts : List (Str × Ow)} {val : Str → V} : Hm a = some (.ins C dx fs) → (∀ f, ts.lookup f = none → fs.lookup f = none) → (∀ f d, ts.lookup f = some (.dat d) → fs.lookup f = some (val f) ∧ Dp K Hm (val f) d) → OwAt K Hm H (.rob C ts) (some (.ref a)) []
  | exc {a : Addr} {C : Value} : H a = some (.ext (ExcAt a C)) → OwAt K Hm H (.exc C) (some (.ref a)) [a]
  | hol {v : V} : OwAt K Hm H (.hol v) (some v) []
  | tab {P : Addr} {q : Str} {o : Option V} {ps : Array Value} : H P = some (.tbl ps) → TriplesOk ps.toList → (∀ pos cv, codeAmong pos ps.toList = some cv → ∃ c, cv = .ref c ∧ Hm c = some (.ext (CodeAt c q))) → OwAt K Hm H (.tab P q) o [P]
  | lls {a : Addr} {as : List Addr} {dss : List (List PyData)} : H a = some (.lst (as.map V.ref)) → ¬ a ∈ as → as.Nodup → as.length = dss.length → (∀ (i : Nat) (b : Addr) (ds : List PyData), as[i]? = some b → dss[i]? = some ds → ∃ vs, H b = some (.lst vs) ∧ DpAll K Hm vs ds) → OwAt K Hm H (.lls dss) (some (.ref a)) (a :: as)
  | dic {a : Addr} {kvs : List (Int × Int)} : H a = some (.dK (kvs.map fun p => (.inl p.1, .int p.2))) → OwAt K Hm H (.dic kvs) (some (.ref a)) [a]
theorem lookup_key {ts : List (Str × Ow)} {f : Str} {s : Ow} (h : ts.lookup f = some s) : f ∈ ts.map (·.1) := by
  induction ts with
  | nil => cases h
  | cons p ts ih =>
    obtain ⟨k, x⟩ := p
    rw [List.lookup_cons] at h
    split at h
    · next e => simp only [List.map_cons, List.mem_cons]; exact .inl (beq_iff_eq.mp e)
    · simp only [List.map_cons, List.mem_cons]; exact .inr (ih h)
theorem key_lookup {ts : List (Str × Ow)} {f : Str} (h : f ∈ ts.map (·.1)) : ∃ s, ts.lookup f = some s := by
  induction ts with
  | nil => cases h
  | cons p ts ih =>
    obtain ⟨k, x⟩ := p
    rw [List.lookup_cons]
    split
    · exact ⟨_, rfl⟩
    · next e =>
      simp only [List.map_cons, List.mem_cons] at h
      rcases h with z | z
      · rw [z] at e
        simp at e
      · exact ih z
theorem OwAt.up {K : PySem.W.Frag} {Hm H Hm' H' : Hp} (e : Same Hm Hm') {t : Ow} {o : Option V} {fp : List Addr} (h : OwAt K Hm H t o fp) : (∀ a ∈ fp, ∀ u, H a = some u → H' a = some u) → OwAt K Hm' H' t o fp := by
  induction h with
  | no => exact fun _ => .no
  | dat h => exact fun _ => .dat (h.up e)
  | lst h a => exact fun k => .lst (k _ (by simp) _ h) (a.up e)
  | @obj a C dx w fs ts val g h0 h1 h2 n1 hl h3 h4 h5 h6 h7 ih =>
    intro k
    refine .obj h0 (k _ (by simp) _ h1) (k _ (by simp) _ h2) n1 hl h3 h4 (fun f s q => ih f s q fun c hc => k c ?_) h6 h7
    exact List.mem_cons_of_mem _ (List.mem_cons_of_mem _ (List.mem_flatMap.mpr ⟨f, lookup_key q, hc⟩))
  | rob h1 hN h2 => exact fun _ => .rob (e _ _ h1) hN fun f d q => ⟨(h2 f d q).1, (h2 f d q).2.up e⟩
  | exc h => exact fun k => .exc (k _ (by simp) _ h)
  | hol => exact fun _ => .hol
  | tab h1 h2 h3 => exact fun k => .tab (k _ (by simp) _ h1) h2 fun pos cv z => let ⟨c, e1, e2⟩ := h3 pos cv z; ⟨c, e1, e _ _ e2⟩
  | lls h1 h2 h3 h4 h5 => exact fun k => .lls (k _ (by simp) _ h1) h2 h3 h4 fun i b ds e1 e2 => let ⟨vs, e3, e4⟩ := h5 i b ds e1 e2; ⟨vs, k _ (List.mem_cons_of_mem _ (List.mem_of_getElem? e1)) _ e3, e4.up e⟩
  | dic h => exact fun k => .dic (k _ (by simp) _ h)
theorem OwAt.dat_inv {K : PySem.W.Frag} {Hm H : Hp} {d : PyData} {o : Option V} {fp : List Addr} (h : OwAt K Hm H (.dat d) o fp) : ∃ v, o = some v ∧ Dp K Hm v d := by
  cases h with
  | dat hd => exact ⟨_, rfl, hd⟩
theorem OwAt.lst_inv {K : PySem.W.Frag} {Hm H : Hp} {ds : List PyData} {o : Option V} {fp : List Addr} (h : OwAt K Hm H (.lst ds) o fp) : ∃ a vs, o = some (.ref a) ∧ fp = [a] ∧ H a = some (.lst vs) ∧ DpAll K Hm vs ds := by
  cases h with
  | lst h1 h2 => exact ⟨_, _, rfl, rfl, h1, h2⟩
structure Fr where
  Hm : Hp
  H : Hp
  md : Addr → Prop
abbrev Sls := List (Option V × Ow)
structure Mem (K : PySem.W.Frag) (F : Fr) (L : Sls) (Hm H : Hp) (fps : Nat → List Addr) : Prop where
  sub : Same Hm H
  ent : ∀ a o, F.H a = some o → ¬ F.md a → H a = some o
  old : Same F.Hm Hm
  new : ∀ a, Hm a ≠ none → F.Hm a ≠ none ∨ F.H a = none ∨ F.md a
  ok : ∀ i o s, L[i]? = some (o, s) → OwAt K Hm H s o (fps i)
  own : ∀ i, i < L.length → ∀ a ∈ fps i, (F.H a = none ∨ F.md a) ∧ Hm a = none ∧ H a ≠ none
  dis : ∀ i j, i < L.length → j < L.length → i ≠ j → ∀ a ∈ fps i, ¬ a ∈ fps j
section
variable {K : PySem.W.Frag} {F : Fr} {L : Sls} {Hm H Hm' H' : Hp} {fps : Nat → List Addr}
theorem Mem.grow (M : Mem K F L Hm H fps) (e : Same Hm Hm') (s : Same Hm' H') (h : Same H H') (n : ∀ a, Hm' a ≠ none → Hm a ≠ none ∨ H a = none) : Mem K F L Hm' H' fps where
  sub := s
  ent := fun a o x y => h _ _ (M.ent a o x y)
  old := M.old.trans e
  new := fun a x => by
    rcases n a x with y | y
    · exact M.new a y
    · cases q : F.H a with
      | none => exact .inr (.inl rfl)
      | some o =>
        by_cases z : F.md a
        · exact .inr (.inr z)
        · rw [M.ent a o q z] at y
          cases y
  ok := fun i o t x => (M.ok i o t x).up e fun a _ u z => h _ _ z
  own := fun i hi a m => by
    obtain ⟨x, y, z⟩ := M.own i hi a m
    refine ⟨x, ?_, ?_⟩
    · cases q : Hm' a with
      | none => rfl
      | some u =>
        rcases n a (by rw [q]; simp) with w | w
        · exact absurd y w
        · exact absurd w z
    · cases q : H a with
      | none => exact absurd q z
      | some u => rw [h _ _ q]; simp
  dis := M.dis
theorem Mem.pick {L' : Sls} (M : Mem K F L Hm H fps) (f : Nat → Nat) (h : ∀ i x, L'[i]? = some x → L[f i]? = some x) (inj : ∀ i j, i < L'.length → j < L'.length → i ≠ j → f i ≠ f j) : Mem K F L' Hm H (fun i => fps (f i)) := by
  have lt : ∀ i, i < L'.length → f i < L.length := fun i hi => (List.getElem?_eq_some_iff.mp (h i _ (List.getElem?_eq_getElem hi))).1
  exact ⟨M.sub, M.ent, M.old, M.new, fun i o s x => M.ok _ o s (h i _ x), fun i hi => M.own _ (lt i hi), fun i j hi hj n => M.dis _ _ (lt i hi) (lt j hj) (inj i j hi hj n)⟩
theorem Mem.snoc {o : Option V} {s : Ow} {fp : List Addr} (M : Mem K F L Hm H fps) (h : OwAt K Hm H s o fp) (hf : ∀ a ∈ fp, (F.H a = none ∨ F.md a) ∧ Hm a = none ∧ H a ≠ none ∧ ∀ i, i < L.length → ¬ a ∈ fps i) :
    Mem K F (L ++ [(o, s)]) Hm H (fun i => if i = L.length then fp else fps i) where
  sub := M.sub
  ent := M.ent
  old := M.old
  new := M.new
  ok := fun i o' s' x => by
    by_cases hi : i = L.length
    · subst hi
      simp at x
      obtain ⟨rfl, rfl⟩ := x
      simpa using h
    · have : i < L.length := by
        have := (List.getElem?_eq_some_iff.mp x).1
        simp at this
        omega
      rw [List.getElem?_append_left this] at x
      simp only [hi, if_false]
      exact M.ok i o' s' x
  own := fun i hi a m => by
    by_cases e : i = L.length
    · simp only [e, if_true] at m
      obtain ⟨x, y, z, _⟩ := hf a m
      exact ⟨x, y, z⟩
    · simp only [e, if_false] at m
      exact M.own i (by simp at hi; omega) a m
  dis := fun i j hi hj n a m => by
    simp at hi hj
    by_cases e : i = L.length
    · simp only [e, if_true] at m
      have e2 : ¬ j = L.length := fun z => n (by omega)
      simp only [e2, if_false]
      exact (hf a m).2.2.2 j (by omega)
    · simp only [e, if_false] at m
      by_cases e2 : j = L.length
      · simp only [e2, if_true]
        exact fun z => (hf a z).2.2.2 i (by omega) m
      · simp only [e2, if_false]
        exact M.dis i j (by omega) (by omega) n a m
theorem Mem.dat {v : V} {d : PyData} (M : Mem K F L Hm H fps) (h : Dp K Hm v d) : Mem K F (L ++ [(some v, .dat d)]) Hm H (fun i => if i = L.length then [] else fps i) := M.snoc (.dat h) (by simp)
end
def Rel (K : PySem.W.Frag) (F : Fr) (ρ : List Ow) (σ : St) (τ : Sls) (H : Hp) : Prop := σ.length = ρ.length ∧ ∃ Hm fps, Mem K F (σ.zip ρ ++ τ) Hm H fps
section
variable {K : PySem.W.Frag} {F : Fr} {ρ ρ' : List Ow} {σ σ' : St} {τ τ' : Sls} {H H' : Hp}
theorem Rel.val {i : Nat} {d : PyData} (R : Rel K F ρ σ τ H) (h : ρ[i]? = some (.dat d)) : ∃ v, σ[i]? = some (some v) ∧ Rel K F ρ σ (τ ++ [(some v, .dat d)]) H := by
  obtain ⟨hl, Hm, fps, M⟩ := R
  have hi : i < ρ.length := (List.getElem?_eq_some_iff.mp h).1
  have hs : i < σ.length := by omega
  have hz : (σ.zip ρ ++ τ)[i]? = some (σ[i], .dat d) := by
    rw [List.getElem?_append_left (by simp; omega)]
    rw [List.getElem?_zip_eq_some]
    exact ⟨List.getElem?_eq_getElem hs, h⟩
  have o := M.ok i _ _ hz
  obtain ⟨v, hv, hd⟩ := o.dat_inv
  refine ⟨v, ?_, hl, Hm, _, by rw [← List.append_assoc]; exact M.dat hd⟩
  rw [List.getElem?_eq_getElem hs, hv]
theorem Rel.drop {x : Sls} (R : Rel K F ρ σ (τ ++ x) H) : Rel K F ρ σ τ H := by
  obtain ⟨hl, Hm, fps, M⟩ := R
  refine ⟨hl, Hm, _, M.pick id (fun i x h => ?_) fun i j _ _ n => n⟩
  have := (List.getElem?_eq_some_iff.mp h).1
  rw [← List.append_assoc]
  show ((σ.zip ρ ++ τ) ++ _)[i]? = _
  rw [List.getElem?_append_left this]
  exact h
theorem Rel.swap {τ' : Sls} (R : Rel K F ρ σ τ H) (f : Nat → Nat) (h : ∀ i x, τ'[i]? = some x → τ[f i]? = some x) (inj : ∀ i j, i < τ'.length → j < τ'.length → i ≠ j → f i ≠ f j) : Rel K F ρ σ τ' H := by
  obtain ⟨hl, Hm, fps, M⟩ := R
  refine ⟨hl, Hm, _, M.pick (fun i => if i < (σ.zip ρ).length then i else f (i - (σ.zip ρ).length) + (σ.zip ρ).length) (fun i x q => ?_) fun i j hi hj n => ?_⟩
  · by_cases z : i < (σ.zip ρ).length
    · simp only [z, if_true]
      rw [List.getElem?_append_left z] at q ⊢
      exact q
    · simp only [z, if_false]
      rw [List.getElem?_append_right (by omega)] at q ⊢
      rw [Nat.add_sub_cancel]
      exact h _ _ q
  · rw [List.length_append] at hi hj
    by_cases z1 : i < (σ.zip ρ).length <;> by_cases z2 : j < (σ.zip ρ).length <;> simp only [z1, z2, if_true, if_false]
    · exact n
    · omega
    · omega
    · have := inj (i - (σ.zip ρ).length) (j - (σ.zip ρ).length) (by omega) (by omega) (by omega)
      omega
theorem Rel.len (R : Rel K F ρ σ τ H) : σ.length = ρ.length := R.1
end
end L2
namespace L2
open PySem PySem.Spec PyProof.Rows
def New (Hm Hm' H : Hp) : Prop := ∀ a, Hm' a ≠ none → Hm a ≠ none ∨ H a = none
theorem New.refl {Hm H : Hp} : New Hm Hm H := fun _ h => .inl h
theorem New.upd {Hm H : Hp} {p : Addr} {o : HO} (h : H p = none) : New Hm (L2.upd Hm p o) H := fun a q => by
  by_cases e : a = p
  · subst e; exact .inr h
  · rw [upd_ne e] at q; exact .inl q
theorem Same.both {Hm H : Hp} {p : Addr} {o : HO} (s : Same Hm H) : Same (L2.upd Hm p o) (L2.upd H p o) := fun a u q => by
  by_cases e : a = p
  · subst e; rw [upd_same] at q ⊢; exact q
  · rw [upd_ne e] at q ⊢; exact s _ _ q
def Fin (K : PySem.W.Frag) (s : Ow) (Hm H : Hp) (Q : VK) : Prop := ∀ w fp Hm' H', Same Hm Hm' → Same Hm' H' → Same H H' → New Hm Hm' H → OwAt K Hm' H' s (some w) fp → (∀ a ∈ fp, H a = none ∧ Hm' a = none ∧ H' a ≠ none) → Q w H'
section
variable {K : PySem.W.Frag} {Hm H : Hp} {Q : VK} {d : PyData} {w : V} {ds : List PyData} {vs : List V} {p : Addr}
theorem Fin.flat (f : Fin K (.dat d) Hm H Q) (s : Same Hm H) (h : Dp K Hm w d) : Q w H := f w [] Hm H (Same.refl _) s (Same.refl _) New.refl (.dat h) (by simp)
theorem Fin.grown {Hm' H' : Hp} (f : Fin K (.dat d) Hm H Q) (e : Same Hm Hm') (s : Same Hm' H') (h : Same H H') (n : New Hm Hm' H) (q : Dp K Hm' w d) : Q w H' := f w [] Hm' H' e s h n (.dat q) (by simp)
theorem Fin.tup (f : Fin K (.dat (.tuple ds)) Hm H Q) (s : Same Hm H) (h : DpAll K Hm vs ds) (hp : H p = none) : Q (.ref p) (upd H p (.tup vs)) :=
  f _ [] _ _ (Same.upd (s.free hp)) s.both (Same.upd hp) (New.upd hp) (.dat (.tup (SqT.of upd_same) (h.up (Same.upd (s.free hp))))) (by simp)
theorem Fin.lst (f : Fin K (.lst ds) Hm H Q) (s : Same Hm H) (h : DpAll K Hm vs ds) (hp : H p = none) : Q (.ref p) (upd H p (.lst vs)) :=
  f _ [p] _ _ (Same.refl _) (s.trans (Same.upd hp)) (Same.upd hp) New.refl (.lst upd_same h) (by
    intro a ha
    simp at ha
    subst ha
    exact ⟨hp, s.free hp, by rw [upd_same]; simp⟩)
end
section
variable {K : PySem.W.Frag} {F : Fr} {ρ : List Ow} {σ : St} {τ : Sls} {H : Hp}
theorem Mem.next {L : Sls} {Hm : Hp} {fps : Nat → List Addr} (M : Mem K F L Hm H fps) : ∀ w s fp Hm' H', Same Hm Hm' → Same Hm' H' → Same H H' → New Hm Hm' H → OwAt K Hm' H' s (some w) fp → (∀ a ∈ fp, H a = none ∧ Hm' a = none ∧ H' a ≠ none) → ∃ fps', Mem K F (L ++ [(some w, s)]) Hm' H' fps' := by
  intro w s fp Hm' H' e1 e2 e3 n o hf
  refine ⟨_, (M.grow e1 e2 e3 n).snoc o fun a ha => ?_⟩
  obtain ⟨x, y, z⟩ := hf a ha
  refine ⟨?_, y, z, fun i hi m => (M.own i hi a m).2.2 x⟩
  cases q : F.H a with
  | none => exact .inl rfl
  | some u =>
    by_cases g : F.md a
    · exact .inr g
    · rw [M.ent a u q g] at x
      cases x
theorem Mem.datas {Hm : Hp} {fps : Nat → List Addr} : ∀ {vs : List V} {ds : List PyData} {L : Sls}, Mem K F (L ++ (vs.map some).zip (ds.map Ow.dat)) Hm H fps → vs.length = ds.length → DpAll K Hm vs ds
  | [], [], _, _, _ => .nil
  | [], _ :: _, _, _, h => by simp at h
  | _ :: _, [], _, _, h => by simp at h
  | v :: vs, d :: ds, L, M, h => by
    have h1 : (L ++ ((v :: vs).map some).zip ((d :: ds).map Ow.dat))[L.length]? = some (some v, .dat d) := by
      rw [List.getElem?_append_right (Nat.le_refl _), Nat.sub_self]
      rfl
    obtain ⟨v', e, hd⟩ := (M.ok _ _ _ h1).dat_inv
    cases e
    have M2 : Mem K F ((L ++ [(some v, .dat d)]) ++ (vs.map some).zip (ds.map Ow.dat)) Hm H fps := by
      rw [List.append_assoc]
      exact M
    exact .cons hd (Mem.datas (L := L ++ [(some v, .dat d)]) M2 (by simpa using h))
theorem Rel.open {vs : List V} {ds : List PyData} (R : Rel K F ρ σ (τ ++ (vs.map some).zip (ds.map Ow.dat)) H) (hl : vs.length = ds.length) :
    ∃ Hm, Same Hm H ∧ DpAll K Hm vs ds ∧ ∀ s Q, (∀ v H', Rel K F ρ σ (τ ++ [(some v, s)]) H' → Q v H') → Fin K s Hm H Q := by
  have R0 := R.drop
  obtain ⟨hz, Hm, fps, M⟩ := R
  rw [← List.append_assoc] at M
  refine ⟨Hm, M.sub, M.datas hl, fun s Q q w fp Hm' H' e1 e2 e3 n o hf => q w H' ?_⟩
  have M0 : Mem K F (σ.zip ρ ++ τ) Hm H fps := M.pick id (fun i x h => by
    have := (List.getElem?_eq_some_iff.mp h).1
    show ((σ.zip ρ ++ τ) ++ _)[i]? = _
    rw [List.getElem?_append_left this]
    exact h) fun i j _ _ n => n
  obtain ⟨fps', M'⟩ := M0.next w s fp Hm' H' e1 e2 e3 n o hf
  exact ⟨hz, Hm', fps', by rw [← List.append_assoc]; exact M'⟩
end
def tEv (K : PySem.W.Frag) (ρ : List Ow) (s : Ow) (ρ' : List Ow) : TE := fun σ H Q => ∃ F τ, Rel K F ρ σ τ H ∧ ∀ v H', Rel K F ρ' σ (τ ++ [(some v, s)]) H' → Q v H'
def tEt (K : PySem.W.Frag) (ρ : List Ow) (b : Bool) (ρ' : List Ow) : TT := fun σ H Q => ∃ F τ, Rel K F ρ σ τ H ∧ ∀ H', Rel K F ρ' σ τ H' → Q b H'
def tEa (K : PySem.W.Frag) (ρ : List Ow) (ds : List PyData) (ρ' : List Ow) : TA := fun σ H Q => ∃ F τ, Rel K F ρ σ τ H ∧ ∀ vs H', vs.length = ds.length → Rel K F ρ' σ (τ ++ (vs.map some).zip (ds.map Ow.dat)) H' → Q vs H'
structure EV (X : Cx) (ρ : List Ow) (e : Expr) (s : Ow) (ρ' : List Ow) : Prop where
  pe : PE X e (tEv X.K ρ s ρ')
structure ET (X : Cx) (ρ : List Ow) (e : Expr) (b : Bool) (ρ' : List Ow) : Prop where
  pt : PT X e (tEt X.K ρ b ρ')
structure EW (X : Cx) (ρ : List Ow) (e : Expr) (b : Bool) (ρ' : List Ow) : Prop where
  pw : PW X e (tEt X.K ρ b ρ')
structure EA (X : Cx) (ρ : List Ow) (es : List Expr) (ds : List PyData) (ρ' : List Ow) : Prop where
  pa : PA X es (tEa X.K ρ ds ρ')
theorem PE.mono {X : Cx} {e : Expr} {t t' : TE} (h : PE X e t) (k : ∀ σ H Q, t' σ H Q → t σ H Q) : PE X e t' := fun pins s σ H Q I q => h pins s σ H Q I (k σ H Q q)
theorem PT.mono {X : Cx} {e : Expr} {t t' : TT} (h : PT X e t) (k : ∀ σ H Q, t' σ H Q → t σ H Q) : PT X e t' := fun pins s σ H Q I q => h pins s σ H Q I (k σ H Q q)
theorem PW.mono {X : Cx} {e : Expr} {t t' : TT} (h : PW X e t) (k : ∀ σ H Q, t' σ H Q → t σ H Q) : PW X e t' := fun wh pins s σ H Q I q => h wh pins s σ H Q I (k σ H Q q)
theorem PA.mono {X : Cx} {e : List Expr} {t t' : TA} (h : PA X e t) (k : ∀ σ H Q, t' σ H Q → t σ H Q) : PA X e t' := fun pos pins s σ H Q I q => h pos pins s σ H Q I (k σ H Q q)
theorem pe_never {X : Cx} {e : Expr} : PE X e (fun _ _ _ => False) := fun _ _ _ _ _ _ h => h.elim
section
variable {X : Cx} {ρ ρ1 ρ2 ρ3 : List Ow} {a b c e : Expr} {es : List Expr} {pos : Pos} {s s1 s2 s3 : Ow} {d d1 d2 d3 : PyData} {ds : List PyData}
theorem ev_var (i : Nat) {x : Str} {d : PyData} (h : ρ[i]? = some (.dat d)) (hN : X.N[i]? = some x := by rfl) (hv : Vis X.env.scope x := by first | exact Or.inl rfl | exact Or.inr (Or.inl rfl) | exact Or.inr (Or.inr rfl)) (hd : (x == ("__debug__" : Str)) = false := by decide)
    (hcd : (x == ("__classdict__" : Str)) = false := by decide) : EV X ρ (.Name x pos) (.dat d) ρ := ⟨(pe_var hN hv hd hcd).mono fun σ H Q ⟨F, τ, R, q⟩ => by
  obtain ⟨v, h1, h2⟩ := R.val h
  exact ⟨v, h1, q v H h2⟩⟩
theorem Rel.flat {K : PySem.W.Frag} {F : Fr} {σ : St} {τ : Sls} {H : Hp} {v : V} {d : PyData} (R : Rel K F ρ σ τ H) (h : ∀ Hm, Dp K Hm v d) : Rel K F ρ σ (τ ++ [(some v, .dat d)]) H := by
  obtain ⟨hz, Hm, fps, M⟩ := R
  exact ⟨hz, Hm, _, by rw [← List.append_assoc]; exact M.dat (h Hm)⟩
theorem ev_int {i j} : EV X ρ (.Constant (.int i) j pos) (.dat (.int i)) ρ := ⟨pe_int.mono fun σ H Q ⟨F, τ, R, q⟩ => q _ _ (R.flat fun _ => .int i)⟩
theorem ev_bl {i j} : EV X ρ (.Constant (.bool i) j pos) (.dat (.bool i)) ρ := ⟨pe_bl.mono fun σ H Q ⟨F, τ, R, q⟩ => q _ _ (R.flat fun _ => .bl i)⟩
theorem ev_non {j} : EV X ρ (.Constant .none j pos) (.dat .none) ρ := ⟨pe_non.mono fun σ H Q ⟨F, τ, R, q⟩ => q _ _ (R.flat fun _ => .non)⟩
theorem ev_str {i j} : EV X ρ (.Constant (.str i) j pos) (.dat (.str i)) ρ := ⟨pe_str.mono fun σ H Q ⟨F, τ, R, q⟩ => q _ _ (R.flat fun _ => .str i)⟩
theorem ev_gint {x : Str} {i : Int} (h : ∃ t, X.mg x = some (.int i t)) (hg : Gl X x := by rfl) (hd : (x == ("__debug__" : Str)) = false := by decide) : EV X ρ (.Name x pos) (.dat (.int i)) ρ := by
  obtain ⟨t, hm⟩ := h
  exact ⟨(pe_glob (v := .int i) hg hm ⟨t, rfl⟩ hd).mono fun σ H Q ⟨F, τ, R, q⟩ => q _ _ (R.flat fun _ => .int i)⟩
theorem ea_nil : EA X ρ [] [] ρ := ⟨pa_nil.mono fun σ H Q ⟨F, τ, R, q⟩ => q [] H rfl (by simpa using R)⟩
theorem ea_cons (h : EV X ρ e (.dat d) ρ1) (hr : EA X ρ1 es ds ρ2) (hs : starEach (e :: es) X.env = (false, eval e X.env) :: starEach es X.env := by rfl) : EA X ρ (e :: es) (d :: ds) ρ2 :=
  ⟨(pa_cons h.pe hr.pa hs).mono fun σ H Q ⟨F, τ, R, q⟩ => ⟨F, τ, R, fun v H1 R1 => ⟨F, _, R1, fun vs H2 hl R2 => q (v :: vs) H2 (by simp [hl]) (by
    rw [List.append_assoc] at R2
    exact R2)⟩⟩⟩
structure Bin (X : Cx) (op : Operator) (d1 d2 : PyData) (s : Ow) : Prop where
  ex : ∃ r, OpR X (binaryOp op) r ∧ ∀ Hm H Q v u, Same Hm H → Dp X.K Hm v d1 → Dp X.K Hm u d2 → Fin X.K s Hm H Q → r v u H Q
structure Cmp (X : Cx) (op : CmpOp) (d1 d2 : PyData) (b : Bool) : Prop where
  ex : ∃ r, OpR X (compareOp op) r ∧ ∀ Hm H Q v u, Same Hm H → Dp X.K Hm v d1 → Dp X.K Hm u d2 → Q (.bl b) H → r v u H Q
theorem Rel.two {K : PySem.W.Frag} {F : Fr} {σ : St} {τ : Sls} {H : Hp} {v u : V} (R : Rel K F ρ σ (τ ++ [(some v, .dat d1)] ++ [(some u, .dat d2)]) H) :
    ∃ Hm, Same Hm H ∧ Dp K Hm v d1 ∧ Dp K Hm u d2 ∧ ∀ s Q, (∀ v H', Rel K F ρ σ (τ ++ [(some v, s)]) H' → Q v H') → Fin K s Hm H Q := by
  rw [List.append_assoc] at R
  obtain ⟨Hm, h1, h2, h3⟩ := Rel.open (vs := [v, u]) (ds := [d1, d2]) R rfl
  obtain ⟨x, y, e, h4, h5⟩ := h2.two
  cases e
  exact ⟨Hm, h1, h4, h5, h3⟩
theorem Rel.one {K : PySem.W.Frag} {F : Fr} {σ : St} {τ : Sls} {H : Hp} {v : V} (R : Rel K F ρ σ (τ ++ [(some v, .dat d1)]) H) :
    ∃ Hm, Same Hm H ∧ Dp K Hm v d1 ∧ ∀ s Q, (∀ v H', Rel K F ρ σ (τ ++ [(some v, s)]) H' → Q v H') → Fin K s Hm H Q := by
  obtain ⟨Hm, h1, h2, h3⟩ := Rel.open (vs := [v]) (ds := [d1]) R rfl
  obtain ⟨x, e, h4⟩ := h2.one
  cases e
  exact ⟨Hm, h1, h4, h3⟩
theorem ev_op {op : Operator} (o : Bin X op d1 d2 s) (ha : EV X ρ a (.dat d1) ρ1) (hb : EV X ρ1 b (.dat d2) ρ2) : EV X ρ (.BinOp a op b pos) s ρ2 := by
  obtain ⟨r, ho, hr⟩ := o.ex
  refine ⟨(pe_op ho ha.pe hb.pe).mono fun σ H Q ⟨F, τ, R, q⟩ => ⟨F, τ, R, fun v H1 R1 => ⟨F, _, R1, fun u H2 R2 => ?_⟩⟩⟩
  obtain ⟨Hm, h1, h2, h3, h4⟩ := R2.two
  exact hr Hm H2 Q v u h1 h2 h3 (h4 s Q q)
theorem Fin.rel {K : PySem.W.Frag} {F : Fr} {σ : St} {τ : Sls} {Hm H : Hp} (f : ∀ s Q, (∀ v H', Rel K F ρ σ (τ ++ [(some v, s)]) H' → Q v H') → Fin K s Hm H Q) (s : Same Hm H) : Rel K F ρ σ τ H := by
  have := f (.dat .none) (fun _ H' => Rel K F ρ σ τ H') (fun v H' R => R.drop)
  exact Fin.flat this s .non
theorem ev_cmp {op : CmpOp} {k : Bool} (o : Cmp X op d1 d2 k) (ha : EV X ρ a (.dat d1) ρ1) (hb : EV X ρ1 b (.dat d2) ρ2) (hm : behindInMarks op b = false := by first | exact nomark _ | with_unfolding_all rfl) : EV X ρ (.Compare a [op] [b] pos) (.dat (.bool k)) ρ2 := by
  obtain ⟨r, ho, hr⟩ := o.ex
  refine ⟨(pe_cmpR ho ha.pe hb.pe hm).mono fun σ H Q ⟨F, τ, R, q⟩ => ⟨F, τ, R, fun v H1 R1 => ⟨F, _, R1, fun u H2 R2 => ?_⟩⟩⟩
  obtain ⟨Hm, h1, h2, h3, h4⟩ := R2.two
  exact hr Hm H2 Q v u h1 h2 h3 ((h4 _ Q q).flat h1 (.bl k))
theorem et_cmp {op : CmpOp} {k : Bool} (o : Cmp X op d1 d2 k) (ha : EV X ρ a (.dat d1) ρ1) (hb : EV X ρ1 b (.dat d2) ρ2) (hm : behindInMarks op b = false := by first | exact nomark _ | with_unfolding_all rfl) : ET X ρ (.Compare a [op] [b] pos) k ρ2 := by
  obtain ⟨r, ho, hr⟩ := o.ex
  refine ⟨(pt_cmpR ho ha.pe hb.pe hm).mono fun σ H Q ⟨F, τ, R, q⟩ => ⟨F, τ, R, fun v H1 R1 => ⟨F, _, R1, fun u H2 R2 => ?_⟩⟩⟩
  obtain ⟨Hm, h1, h2, h3, h4⟩ := R2.two
  exact hr Hm H2 _ v u h1 h2 h3 ⟨k, rfl, q H2 (Fin.rel h4 h1)⟩
theorem ev_chain {op op' : CmpOp} {k k' : Bool} (o : Cmp X op d1 d2 k) (o' : Cmp X op' d2 d3 k') (ha : EV X ρ a (.dat d1) ρ) (hb : EV X ρ b (.dat d2) ρ) (hc : EV X ρ c (.dat d3) ρ) (hm : lastMarks [op, op'] [b, c] = false := by with_unfolding_all rfl) : EV X ρ (.Compare a [op, op'] [b, c] pos) (.dat (.bool (k && k'))) ρ := by
  obtain ⟨r, ho, hr⟩ := o.ex
  obtain ⟨r', ho', hr'⟩ := o'.ex
  refine ⟨(pe_chain ho ho' ha.pe hb.pe hc.pe hm).mono fun σ H Q ⟨F, τ, R, q⟩ => ⟨F, τ, R, fun v H1 R1 => ⟨F, _, R1, fun u H2 R2 => ?_⟩⟩⟩
  obtain ⟨Hm, h1, h2, h3, h4⟩ := R2.two
  refine hr Hm H2 _ v u h1 h2 h3 ⟨k, rfl, ?_⟩
  cases k with
  | false => exact iteF ((h4 _ Q q).flat h1 (.bl _))
  | true =>
    refine iteT ⟨F, _, R2.swap (τ' := τ ++ [(some u, .dat d2)]) (fun i => if i < τ.length then i else i + 1) (fun i x hx => ?_) (fun i j _ _ n => by split <;> split <;> omega), fun w H3 R3 => ?_⟩
    · by_cases z : i < τ.length
      · simp only [z, if_true]
        rw [List.getElem?_append_left z] at hx
        rw [List.append_assoc, List.getElem?_append_left z]
        exact hx
      · simp only [z, if_false]
        rw [List.getElem?_append_right (by omega)] at hx
        rw [List.append_assoc, List.getElem?_append_right (by omega), Nat.sub_add_comm (by omega)]
        simpa using hx
    · obtain ⟨Hm', h1', h2', h3', h4'⟩ := R3.two
      exact hr' Hm' H3 Q u w h1' h2' h3' ((h4' _ Q q).flat h1' (.bl k'))
theorem et_chain {op op' : CmpOp} {k k' : Bool} (o : Cmp X op d1 d2 k) (o' : Cmp X op' d2 d3 k') (ha : EV X ρ a (.dat d1) ρ) (hb : EV X ρ b (.dat d2) ρ) (hc : EV X ρ c (.dat d3) ρ) (hm : lastMarks [op, op'] [b, c] = false := by with_unfolding_all rfl) : ET X ρ (.Compare a [op, op'] [b, c] pos) (k && k') ρ := by
  obtain ⟨r, ho, hr⟩ := o.ex
  obtain ⟨r', ho', hr'⟩ := o'.ex
  refine ⟨(pt_chain ho ho' ha.pe hb.pe hc.pe hm).mono fun σ H Q ⟨F, τ, R, q⟩ => ⟨F, τ, R, fun v H1 R1 => ⟨F, _, R1, fun u H2 R2 => ?_⟩⟩⟩
  obtain ⟨Hm, h1, h2, h3, h4⟩ := R2.two
  refine hr Hm H2 _ v u h1 h2 h3 ⟨k, rfl, ?_⟩
  cases k with
  | false => exact iteF ⟨false, rfl, q H2 (Fin.rel h4 h1)⟩
  | true =>
    refine iteT ⟨F, _, R2.swap (τ' := τ ++ [(some u, .dat d2)]) (fun i => if i < τ.length then i else i + 1) (fun i x hx => ?_) (fun i j _ _ n => by split <;> split <;> omega), fun w H3 R3 => ?_⟩
    · by_cases z : i < τ.length
      · simp only [z, if_true]
        rw [List.getElem?_append_left z] at hx
        rw [List.append_assoc, List.getElem?_append_left z]
        exact hx
      · simp only [z, if_false]
        rw [List.getElem?_append_right (by omega)] at hx
        rw [List.append_assoc, List.getElem?_append_right (by omega), Nat.sub_add_comm (by omega)]
        simpa using hx
    · obtain ⟨Hm', h1', h2', h3', h4'⟩ := R3.two
      exact hr' Hm' H3 _ u w h1' h2' h3' ⟨k', rfl, q H3 (Fin.rel h4' h1')⟩
theorem et_val {k : Bool} (h : EV X ρ e (.dat (.bool k)) ρ1) (he : ∀ whole, isTrue e X.env whole = (do let v ← whole; standAt e.pos; holding [v] (truthy v)) := by intro _; rfl) : ET X ρ e k ρ1 := by
  refine ⟨(pt_val h.pe he).mono fun σ H Q ⟨F, τ, R, q⟩ => ⟨F, τ, R, fun v H1 R1 => ?_⟩⟩
  obtain ⟨Hm, h1, h2, h3⟩ := R1.one
  cases h2
  exact ⟨k, rfl, q H1 R1.drop⟩
theorem et_not {k : Bool} (h : ET X ρ a k ρ1) : ET X ρ (.UnaryOp .Not a pos) (!k) ρ1 := ⟨(pt_not h.pt).mono fun σ H Q ⟨F, τ, R, q⟩ => ⟨F, τ, R, fun H1 R1 => q H1 R1⟩⟩
theorem ev_not {k : Bool} (h : EV X ρ a (.dat (.bool k)) ρ1) : EV X ρ (.UnaryOp .Not a pos) (.dat (.bool (!k))) ρ1 := by
  refine ⟨(pe_not h.pe).mono fun σ H Q ⟨F, τ, R, q⟩ => ⟨F, τ, R, fun v H1 R1 => ?_⟩⟩
  obtain ⟨Hm, h1, h2, h3⟩ := R1.one
  cases h2
  exact ⟨k, rfl, (h3 _ Q q).flat h1 (.bl _)⟩
theorem pw_never : PW X e (fun _ _ _ => False) := fun _ _ _ _ _ _ _ h => h.elim
theorem ew_and1 {k : Bool} (h : ET X ρ a k ρ1) : EW X ρ (.BoolOp .And [a] pos) k ρ1 := ⟨pw_and1 h.pt⟩
theorem ew_or1 {k : Bool} (h : ET X ρ a k ρ1) : EW X ρ (.BoolOp .Or [a] pos) k ρ1 := ⟨pw_or1 h.pt⟩
theorem ew_and {k k' : Bool} {rest : List Expr} (h : ET X ρ a k ρ) (hb : k = true → EW X ρ (.BoolOp .And (b :: rest) pos) k' ρ) : EW X ρ (.BoolOp .And (a :: b :: rest) pos) (k && k') ρ := by
  cases k with
  | false => exact ⟨(pw_and h.pt pw_never).mono fun σ H Q ⟨F, τ, R, q⟩ => ⟨F, τ, R, fun H1 R1 => iteF (q H1 R1)⟩⟩
  | true => exact ⟨(pw_and h.pt (hb rfl).pw).mono fun σ H Q ⟨F, τ, R, q⟩ => ⟨F, τ, R, fun H1 R1 => iteT ⟨F, τ, R1, fun H2 R2 => q H2 R2⟩⟩⟩
theorem ew_or {k k' : Bool} {rest : List Expr} (h : ET X ρ a k ρ) (hb : k = false → EW X ρ (.BoolOp .Or (b :: rest) pos) k' ρ) : EW X ρ (.BoolOp .Or (a :: b :: rest) pos) (k || k') ρ := by
  cases k with
  | true => exact ⟨(pw_or h.pt pw_never).mono fun σ H Q ⟨F, τ, R, q⟩ => ⟨F, τ, R, fun H1 R1 => iteT (q H1 R1)⟩⟩
  | false => exact ⟨(pw_or h.pt (hb rfl).pw).mono fun σ H Q ⟨F, τ, R, q⟩ => ⟨F, τ, R, fun H1 R1 => iteF ⟨F, τ, R1, fun H2 R2 => q H2 R2⟩⟩⟩
theorem EW.et {k : Bool} (h : EW X ρ e k ρ1) : ET X ρ e k ρ1 := ⟨h.pw.pt⟩
theorem ev_one {op : BoolOp} {k : Bool} (h : EV X ρ a (.dat (.bool k)) ρ1) : EV X ρ (.BoolOp op [a] pos) (.dat (.bool k)) ρ1 := ⟨pe_one h.pe⟩
theorem ev_and {k k' : Bool} {rest : List Expr} (h : EV X ρ a (.dat (.bool k)) ρ) (hb : k = true → EV X ρ (.BoolOp .And (b :: rest) pos) (.dat (.bool k')) ρ) : EV X ρ (.BoolOp .And (a :: b :: rest) pos) (.dat (.bool (k && k'))) ρ := by
  cases k with
  | false =>
    refine ⟨(pe_and h.pe pe_never).mono fun σ H Q ⟨F, τ, R, q⟩ => ⟨F, τ, R, fun v H1 R1 => ?_⟩⟩
    obtain ⟨Hm, h1, h2, h3⟩ := R1.one
    cases h2
    exact ⟨false, rfl, iteF (q _ H1 R1)⟩
  | true =>
    refine ⟨(pe_and h.pe (hb rfl).pe).mono fun σ H Q ⟨F, τ, R, q⟩ => ⟨F, τ, R, fun v H1 R1 => ?_⟩⟩
    obtain ⟨Hm, h1, h2, h3⟩ := R1.one
    cases h2
    exact ⟨true, rfl, iteT ⟨F, τ, R1.drop, fun v H2 R2 => q v H2 R2⟩⟩
theorem ev_if {k : Bool} (hc : ET X ρ c k ρ1) (h1 : k = true → EV X ρ1 a s ρ2) (h2 : k = false → EV X ρ1 b s ρ2) : EV X ρ (.IfExp c a b pos) s ρ2 := by
  cases k with
  | true => exact ⟨(pe_ifExp hc.pt (h1 rfl).pe pe_never).mono fun σ H Q ⟨F, τ, R, q⟩ => ⟨F, τ, R, fun H1 R1 => iteT ⟨F, τ, R1, q⟩⟩⟩
  | false => exact ⟨(pe_ifExp hc.pt pe_never (h2 rfl).pe).mono fun σ H Q ⟨F, τ, R, q⟩ => ⟨F, τ, R, fun H1 R1 => iteF ⟨F, τ, R1, q⟩⟩⟩
theorem ev_ifD {k : Bool} (hc : ET X ρ c k ρ1) (h1 : k = true → EV X ρ1 a (.dat d1) ρ2) (h2 : k = false → EV X ρ1 b (.dat d2) ρ2) : EV X ρ (.IfExp c a b pos) (.dat (if k = true then d1 else d2)) ρ2 :=
  ev_if hc (fun e => by subst e; exact h1 rfl) (fun e => by subst e; exact h2 rfl)
end
end L2
namespace L2
open PySem PySem.Spec PyProof.Rows
section
variable {X : Cx} {ρ ρ1 ρ2 ρ3 : List Ow} {a b c e : Expr} {es : List Expr} {pos : Pos} {s s1 s2 s3 : Ow} {d d1 d2 d3 : PyData} {ds : List PyData} {i j : Int}
theorem bin_i {op : Operator} {g : Int → Int → V} {C : Int → Int → Prop} (ho : OpR X (binaryOp op) (rI C g)) (h : C i j) (hd : ∀ Hm, Dp X.K Hm (g i j) d) : Bin X op (.int i) (.int j) (.dat d) :=
  ⟨_, ho, fun Hm H Q v u sm h1 h2 f => by cases h1; cases h2; exact ⟨i, j, rfl, rfl, h, f.flat sm (hd Hm)⟩⟩
theorem bin_i0 {op : Operator} {g : Int → Int → V} (ho : OpR X (binaryOp op) (rI0 g)) (hd : ∀ Hm, Dp X.K Hm (g i j) d) : Bin X op (.int i) (.int j) (.dat d) :=
  ⟨_, ho, fun Hm H Q v u sm h1 h2 f => by cases h1; cases h2; exact ⟨i, j, rfl, rfl, f.flat sm (hd Hm)⟩⟩
theorem bin_add : Bin X .Add (.int i) (.int j) (.dat (.int (i + j))) := bin_i0 op_add fun _ => .int _
theorem bin_sub : Bin X .Sub (.int i) (.int j) (.dat (.int (i - j))) := bin_i0 op_sub fun _ => .int _
theorem bin_mul (h : CMul i j) : Bin X .Mult (.int i) (.int j) (.dat (.int (i * j))) := bin_i op_mul h fun _ => .int _
theorem bin_div (h : CDiv i j) : Bin X .FloorDiv (.int i) (.int j) (.dat (.int (i / j))) := bin_i op_fdiv h fun _ => .int _
theorem bin_mod (h : 0 < j) : Bin X .Mod (.int i) (.int j) (.dat (.int (i % j))) := bin_i op_mod h fun _ => .int _
theorem bin_catT {xs ys : List PyData} (hx : xs ≠ []) (h : xs.length + ys.length ≤ sizeLine) : Bin X .Add (.tuple xs) (.tuple ys) (.dat (.tuple (xs ++ ys))) :=
  ⟨_, op_catT, fun Hm H Q v u sm h1 h2 f => by
    cases h1 with
    | @tup a vs _ p1 q1 =>
      cases h2 with
      | @tup b us _ p2 q2 =>
        refine ⟨a, b, vs, us, rfl, rfl, sm.tup p1, sm.tup p2, ?_, ?_, fun z => ?_, fun z p hp => f.tup sm (q1.app q2) hp⟩
        · rintro rfl
          cases q1
          exact hx rfl
        · rw [q1.lenE, q2.lenE]
          exact h
        · subst z
          cases q2
          rw [List.append_nil] at f
          exact f.flat sm (.tup p1 q1)⟩
theorem ev_neg (h : EV X ρ a (.dat (.int i)) ρ1) : EV X ρ (.UnaryOp .USub a pos) (.dat (.int (-i))) ρ1 := by
  refine ⟨(pe_un un_neg h.pe).mono fun σ H Q ⟨F, τ, R, q⟩ => ⟨F, τ, R, fun v H1 R1 => ?_⟩⟩
  obtain ⟨Hm, h1, h2, h3⟩ := R1.one
  cases h2
  exact ⟨i, rfl, (h3 _ Q q).flat h1 (.int _)⟩
theorem cmp_i {op : CmpOp} {k : Bool} {g : Int → Int → V} (ho : OpR X (compareOp op) (rI0 g)) (e : g i j = .bl k) : Cmp X op (.int i) (.int j) k :=
  ⟨_, ho, fun Hm H Q v u sm h1 h2 q => by cases h1; cases h2; exact ⟨i, j, rfl, rfl, by rw [e]; exact q⟩⟩
theorem cmp_lt : Cmp X .Lt (.int i) (.int j) (decide (i < j)) := cmp_i op_lt rfl
theorem cmp_le : Cmp X .LtE (.int i) (.int j) (decide (i ≤ j)) := cmp_i op_le rfl
theorem cmp_gt : Cmp X .Gt (.int i) (.int j) (decide (j < i)) := cmp_i op_gt rfl
theorem cmp_ge : Cmp X .GtE (.int i) (.int j) (decide (j ≤ i)) := cmp_i op_ge rfl
theorem cmp_ne : Cmp X .NotEq (.int i) (.int j) (!decide (i = j)) :=
  ⟨_, op_ne, fun Hm H Q v u sm h1 h2 q => by cases h1; cases h2; exact ⟨rfl, by simpa using q⟩⟩
theorem cmp_neb {x y : Bool} : Cmp X .NotEq (.bool x) (.bool y) (!decide (x = y)) :=
  ⟨_, op_ne, fun Hm H Q v u sm h1 h2 q => by cases h1; cases h2; exact ⟨rfl, by simpa using q⟩⟩
theorem cmp_eqD (hu : X.A.units + 64 < cLine) (h1 : SeqAt.shaped d1 = true) (h2 : SeqAt.shaped d2 = true) : Cmp X .Eq d1 d2 (PyData.eqv d1 d2) :=
  ⟨_, op_eqD hu, fun Hm H Q v u sm p1 p2 q => ⟨d1, d2, p1.up sm, p2.up sm, h1, h2, q⟩⟩
theorem cmp_neD (hu : X.A.units + 64 < cLine) (h1 : SeqAt.shaped d1 = true) (h2 : SeqAt.shaped d2 = true) : Cmp X .NotEq d1 d2 (!PyData.eqv d1 d2) :=
  ⟨_, op_neD hu, fun Hm H Q v u sm p1 p2 q => ⟨d1, d2, p1.up sm, p2.up sm, h1, h2, q⟩⟩
def isNon : PyData → Bool
  | .none => true
  | _ => false
theorem Dp.isNon {K : PySem.W.Frag} {H : Hp} {v : V} {d : PyData} (h : Dp K H v d) : decide (v = .non) = L2.isNon d := by cases h <;> rfl
theorem cmp_isN : Cmp X .Is d .none (isNon d) := ⟨_, op_isN, fun Hm H Q v u sm p1 p2 q => by cases p2; exact ⟨rfl, by rw [p1.isNon]; exact q⟩⟩
theorem ev_tup {k : Nat} (h : EA X ρ es ds ρ1) (hz : ds.length ≤ sizeLine) : EV X ρ (.Tuple es k pos) (.dat (.tuple ds)) ρ1 := by
  refine ⟨(pe_tup h.pa).mono fun σ H Q ⟨F, τ, R, q⟩ => ⟨F, τ, R, fun vs H1 hl R1 => ⟨by rw [hl]; exact hz, fun p hp => ?_⟩⟩⟩
  obtain ⟨Hm, h1, h2, h3⟩ := R1.open hl
  exact (h3 _ Q q).tup h1 h2 hp
theorem ev_lst (h : EA X ρ es ds ρ1) (hz : ds.length ≤ sizeLine) : EV X ρ (.List es pos) (.lst ds) ρ1 := by
  refine ⟨(pe_lst h.pa).mono fun σ H Q ⟨F, τ, R, q⟩ => ⟨F, τ, R, fun vs H1 hl R1 => ⟨by rw [hl]; exact hz, fun p hp => ?_⟩⟩⟩
  obtain ⟨Hm, h1, h2, h3⟩ := R1.open hl
  exact (h3 _ Q q).lst h1 h2 hp
theorem Rel.frz {K : PySem.W.Frag} {F : Fr} {σ : St} {τ : Sls} {H : Hp} {o : Option V} (R : Rel K F ρ σ (τ ++ [(o, .lst ds)]) H) : Rel K F ρ σ (τ ++ [(o, .dat (.list ds))]) H := by
  obtain ⟨hz, Hm, fps, M⟩ := R
  rw [← List.append_assoc] at M
  generalize hL : σ.zip ρ ++ τ = L at M
  have hi : (L ++ [(o, .lst ds)])[L.length]? = some (o, Ow.lst ds) := by simp
  obtain ⟨a, vs, rfl, ef, ha, hd⟩ := (M.ok _ _ _ hi).lst_inv
  have hm : a ∈ fps L.length := by rw [ef]; simp
  have hlt : L.length < (L ++ [((some (.ref a) : Option V), Ow.lst ds)]).length := by simp
  obtain ⟨o1, o2, o3⟩ := M.own _ hlt a hm
  have s1 : Same Hm (upd Hm a (.lst vs)) := Same.upd o2
  refine ⟨hz, upd Hm a (.lst vs), fun i => if i = L.length then [] else fps i, ?_⟩
  rw [← List.append_assoc, hL]
  refine ⟨fun b u q => ?_, M.ent, M.old.trans s1, fun b q => ?_, fun i o' s' q => ?_, fun i hlt b hb => ?_, fun i j h1 h2 n b hb => ?_⟩
  · by_cases e : b = a
    · subst e; rw [upd_same] at q; cases q; exact ha
    · rw [upd_ne e] at q; exact M.sub _ _ q
  · by_cases e : b = a
    · subst e; rcases o1 with z | z
      · exact .inr (.inl z)
      · exact .inr (.inr z)
    · rw [upd_ne e] at q; exact M.new _ q
  · by_cases e : i = L.length
    · subst e
      simp at q
      obtain ⟨rfl, rfl⟩ := q
      simp only [if_true]
      exact .dat (.lst (SqL.of upd_same) (hd.up s1))
    · simp only [e, if_false]
      have hlt2 : i < L.length := by
        have := (List.getElem?_eq_some_iff.mp q).1
        simp at this
        omega
      rw [List.getElem?_append_left hlt2] at q
      exact (M.ok i o' s' (by rw [List.getElem?_append_left hlt2]; exact q)).up s1 fun _ _ _ z => z
  · by_cases e : i = L.length
    · simp only [e, if_true] at hb
      cases hb
    · simp only [e, if_false] at hb
      have hl2 : i < L.length := by simp at hlt; omega
      obtain ⟨q1, q2, q3⟩ := M.own i (by simp; omega) b hb
      refine ⟨q1, ?_, q3⟩
      rw [upd_ne (fun z => ?_)]
      · exact q2
      · subst z
        exact M.dis i L.length (by simp; omega) (by simp) e _ hb hm
  · simp at h1 h2
    by_cases e1 : i = L.length
    · simp only [e1, if_true] at hb
      cases hb
    · simp only [e1, if_false] at hb
      by_cases e2 : j = L.length
      · simp only [e2, if_true]
        simp
      · simp only [e2, if_false]
        exact M.dis i j (by simp; omega) (by simp; omega) n b hb
theorem EV.frz (h : EV X ρ e (.lst ds) ρ1) : EV X ρ e (.dat (.list ds)) ρ1 := ⟨h.pe.mono fun σ H Q ⟨F, τ, R, q⟩ => ⟨F, τ, R, fun v H1 R1 => q v H1 R1.frz⟩⟩
theorem Dp.atIL {K : PySem.W.Frag} {H : Hp} {vs : List V} {ds : List PyData} {i : Int} {d : PyData} (h : DpAll K H vs ds) (e : atI ds i = some d) : ∃ v, atI vs i = some v ∧ Dp K H v d := by
  unfold atI at e ⊢
  rw [h.lenE]
  cases q : ixN ds.length i with
  | none => rw [q] at e; cases e
  | some j =>
    rw [q] at e
    exact h.at_ e
theorem ev_ixT {xs : List PyData} (ha : EV X ρ a (.dat (.tuple xs)) ρ1) (hb : EV X ρ1 b (.dat (.int i)) ρ2) (h : atI xs i = some d) (hp : PlainIx b := by intro _ _; rfl) : EV X ρ (.Subscript a b pos) (.dat d) ρ2 := by
  refine ⟨(pe_ix ix_tup ha.pe hb.pe hp).mono fun σ H Q ⟨F, τ, R, q⟩ => ⟨F, τ, R, fun v H1 R1 => ⟨F, _, R1, fun u H2 R2 => ?_⟩⟩⟩
  obtain ⟨Hm, h1, h2, h3, h4⟩ := R2.two
  cases h3
  cases h2 with
  | @tup t vs _ p1 p2 =>
    obtain ⟨w, e, hd⟩ := Dp.atIL p2 h
    exact ⟨t, vs, i, w, rfl, rfl, h1.tup p1, e, (h4 _ Q q).flat h1 hd⟩
theorem ev_ixL {xs : List PyData} (ha : EV X ρ a (.dat (.list xs)) ρ1) (hb : EV X ρ1 b (.dat (.int i)) ρ2) (h : atI xs i = some d) (hp : PlainIx b := by intro _ _; rfl) : EV X ρ (.Subscript a b pos) (.dat d) ρ2 := by
  refine ⟨(pe_ix ix_list ha.pe hb.pe hp).mono fun σ H Q ⟨F, τ, R, q⟩ => ⟨F, τ, R, fun v H1 R1 => ⟨F, _, R1, fun u H2 R2 => ?_⟩⟩⟩
  obtain ⟨Hm, h1, h2, h3, h4⟩ := R2.two
  cases h3
  cases h2 with
  | @lst t vs _ p1 p2 =>
    obtain ⟨w, e, hd⟩ := Dp.atIL p2 h
    exact ⟨t, vs, i, w, rfl, rfl, h1.seq p1, e, (h4 _ Q q).flat h1 hd⟩
structure EO (X : Cx) (ρ : List Ow) (e : Option Expr) (o : Option Int) : Prop where
  po : PO X e (fun σ H Q => ∃ F τ, Rel X.K F ρ σ τ H ∧ ∀ H', Rel X.K F ρ σ τ H' → Q o H')
theorem eo_no : EO X ρ none none := ⟨fun pins s σ H Q I ⟨F, τ, R, q⟩ => po_none pins s σ H Q I (q H R)⟩
theorem eo_some (h : EV X ρ e (.dat (.int i)) ρ) : EO X ρ (some e) (some i) := ⟨fun pins s σ H Q I ⟨F, τ, R, q⟩ => po_some h.pe pins s σ H Q I ⟨F, τ, R, fun v H1 R1 => by
  obtain ⟨Hm, h1, h2, h3⟩ := R1.one
  cases h2
  exact ⟨i, rfl, q H1 R1.drop⟩⟩⟩
def cutD {α : Type} (xs : List α) (lo hi : Option Int) : List α := (xs.drop (HT.sIx xs.length 0 lo)).take (HT.sIx xs.length xs.length hi - HT.sIx xs.length 0 lo)
theorem DpAll.cut {K : PySem.W.Frag} {H : Hp} {vs : List V} {ds : List PyData} (h : DpAll K H vs ds) (lo hi : Option Int) : DpAll K H (cutV vs lo hi) (cutD ds lo hi) := by
  unfold cutV cutD
  rw [h.lenE]
  exact (h.drop _).take _
theorem ev_slT {xs : List PyData} {lo hi : Option Expr} {ol oh : Option Int} {p2 : Pos} (ha : EV X ρ a (.dat (.tuple xs)) ρ) (hl : EO X ρ lo ol) (hh : EO X ρ hi oh) : EV X ρ (.Subscript a (.Slice lo hi none p2) pos) (.dat (.tuple (cutD xs ol oh))) ρ := by
  refine ⟨(pe_slice sl_tupW ha.pe hl.po hh.po).mono fun σ H Q ⟨F, τ, R, q⟩ => ⟨F, τ, R, fun v H1 R1 => ⟨F, _, R1, fun H2 R2 => ⟨F, _, R2, fun H3 R3 => ?_⟩⟩⟩⟩
  obtain ⟨Hm, h1, h2, h3⟩ := R3.one
  cases h2 with
  | @tup t vs _ p1 p2 =>
    refine ⟨t, vs, rfl, h1.tup p1, fun z => ?_, fun p hp => (h3 _ Q q).tup h1 (p2.cut ol oh) hp⟩
    refine (h3 _ Q q).flat h1 (.tup p1 ?_)
    have := p2.cut ol oh
    rw [z] at this
    exact this
theorem cutD_from {α : Type} (xs : List α) (k : Nat) : cutD xs (some (k : Int)) none = xs.drop k := by
  unfold cutD
  rw [HT.sIx_nat, HT.sIx_none]
  by_cases h : k ≤ xs.length
  · rw [Nat.min_eq_left h]
    exact List.take_of_length_le (by rw [List.length_drop]; omega)
  · rw [Nat.min_eq_right (by omega), List.drop_of_length_le (Nat.le_refl _), List.drop_of_length_le (by omega)]
    simp
structure Fn (X : Cx) (f : Value) (ds : List PyData) (s : Ow) : Prop where
  ex : ∃ r, CallR X f r ∧ ∀ Hm H Q vs, Same Hm H → DpAll X.K Hm vs ds → Fin X.K s Hm H Q → r vs H Q
theorem ev_callB {x : Str} {id : String} {p : Pos} (o : Fn X (.builtin id) ds s) (hm : X.mg x = none) (ha : EA X ρ (e :: es) ds ρ1) (hv : bootBuiltins x = some (.builtin id) := by decide +kernel) (hg : Gl X x := by rfl) (hn : x ≠ "__name__" := by decide) (hdb : (x == ("__debug__" : Str)) = false := by decide)
    (hst : starEach (e :: es) X.env = (false, eval e X.env) :: starEach es X.env := by rfl) (hpl : (backTo pos (starEach es X.env)).any (·.1) = false := by rfl) : EV X ρ (.Call (.Name x p) (e :: es) [] pos) s ρ1 := by
  obtain ⟨r, hc, hr⟩ := o.ex
  refine ⟨(pe_callB hc hg hm hv ha.pa hn hdb hst hpl).mono fun σ H Q ⟨F, τ, R, q⟩ => ⟨F, τ, R, fun vs H1 hl R1 => ?_⟩⟩
  obtain ⟨Hm, h1, h2, h3⟩ := R1.open hl
  exact hr Hm H1 Q vs h1 h2 (h3 s Q q)
theorem ev_callTy {x : Str} {id : String} {p : Pos} (o : Fn X (.type id) ds s) (hm : X.mg x = none) (ha : EA X ρ (e :: es) ds ρ1) (hv : bootBuiltins x = some (.type id) := by decide +kernel) (hg : Gl X x := by rfl) (hn : x ≠ "__name__" := by decide) (hdb : (x == ("__debug__" : Str)) = false := by decide)
    (hst : starEach (e :: es) X.env = (false, eval e X.env) :: starEach es X.env := by rfl) (hpl : (backTo pos (starEach es X.env)).any (·.1) = false := by rfl) : EV X ρ (.Call (.Name x p) (e :: es) [] pos) s ρ1 := by
  obtain ⟨r, hc, hr⟩ := o.ex
  refine ⟨(pe_callTy hc hg hm hv ha.pa hn hdb hst hpl).mono fun σ H Q ⟨F, τ, R, q⟩ => ⟨F, τ, R, fun vs H1 hl R1 => ?_⟩⟩
  obtain ⟨Hm, h1, h2, h3⟩ := R1.open hl
  exact hr Hm H1 Q vs h1 h2 (h3 s Q q)
theorem fn_lenT {xs : List PyData} : Fn X (.builtin "len") [.tuple xs] (.dat (.int xs.length)) := ⟨_, call_len_seq, fun Hm H Q vs sm h f => by
  obtain ⟨v, rfl, hv⟩ := h.one
  cases hv with
  | @tup t us _ p1 p2 =>
    refine ⟨t, us, rfl, .inr (sm.tup p1), ?_⟩
    rw [p2.lenE]
    exact f.flat sm (.int _)⟩
theorem fn_lenL {xs : List PyData} : Fn X (.builtin "len") [.list xs] (.dat (.int xs.length)) := ⟨_, call_len_seq, fun Hm H Q vs sm h f => by
  obtain ⟨v, rfl, hv⟩ := h.one
  cases hv with
  | @lst t us _ p1 p2 =>
    refine ⟨t, us, rfl, .inl (sm.seq p1), ?_⟩
    rw [p2.lenE]
    exact f.flat sm (.int _)⟩
theorem fn_tupL {xs : List PyData} : Fn X (.type "tuple") [.list xs] (.dat (.tuple xs)) := ⟨_, call_tuple_of, fun Hm H Q vs sm h f => by
  obtain ⟨v, rfl, hv⟩ := h.one
  cases hv with
  | @lst t us _ p1 p2 => exact ⟨t, us, rfl, .inl ⟨sm.seq p1, fun l hl => f.tup sm p2 hl⟩⟩⟩
theorem fn_listT {xs : List PyData} : Fn X (.type "list") [.tuple xs] (.lst xs) := ⟨_, call_list_of, fun Hm H Q vs sm h f => by
  obtain ⟨v, rfl, hv⟩ := h.one
  cases hv with
  | @tup t us _ p1 p2 => exact ⟨t, us, rfl, .inr (sm.tup p1), fun l hl => f.lst sm p2 hl⟩⟩
theorem fn_all {bs : List Bool} (hc : X.calm = true := by rfl) : Fn X (.builtin "all") [.list (bs.map .bool)] (.dat (.bool (bs.all id))) := ⟨_, cr_all hc, fun Hm H Q vs sm h f => by
  obtain ⟨v, rfl, hv⟩ := h.one
  cases hv with
  | @lst t us _ p1 p2 =>
    rw [p2.bls_inv] at p1
    exact ⟨t, bs, rfl, sm.seq p1, f.flat sm (.bl _)⟩⟩
theorem fn_sumL {ns : List Int} (hc : X.calm = true := by rfl) : Fn X (.builtin "sum") [.list (ns.map .int)] (.dat (.int ns.sum)) := ⟨_, cr_sum hc, fun Hm H Q vs sm h f => by
  obtain ⟨v, rfl, hv⟩ := h.one
  cases hv with
  | @lst t us _ p1 p2 =>
    rw [p2.ints_inv] at p1
    exact ⟨t, ns, rfl, sm.seq p1, f.flat sm (.int _)⟩⟩
theorem ev_isD {T : Str} {c : String} {p p2 : Pos} (hm : X.mg "isinstance" = none) (hT : X.mg T = none) (he : EV X ρ e (.dat d) ρ1) (hk : okC c = true := by rfl) (hb : bootBuiltins T = some (.type c) := by decide +kernel) (hgT : Gl X T := by rfl)
    (hg : Gl X "isinstance" := by rfl) (hn : T ≠ "__name__" := by decide) (hdb : (T == ("__debug__" : Str)) = false := by decide)
    (hst : starEach [e, .Name T p2] X.env = (false, eval e X.env) :: starEach [.Name T p2] X.env := by rfl) (hst2 : starEach [.Name T p2] X.env = (false, eval (.Name T p2) X.env) :: starEach [] X.env := by rfl)
    (hpl : (backTo pos (starEach [.Name T p2] X.env)).any (·.1) = false := by rfl) :
    EV X ρ (.Call (.Name "isinstance" p) [e, .Name T p2] [] pos) (.dat (.bool (isD d c))) ρ1 := by
  refine ⟨(pe_isD hm hT he.pe hb hgT hg hn hdb hst hst2 hpl).mono fun σ H Q ⟨F, τ, R, q⟩ => ⟨F, τ, R, fun v H1 R1 => ?_⟩⟩
  obtain ⟨Hm, h1, h2, h3⟩ := R1.one
  exact ⟨v, c, d, rfl, h2.up h1, hk, (h3 _ Q q).flat h1 (.bl _)⟩
end
end L2
namespace L2
open PySem PySem.Spec PyProof.Rows
section
variable {K : PySem.W.Frag} {F : Fr} {ρ ρ' : List Ow} {σ : St} {τ : Sls} {H : Hp}
theorem Rel.store {i j : Nat} {v : V} {s : Ow} (R : Rel K F ρ σ τ H) (hj : τ[j]? = some (some v, s)) : Rel K F (ρ.set i s) (σ.set i (some v)) (τ.eraseIdx j) H := by
  obtain ⟨hl, Hm, fps, M⟩ := R
  refine ⟨by simp [hl], Hm, _, M.pick (fun k => if k < ρ.length then (if k = i then ρ.length + j else k) else (if k - ρ.length < j then k else k + 1)) (fun k x q => ?_) fun k m hk hm n => ?_⟩
  · have hz : (σ.zip ρ).length = ρ.length := by simp [hl]
    have hz2 : ((σ.set i (some v)).zip (ρ.set i s)).length = ρ.length := by simp [hl]
    by_cases h : k < ρ.length
    · simp only [h, if_true]
      rw [List.getElem?_append_left (by omega)] at q
      rw [List.getElem?_zip_eq_some] at q
      by_cases e : k = i
      · subst e
        simp only [if_true]
        rw [List.getElem?_append_right (by omega), hz, Nat.add_sub_cancel_left, hj]
        obtain ⟨q1, q2⟩ := q
        rw [List.getElem?_set_self (by omega)] at q1 q2
        cases x
        simp at q1 q2
        rw [q1, q2]
      · simp only [e, if_false]
        rw [List.getElem?_append_left (by omega), List.getElem?_zip_eq_some]
        obtain ⟨q1, q2⟩ := q
        rw [List.getElem?_set_ne (Ne.symm e)] at q1 q2
        exact ⟨q1, q2⟩
    · simp only [h, if_false]
      rw [List.getElem?_append_right (by omega), hz2, List.getElem?_eraseIdx] at q
      by_cases e : k - ρ.length < j
      · simp only [e, if_true] at q ⊢
        rw [List.getElem?_append_right (by omega), hz]
        exact q
      · simp only [e, if_false] at q ⊢
        rw [List.getElem?_append_right (by omega), hz, Nat.sub_add_comm (by omega)]
        exact q
  · have hj' : j < τ.length := (List.getElem?_eq_some_iff.mp hj).1
    by_cases h1 : k < ρ.length <;> by_cases h2 : m < ρ.length <;> simp only [h1, h2, if_true, if_false] <;> (repeat' split) <;> omega
theorem Rel.store1 {i : Nat} {v : V} {s : Ow} (R : Rel K F ρ σ (τ ++ [(some v, s)]) H) : Rel K F (ρ.set i s) (σ.set i (some v)) τ H := by
  have := R.store (i := i) (j := τ.length) (v := v) (s := s) (by simp)
  rwa [List.eraseIdx_append_of_length_le (Nat.le_refl _), Nat.sub_self, show ([((some v : Option V), s)]).eraseIdx 0 = [] from rfl, List.append_nil] at this
theorem Mem.front {L L1 : Sls} {Hm : Hp} {fps : Nat → List Addr} (M : Mem K F L Hm H fps) (h : ∀ (i : Nat) (o : Option V) (s : Ow), L1[i]? = some (o, s) → OwAt K Hm H s o []) : Mem K F (L1 ++ L) Hm H (fun i => if i < L1.length then [] else fps (i - L1.length)) where
  sub := M.sub
  ent := M.ent
  old := M.old
  new := M.new
  ok := fun i o s q => by
    by_cases z : i < L1.length
    · simp only [z, if_true]
      rw [List.getElem?_append_left z] at q
      exact h i o s q
    · simp only [z, if_false]
      rw [List.getElem?_append_right (by omega)] at q
      exact M.ok _ _ _ q
  own := fun i hi a m => by
    by_cases z : i < L1.length
    · simp only [z, if_true] at m
      cases m
    · simp only [z, if_false] at m
      exact M.own _ (by simp at hi; omega) a m
  dis := fun i j hi hj n a m => by
    by_cases z : i < L1.length
    · simp only [z, if_true] at m
      cases m
    · simp only [z, if_false] at m
      by_cases z2 : j < L1.length
      · simp only [z2, if_true]
        simp
      · simp only [z2, if_false]
        exact M.dis _ _ (by simp at hi; omega) (by simp at hj; omega) (by omega) a m
theorem Mem.setLst {L : Sls} {Hm : Hp} {fps : Nat → List Addr} {j : Nat} {a : Addr} {ds ds' : List PyData} {vs' : List V} (M : Mem K F L Hm H fps) (hj : L[j]? = some (some (.ref a), .lst ds)) (hd : DpAll K Hm vs' ds') : Mem K F (L.set j (some (.ref a), .lst ds')) Hm (upd H a (.lst vs')) fps := by
  obtain ⟨b, vs, e, ef, hb, hds⟩ := (M.ok _ _ _ hj).lst_inv
  cases e
  have hlt := (List.getElem?_eq_some_iff.mp hj).1
  have ha : a ∈ fps j := by rw [ef]; simp
  obtain ⟨o1, o2, o3⟩ := M.own j hlt a ha
  refine ⟨fun c u q => ?_, fun c u q z => ?_, M.old, M.new, fun i o s q => ?_, fun i hi c m => ?_, fun i k hi hk n c m => M.dis i k (by simpa using hi) (by simpa using hk) n c m⟩
  · rw [upd_ne (fun z => by rw [z, o2] at q; cases q)]
    exact M.sub _ _ q
  · by_cases e : c = a
    · subst e
      rcases o1 with y | y
      · rw [y] at q; cases q
      · exact absurd y z
    · rw [upd_ne e]
      exact M.ent c u q z
  · by_cases e : i = j
    · subst e
      rw [List.getElem?_set_self hlt] at q
      cases q
      rw [ef]
      exact .lst upd_same hd
    · rw [List.getElem?_set_ne (Ne.symm e)] at q
      refine (M.ok i o s q).up (Same.refl _) fun c m u g => ?_
      rw [upd_ne (fun z => ?_)]
      · exact g
      · subst z
        exact M.dis i j (List.getElem?_eq_some_iff.mp q).1 hlt e _ m ha
  · obtain ⟨q1, q2, q3⟩ := M.own i (by simpa using hi) c m
    refine ⟨q1, q2, ?_⟩
    by_cases e : c = a
    · subst e; rw [upd_same]; simp
    · rw [upd_ne e]; exact q3
end
theorem Mem.dats {K : PySem.W.Frag} {F : Fr} {Hm H : Hp} : ∀ {us : List V} {ds : List PyData} {L : Sls} {fps : Nat → List Addr}, DpAll K Hm us ds → Mem K F L Hm H fps → ∃ fps', Mem K F (L ++ (us.map some).zip (ds.map Ow.dat)) Hm H fps'
  | _, _, L, fps, .nil, M => ⟨fps, by simpa using M⟩
  | _, _, L, fps, .cons h1 h2, M => by
    obtain ⟨fps', M'⟩ := Mem.dats h2 (M.dat h1)
    refine ⟨fps', ?_⟩
    rw [List.append_assoc] at M'
    exact M'
def tTg (K : PySem.W.Frag) (d : PyData) (ρ ρ' : List Ow) (vs : List Nat) : TG := fun v σ H Q => ∃ F τ, Rel K F ρ σ (τ ++ [(some v, .dat d)]) H ∧ ∀ σ' H', Rel K F ρ' σ' τ H' → (∀ j, ¬ j ∈ vs → σ'[j]? = σ[j]?) → σ'.length = σ.length → Q σ' H'
def tTgs (K : PySem.W.Frag) (ds : List PyData) (ρ ρ' : List Ow) (vs : List Nat) : TGs := fun us σ H Q => ∃ F τ, us.length = ds.length ∧ Rel K F ρ σ (τ ++ (us.map some).zip (ds.map Ow.dat)) H ∧ ∀ σ' H', Rel K F ρ' σ' τ H' → (∀ j, ¬ j ∈ vs → σ'[j]? = σ[j]?) → σ'.length = σ.length → Q σ' H'
structure GT (X : Cx) (ρ : List Ow) (tg : Expr) (d : PyData) (ρ' : List Ow) (vs : List Nat) : Prop where
  pg : PG X tg (tTg X.K d ρ ρ' vs)
structure GTs (X : Cx) (ρ : List Ow) (tg : List Expr) (ds : List PyData) (ρ' : List Ow) (vs : List Nat) : Prop where
  pg : PGs X tg (tTgs X.K ds ρ ρ' vs)
theorem PG.mono {X : Cx} {e : Expr} {t t' : TG} (h : PG X e t) (k : ∀ v σ H Q, t' v σ H Q → t v σ H Q) : PG X e t' := fun pins s σ H v u Q I r q => h pins s σ H v u Q I r (k v σ H Q q)
theorem PGs.mono {X : Cx} {e : List Expr} {t t' : TGs} (h : PGs X e t) (k : ∀ v σ H Q, t' v σ H Q → t v σ H Q) : PGs X e t' := fun pins s σ H v u Q I r q => h pins s σ H v u Q I r (k v σ H Q q)
section
variable {X : Cx} {ρ ρ1 ρ2 ρ3 : List Ow} {a b c e tg : Expr} {es : List Expr} {pos : Pos} {s s1 s2 s3 : Ow} {d d1 d2 d3 : PyData} {ds : List PyData} {i j : Int} {vs : List Nat}
theorem gt_name (i : Nat) {x : Str} (hN : X.N.Nodup) (hi : X.N[i]? = some x := by rfl) (hx : Loc X.env.scope x := by first | exact Or.inl rfl | exact Or.inr rfl) (hf : X.fn x = true ∨ X.env.scope.names.lookup x = some .local := by first | exact .inl rfl | exact .inr rfl | assumption) : GT X ρ (.Name x pos) d (ρ.set i (.dat d)) [i] :=
  ⟨(pg_name hN hi hx hf).mono fun v σ H Q ⟨F, τ, R, q⟩ => q _ _ R.store1 (fun j hj => by
    rw [List.getElem?_set_ne (fun z => hj (by simp [z]))]) (List.length_set ..)⟩
theorem gts_nil : GTs X ρ [] [] ρ [] := ⟨pgs_nil.mono fun us σ H Q ⟨F, τ, hl, R, q⟩ => by
  cases us with
  | nil => exact ⟨rfl, q σ H (by simpa using R) (fun _ _ => rfl) rfl⟩
  | cons _ _ => simp at hl⟩
theorem gts_cons {vs2 : List Nat} (h1 : GT X ρ e d ρ1 vs) (h2 : GTs X ρ1 es ds ρ2 vs2) (hs : (assignEach (e :: es) X.env).map (·.2) = assign e X.env :: (assignEach es X.env).map (·.2) := by rfl) : GTs X ρ (e :: es) (d :: ds) ρ2 (vs ++ vs2) := by
  refine ⟨(pgs_cons h1.pg h2.pg hs).mono fun us σ H Q ⟨F, τ, hl, R, q⟩ => ?_⟩
  cases us with
  | nil => simp at hl
  | cons u us =>
    refine ⟨u, us, rfl, F, τ ++ (us.map some).zip (ds.map Ow.dat), R.swap (fun i => if i < τ.length then i else if i < τ.length + us.length then i + 1 else τ.length) (fun i x q => ?_) (fun i j hi hj n => ?_), fun σ' H' R' k kl => ⟨F, τ, by simpa using hl, R', fun σ2 H2 R2 k2 kl2 => q σ2 H2 R2 (fun j hj => ?_) (kl2.trans kl)⟩⟩
    · have hz : ((us.map some).zip (ds.map Ow.dat)).length = us.length := by simp at hl ⊢; omega
      by_cases z : i < τ.length
      · simp only [z, if_true]
        rw [List.append_assoc, List.getElem?_append_left z] at q
        rw [List.getElem?_append_left z]
        exact q
      · simp only [z, if_false]
        rw [List.append_assoc, List.getElem?_append_right (by omega)] at q
        by_cases z2 : i < τ.length + us.length
        · simp only [z2, if_true]
          rw [List.getElem?_append_left (by omega)] at q
          rw [List.getElem?_append_right (by omega), Nat.sub_add_comm (by omega)]
          simpa using q
        · simp only [z2, if_false]
          rw [List.getElem?_append_right (by omega), hz] at q
          have e0 : i - τ.length - us.length = 0 := by
            have := (List.getElem?_eq_some_iff.mp q).1
            simp at this
            omega
          rw [e0] at q
          rw [List.getElem?_append_right (Nat.le_refl _), Nat.sub_self]
          simpa using q
    · simp at hi hj hl
      (repeat' split) <;> omega
    · rw [k2 j (fun z => hj (List.mem_append.mpr (.inr z))), k j (fun z => hj (List.mem_append.mpr (.inl z)))]
theorem gt_tup {k n : Nat} (hc : X.calm = true) (h : GTs X ρ es ds ρ1 vs) (hd : ds.length = n := by rfl) (hn : (assignEach es X.env).length = n := by rfl) (hst : (assignEach es X.env).findIdx? (·.1) = none := by rfl) : GT X ρ (.Tuple es k pos) (.tuple ds) ρ1 vs := by
  refine ⟨(pg_tup hc h.pg hn hst).mono fun v σ H Q ⟨F, τ, R, q⟩ => ?_⟩
  obtain ⟨hl, Hm, fps, M⟩ := id R
  rw [← List.append_assoc] at M
  have hi : (σ.zip ρ ++ τ ++ [(some v, Ow.dat (.tuple ds))])[(σ.zip ρ ++ τ).length]? = some (some v, .dat (.tuple ds)) := by simp
  obtain ⟨v', e, hv⟩ := (M.ok _ _ _ hi).dat_inv
  cases e
  cases hv with
  | @tup t us _ p1 p2 =>
    refine ⟨t, us, rfl, M.sub.tup p1, by rw [p2.lenE]; exact hd, F, τ, p2.lenE, ⟨hl, Hm, ?_⟩, q⟩
    have M0 : Mem X.K F (σ.zip ρ ++ τ) Hm H fps := M.pick id (fun i x h => by
      have := (List.getElem?_eq_some_iff.mp h).1
      show ((σ.zip ρ ++ τ) ++ _)[i]? = _
      rw [List.getElem?_append_left this]
      exact h) fun i j _ _ n => n
    obtain ⟨fps', M'⟩ := Mem.dats p2 M0
    exact ⟨fps', by rw [← List.append_assoc]; exact M'⟩
end
end L2
namespace L2
open PySem PySem.Spec PyProof.Rows
def Walk (K : PySem.W.Frag) (J : It) (ds : List PyData) (τ : Sls) : Prop := ∀ F L Hm H fps, Mem K F L Hm H fps → (∀ x ∈ τ, x ∈ L) →
  (∀ (i : Nat) (d : PyData), ds[i]? = some d → J.go i H ∧ ∀ x H', J.yld i H x H' → ∃ Hm', Same Hm Hm' ∧ Same Hm' H' ∧ Same H H' ∧ New Hm Hm' H ∧ Dp K Hm' x d) ∧ J.stop ds.length H
def tEi (K : PySem.W.Frag) (ρ : List Ow) (ds : List PyData) (ρ' : List Ow) : TI := fun σ H R => ∃ F τ, Rel K F ρ σ τ H ∧ ∀ J τ' H', Walk K J ds τ' → Rel K F ρ' σ (τ ++ τ') H' → R J H'
structure EI (X : Cx) (ρ : List Ow) (tg e : Expr) (ds : List PyData) (ρ' : List Ow) : Prop where
  pi : PI X tg e (tEi X.K ρ ds ρ')
theorem PI.mono {X : Cx} {tg e : Expr} {t t' : TI} (h : PI X tg e t) (k : ∀ σ H R, t' σ H R → t σ H R) : PI X tg e t' := fun pins s σ H R I q => h pins s σ H R I (k σ H R q)
theorem Mem.has {K : PySem.W.Frag} {F : Fr} {L : Sls} {Hm H : Hp} {fps : Nat → List Addr} {v : V} {d : PyData} (M : Mem K F L Hm H fps) (h : (some v, Ow.dat d) ∈ L) : Dp K Hm v d := by
  obtain ⟨i, hi⟩ := List.mem_iff_getElem?.mp h
  obtain ⟨u, e, q⟩ := (M.ok i _ _ hi).dat_inv
  cases e
  exact q
section
variable {X : Cx} {ρ ρ1 ρ2 ρ3 : List Ow} {a b c e tg : Expr} {es : List Expr} {pos : Pos} {s s1 s2 s3 : Ow} {d d1 d2 d3 : PyData} {ds : List PyData} {vs : List Nat}
theorem SqL.one {K : PySem.W.Frag} {H : Hp} {a : Addr} {xs ys : List V} {pins : List (Addr × Obj)} {σ : St} {s : Shared} (I : Inv X pins σ H s) (h1 : SqL X.K H a xs) (h2 : SqL X.K H a ys) : xs = ys := I.list_inj h1 h2
theorem ei_list (h : EV X ρ e (.dat (.list ds)) ρ1) : EI X ρ tg e ds ρ1 := by
  refine ⟨fun pins s σ H R I ⟨F, τ, Rr, q⟩ => pi_list h.pe pins s σ H R I ⟨F, τ, Rr, fun v H1 R1 => ?_⟩⟩
  obtain ⟨Hm, h1, h2, h3⟩ := R1.one
  cases h2 with
  | @lst t us _ p1 p2 =>
    refine ⟨t, rfl, ⟨us, h1.seq p1⟩, q _ _ H1 (fun F L Hm H fps M k => ?_) R1⟩
    cases M.has (k (some (.ref t), .dat (.list ds)) (by simp)) with
    | lst p1 p2 =>
      refine ⟨fun i d hi => ?_, ⟨_, M.sub.seq p1, by rw [p2.lenE]; exact Nat.le_refl _⟩⟩
      obtain ⟨v, hv, hd⟩ := p2.at_ hi
      refine ⟨⟨_, v, M.sub.seq p1, hv⟩, fun x H' ⟨e1, e2⟩ => ?_⟩
      subst e1
      have := e2 _ (M.sub.seq p1)
      rw [hv] at this
      cases this
      exact ⟨Hm, Same.refl _, M.sub, Same.refl _, New.refl, hd⟩
theorem ei_tup (h : EV X ρ e (.dat (.tuple ds)) ρ1) : EI X ρ tg e ds ρ1 := by
  refine ⟨fun pins s σ H R I ⟨F, τ, Rr, q⟩ => pi_tup h.pe pins s σ H R I ⟨F, τ, Rr, fun v H1 R1 => ?_⟩⟩
  obtain ⟨Hm, h1, h2, h3⟩ := R1.one
  cases h2 with
  | @tup t us _ p1 p2 =>
    refine ⟨t, rfl, ⟨us, h1.tup p1⟩, q _ _ H1 (fun F L Hm H fps M k => ?_) R1⟩
    cases M.has (k (some (.ref t), .dat (.tuple ds)) (by simp)) with
    | tup p1 p2 =>
      refine ⟨fun i d hi => ?_, ⟨_, M.sub.tup p1, by rw [p2.lenE]; exact Nat.le_refl _⟩⟩
      obtain ⟨v, hv, hd⟩ := p2.at_ hi
      refine ⟨⟨_, v, M.sub.tup p1, hv⟩, fun x H' ⟨e1, e2⟩ => ?_⟩
      subst e1
      have := e2 _ (M.sub.tup p1)
      rw [hv] at this
      cases this
      exact ⟨Hm, Same.refl _, M.sub, Same.refl _, New.refl, hd⟩
abbrev rngD (lo : Int) (n : Nat) : List PyData := (List.range n).map fun (k : Nat) => PyData.int (lo + (k : Int))
theorem rngD_len (lo : Int) (n : Nat) : (rngD lo n).length = n := by simp [rngD]
theorem rngD_at {lo : Int} {n i : Nat} {d : PyData} (h : (rngD lo n)[i]? = some d) : i < n ∧ d = .int (lo + i) := by
  have hi := (List.getElem?_eq_some_iff.mp h).1
  rw [rngD_len] at hi
  unfold rngD at h
  rw [List.getElem?_map, List.getElem?_range hi] at h
  cases h
  exact ⟨hi, rfl⟩
theorem walk_range (K : PySem.W.Frag) (lo : Int) (n : Nat) : Walk K (Itr lo n) (rngD lo n) [] := fun F L Hm H fps M k => by
  refine ⟨fun i d hi => ?_, by rw [rngD_len]; exact Nat.le_refl _⟩
  obtain ⟨h1, rfl⟩ := rngD_at hi
  refine ⟨h1, fun x H' ⟨e1, e2⟩ => ?_⟩
  subst e1
  subst e2
  exact ⟨Hm, Same.refl _, M.sub, Same.refl _, New.refl, .int _⟩
theorem ei_range1 {j : Int} {p : Pos} (hm : X.mg "range" = none) (h : EA X ρ [a] [.int j] ρ1) (h1 : -(2 ^ 62) ≤ j) (h2 : j < 2 ^ 62) (hg : Gl X "range" := by rfl) (hs : starEach [a] X.env = [(false, eval a X.env)] := by rfl) : EI X ρ tg (.Call (.Name "range" p) [a] [] pos) (rngD 0 j.toNat) ρ1 := by
  refine ⟨fun pins s σ H R I ⟨F, τ, Rr, q⟩ => pi_range1 hg hm h.pa hs pins s σ H R I ⟨F, τ, Rr, fun vs H1 hl R1 => ?_⟩⟩
  obtain ⟨Hm, h3, h4, h5⟩ := R1.open hl
  obtain ⟨v, rfl, hv⟩ := h4.one
  cases hv
  exact ⟨j, rfl, h1, h2, q _ [] H1 (walk_range X.K 0 _) (by rw [List.append_nil]; exact R1.drop)⟩
theorem ei_range2 {i j : Int} {p : Pos} (hm : X.mg "range" = none) (h : EA X ρ [a, b] [.int i, .int j] ρ1) (h0 : -(2 ^ 62) ≤ i ∧ i < 2 ^ 62 ∧ -(2 ^ 62) ≤ j ∧ j < 2 ^ 62) (hg : Gl X "range" := by rfl) (hs : starEach [a, b] X.env = [(false, eval a X.env), (false, eval b X.env)] := by rfl) (hs2 : starEach [b] X.env = [(false, eval b X.env)] := by rfl) :
    EI X ρ tg (.Call (.Name "range" p) [a, b] [] pos) (rngD i (j - i).toNat) ρ1 := by
  refine ⟨fun pins s σ H R I ⟨F, τ, Rr, q⟩ => pi_range2 hg hm h.pa hs hs2 pins s σ H R I ⟨F, τ, Rr, fun vs H1 hl R1 => ?_⟩⟩
  obtain ⟨Hm, h3, h4, h5⟩ := R1.open hl
  obtain ⟨v, u, rfl, hv, hu⟩ := h4.two
  cases hv
  cases hu
  exact ⟨i, j, rfl, h0, q _ [] H1 (walk_range X.K i _) (by rw [List.append_nil]; exact R1.drop)⟩
def zipD (xs ys : List PyData) : List PyData := (xs.zip ys).map fun p => .tuple [p.1, p.2]
theorem zipD_len (xs ys : List PyData) : (zipD xs ys).length = min xs.length ys.length := by simp [zipD]
theorem zipD_at {xs ys : List PyData} {i : Nat} {d : PyData} (h : (zipD xs ys)[i]? = some d) : ∃ x y, xs[i]? = some x ∧ ys[i]? = some y ∧ d = .tuple [x, y] := by
  unfold zipD at h
  rw [List.getElem?_map] at h
  obtain ⟨p, hp, rfl⟩ := Option.map_eq_some_iff.mp h
  obtain ⟨h1, h2⟩ := List.getElem?_zip_eq_some.mp hp
  exact ⟨_, _, h1, h2, rfl⟩
theorem Dp.pairNew {K : PySem.W.Frag} {Hm H : Hp} {T : Addr} {x y : V} {d e : PyData} (s : Same Hm H) (hT : H T = none) (h1 : Dp K Hm x d) (h2 : Dp K Hm y e) : ∃ Hm', Same Hm Hm' ∧ Same Hm' (upd H T (.tup [x, y])) ∧ Same H (upd H T (.tup [x, y])) ∧ New Hm Hm' H ∧ Dp K Hm' (.ref T) (.tuple [d, e]) :=
  have e1 : Same Hm (upd Hm T (.tup [x, y])) := Same.upd (s.free hT)
  ⟨_, e1, s.both, Same.upd hT, New.upd hT, .tup (SqT.of upd_same) (.cons (h1.up e1) (.cons (h2.up e1) .nil))⟩
theorem ei_zipT {xs ys : List PyData} {p tpos : Pos} {elts : List Expr} {kk : Nat} (hm : X.mg "zip" = none) (h : EA X ρ [a, b] [.tuple xs, .tuple ys] ρ1) (hg : Gl X "zip" := by rfl)
    (hs : starEach [a, b] X.env = (false, eval a X.env) :: starEach [b] X.env := by rfl) (hpl : (backTo pos (starEach [b] X.env)).any (·.1) = false := by rfl) : EI X ρ (.Tuple elts kk tpos) (.Call (.Name "zip" p) [a, b] [] pos) (zipD xs ys) ρ1 := by
  refine ⟨fun pins s σ H R I ⟨F, τ, Rr, q⟩ => pi_zipT hm h.pa hg hs hpl pins s σ H R I ⟨F, τ, Rr, fun vs H1 hl R1 => ?_⟩⟩
  obtain ⟨Hm, h3, h4, h5⟩ := R1.open hl
  obtain ⟨v, u, rfl, hv, hu⟩ := h4.two
  cases hv with
  | @tup t1 us1 _ p1 p2 =>
    cases hu with
    | @tup t2 us2 _ p3 p4 =>
      refine ⟨t1, t2, us1, us2, rfl, h3.tup p1, h3.tup p3, q _ _ H1 (fun F L Hm H fps M k => ?_) R1⟩
      cases M.has (k (some (.ref t1), .dat (.tuple xs)) (by simp)) with
      | tup p1 p2 =>
        cases M.has (k (some (.ref t2), .dat (.tuple ys)) (by simp)) with
        | tup p3 p4 =>
          refine ⟨fun i d hi => ?_, ⟨_, _, M.sub.tup p1, M.sub.tup p3, ?_⟩⟩
          · obtain ⟨x, y, hx, hy, rfl⟩ := zipD_at hi
            obtain ⟨v, hv, hd⟩ := p2.at_ hx
            obtain ⟨w, hw, he⟩ := p4.at_ hy
            refine ⟨⟨_, _, v, w, M.sub.tup p1, M.sub.tup p3, hv, hw⟩, fun z H' ⟨T, x', y', e1, hT, e2, k1, k2⟩ => ?_⟩
            have z1 := k1 _ (M.sub.tup p1)
            have z2 := k2 _ (M.sub.tup p3)
            rw [hv] at z1
            rw [hw] at z2
            cases z1
            cases z2
            subst e1
            subst e2
            exact Dp.pairNew M.sub hT hd he
          · rw [p2.lenE, p4.lenE, zipD_len]
            omega
theorem zipD_map {α β : Type} (f : α → PyData) (g : β → PyData) : ∀ (xs : List α) (ys : List β), zipD (xs.map f) (ys.map g) = (xs.zip ys).map fun p => .tuple [f p.1, g p.2]
  | [], _ => rfl
  | _ :: _, [] => rfl
  | x :: xs, y :: ys => by
    have := zipD_map f g xs ys
    unfold zipD at this ⊢
    simp only [List.map_cons, List.zip_cons_cons]
    rw [this]
theorem EI.zip {α β : Type} {f : α → PyData} {g : β → PyData} {xs : List α} {ys : List β} (h : EI X ρ tg e (zipD (xs.map f) (ys.map g)) ρ1) : EI X ρ tg e ((xs.zip ys).map fun p => .tuple [f p.1, g p.2]) ρ1 := zipD_map f g xs ys ▸ h
end
def hide : Ow → Ow
  | .dat d => .dat d
  | .rob C fs => .rob C fs
  | _ => .no
def wipeO (ρ : List Ow) : List Nat → List Ow
  | [] => ρ
  | v :: vs => (wipeO ρ vs).set v .no
def blkO (ρ : List Ow) (vs : List Nat) : List Ow := wipeO (ρ.map hide) vs
theorem wipeO_len (ρ : List Ow) : ∀ vs : List Nat, (wipeO ρ vs).length = ρ.length
  | [] => rfl
  | v :: vs => by unfold wipeO; rw [List.length_set, wipeO_len ρ vs]
theorem wipeO_get {ρ : List Ow} {i : Nat} : ∀ {vs : List Nat}, ¬ i ∈ vs → (wipeO ρ vs)[i]? = ρ[i]?
  | [], _ => rfl
  | v :: vs, h => by
    unfold wipeO
    rw [List.getElem?_set_ne (fun z => h (by simp [z]))]
    exact wipeO_get fun z => h (by simp [z])
theorem wipeO_in {ρ : List Ow} {i : Nat} {s : Ow} : ∀ {vs : List Nat}, i ∈ vs → (wipeO ρ vs)[i]? = some s → s = .no
  | [], h, _ => by cases h
  | v :: vs, h, e => by
    unfold wipeO at e
    by_cases z : v = i
    · subst z
      have hlt := (List.getElem?_eq_some_iff.mp e).1
      rw [List.length_set] at hlt
      rw [List.getElem?_set_self hlt] at e
      cases e
      rfl
    · rw [List.getElem?_set_ne z] at e
      rcases List.mem_cons.mp h with y | y
      · exact absurd y.symm z
      · exact wipeO_in y e
theorem wipe_get {σ : St} {i : Nat} : ∀ {vs : List Nat}, ¬ i ∈ vs → (wipe σ vs)[i]? = σ[i]?
  | [], _ => rfl
  | v :: vs, h => by
    unfold wipe
    rw [List.getElem?_set_ne (fun z => h (by simp [z]))]
    exact wipe_get fun z => h (by simp [z])
theorem wipe_in {σ : St} {i : Nat} : ∀ {vs : List Nat}, i ∈ vs → i < σ.length → (wipe σ vs)[i]? = some none
  | [], h, _ => by cases h
  | v :: vs, h, e => by
    unfold wipe
    by_cases z : v = i
    · subst z
      rw [List.getElem?_set_self (by rw [wipe_length]; exact e)]
    · rw [List.getElem?_set_ne z]
      rcases List.mem_cons.mp h with y | y
      · exact absurd y.symm z
      · exact wipe_in y e
theorem wipe_eq {σ σ2 : St} {vs : List Nat} (hl : σ2.length = σ.length) (h : ∀ j, ¬ j ∈ vs → σ2[j]? = (wipe σ vs)[j]?) : wipe σ2 vs = wipe σ vs := by
  apply List.ext_getElem?
  intro i
  by_cases hi : i ∈ vs
  · by_cases hlt : i < σ.length
    · rw [wipe_in hi (by omega), wipe_in hi hlt]
    · rw [List.getElem?_eq_none (by rw [wipe_length]; omega), List.getElem?_eq_none (by rw [wipe_length]; omega)]
  · rw [wipe_get hi, h i hi]
section
variable {K : PySem.W.Frag} {F : Fr} {ρ ρ' : List Ow} {σ : St} {τ : Sls} {H : Hp} {vs : List Nat}
theorem Rel.blk (R : Rel K F ρ σ τ H) (vs : List Nat) : Rel K F (blkO ρ vs) (wipe σ vs) (σ.zip ρ ++ τ) H := by
  obtain ⟨hl, Hm, fps, M⟩ := R
  refine ⟨by rw [wipe_length, blkO, wipeO_len, List.length_map]; exact hl, Hm, _, M.front fun i o s q => ?_⟩
  rw [List.getElem?_zip_eq_some] at q
  obtain ⟨q1, q2⟩ := q
  by_cases hi : i ∈ vs
  · have e := wipeO_in hi q2
    dsimp only at e
    rw [e]
    exact .no
  · unfold blkO at q2
    rw [wipeO_get hi, List.getElem?_map] at q2
    rw [wipe_get hi] at q1
    obtain ⟨t, ht, e⟩ := Option.map_eq_some_iff.mp q2
    dsimp only at e
    cases t with
    | dat d =>
      have hz : (σ.zip ρ ++ τ)[i]? = some (o, .dat d) := by
        rw [List.getElem?_append_left (by rw [List.length_zip]; have := (List.getElem?_eq_some_iff.mp q1).1; have := (List.getElem?_eq_some_iff.mp ht).1; omega), List.getElem?_zip_eq_some]
        exact ⟨q1, ht⟩
      obtain ⟨v, e2, hd⟩ := (M.ok _ _ _ hz).dat_inv
      dsimp only [hide] at e
      rw [← e, e2]
      exact .dat hd
    | rob C fs =>
      have hz : (σ.zip ρ ++ τ)[i]? = some (o, .rob C fs) := by
        rw [List.getElem?_append_left (by rw [List.length_zip]; have := (List.getElem?_eq_some_iff.mp q1).1; have := (List.getElem?_eq_some_iff.mp ht).1; omega), List.getElem?_zip_eq_some]
        exact ⟨q1, ht⟩
      have q := M.ok _ _ _ hz
      dsimp only [hide] at e
      rw [← e]
      generalize fps i = fp at q
      cases q with
      | rob h1 hN h2 => exact .rob h1 hN h2
    | no => rw [← e]; exact .no
    | lst _ => rw [← e]; exact .no
    | obj _ _ _ => rw [← e]; exact .no
    | exc _ => rw [← e]; exact .no
    | hol _ => rw [← e]; exact .no
    | tab _ _ => rw [← e]; exact .no
    | lls _ => rw [← e]; exact .no
    | dic _ => rw [← e]; exact .no
theorem Rel.unblk {σ2 : St} {ρ2 : List Ow} (R : Rel K F ρ2 σ2 (σ.zip ρ ++ τ) H) (hl : σ.length = ρ.length) : Rel K F ρ σ τ H := by
  obtain ⟨hl2, Hm, fps, M⟩ := R
  refine ⟨hl, Hm, _, M.pick (fun i => i + (σ2.zip ρ2).length) (fun i x q => ?_) fun i j _ _ n => by omega⟩
  rw [List.getElem?_append_right (by omega), Nat.add_sub_cancel]
  exact q
theorem Rel.push {D : Addr} {y : V} {d : PyData} {ds : List PyData} (R : Rel K F ρ σ (τ ++ [(some (.ref D), .lst ds)] ++ [(some y, .dat d)]) H) :
    ∃ vs, H D = some (.lst vs) ∧ vs.length = ds.length ∧ Rel K F ρ σ (τ ++ [(some (.ref D), .lst (ds ++ [d]))]) (upd H D (.lst (vs ++ [y]))) := by
  obtain ⟨hl, Hm, fps, M⟩ := R
  have hi : (σ.zip ρ ++ (τ ++ [(some (V.ref D), Ow.lst ds)] ++ [(some y, Ow.dat d)]))[(σ.zip ρ ++ τ).length]? = some (some (.ref D), .lst ds) := by
    rw [List.append_assoc, ← List.append_assoc, List.getElem?_append_right (Nat.le_refl _), Nat.sub_self]
    rfl
  have hy : (some y, Ow.dat d) ∈ σ.zip ρ ++ (τ ++ [(some (V.ref D), Ow.lst ds)] ++ [(some y, Ow.dat d)]) := by simp
  obtain ⟨D', vs, e, ef, hD, hds⟩ := (M.ok _ _ _ hi).lst_inv
  cases e
  refine ⟨vs, hD, hds.lenE, hl, Hm, _, (M.setLst hi (hds.app (.cons (M.has hy) .nil))).pick id (fun i x q => ?_) fun i j _ _ n => n⟩
  have e1 : (σ.zip ρ ++ (τ ++ [(some (V.ref D), Ow.lst ds)] ++ [(some y, Ow.dat d)])).set (σ.zip ρ ++ τ).length (some (V.ref D), Ow.lst (ds ++ [d])) = (σ.zip ρ ++ (τ ++ [(some (V.ref D), Ow.lst (ds ++ [d]))])) ++ [(some y, Ow.dat d)] := by
    rw [List.append_assoc, ← List.append_assoc, List.set_append_right _ _ (Nat.le_refl _), Nat.sub_self]
    simp
  rw [e1]
  have := (List.getElem?_eq_some_iff.mp q).1
  show (_ ++ _)[i]? = _
  rw [List.getElem?_append_left this]
  exact q
theorem Rel.newLst {D : Addr} (R : Rel K F ρ σ τ H) (hD : H D = none) : Rel K F ρ σ (τ ++ [(some (.ref D), .lst [])]) (upd H D (.lst [])) := by
  obtain ⟨hl, Hm, fps, M⟩ := R
  have f : Fin K (.lst []) Hm H (fun v H' => Rel K F ρ σ (τ ++ [(some v, .lst [])]) H') := fun w fp Hm' H' e1 e2 e3 n o hf => by
    obtain ⟨fps', M'⟩ := M.next w (.lst []) fp Hm' H' e1 e2 e3 n o hf
    exact ⟨hl, Hm', fps', by rw [← List.append_assoc]; exact M'⟩
  exact f.lst M.sub .nil hD
end
section
variable {X : Cx} {ρ ρ1 ρ2 ρ3 : List Ow} {a b c e tg elt iter : Expr} {es ifs : List Expr} {pos : Pos} {s s1 s2 s3 : Ow} {d d1 d2 d3 : PyData} {ds : List PyData} {vs : List Nat} {scope : Scope} {own : List (Str × Nat)}
structure ETs (X : Cx) (ρ : List Ow) (es : List Expr) (b : Bool) : Prop where
  pt : PTs X es (tEt X.K ρ b ρ)
theorem PTs.mono {X : Cx} {e : List Expr} {t t' : TT} (h : PTs X e t) (k : ∀ σ H Q, t' σ H Q → t σ H Q) : PTs X e t' := fun pins s σ H Q I q => h pins s σ H Q I (k σ H Q q)
theorem ets_nil : ETs X ρ [] true := ⟨pts_nil.mono fun σ H Q ⟨F, τ, R, q⟩ => q H R⟩
theorem ets_one {k : Bool} (h : ET X ρ c k ρ) : ETs X ρ [c] k := ⟨pts_one h.pt⟩
abbrev lcG {α : Type} (K : PySem.W.Frag) (xs : List α) (g : α → PyData) (ρ : List Ow) (ρ1 : α → List Ow) (vs : List Nat) : TG := fun v σ H Q => ∃ x ∈ xs, tTg K (g x) (blkO ρ vs) (ρ1 x) vs v σ H Q
abbrev lcT {α : Type} (K : PySem.W.Frag) (xs : List α) (ρ1 : α → List Ow) (f : α → Bool) : TT := fun σ H Q => ∃ x ∈ xs, tEt K (ρ1 x) (f x) (ρ1 x) σ H Q
abbrev lcE {α : Type} (K : PySem.W.Frag) (xs : List α) (ρ1 : α → List Ow) (f : α → Bool) (k : α → PyData) : TE := fun σ H Q => ∃ x ∈ xs, f x = true ∧ tEv K (ρ1 x) (.dat (k x)) (ρ1 x) σ H Q
theorem lc_read {α : Type} {xs : List α} {g : α → PyData} {K : PySem.W.Frag} {F : Fr} {σ : St} {τ : Sls} {H : Hp} {Q : VK} (f : α → Bool) (k : α → PyData) (ρ' : List Ow) (ρ1 : α → List Ow) (hz : xs.length < sizeLine) (R : Rel K F ρ σ τ H) (q : ∀ v H', Rel K F ρ' σ (τ ++ [(some v, .lst ((xs.filter f).map k))]) H' → Q v H') :
    tLc (tEi K ρ (xs.map g) ρ') (lcG K xs g ρ' ρ1 vs) (lcT K xs ρ1 f) (lcE K xs ρ1 f k) vs σ H Q := by
  refine ⟨F, τ, R, fun J τ' H1 W R1 D hD => ?_⟩
  refine ⟨fun i m H => i + m = xs.length ∧ Rel K F ρ' σ (τ ++ τ' ++ [(some (.ref D), .lst (((xs.take i).filter f).map k))]) H, ⟨xs.length, by omega, by simpa using R1.newLst hD⟩, fun i m H2 ⟨w1, w2⟩ => ?_⟩
  have wk : ∃ Hm fps, Mem K F (σ.zip ρ' ++ (τ ++ τ' ++ [(some (.ref D), .lst (((xs.take i).filter f).map k))])) Hm H2 fps := w2.2
  obtain ⟨Hm, fps, M⟩ := wk
  obtain ⟨turn, stop⟩ := W F _ Hm H2 fps M fun x hx => by simp [hx]
  by_cases hi : i < xs.length
  · have hd : xs[i]? = some xs[i] := List.getElem?_eq_getElem hi
    have hmem : xs[i] ∈ xs := List.getElem_mem hi
    have htake : xs.take (i + 1) = xs.take i ++ [xs[i]] := by rw [List.take_succ, hd]; rfl
    generalize xs[i] = dd at hd hmem htake
    obtain ⟨go, yl⟩ := turn i (g dd) (by rw [List.getElem?_map, hd]; rfl)
    refine .inr ⟨go, fun H' => Rel K F ρ' σ (τ ++ τ' ++ [(some (.ref D), .lst (((xs.take (i + 1)).filter f).map k))]) H', fun H' z => ⟨m - 1, by omega, by omega, z⟩, fun x H' y => ?_⟩
    obtain ⟨Hm', e1, e2, e3, n, hx⟩ := yl x H' y
    have R3 : Rel K F ρ' σ (τ ++ τ' ++ [(some (.ref D), .lst (((xs.take i).filter f).map k))] ++ [(some x, .dat (g dd))]) H' :=
      ⟨w2.1, Hm', _, by rw [← List.append_assoc]; exact (M.grow e1 e2 e3 n).dat hx⟩
    have R4 := R3.blk vs
    rw [← List.append_assoc] at R4
    refine ⟨dd, hmem, F, _, R4, fun σ2 H2 R5 kj kl => ⟨wipe_eq (by rw [kl, wipe_length]) kj, dd, hmem, F, _, R5, fun H3 R6 => ?_⟩⟩
    cases hf : f dd with
    | false =>
      refine iteF ?_
      show Rel _ _ _ _ _ _
      rw [htake, List.filter_append]
      have z : [dd].filter f = [] := by simp [hf]
      rw [z, List.append_nil]
      exact R6.unblk w2.1
    | true =>
      refine iteT ⟨dd, hmem, hf, F, _, R6, fun yv H4 R7 => ?_⟩
      rw [List.append_assoc] at R7
      have R8 := R7.unblk w2.1
      obtain ⟨acc, a1, a2, a3⟩ := R8.push
      refine ⟨acc, a1, ?_, ?_⟩
      · rw [a2, List.length_map]
        refine Nat.lt_of_le_of_lt (List.length_filter_le ..) ?_
        rw [List.length_take]
        omega
      · rw [htake, List.filter_append, List.map_append]
        simp only [List.filter_cons, hf, List.filter_nil, List.map_cons, List.map_nil, if_true]
        exact a3
  · have hi' : i = xs.length := by omega
    subst hi'
    rw [List.length_map] at stop
    refine .inl ⟨stop, q _ _ ?_⟩
    rw [List.take_length] at w2
    exact w2.swap (fun j => if j < τ.length then j else τ.length + τ'.length) (fun j x z => by
      by_cases hj : j < τ.length
      · simp only [hj, if_true]
        rw [List.getElem?_append_left hj] at z
        rw [List.append_assoc, List.getElem?_append_left hj]
        exact z
      · simp only [hj, if_false]
        rw [List.getElem?_append_right (by omega)] at z
        rw [List.getElem?_append_right (by simp)]
        have e0 : j - τ.length = 0 := by
          have := (List.getElem?_eq_some_iff.mp z).1
          simp at this
          omega
        rw [e0] at z
        simpa using z) (fun i j hi hj n => by
      simp at hi hj
      (repeat' split) <;> omega)
section
variable {α : Type} {xs : List α} {g : α → PyData} {f : α → Bool} {k : α → PyData} {ρ1 : α → List Ow}
theorem lc_g {ρ' : List Ow} (hg : ∀ (s : Shared) (H : Hp) (C : Addr) (cl : List (Str × Addr)) (fp : List Addr) (x : α), x ∈ xs → GT (X.blk s H scope (compEnvC scope cl C X.env) fp) (blkO ρ' vs) tg (g x) (ρ1 x) vs) : ∀ (s : Shared) (H : Hp) (C : Addr) (cl : List (Str × Addr)) (fp : List Addr), PG (X.blk s H scope (compEnvC scope cl C X.env) fp) tg (lcG X.K xs g ρ' ρ1 vs) := by
  intro s H C cl fp pins s' σ H' v u Q I r ⟨d, hd, q⟩
  exact (hg s H C cl fp d hd).pg pins s' σ H' v u Q I r q
theorem lc_t (ht : ∀ (s : Shared) (H : Hp) (C : Addr) (cl : List (Str × Addr)) (fp : List Addr) (x : α), x ∈ xs → ETs (X.blk s H scope (compEnvC scope cl C X.env) fp) (ρ1 x) ifs (f x)) : ∀ (s : Shared) (H : Hp) (C : Addr) (cl : List (Str × Addr)) (fp : List Addr), PTs (X.blk s H scope (compEnvC scope cl C X.env) fp) ifs (lcT X.K xs ρ1 f) := by
  intro s H C cl fp pins s' σ H' Q I ⟨d, hd, q⟩
  exact (ht s H C cl fp d hd).pt pins s' σ H' Q I q
theorem lc_e (he : ∀ (s : Shared) (H : Hp) (C : Addr) (cl : List (Str × Addr)) (fp : List Addr) (x : α), x ∈ xs → f x = true → EV (X.blk s H scope (compEnvC scope cl C X.env) fp) (ρ1 x) elt (.dat (k x)) (ρ1 x)) : ∀ (s : Shared) (H : Hp) (C : Addr) (cl : List (Str × Addr)) (fp : List Addr), PE (X.blk s H scope (compEnvC scope cl C X.env) fp) elt (lcE X.K xs ρ1 f k) := by
  intro s H C cl fp pins s' σ H' Q I ⟨d, hd, hf, q⟩
  exact (he s H C cl fp d hd hf).pe pins s' σ H' Q I q
theorem ev_lcF {ρ' : List Ow} (own : List (Str × Nat)) (hN : X.N.Nodup) (hi : EI X ρ tg iter (xs.map g) ρ') (ok : BlkOk X.N X.env.scope scope own) (hz : xs.length < sizeLine)
    (hg : ∀ (s : Shared) (H : Hp) (C : Addr) (cl : List (Str × Addr)) (fp : List Addr) (x : α), x ∈ xs → GT (X.blk s H scope (compEnvC scope cl C X.env) fp) (blkO ρ' (own.map (·.2))) tg (g x) (ρ1 x) (own.map (·.2)))
    (ht : ∀ (s : Shared) (H : Hp) (C : Addr) (cl : List (Str × Addr)) (fp : List Addr) (x : α), x ∈ xs → ET (X.blk s H scope (compEnvC scope cl C X.env) fp) (ρ1 x) c (f x) (ρ1 x))
    (he : ∀ (s : Shared) (H : Hp) (C : Addr) (cl : List (Str × Addr)) (fp : List Addr) (x : α), x ∈ xs → f x = true → EV (X.blk s H scope (compEnvC scope cl C X.env) fp) (ρ1 x) elt (.dat (k x)) (ρ1 x))
    (hc : X.calm = true := by rfl) (hs : ∀ x, foldedSetIterable iter X.env x = pure x := by intro _; rfl) : EV X ρ (.ListComp elt [⟨tg, iter, [c], 0⟩] scope pos) (.lst ((xs.filter f).map k)) ρ' :=
  ⟨(pe_lc hc hN hi.pi ok (lc_g hg) (lc_t fun s H C cl fp x hx => ets_one (ht s H C cl fp x hx)) (lc_e he) hs).mono fun σ H Q ⟨F, τ, R, q⟩ => lc_read f k ρ' ρ1 hz R q⟩
theorem ev_lcM {ρ' : List Ow} (own : List (Str × Nat)) (hN : X.N.Nodup) (hi : EI X ρ tg iter (xs.map g) ρ') (ok : BlkOk X.N X.env.scope scope own) (hz : xs.length < sizeLine)
    (hg : ∀ (s : Shared) (H : Hp) (C : Addr) (cl : List (Str × Addr)) (fp : List Addr) (x : α), x ∈ xs → GT (X.blk s H scope (compEnvC scope cl C X.env) fp) (blkO ρ' (own.map (·.2))) tg (g x) (ρ1 x) (own.map (·.2)))
    (he : ∀ (s : Shared) (H : Hp) (C : Addr) (cl : List (Str × Addr)) (fp : List Addr) (x : α), x ∈ xs → EV (X.blk s H scope (compEnvC scope cl C X.env) fp) (ρ1 x) elt (.dat (k x)) (ρ1 x))
    (hc : X.calm = true := by rfl) (hs : ∀ x, foldedSetIterable iter X.env x = pure x := by intro _; rfl) : EV X ρ (.ListComp elt [⟨tg, iter, [], 0⟩] scope pos) (.lst (xs.map k)) ρ' :=
  ⟨(pe_lc hc hN hi.pi ok (lc_g hg) (lc_t (f := fun _ => true) fun s H C cl fp x hx => ets_nil) (lc_e fun s H C cl fp x hx _ => he s H C cl fp x hx) hs).mono fun σ H Q ⟨F, τ, R, q⟩ => lc_read (fun _ => true) k ρ' ρ1 hz R (by
    rw [List.filter_eq_self.mpr (fun _ _ => rfl)]
    exact q)⟩
end
end
end L2
namespace L2
open PySem PySem.Spec PyProof.Rows
inductive Oc where
  | nx (ρ : List Ow) | rt (s : Ow) (ρ : List Ow) | xc (c : Value) (ρ : List Ow) | bk (ρ : List Ow) | ct (ρ : List Ow)
def tBs (K : PySem.W.Frag) (W : Value → Hp → Prop) (ρ : List Ow) (O : Oc → Prop) : TS := fun D σ H => ∃ F τ, Rel K F ρ σ τ H ∧ (∀ ρ' σ' H', O (.nx ρ') → Rel K F ρ' σ' τ H' → D.nx σ' H') ∧ (∀ s ρ' v σ' H', O (.rt s ρ') → Rel K F ρ' σ' (τ ++ [(some v, s)]) H' → D.rt v H') ∧
  (∀ ρ' σ' H', O (.bk ρ') → Rel K F ρ' σ' τ H' → D.bk σ' H') ∧ (∀ ρ' σ' H', O (.ct ρ') → Rel K F ρ' σ' τ H' → D.ct σ' H') ∧ (∀ c ρ' σ' H', O (.xc c ρ') → Rel K F ρ' σ' τ H' → W c H')
structure BS (X : Cx) (W : Value → Hp → Prop) (ρ : List Ow) (ss : List Stmt) (O : Oc → Prop) : Prop where
  ps : PSs X ss (tBs X.K W ρ O)
structure S1 (X : Cx) (W : Value → Hp → Prop) (ρ : List Ow) (st : Stmt) (O : Oc → Prop) : Prop where
  ps : PS X st (tBs X.K W ρ O)
theorem PS.mono {X : Cx} {st : Stmt} {t t' : TS} (h : PS X st t) (k : ∀ D σ H, t' D σ H → t D σ H) : PS X st t' := fun pins s σ H D I q => h pins s σ H D I (k D σ H q)
theorem PSs.mono {X : Cx} {ss : List Stmt} {t t' : TS} (h : PSs X ss t) (k : ∀ D σ H, t' D σ H → t D σ H) : PSs X ss t' := fun pins s σ H D I q => h pins s σ H D I (k D σ H q)
def thn' (X : Cx) (W : Value → Hp → Prop) (ss : List Stmt) (O : Oc → Prop) : Oc → Prop
  | .nx ρ => BS X W ρ ss O
  | o => O o
section
variable {X : Cx} {W : Value → Hp → Prop} {ρ ρ1 ρ2 ρ3 : List Ow} {a b c e tg iter : Expr} {es : List Expr} {st : Stmt} {ss A B body : List Stmt} {pos : Pos} {s s1 s2 s3 : Ow} {d d1 d2 d3 : PyData} {ds : List PyData} {vs : List Nat} {O : Oc → Prop}
theorem bs_nil (o : O (.nx ρ)) : BS X W ρ [] O := ⟨pss_nil.mono fun D σ H ⟨F, τ, R, h1, h2⟩ => h1 ρ σ H o R⟩
theorem bs_cons (h : S1 X W ρ st (thn' X W ss O)) : BS X W ρ (st :: ss) O := by
  have hu : PSs X ss (fun D σ H => ∃ ρ', BS X W ρ' ss O ∧ tBs X.K W ρ' O D σ H) := fun pins s σ H D I ⟨ρ', h, q⟩ => h.ps pins s σ H D I q
  refine ⟨(pss_cons h.ps hu).mono fun D σ H ⟨F, τ, R, h1, h2, h3, h4, h5⟩ => ⟨F, τ, R, fun ρ' σ' H' o R' => ⟨ρ', o, F, τ, R', h1, h2, h3, h4, h5⟩, h2, h3, h4, h5⟩⟩
theorem S1.mono {O' : Oc → Prop} (h : S1 X W ρ st O') (k : ∀ o, O' o → O o) : S1 X W ρ st O := ⟨h.ps.mono fun D σ H ⟨F, τ, R, h1, h2, h3, h4, h5⟩ => ⟨F, τ, R, fun _ _ _ o => h1 _ _ _ (k _ o), fun _ _ _ _ _ o => h2 _ _ _ _ _ (k _ o), fun _ _ _ o => h3 _ _ _ (k _ o), fun _ _ _ o => h4 _ _ _ (k _ o), fun _ _ _ _ o => h5 _ _ _ _ (k _ o)⟩⟩
theorem BS.mono {O' : Oc → Prop} (h : BS X W ρ ss O') (k : ∀ o, O' o → O o) : BS X W ρ ss O := ⟨h.ps.mono fun D σ H ⟨F, τ, R, h1, h2, h3, h4, h5⟩ => ⟨F, τ, R, fun _ _ _ o => h1 _ _ _ (k _ o), fun _ _ _ _ _ o => h2 _ _ _ _ _ (k _ o), fun _ _ _ o => h3 _ _ _ (k _ o), fun _ _ _ o => h4 _ _ _ (k _ o), fun _ _ _ _ o => h5 _ _ _ _ (k _ o)⟩⟩
theorem bs_join (O' : Oc → Prop) (h : S1 X W ρ st O') (k : ∀ o, O' o → thn' X W ss O o) : BS X W ρ (st :: ss) O := bs_cons (h.mono k)
theorem s1_expr (h : EV X ρ e s ρ1) (o : O (.nx ρ1)) (hs : swapsWith e none pos.line X.env = pure false := by rfl) : S1 X W ρ (.Expr e pos) O :=
  ⟨(ps_expr h.pe hs).mono fun D σ H ⟨F, τ, R, h1, _⟩ => ⟨F, τ, R, fun v H1 R1 => h1 ρ1 σ H1 o R1.drop⟩⟩
theorem s1_set (i : Nat) {x : Str} {pos' : Pos} (hN : X.N.Nodup) (h : EV X ρ e s ρ1) (o : O (.nx (ρ1.set i s))) (hi : X.N[i]? = some x := by rfl) (hx : Loc X.env.scope x := by first | exact Or.inl rfl | exact Or.inr rfl) (hs : swapsWith e (some (.Name x pos')) pos.line X.env = pure false := by rfl) (hf : X.fn x = true ∨ X.env.scope.names.lookup x = some .local := by first | exact .inl rfl | exact .inr rfl | assumption) : S1 X W ρ (.Assign [.Name x pos'] e pos) O :=
  ⟨(ps_set hN hi hx h.pe hs hf).mono fun D σ H ⟨F, τ, R, h1, _⟩ => ⟨F, τ, R, fun v H1 R1 => h1 _ _ H1 o R1.store1⟩⟩
theorem s1_setLc {α : Type} {xs : List α} {g : α → PyData} {f : α → Bool} {kk : α → PyData} {ρ1' : α → List Ow} {elt : Expr} {ifs : List Expr} {scope : Scope} {lpos pos' : Pos} {x : Str} (i : Nat) (own : List (Str × Nat)) (hN : X.N.Nodup) (hi : EI X ρ tg iter (xs.map g) ρ1) (ok : BlkOk X.N X.env.scope scope own) (hz : xs.length < sizeLine)
    (hg : ∀ (s : Shared) (H : Hp) (C : Addr) (cl : List (Str × Addr)) (fp : List Addr) (x : α), x ∈ xs → GT (X.blk s H scope (compEnvC scope cl C X.env) fp) (blkO ρ1 (own.map (·.2))) tg (g x) (ρ1' x) (own.map (·.2)))
    (ht : ∀ (s : Shared) (H : Hp) (C : Addr) (cl : List (Str × Addr)) (fp : List Addr) (x : α), x ∈ xs → ETs (X.blk s H scope (compEnvC scope cl C X.env) fp) (ρ1' x) ifs (f x))
    (he : ∀ (s : Shared) (H : Hp) (C : Addr) (cl : List (Str × Addr)) (fp : List Addr) (x : α), x ∈ xs → f x = true → EV (X.blk s H scope (compEnvC scope cl C X.env) fp) (ρ1' x) elt (.dat (kk x)) (ρ1' x))
    (o : O (.nx (ρ1.set i (.lst ((xs.filter f).map kk))))) (hy : X.N[i]? = some x := by rfl) (hyl : X.env.scope.names.lookup x = some .local := by rfl)
    (hsw : swapsWith (.ListComp elt [⟨tg, iter, ifs, 0⟩] scope lpos) (some (.Name x pos')) pos.line X.env = pure true := by exact sw_true rfl rfl rfl (by decide +kernel)) (hc : X.calm = true := by rfl) (hs : ∀ x, foldedSetIterable iter X.env x = pure x := by intro _; rfl) :
    S1 X W ρ (.Assign [.Name x pos'] (.ListComp elt [⟨tg, iter, ifs, 0⟩] scope lpos) pos) O :=
  ⟨(ps_setLc hc hN hy hyl hsw hi.pi ok (lc_g hg) (lc_t ht) (lc_e he) hs).mono fun D σ H ⟨F, τ, R, h1, _⟩ => lc_read f kk ρ1 ρ1' hz R fun v H' R' => h1 _ _ _ o R'.store1⟩
theorem s1_ret (h : EV X ρ e s ρ1) (o : O (.rt s ρ1)) : S1 X W ρ (.Return (some e) pos) O :=
  ⟨(ps_ret h.pe).mono fun D σ H ⟨F, τ, R, _, h2, _⟩ => ⟨F, τ, R, fun v H1 R1 => h2 s ρ1 v σ H1 o R1⟩⟩
theorem bs_ret (h : EV X ρ e s ρ1) (o : O (.rt s ρ1)) : BS X W ρ (.Return (some e) pos :: ss) O := bs_cons (s1_ret h o)
theorem s1_if {k : Bool} (hc : ET X ρ c k ρ1) (h1 : k = true → BS X W ρ1 A O) (h2 : k = false → BS X W ρ1 B O) : S1 X W ρ (.If c A B pos) O := by
  cases k with
  | true => exact ⟨(ps_if hc.pt (h1 rfl).ps pss_never).mono fun D σ H ⟨F, τ, R, q⟩ => ⟨F, τ, R, fun H1 R1 => iteT ⟨F, τ, R1, q⟩⟩⟩
  | false => exact ⟨(ps_if hc.pt pss_never (h2 rfl).ps).mono fun D σ H ⟨F, τ, R, q⟩ => ⟨F, τ, R, fun H1 R1 => iteF ⟨F, τ, R1, q⟩⟩⟩
theorem bs_no {k : Bool} (hc : ET X ρ c k ρ1) (hk : k = false) (h : BS X W ρ1 ss O) : BS X W ρ (.If c A [] pos :: ss) O :=
  bs_cons (s1_if hc (fun z => by rw [hk] at z; cases z) fun _ => bs_nil h)
theorem bs_yes {k : Bool} (hc : ET X ρ c k ρ1) (hk : k = true) (h : BS X W ρ1 A (thn' X W ss O)) : BS X W ρ (.If c A B pos :: ss) O :=
  bs_cons (s1_if hc (fun _ => h) fun z => by rw [hk] at z; cases z)
abbrev noW : Value → Hp → Prop := fun _ _ => False
def turnO (I : List Ow → Prop) (O : Oc → Prop) : Oc → Prop
  | .nx ρ => I ρ
  | .ct ρ => I ρ
  | .bk ρ => O (.nx ρ)
  | .rt s ρ => O (.rt s ρ)
  | .xc _ _ => False
theorem s1_for (I : Nat → List Ow → Prop) (vs : List Nat) (hc : X.calm = true) (hi : EI X.nox ρ tg iter ds ρ1) (h0 : I 0 ρ1) (step : ∀ (i : Nat) (d : PyData) (ρ : List Ow), ds[i]? = some d → I i ρ → ∃ ρ2, GT X.nox ρ tg d ρ2 vs ∧ BS X.nox noW ρ2 body (turnO (I (i + 1)) O)) (fin : ∀ ρ, I ds.length ρ → O (.nx ρ))
    (hs : ∀ x, foldedSetIterable iter X.env x = pure x := by intro _; rfl) : S1 X W ρ (.For tg iter body [] pos) O := by
  have hg : PG X.nox tg (fun v σ H Q => ∃ (i : Nat) (d : PyData) (ρ ρ2 : List Ow), ds[i]? = some d ∧ I i ρ ∧ GT X.nox ρ tg d ρ2 vs ∧ BS X.nox noW ρ2 body (turnO (I (i + 1)) O) ∧ tTg X.K d ρ ρ2 vs v σ H Q) := by
    intro pins s σ H v u Q J r ⟨i, d, ρ, ρ2, h1, h2, h3, h4, q⟩
    exact h3.pg pins s σ H v u Q J r q
  have hb : PSs X.nox body (fun D σ H => ∃ (i : Nat) (ρ2 : List Ow), BS X.nox noW ρ2 body (turnO (I (i + 1)) O) ∧ tBs X.K noW ρ2 (turnO (I (i + 1)) O) D σ H) := by
    intro pins s σ H D J ⟨i, ρ2, h, q⟩
    exact h.ps pins s σ H D J q
  refine ⟨PS.nox ((ps_for (X := X.nox) PassesOwn.never hc hi.pi hg hb hs).mono fun D σ H ⟨F, τ, R, h1, h2, h3, h4, h5⟩ => ⟨F, τ, R, fun J τ' H1 Wk R1 => ?_⟩)⟩
  refine ⟨fun i m σ H => i + m = ds.length ∧ ∃ ρ, I i ρ ∧ Rel X.K F ρ σ (τ ++ τ') H, ⟨ds.length, by omega, ρ1, h0, R1⟩, fun i m σ2 H2 ⟨w1, ρ', w2, w3⟩ => ?_⟩
  obtain ⟨Hm, fps, M⟩ := id w3.2
  obtain ⟨turn, stop⟩ := Wk F _ Hm H2 fps M fun x hx => by simp [hx]
  by_cases hi' : i < ds.length
  · have hd : ds[i]? = some ds[i] := List.getElem?_eq_getElem hi'
    generalize ds[i] = dd at hd
    obtain ⟨go, yl⟩ := turn i dd hd
    obtain ⟨ρ2, g2, b2⟩ := step i dd ρ' hd w2
    refine .inr ⟨go, fun σ' H' => ∃ ρ, I (i + 1) ρ ∧ Rel X.K F ρ σ' (τ ++ τ') H', fun σ' H' z => ⟨m - 1, by omega, by omega, z⟩, fun x H' y => ?_⟩
    obtain ⟨Hm', e1, e2, e3, n, hx⟩ := yl x H' y
    have R3 : Rel X.K F ρ' σ2 (τ ++ τ' ++ [(some x, .dat dd)]) H' := ⟨w3.1, Hm', _, by rw [← List.append_assoc]; exact (M.grow e1 e2 e3 n).dat hx⟩
    refine ⟨i, dd, ρ', ρ2, hd, w2, g2, b2, F, _, R3, fun σ3 H3 R4 _ _ => ⟨i, ρ2, b2, F, _, R4, fun ρ4 σ4 H4 o4 R5 => ⟨ρ4, o4, R5⟩, fun s4 ρ4 v4 σ4 H4 o4 R5 => ?_, fun ρ4 σ4 H4 o4 R5 => h1 _ _ _ o4 R5.drop, fun ρ4 σ4 H4 o4 R5 => ⟨ρ4, o4, R5⟩, fun _ _ _ _ o4 _ => o4⟩⟩
    refine h2 s4 ρ4 v4 σ4 H4 o4 (R5.swap (fun j => if j < τ.length then j else τ.length + τ'.length) (fun j x z => ?_) (fun i j hi hj n => ?_))
    · by_cases hj : j < τ.length
      · simp only [hj, if_true]
        rw [List.getElem?_append_left hj] at z
        rw [List.append_assoc, List.getElem?_append_left hj]
        exact z
      · simp only [hj, if_false]
        rw [List.getElem?_append_right (by omega)] at z
        rw [List.getElem?_append_right (by simp)]
        have e0 : j - τ.length = 0 := by
          have := (List.getElem?_eq_some_iff.mp z).1
          simp at this
          omega
        rw [e0] at z
        simpa using z
    · simp at hi hj
      (repeat' split) <;> omega
  · have e : i = ds.length := by omega
    subst e
    exact .inl ⟨stop, h1 _ _ _ (fin _ w2) w3.drop⟩
theorem s1_forT {α : Type} {xs : List α} {g : α → PyData} (I : Nat → List Ow → Prop) (vs : List Nat) (hi : EI X.nox ρ tg iter (xs.map g) ρ1) (h0 : I 0 ρ1) (step : ∀ (i : Nat) (x : α) (ρ : List Ow), xs[i]? = some x → I i ρ → ∃ ρ2, GT X.nox ρ tg (g x) ρ2 vs ∧ BS X.nox noW ρ2 body (turnO (I (i + 1)) O)) (fin : ∀ ρ, I xs.length ρ → O (.nx ρ))
    (hc : X.calm = true := by rfl) (hs : ∀ x, foldedSetIterable iter X.env x = pure x := by intro _; rfl) : S1 X W ρ (.For tg iter body [] pos) O :=
  s1_for I vs hc hi h0 (fun i d ρ hd hI => by
    rw [List.getElem?_map] at hd
    obtain ⟨x, hx, rfl⟩ := Option.map_eq_some_iff.mp hd
    exact step i x ρ hx hI) (fun ρ h => fin ρ (by rwa [List.length_map] at h)) hs
def tEo (K : PySem.W.Frag) (ρ : List Ow) (ts : List Ow) (ρ' : List Ow) : TA := fun σ H Q => ∃ F τ, Rel K F ρ σ τ H ∧ ∀ vs H', vs.length = ts.length → Rel K F ρ' σ (τ ++ (vs.map some).zip ts) H' → Q vs H'
structure EAo (X : Cx) (ρ : List Ow) (es : List Expr) (ts : List Ow) (ρ' : List Ow) : Prop where
  pa : PA X es (tEo X.K ρ ts ρ')
theorem eo_nil : EAo X ρ [] [] ρ := ⟨pa_nil.mono fun σ H Q ⟨F, τ, R, q⟩ => q [] H rfl (by simpa using R)⟩
theorem eo_cons {ts : List Ow} (h : EV X ρ e s ρ1) (hr : EAo X ρ1 es ts ρ2) (hs : starEach (e :: es) X.env = (false, eval e X.env) :: starEach es X.env := by rfl) : EAo X ρ (e :: es) (s :: ts) ρ2 :=
  ⟨(pa_cons h.pe hr.pa hs).mono fun σ H Q ⟨F, τ, R, q⟩ => ⟨F, τ, R, fun v H1 R1 => ⟨F, _, R1, fun vs H2 hl R2 => q (v :: vs) H2 (by simp [hl]) (by
    rw [List.append_assoc] at R2
    exact R2)⟩⟩⟩
theorem s1_par {i j : Nat} {x y : Str} {px py pt : Pos} {kt k2 pt2} (hN : X.N.Nodup) (ha : EAo X ρ [a, b] [s1, s2] ρ1) (o : O (.nx ((ρ1.set i s1).set j s2))) (hi : X.N[i]? = some x := by rfl) (hj : X.N[j]? = some y := by rfl) (hij : i ≠ j := by decide) (hc : X.calm = true := by rfl)
    (hx : X.env.scope.names.lookup x = some .local := by rfl) (hy : X.env.scope.names.lookup y = some .local := by rfl)
    (hw : swappedStores [.Tuple [.Name x px, .Name y py] kt pt] (.Tuple [a, b] k2 pt2) X.env = pure (some [x, y]) := by rfl)
    (hs : swapsWithSole [.Tuple [.Name x px, .Name y py] kt pt] (.Tuple [a, b] k2 pt2) pos.line X.env = pure false := by rfl) :
    S1 X W ρ (.Assign [.Tuple [.Name x px, .Name y py] kt pt] (.Tuple [a, b] k2 pt2) pos) O := by
  refine ⟨(ps_par hc hN hi hj hij hx hy ha.pa hw hs).mono fun D σ H ⟨F, τ, R, h1, _⟩ => ⟨F, τ, R, fun vs H1 hl R1 => ?_⟩⟩
  obtain ⟨v, u, rfl⟩ : ∃ v u, vs = [v, u] := by
    match vs, hl with
    | [v, u], _ => exact ⟨v, u, rfl⟩
  refine ⟨v, u, rfl, h1 _ _ H1 o ?_⟩
  have R2 := R1.store (i := i) (j := τ.length) (v := v) (s := s1) (by simp)
  have e : (τ ++ [((some v : Option V), s1), (some u, s2)]).eraseIdx τ.length = τ ++ [(some u, s2)] := by
    rw [List.eraseIdx_append_of_length_le (Nat.le_refl _), Nat.sub_self]; rfl
  have R3 : Rel X.K F (ρ1.set i s1) (σ.set i (some v)) (τ ++ [(some u, s2)]) H1 := e ▸ R2
  exact R3.store1
end
inductive Rs where
  | ok (s : Ow) | no (c : Value)
abbrev okD (d : PyData) : Rs := .ok (.dat d)
def Rs.oc : Rs → Oc → Prop
  | .ok d, .rt s _ => s = d
  | .ok d, .nx _ => d = .dat .none
  | .no c, .xc c' _ => c' = c
  | _, _ => False
def spD (K : PySem.W.Frag) (n : Nat) (S : List PyData → Rs → Prop) : Sp := fun vs H Q E => ∃ Hm ds r, vs.length = n ∧ Same Hm H ∧ DpAll K Hm vs ds ∧ S ds r ∧
  match r with
  | .ok s => Fin K s Hm H Q
  | .no c => ∀ H', Same H H' → E c none H'
abbrev PD (P : Program) (w : World) (K : PySem.W.Frag) (mg : Str → Option Value) (base : Heap) (k : Nat) (x : Str) (ps : List Str) (S : List PyData → Rs → Prop) : Prop := DefX P w K mg base k x ps (spD K ps.length S)
section
variable {X : Cx} {ρ ρ1 : List Ow} {e : Expr} {es : List Expr} {p pos : Pos} {s : Ow} {ds : List PyData} {k : Nat} {x : Str} {ps : List Str} {S : List PyData → Rs → Prop}
theorem ev_call (D : PD X.prog X.w X.K X.mg X.base k x ps S) (hr : Room k X.A) (ha : EA X ρ (e :: es) ds ρ1) (h : S ds (.ok s)) (hn : ds.length = ps.length := by rfl) (hg : Gl X x := by rfl) (hdb : (x == ("__debug__" : Str)) = false := by decide)
    (he : starEach (e :: es) X.env = (false, eval e X.env) :: starEach es X.env := by rfl) (hpl : (backTo pos (starEach es X.env)).any (·.1) = false := by rfl) : EV X ρ (.Call (.Name x p) (e :: es) [] pos) s ρ1 := by
  refine ⟨(pe_callN D hr ha.pa hg hdb he hpl).mono fun σ H Q ⟨F, τ, R, q⟩ => ⟨F, τ, R, fun vs H1 hl R1 => ?_⟩⟩
  obtain ⟨Hm, h1, h2, h3⟩ := R1.open hl
  rw [List.append_nil]
  exact ⟨Hm, ds, .ok s, by rw [hl]; exact hn, h1, h2, h, h3 s Q q⟩
end
section
variable {P : Program} {w : World} {K : PySem.W.Frag} {mg : Str → Option Value} {base : Heap}
theorem Rel.entry {N : List Str} {vs : List V} {ds : List PyData} {n : Nat} {Hm H : Hp} (h1 : Same Hm H) (h2 : DpAll K Hm vs ds) (hn : vs.length = n) : Rel K ⟨Hm, H, fun _ => False⟩ (ds.map Ow.dat ++ List.replicate (N.length - n) Ow.no) (start N vs) [] H := by
  have hl := h2.lenE
  refine ⟨by simp [start]; omega, Hm, fun _ => [], ⟨h1, fun a o q _ => q, Same.refl _, fun a q => .inl q, fun i o s q => ?_, fun i _ a m => (by cases m), fun i j _ _ _ a m => (by cases m)⟩⟩
  rw [List.append_nil, List.getElem?_zip_eq_some] at q
  obtain ⟨q1, q2⟩ := q
  dsimp only at q1 q2
  by_cases hi : i < vs.length
  · unfold start at q1
    rw [List.getElem?_append_left (by simpa using hi), List.getElem?_map] at q1
    rw [List.getElem?_append_left (by simp; omega), List.getElem?_map] at q2
    obtain ⟨v, hv, e1⟩ := Option.map_eq_some_iff.mp q1
    obtain ⟨d, hd, e2⟩ := Option.map_eq_some_iff.mp q2
    obtain ⟨u, hu, hp⟩ := h2.at_ hd
    rw [hv] at hu
    cases hu
    subst e1
    subst e2
    exact .dat hp
  · rw [List.getElem?_append_right (by simp; omega), List.getElem?_replicate] at q2
    split at q2
    · cases q2
      exact .no
    · cases q2
theorem PD.mk {x : Str} {st : Stmt} {N ps : List Str} {k : Nat} {S : List PyData → Rs → Prop} (W : Where K mg x st) (Sc : FnScope N ps (defScope st))
    (hb : ∀ (kV doc pm : Value) (an : Option Addr) (cdv ct : Value) (us : List Value), us.length = ps.length → bindArgs (PySem.W.fnOf x x (defArgs st) (defBody st) (defScope st) .none kV doc pm an cdv ct) ⟨us, []⟩ = pure (ps.zip us))
    (body : ∀ (f : Addr) (cdv : Value) (A : Around) (outer : List Env) (s : Shared) (H : Hp) (E : XK) (ds : List PyData) (r : Rs), Room k (A.deeper (envOfC x (defScope st) s.heap.objs.size f cdv)) → S ds r →
      BS (ctX P w K mg base N x (defScope st) f cdv A outer s H E) (fun C H' => E C none H') (ds.map Ow.dat ++ List.replicate (N.length - ps.length) Ow.no) (defBody st) r.oc) : PD P w K mg base (k + 1) x ps S := by
  refine W.defX Sc hb (fun vs H Q E h => ?_) fun f cdv A outer s H vs Q E hr h => ?_
  · obtain ⟨Hm, ds, r, hn, _⟩ := h
    exact hn
  · obtain ⟨Hm, ds, r, hn, h1, h2, hS, q⟩ := h
    refine ⟨_, (body f cdv A outer s H E ds r hr hS).ps, ⟨Hm, H, fun _ => False⟩, [], Rel.entry h1 h2 hn, fun ρ' σ' H' o R' => ?_, fun t ρ' v σ' H' o R' => ?_, fun ρ' σ' H' o R' => ?_, fun ρ' σ' H' o R' => ?_, fun c ρ' σ' H' o R' => ?_⟩
    · cases r with
      | no c => exact o.elim
      | ok d =>
        obtain ⟨_, Hm', fps, M⟩ := R'
        have : d = .dat .none := o
        subst this
        exact q .non [] Hm' H' M.old M.sub (fun a u z => M.ent a u z (fun y => y)) (fun a z => by rcases M.new a z with y | y | y; exact .inl y; exact .inr y; exact y.elim) (.dat .non) (by simp)
    · cases r with
      | no c => exact o.elim
      | ok d =>
        have : t = d := o
        subst this
        obtain ⟨_, Hm', fps, M⟩ := R'
        rw [List.nil_append] at M
        have hx : (σ'.zip ρ' ++ [(some v, t)])[(σ'.zip ρ').length]? = some (some v, t) := by simp
        refine q v (fps (σ'.zip ρ').length) Hm' H' M.old M.sub (fun a u z => M.ent a u z (fun y => y)) (fun a z => by rcases M.new a z with y | y | y; exact .inl y; exact .inr y; exact y.elim) (M.ok _ _ _ hx) fun a ha => ?_
        obtain ⟨z1, z2, z3⟩ := M.own _ (by simp) a ha
        exact ⟨z1.resolve_right fun y => y, z2, z3⟩
    · cases r <;> exact o.elim
    · cases r <;> exact o.elim
    · cases r with
      | ok d => exact o.elim
      | no c' =>
        have : c = c' := o
        subst this
        obtain ⟨_, Hm', fps, M⟩ := R'
        exact q H' (fun a u z => M.ent a u z (fun y => y))
theorem law_bs {N : List Str} {st : Stmt} {f : Addr} {cdv : Value} {A : Around} {outer : List Env} {s : Shared} {H : Hp} {vs : List V} {Q : VK} {E : XK} {x : Str} (h : spLaw K vs H Q E)
    (body : ∀ ns : List Int, ns.length ≤ 63 → BS (cxOf CX0 P w K mg base N x (defScope st) f cdv A outer s H E).nox noW ([PyData.list (ns.map PyData.int)].map Ow.dat ++ List.replicate (N.length - 1) Ow.no) (defBody st) (okD (.bool true)).oc) :
    ∃ t, PSs (cxOf CX0 P w K mg base N x (defScope st) f cdv A outer s H E).nox (defBody st) t ∧ t { nx := fun _ H' => Q .non H', rt := Q } (start N vs) H := by
  obtain ⟨a, ns, rfl, hS, hn, q⟩ := h
  refine ⟨_, (body ns hn).ps, ⟨H, H, fun _ => False⟩, [], Rel.entry (ds := [.list (ns.map .int)]) (n := 1) (Same.refl _) (.cons (Dp.intsL hS) .nil) rfl, fun ρ' σ' H' o R' => ?_, fun t ρ' v σ' H' o R' => ?_, fun ρ' σ' H' o R' => o.elim, fun ρ' σ' H' o R' => o.elim, fun c ρ' σ' H' o R' => o.elim⟩
  · cases (show Ow.dat (PyData.bool true) = .dat .none from o)
  · have : t = .dat (.bool true) := o
    subst this
    obtain ⟨_, Hm', fps, M⟩ := R'
    cases M.has (v := v) (d := .bool true) (by simp)
    exact q H'
end
end L2
namespace L2
open PySem PySem.Spec PyProof.Rows
structure EX (Y : Cx) (W : Value → Hp → Prop) (ρ : List Ow) (e : Expr) (c : Value) : Prop where
  pe : PE (Y.wish (Out Y W)) e (fun σ H _ => ∃ F τ, Rel Y.K F ρ σ τ H ∧ ∀ H', Rel Y.K F ρ σ τ H' → W c H')
section
variable {X : Cx} {W : Value → Hp → Prop} {ρ ρ1 ρ2 ρ3 : List Ow} {a b e tg iter elt : Expr} {es ifs : List Expr} {c : Value} {ss A B body : List Stmt} {p pos : Pos} {s s1 s2 s3 : Ow} {d d1 d2 d3 : PyData} {ds : List PyData} {O : Oc → Prop} {k : Nat} {x : Str} {ps : List Str} {S : List PyData → Rs → Prop}
theorem ex_call (D : PD X.prog X.w X.K X.mg X.base k x ps S) (hr : Room k X.A) (ha : EA (X.wish (Out X W)) ρ (e :: es) ds ρ) (h : S ds (.no c)) (hn : ds.length = ps.length := by rfl) (hex : X.ex = [] := by rfl) (hg : Gl X x := by rfl) (hdb : (x == ("__debug__" : Str)) = false := by decide)
    (he : starEach (e :: es) X.env = (false, eval e X.env) :: starEach es X.env := by rfl) (hpl : (backTo pos (starEach es X.env)).any (·.1) = false := by rfl) : EX X W ρ (.Call (.Name x p) (e :: es) [] pos) c := by
  refine ⟨(pe_callX D hr ha.pa hex hg hdb he hpl).mono fun σ H Q ⟨F, τ, R, q⟩ => ⟨F, τ, R, fun vs H1 hl R1 => ?_⟩⟩
  obtain ⟨hz, Hm, fps, M⟩ := id R1
  rw [← List.append_assoc] at M
  rw [List.append_nil]
  refine ⟨Hm, ds, .no c, by rw [hl]; exact hn, M.sub, M.datas hl, h, fun H' sm => q H' ?_⟩
  have R2 : Rel X.K F ρ σ τ H1 := R1.drop
  obtain ⟨hz2, Hm2, fps2, M2⟩ := R2
  exact ⟨hz2, Hm2, fps2, M2.grow (Same.refl _) (M2.sub.trans sm) sm New.refl⟩
theorem PA.never {Y : Cx} {es : List Expr} : PA Y es (fun _ _ _ => False) := fun _ _ _ _ _ _ _ h => h.elim
theorem CallR.never {Y : Cx} {f : Value} : CallR Y f (fun _ _ _ => False) := fun _ _ _ _ _ _ _ _ _ h => h.elim
theorem ex_inB {id : String} (h : EX X W ρ e c) (hm : X.mg x = none) (hv : bootBuiltins x = some (.builtin id) := by decide +kernel) (hg : Gl X x := by rfl) (hn : x ≠ "__name__" := by decide) (hdb : (x == ("__debug__" : Str)) = false := by decide)
    (hst : starEach (e :: es) X.env = (false, eval e X.env) :: starEach es X.env := by rfl) (hpl : (backTo pos (starEach es X.env)).any (·.1) = false := by rfl) : EX X W ρ (.Call (.Name x p) (e :: es) [] pos) c :=
  ⟨(pe_callB (X := X.wish (Out X W)) CallR.never hg hm hv (pa_cons h.pe PA.never hst) hn hdb hst hpl).mono fun σ H Q q => q⟩
theorem s1_exprX (h : EX X W ρ e c) (o : O (.xc c ρ)) (hs : swapsWith e none pos.line X.env = pure false := by rfl) : S1 (X.wish (Out X W)) W ρ (.Expr e pos) O :=
  ⟨(ps_expr h.pe hs).mono fun D σ H ⟨F, τ, R, _, _, _, _, h5⟩ => ⟨F, τ, R, fun H1 R1 => h5 c ρ σ H1 o R1⟩⟩
theorem s1_retX (h : EX X W ρ e c) (o : O (.xc c ρ)) : S1 (X.wish (Out X W)) W ρ (.Return (some e) pos) O :=
  ⟨(ps_ret h.pe).mono fun D σ H ⟨F, τ, R, _, _, _, _, h5⟩ => ⟨F, τ, R, fun H1 R1 => h5 c ρ σ H1 o R1⟩⟩
theorem s1_setX (i : Nat) {pos' : Pos} (hN : X.N.Nodup) (h : EX X W ρ e c) (o : O (.xc c ρ)) (hi : X.N[i]? = some x := by rfl) (hx : Loc X.env.scope x := by first | exact Or.inl rfl | exact Or.inr rfl) (hs : swapsWith e (some (.Name x pos')) pos.line X.env = pure false := by rfl) (hf : X.fn x = true ∨ X.env.scope.names.lookup x = some .local := by first | exact .inl rfl | exact .inr rfl | assumption) : S1 (X.wish (Out X W)) W ρ (.Assign [.Name x pos'] e pos) O :=
  ⟨(ps_set (X := X.wish (Out X W)) hN hi hx h.pe hs hf).mono fun D σ H ⟨F, τ, R, _, _, _, _, h5⟩ => ⟨F, τ, R, fun H1 R1 => h5 c ρ σ H1 o R1⟩⟩
theorem s1_raise {C : Addr} {np cpos : Pos} (hm : Rf X.K X.mg x C) (he : EV (X.wish (Out X W)) ρ e s ρ1) (o : O (.xc (.ref C) ρ1)) (hc : X.calm = true := by rfl) (hex : X.ex = [] := by rfl) (hg : Gl X x := by rfl) (hdb : (x == ("__debug__" : Str)) = false := by decide)
    (hst : starEach [e] X.env = (false, eval e X.env) :: starEach [] X.env := by rfl) : S1 (X.wish (Out X W)) W ρ (.Raise (some (.Call (.Name x np) [e] [] cpos)) none pos) O :=
  ⟨(ps_raise hm.at_ hm.exc he.pe hc hex hg hdb hst).mono fun D σ H ⟨F, τ, R, _, _, _, _, h5⟩ => ⟨F, τ, R, fun v H1 R1 => h5 _ ρ1 σ H1 o R1.drop⟩⟩
end
section
variable {X : Cx} {W : Value → Hp → Prop} {ρ ρ1 ρ2 ρ3 : List Ow} {a b e : Expr} {ss : List Stmt} {pos : Pos} {d : PyData} {ds ds2 : List PyData} {O : Oc → Prop}
theorem Rel.own {K : PySem.W.Frag} {F : Fr} {σ : St} {τ : Sls} {H : Hp} {i : Nat} (R : Rel K F ρ σ τ H) (h : ρ[i]? = some (.lst ds)) : ∃ a vs, σ[i]? = some (some (.ref a)) ∧ H a = some (.lst vs) ∧ vs.length = ds.length ∧
    ∀ (T : Sls) (Hm : Hp) (fps : Nat → List Addr) (H' : Hp) (vs' : List V) (ds' : List PyData), Mem K F (σ.zip ρ ++ T) Hm H' fps → DpAll K Hm vs' ds' → ∃ fps', Mem K F (σ.zip (ρ.set i (.lst ds')) ++ T) Hm (upd H' a (.lst vs')) fps' := by
  obtain ⟨hl, Hm, fps, M⟩ := R
  have hi : i < ρ.length := (List.getElem?_eq_some_iff.mp h).1
  have hs : i < σ.length := by omega
  have hz : ∀ T : Sls, (σ.zip ρ ++ T)[i]? = some (σ[i], .lst ds) := fun T => by
    rw [List.getElem?_append_left (by simp; omega), List.getElem?_zip_eq_some]
    exact ⟨List.getElem?_eq_getElem hs, h⟩
  obtain ⟨a, vs, e1, e2, e3, e4⟩ := (M.ok i _ _ (hz τ)).lst_inv
  refine ⟨a, vs, by rw [List.getElem?_eq_getElem hs, e1], e3, e4.lenE, fun T Hm' fps' H' vs' ds' M' hd => ⟨fps', ?_⟩⟩
  have q := hz T
  rw [e1] at q
  have M2 := M'.setLst q hd
  have e5 : (σ.zip ρ ++ T).set i (some (.ref a), Ow.lst ds') = σ.zip (ρ.set i (.lst ds')) ++ T := by
    rw [List.set_append_left _ _ (by simp; omega)]
    congr 1
    apply List.ext_getElem?
    intro j
    by_cases hj : j = i
    · subst hj
      rw [List.getElem?_set_self (by simp; omega)]
      symm
      rw [List.getElem?_zip_eq_some]
      exact ⟨by rw [List.getElem?_eq_getElem hs, e1], by rw [List.getElem?_set_self hi]⟩
    · rw [List.getElem?_set_ne (Ne.symm hj)]
      by_cases hlt : j < ρ.length
      · have h1 : (σ.zip ρ)[j]? = some (σ[j]'(by omega), ρ[j]) := by
          rw [List.getElem?_zip_eq_some]
          exact ⟨List.getElem?_eq_getElem _, List.getElem?_eq_getElem _⟩
        rw [h1]
        symm
        rw [List.getElem?_zip_eq_some]
        exact ⟨List.getElem?_eq_getElem _, by rw [List.getElem?_set_ne (Ne.symm hj)]; exact List.getElem?_eq_getElem _⟩
      · rw [List.getElem?_eq_none (by simp; omega), List.getElem?_eq_none (by simp; omega)]
  rw [e5] at M2
  exact M2
theorem s1_append (i : Nat) {x : Str} {pn apos cpos : Pos} (h0 : ρ[i]? = some (.lst ds)) (h : EV X ρ e (.dat d) ρ) (hz : ds.length < sizeLine) (o : O (.nx (ρ.set i (.lst (ds ++ [d]))))) (hN : X.N[i]? = some x := by rfl) (hv : Vis X.env.scope x := by first | exact Or.inl rfl | exact Or.inr (Or.inl rfl) | exact Or.inr (Or.inr rfl)) (hd : (x == ("__debug__" : Str)) = false := by decide)
    (hcd : (x == ("__classdict__" : Str)) = false := by decide) (hbase : attributeBase (.Name x pn) "append" X.env (eval (.Name x pn) X.env) = eval (.Name x pn) X.env := by rfl) (hline : (apos.endLine == cpos.line) = true := by rfl)
    (hst : starEach [e] X.env = (false, eval e X.env) :: starEach [] X.env := by rfl) (hs : swapsWith (.Call (.Attribute (.Name x pn) "append" apos) [e] [] cpos) none pos.line X.env = pure false := by rfl) : S1 X W ρ (.Expr (.Call (.Attribute (.Name x pn) "append" apos) [e] [] cpos) pos) O := by
  refine ⟨(ps_expr (pe_bm PySem.F.plainAttrs_list PySem.F.slot_list_append PySem.F.type_list_append mt_append (pe_var hN hv hd hcd) (pa_cons h.pe pa_nil hst) hbase (by rw [hst]; rfl) hline hst rfl) hs).mono fun D σ H ⟨F, τ, R, h1, _⟩ => ?_⟩
  obtain ⟨a, vs, e1, e2, e3, e4⟩ := R.own h0
  refine ⟨_, e1, .inl ⟨rfl, _, SqL.of e2⟩, F, τ, R, fun v H1 R1 => ?_⟩
  obtain ⟨a', vs', e1', e2', e3', e4'⟩ := R1.own h0
  rw [e1] at e1'
  cases e1'
  refine ⟨a, vs', v, rfl, rfl, e2', by rw [e3']; exact hz, h1 _ _ _ o ?_⟩
  obtain ⟨hl, Hm, fps, M⟩ := R1
  have hy : (some v, Ow.dat d) ∈ σ.zip ρ ++ (τ ++ [(some v, Ow.dat d)]) := by simp
  have hi : i < ρ.length := (List.getElem?_eq_some_iff.mp h0).1
  have hds : DpAll X.K Hm vs' ds := by
    have hz : (σ.zip ρ ++ (τ ++ [(some v, Ow.dat d)]))[i]? = some (some (.ref a), .lst ds) := by
      rw [List.getElem?_append_left (by simp; omega), List.getElem?_zip_eq_some]
      exact ⟨e1, h0⟩
    obtain ⟨b, us, q1, q2, q3, q4⟩ := (M.ok i _ _ hz).lst_inv
    cases q1
    rw [e2'] at q3
    cases q3
    exact q4
  obtain ⟨fps', M'⟩ := e4' _ Hm fps H1 (vs' ++ [v]) (ds ++ [d]) M (hds.app (.cons (M.has hy) .nil))
  have R2 : Rel X.K F (ρ.set i (.lst (ds ++ [d]))) σ (τ ++ [(some v, .dat d)]) (upd H1 a (.lst (vs' ++ [v]))) := ⟨by simpa using hl, Hm, fps', M'⟩
  exact R2.drop
def frz1 : Ow → Ow
  | .dat d => .dat d
  | .lst ds => .dat (.list ds)
  | _ => .no
def frzO : Ow → Ow
  | .dat d => .dat d
  | .lst ds => .dat (.list ds)
  | .obj _ C fs => .rob C (fs.map fun p => (p.1, frz1 p.2))
  | .lls dss => .dat (.list (dss.map .list))
  | .rob C fs => .rob C fs
  | _ => .no
def flatD : PyData → Bool
  | .none => true
  | .bool _ => true
  | .int _ => true
  | .str _ => true
  | _ => false
theorem Dp.flatD {K : PySem.W.Frag} {H : Hp} {v : V} {d : PyData} (h : Dp K H v d) (f : L2.flatD d = true) : ∀ Hm, Dp K Hm v d := by
  intro Hm
  cases h with
  | non => exact .non
  | bl b => exact .bl b
  | int i => exact .int i
  | str x => exact .str x
  | lst _ _ => cases f
  | tup _ _ => cases f
end
end L2
namespace L2
open PySem PySem.Spec PyProof.Rows
section
variable {X : Cx} {ρ ρ1 ρ2 : List Ow} {a e : Expr} {pos p2 : Pos} {α : Type} {xs : List α}
def prI (p : Int × Int) : PyData := .tuple [.int p.1, .int p.2]
theorem EV.ints {f : α → Int} (h : EV X ρ e (.lst (xs.map fun x => .int (f x))) ρ1) : EV X ρ e (.lst ((xs.map f).map .int)) ρ1 := by
  rw [List.map_map]
  exact h
theorem EV.bools {f : α → Bool} (h : EV X ρ e (.lst (xs.map fun x => .bool (f x))) ρ1) : EV X ρ e (.lst ((xs.map f).map .bool)) ρ1 := by
  rw [List.map_map]
  exact h
theorem EV.strs {f : α → Str} (h : EV X ρ e (.lst (xs.map fun x => .str (f x))) ρ1) : EV X ρ e (.lst ((xs.map f).map .str)) ρ1 := by
  rw [List.map_map]
  exact h
theorem EI.rng {lo : Int} {n : Nat} {tg : Expr} (h : EI X ρ tg e (rngD lo n) ρ1) : EI X ρ tg e (((List.range n).map fun (k : Nat) => lo + (k : Int)).map .int) ρ1 := by
  rw [List.map_map]
  exact h
theorem cutD_map {β : Type} (g : α → β) (xs : List α) (lo hi : Option Int) : cutD (xs.map g) lo hi = (cutD xs lo hi).map g := by
  unfold cutD
  rw [List.length_map, List.map_take, List.map_drop]
theorem ev_slT' {g : α → PyData} {lo hi : Option Expr} {ol oh : Option Int} (ha : EV X ρ a (.dat (.tuple (xs.map g))) ρ) (hl : EO X ρ lo ol) (hh : EO X ρ hi oh) : EV X ρ (.Subscript a (.Slice lo hi none p2) pos) (.dat (.tuple ((cutD xs ol oh).map g))) ρ := by
  rw [← cutD_map]
  exact ev_slT ha hl hh
theorem cutD_1 {α : Type} (xs : List α) : cutD xs (some 1) none = xs.drop 1 := cutD_from xs 1
theorem atI_map {β : Type} (g : α → β) (xs : List α) (i : Int) : atI (xs.map g) i = (atI xs i).map g := by
  unfold atI
  rw [List.length_map]
  cases ixN xs.length i with
  | none => rfl
  | some j => simp
theorem ev_ixT' {g : α → PyData} {b : Expr} {i : Int} {x : α} (ha : EV X ρ a (.dat (.tuple (xs.map g))) ρ1) (hb : EV X ρ1 b (.dat (.int i)) ρ2) (h : atI xs i = some x) (hp : PlainIx b := by intro _ _; rfl) : EV X ρ (.Subscript a b pos) (.dat (g x)) ρ2 :=
  ev_ixT ha hb (by rw [atI_map, h]; rfl) hp
theorem ev_ixL' {g : α → PyData} {b : Expr} {i : Int} {x : α} (ha : EV X ρ a (.dat (.list (xs.map g))) ρ1) (hb : EV X ρ1 b (.dat (.int i)) ρ2) (h : atI xs i = some x) (hp : PlainIx b := by intro _ _; rfl) : EV X ρ (.Subscript a b pos) (.dat (g x)) ρ2 :=
  ev_ixL ha hb (by rw [atI_map, h]; rfl) hp
theorem atI_getD {xs : List Int} {i : Int} (h0 : 0 ≤ i) (h1 : i < xs.length) : atI xs i = some (xs.getD i.toNat 0) := by
  unfold atI ixN
  rw [if_pos h0, if_pos h1]
  have : i.toNat < xs.length := by omega
  simp [List.getD, List.getElem?_eq_getElem this]
end
end L2
namespace L2
open PySem PySem.Spec PyProof.Rows
section
variable {K : PySem.W.Frag} {F : Fr} {ρ ρ' : List Ow} {σ : St} {τ : Sls} {H : Hp} {i : Nat} {s : Ow}
theorem Rel.take {s' : Ow} (R : Rel K F ρ σ τ H) (h : ρ[i]? = some s') : ∃ o, σ[i]? = some o ∧ Rel K F (ρ.set i .no) σ (τ ++ [(o, s')]) H := by
  obtain ⟨hl, Hm, fps, M⟩ := R
  have hi : i < ρ.length := (List.getElem?_eq_some_iff.mp h).1
  have hs : i < σ.length := by omega
  refine ⟨σ[i], List.getElem?_eq_getElem hs, by simpa using hl, Hm, ?_⟩
  have hz : (σ.zip ρ).length = ρ.length := by simp [hl]
  have M1 : Mem K F ((σ.zip ρ).eraseIdx i ++ (τ ++ [(σ[i], s')])) Hm H (fun k => fps (if k < i then k else if k + 1 < ρ.length + τ.length then k + 1 else i)) := by
    refine M.pick _ (fun k x q => ?_) fun k m hk hm n => ?_
    · have hel : ((σ.zip ρ).eraseIdx i).length = ρ.length - 1 := by rw [List.length_eraseIdx]; simp [hl, hi]
      by_cases k1 : k < i
      · simp only [k1, if_true]
        rw [List.getElem?_append_left (by omega), List.getElem?_eraseIdx, if_pos k1] at q
        rw [List.getElem?_append_left (by omega)]
        exact q
      · simp only [k1, if_false]
        by_cases k2 : k < ρ.length - 1
        · rw [List.getElem?_append_left (by omega), List.getElem?_eraseIdx, if_neg k1] at q
          rw [if_pos (by omega), List.getElem?_append_left (by omega)]
          exact q
        · rw [List.getElem?_append_right (by omega), hel] at q
          by_cases k3 : k - (ρ.length - 1) < τ.length
          · rw [List.getElem?_append_left k3] at q
            rw [if_pos (by omega), List.getElem?_append_right (by omega), hz]
            rw [show k + 1 - ρ.length = k - (ρ.length - 1) by omega]
            exact q
          · rw [List.getElem?_append_right (by omega)] at q
            have e0 : k - (ρ.length - 1) - τ.length = 0 := by
              have := (List.getElem?_eq_some_iff.mp q).1
              simp at this
              omega
            rw [e0] at q
            rw [if_neg (by omega), List.getElem?_append_left (by omega), List.getElem?_zip_eq_some]
            simp at q
            subst q
            exact ⟨List.getElem?_eq_getElem hs, h⟩
    · have hel : ((σ.zip ρ).eraseIdx i).length = ρ.length - 1 := by rw [List.length_eraseIdx]; simp [hl, hi]
      simp only [List.length_append, hel, List.length_cons, List.length_nil] at hk hm
      (repeat' split) <;> omega
  have M2 := M1.front (L1 := [(σ[i], Ow.no)]) (fun k o t q => by
    cases k with
    | zero => simp at q; obtain ⟨rfl, rfl⟩ := q; exact .no
    | succ k => simp at q)
  refine ⟨_, M2.pick (fun k => if k < ρ.length then (if k = i then 0 else if k < i then k + 1 else k) else k) (fun k x q => ?_) fun k m hk hm n => ?_⟩
  · have hel : ((σ.zip ρ).eraseIdx i).length = ρ.length - 1 := by rw [List.length_eraseIdx]; simp [hl, hi]
    have hz2 : (σ.zip (ρ.set i .no)).length = ρ.length := by simp [hl]
    by_cases k1 : k < ρ.length
    · simp only [k1, if_true]
      rw [List.getElem?_append_left (by omega), List.getElem?_zip_eq_some] at q
      obtain ⟨q1, q2⟩ := q
      by_cases k2 : k = i
      · subst k2
        simp only [if_true]
        rw [List.getElem?_set_self hi] at q2
        rw [List.getElem?_eq_getElem hs] at q1
        cases x
        simp at q1 q2
        subst q1 q2
        rfl
      · simp only [k2, if_false]
        rw [List.getElem?_set_ne (Ne.symm k2)] at q2
        by_cases k3 : k < i
        · simp only [k3, if_true]
          rw [List.getElem?_append_right (by simp)]
          simp only [List.length_cons, List.length_nil, Nat.zero_add, Nat.add_sub_cancel]
          rw [List.getElem?_append_left (by omega), List.getElem?_eraseIdx, if_pos k3, List.getElem?_zip_eq_some]
          exact ⟨q1, q2⟩
        · simp only [k3, if_false]
          rw [List.getElem?_append_right (by simp; omega)]
          simp only [List.length_cons, List.length_nil, Nat.zero_add]
          rw [List.getElem?_append_left (by omega), List.getElem?_eraseIdx, if_neg (by omega), show k - 1 + 1 = k by omega, List.getElem?_zip_eq_some]
          exact ⟨q1, q2⟩
    · simp only [k1, if_false]
      rw [List.getElem?_append_right (by omega), hz2] at q
      rw [List.getElem?_append_right (by simp; omega)]
      simp only [List.length_cons, List.length_nil, Nat.zero_add]
      rw [List.getElem?_append_right (by omega), hel, show k - 1 - (ρ.length - 1) = k - ρ.length by omega]
      exact q
  · simp only [List.length_append, List.length_zip, List.length_set, hl, Nat.min_self, List.length_cons, List.length_nil] at hk hm
    (repeat' split) <;> omega
theorem List.set_same' {α : Type} {l : List α} {i : Nat} {x : α} (h : l[i]? = some x) : l.set i x = l := by
  obtain ⟨hi, e⟩ := List.getElem?_eq_some_iff.mp h
  subst e
  exact List.set_getElem_self ..
theorem Rel.frzAt {ds : List PyData} (R : Rel K F ρ σ τ H) (h : ρ[i]? = some (.lst ds)) : Rel K F (ρ.set i (.dat (.list ds))) σ τ H := by
  obtain ⟨o, ho, R1⟩ := R.take h
  have hv : ∃ v, o = some v := by
    obtain ⟨hl, Hm, fps, M⟩ := id R1
    have hx : (σ.zip (ρ.set i .no) ++ (τ ++ [(o, Ow.lst ds)]))[(σ.zip (ρ.set i .no) ++ τ).length]? = some (o, .lst ds) := by
      rw [← List.append_assoc, List.getElem?_append_right (Nat.le_refl _), Nat.sub_self]; rfl
    obtain ⟨a, vs, e, _⟩ := (M.ok _ _ _ hx).lst_inv
    exact ⟨_, e⟩
  obtain ⟨v, rfl⟩ := hv
  have R2 := R1.frz.store1 (i := i)
  rw [List.set_same' ho, List.set_set] at R2
  exact R2
end
section
variable {X : Cx} {W : Value → Hp → Prop} {ρ ρ1 ρ2 ρ3 : List Ow} {a b c e : Expr} {ss : List Stmt} {pos : Pos} {d : PyData} {ds ds2 : List PyData} {O : Oc → Prop} {s : Ow}
theorem bs_frz (i : Nat) (h : ρ[i]? = some (.lst ds)) (k : BS X W (ρ.set i (.dat (.list ds))) ss O) : BS X W ρ ss O :=
  ⟨k.ps.mono fun D σ H ⟨F, τ, R, q⟩ => ⟨F, τ, R.frzAt h, q⟩⟩
theorem lookup_mapO (F : Ow → Ow) : ∀ (ts : List (Str × Ow)) (f : Str), (ts.map fun p => (p.1, F p.2)).lookup f = (ts.lookup f).map F
  | [], _ => rfl
  | (k, x) :: ts, f => by
    show List.lookup f ((k, F x) :: ts.map fun p => (p.1, F p.2)) = Option.map F (List.lookup f ((k, x) :: ts))
    rw [List.lookup_cons, List.lookup_cons]
    cases f == k with
    | true => rfl
    | false => exact lookup_mapO F ts f
open Classical in
theorem Rel.lend {K : PySem.W.Frag} {F : Fr} {σ : St} {τ : Sls} {H : Hp} (R : Rel K F ρ σ τ H) : ∃ F', F'.H = H ∧ (∀ a, ¬ F'.md a) ∧ Rel K F' (ρ.map frzO) σ [] H ∧ ∀ T H' ρ' σ', Rel K F' ρ' σ' T H' → Rel K F ρ σ τ H' ∧ Same H H' := by
  obtain ⟨hl, Hm, fps, M⟩ := R
  let P : Addr → Prop := fun b => ∃ j : Nat, j < (σ.zip ρ).length ∧ b ∈ fps j
  let Hp' : Hp := fun b => if P b then H b else Hm b
  have s1 : Same Hm Hp' := fun b u q => by
    show (if P b then H b else Hm b) = some u
    split
    · exact M.sub _ _ q
    · exact q
  have s2 : Same Hp' H := fun b u q => by
    have q : (if P b then H b else Hm b) = some u := q
    split at q
    · exact q
    · exact M.sub _ _ q
  have s3 : ∀ {j : Nat} {b : Addr} {u : HO}, j < (σ.zip ρ).length → b ∈ fps j → H b = some u → Hp' b = some u := fun {j b u} hj hb q => by
    show (if P b then H b else Hm b) = some u
    rw [if_pos ⟨j, hj, hb⟩]
    exact q
  refine ⟨⟨Hp', H, fun _ => False⟩, rfl, fun _ z => z, ⟨by simpa using hl, Hp', fun _ => [], ⟨s2, fun _ _ q _ => q, Same.refl _, fun _ q => .inl q, fun j o s q => ?_, fun j _ b m => (by cases m), fun j k _ _ _ b m => (by cases m)⟩⟩, fun T H' ρ' σ' R' => ?_⟩
  · rw [List.append_nil, List.getElem?_zip_eq_some, List.getElem?_map] at q
    obtain ⟨q1, q2⟩ := q
    obtain ⟨t, ht, e⟩ := Option.map_eq_some_iff.mp q2
    dsimp only at e q1
    have hz : (σ.zip ρ)[j]? = some (o, t) := by
      rw [List.getElem?_zip_eq_some]
      exact ⟨q1, ht⟩
    have hlt := (List.getElem?_eq_some_iff.mp hz).1
    have hz2 : (σ.zip ρ ++ τ)[j]? = some (o, t) := by
      rw [List.getElem?_append_left hlt]
      exact hz
    have hok := M.ok _ _ _ hz2
    have s4 := fun {b : Addr} {u : HO} => s3 (j := j) (b := b) (u := u) hlt
    generalize fps j = fp at hok s4
    cases hok with
    | no => rw [← e]; exact .no
    | exc _ => rw [← e]; exact .no
    | hol => rw [← e]; exact .no
    | tab _ _ _ => rw [← e]; exact .no
    | dic _ => rw [← e]; exact .no
    | lls e1 e2 e3 e4 e5 =>
      rw [← e]
      exact .dat (.lst (SqL.of (s4 (by simp) e1)) (DpAll.lls e4 fun i b ds q1 q2 => let ⟨vs, q3, q4⟩ := e5 i b ds q1 q2; ⟨vs, SqL.of (s4 (List.mem_cons_of_mem _ (List.mem_of_getElem? q1)) q3), q4.up s1⟩))
    | dat hd =>
      rw [← e]
      exact .dat (hd.up s1)
    | lst e3 e4 =>
      rw [← e]
      exact .dat (.lst (SqL.of (s4 (by simp) e3)) (e4.up s1))
    | rob h1 hN h2 =>
      rw [← e]
      exact .rob (s1 _ _ h1) hN fun f d q => ⟨(h2 f d q).1, (h2 f d q).2.up s1⟩
    | @obj a C dx w fs ts val g h0 h1 h2 n1 hl h3 h4 h5 h6 h7 =>
      rw [← e]
      refine .rob (val := val) (s4 (by simp) h1) (fun f q => h3 f (Option.map_eq_none_iff.mp ((lookup_mapO frz1 ts f).symm.trans q))) fun f d q => ?_
      have q' : (ts.lookup f).map frz1 = some (.dat d) := by
        rw [← q]
        exact (lookup_mapO frz1 ts f).symm
      obtain ⟨s, hs, es⟩ := Option.map_eq_some_iff.mp q'
      have o5 := h5 f s hs
      have s5 : ∀ {b : Addr} {u : HO}, b ∈ g f → H b = some u → Hp' b = some u := fun hb => s4 (List.mem_cons_of_mem _ (List.mem_cons_of_mem _ (List.mem_flatMap.mpr ⟨f, lookup_key hs, hb⟩)))
      refine ⟨h4 f s hs, ?_⟩
      generalize val f = vf at o5
      generalize g f = gf at o5 s5
      cases o5 with
      | dat hd => cases es; exact hd.up s1
      | lst e3 e4 => cases es; exact .lst (SqL.of (s5 (by simp) e3)) (e4.up s1)
      | no => cases es
      | obj _ _ _ _ _ _ _ _ _ _ => cases es
      | rob _ _ _ => cases es
      | exc _ => cases es
      | hol => cases es
      | tab _ _ _ => cases es
      | lls _ _ _ _ _ => cases es
      | dic _ => cases es
  · obtain ⟨_, Hm', fps', M'⟩ := R'
    have s3 : Same H H' := fun a u z => M'.ent a u z (fun y => y)
    exact ⟨⟨hl, Hm, fps, M.grow (Same.refl _) (M.sub.trans s3) s3 New.refl⟩, s3⟩
theorem EV.lend (h : EV X (ρ.map frzO) e (.dat d) ρ1) (f : flatD d = true := by rfl) : EV X ρ e (.dat d) ρ := ⟨h.pe.mono fun σ H Q ⟨F, τ, R, q⟩ => by
  obtain ⟨F', _, _, R1, k⟩ := R.lend
  refine ⟨F', [], R1, fun v H' R2 => q v H' ((k _ _ _ _ R2).1.flat ?_)⟩
  obtain ⟨Hm, _, hd, _⟩ := Rel.one (τ := []) R2
  exact hd.flatD f⟩
theorem ET.lend {k : Bool} (h : ET X (ρ.map frzO) e k ρ1) : ET X ρ e k ρ := ⟨h.pt.mono fun σ H Q ⟨F, τ, R, q⟩ => by
  obtain ⟨F', _, _, R1, k⟩ := R.lend
  exact ⟨F', [], R1, fun H' R2 => q H' (k _ _ _ _ R2).1⟩⟩
end
end L2
namespace L2
open PySem PySem.Spec PyProof.Rows
section
variable {X : Cx} {W : Value → Hp → Prop} {ρ ρ1 ρ2 ρ3 : List Ow} {a b c e : Expr} {ss : List Stmt} {pos : Pos} {d : PyData} {ds ds2 : List PyData} {O : Oc → Prop} {s : Ow} {i j : Int}
theorem Rel.two' {K : PySem.W.Frag} {F : Fr} {σ : St} {τ : Sls} {H : Hp} {v u : V} (R : Rel K F ρ σ (τ ++ [(some v, .lst ds)] ++ [(some u, .lst ds2)]) H) :
    ∃ Hm p q vs us, v = .ref p ∧ u = .ref q ∧ H p = some (.lst vs) ∧ H q = some (.lst us) ∧ Same Hm H ∧ DpAll K Hm vs ds ∧ DpAll K Hm us ds2 ∧ ∀ s Q, (∀ v H', Rel K F ρ σ (τ ++ [(some v, s)]) H' → Q v H') → Fin K s Hm H Q := by
  obtain ⟨hz, Hm, fps, M⟩ := R
  have h1 : (σ.zip ρ ++ (τ ++ [(some v, Ow.lst ds)] ++ [(some u, Ow.lst ds2)]))[(σ.zip ρ ++ τ).length]? = some (some v, .lst ds) := by
    rw [List.append_assoc τ, ← List.append_assoc, List.getElem?_append_right (Nat.le_refl _), Nat.sub_self]; rfl
  have h2 : (σ.zip ρ ++ (τ ++ [(some v, Ow.lst ds)] ++ [(some u, Ow.lst ds2)]))[(σ.zip ρ ++ τ).length + 1]? = some (some u, .lst ds2) := by
    rw [List.append_assoc τ, ← List.append_assoc, List.getElem?_append_right (by omega), Nat.add_sub_cancel_left]; rfl
  obtain ⟨p, vs, e1, e2, e3, e4⟩ := (M.ok _ _ _ h1).lst_inv
  obtain ⟨q, us, e1', e2', e3', e4'⟩ := (M.ok _ _ _ h2).lst_inv
  cases e1
  cases e1'
  refine ⟨Hm, p, q, vs, us, rfl, rfl, e3, e3', M.sub, e4, e4', fun s Q q w fp Hm' H' x1 x2 x3 n o hf => q w H' ?_⟩
  have M0 : Mem K F (σ.zip ρ ++ τ) Hm H fps := M.pick id (fun i x h => by
    have := (List.getElem?_eq_some_iff.mp h).1
    rw [List.append_assoc τ, ← List.append_assoc]
    show ((σ.zip ρ ++ τ) ++ _)[i]? = _
    rw [List.getElem?_append_left this]
    exact h) fun i j _ _ n => n
  obtain ⟨fps', M'⟩ := M0.next w s fp Hm' H' x1 x2 x3 n o hf
  exact ⟨hz, Hm', fps', by rw [← List.append_assoc]; exact M'⟩
theorem ev_cat (hz : ds.length + ds2.length ≤ sizeLine) (ha : EV X ρ a (.lst ds) ρ1) (hb : EV X ρ1 b (.lst ds2) ρ2) : EV X ρ (.BinOp a .Add b pos) (.lst (ds ++ ds2)) ρ2 := by
  refine ⟨(pe_op op_cat ha.pe hb.pe).mono fun σ H Q ⟨F, τ, R, q⟩ => ⟨F, τ, R, fun v H1 R1 => ⟨F, _, R1, fun u H2 R2 => ?_⟩⟩⟩
  obtain ⟨Hm, p, q', vs, us, rfl, rfl, h1, h2, h3, h4, h5, h6⟩ := R2.two'
  exact ⟨p, q', vs, us, rfl, rfl, h1, h2, by rw [h4.lenE, h5.lenE]; exact hz, fun l hl => (h6 _ Q q).lst h3 (h4.app h5) hl⟩
theorem DpAll.rep {K : PySem.W.Frag} {H : Hp} {vs : List V} {ds : List PyData} (h : DpAll K H vs ds) : ∀ n : Nat, DpAll K H (List.replicate n vs).flatten (List.replicate n ds).flatten
  | 0 => .nil
  | n + 1 => by
    rw [List.replicate_succ, List.replicate_succ, List.flatten_cons, List.flatten_cons]
    exact h.app (DpAll.rep h n)
theorem Rel.one' {K : PySem.W.Frag} {F : Fr} {σ : St} {τ : Sls} {H : Hp} {v u : V} (R : Rel K F ρ σ (τ ++ [(some v, .lst ds)] ++ [(some u, .dat d)]) H) :
    ∃ Hm p vs, v = .ref p ∧ H p = some (.lst vs) ∧ Same Hm H ∧ DpAll K Hm vs ds ∧ Dp K Hm u d ∧ ∀ s Q, (∀ v H', Rel K F ρ σ (τ ++ [(some v, s)]) H' → Q v H') → Fin K s Hm H Q := by
  obtain ⟨hz, Hm, fps, M⟩ := R
  have h1 : (σ.zip ρ ++ (τ ++ [(some v, Ow.lst ds)] ++ [(some u, Ow.dat d)]))[(σ.zip ρ ++ τ).length]? = some (some v, .lst ds) := by
    rw [List.append_assoc τ, ← List.append_assoc, List.getElem?_append_right (Nat.le_refl _), Nat.sub_self]; rfl
  obtain ⟨p, vs, e1, e2, e3, e4⟩ := (M.ok _ _ _ h1).lst_inv
  cases e1
  refine ⟨Hm, p, vs, rfl, e3, M.sub, e4, M.has (by simp), fun s Q q w fp Hm' H' x1 x2 x3 n o hf => q w H' ?_⟩
  have M0 : Mem K F (σ.zip ρ ++ τ) Hm H fps := M.pick id (fun i x h => by
    have := (List.getElem?_eq_some_iff.mp h).1
    rw [List.append_assoc τ, ← List.append_assoc]
    show ((σ.zip ρ ++ τ) ++ _)[i]? = _
    rw [List.getElem?_append_left this]
    exact h) fun i j _ _ n => n
  obtain ⟨fps', M'⟩ := M0.next w s fp Hm' H' x1 x2 x3 n o hf
  exact ⟨hz, Hm', fps', by rw [← List.append_assoc]; exact M'⟩
theorem ev_rep (hz : -(2 ^ 63) ≤ i ∧ i < 2 ^ 63 ∧ ds.length * i.toNat ≤ sizeLine) (ha : EV X ρ a (.lst ds) ρ1) (hb : EV X ρ1 b (.dat (.int i)) ρ2) : EV X ρ (.BinOp a .Mult b pos) (.lst (List.replicate i.toNat ds).flatten) ρ2 := by
  refine ⟨(pe_op op_rep ha.pe hb.pe).mono fun σ H Q ⟨F, τ, R, q⟩ => ⟨F, τ, R, fun v H1 R1 => ⟨F, _, R1, fun u H2 R2 => ?_⟩⟩⟩
  obtain ⟨Hm, p, vs, rfl, h1, h2, h3, h4, h5⟩ := R2.one'
  cases h4
  exact ⟨p, i, vs, rfl, rfl, h1, hz.1, hz.2.1, by rw [h3.lenE]; exact hz.2.2, fun l hl => (h5 _ Q q).lst h2 (h3.rep _) hl⟩
theorem ev_rep1 (hz : -(2 ^ 63) ≤ i ∧ i < 2 ^ 63 ∧ i.toNat ≤ sizeLine) (ha : EV X ρ a (.lst [d]) ρ1) (hb : EV X ρ1 b (.dat (.int i)) ρ2) : EV X ρ (.BinOp a .Mult b pos) (.lst (List.replicate i.toNat d)) ρ2 := by
  have h := ev_rep (pos := pos) ⟨hz.1, hz.2.1, by simpa using hz.2.2⟩ ha hb
  have e : ∀ n : Nat, (List.replicate n [d]).flatten = List.replicate n d := fun n => by
    induction n with
    | zero => rfl
    | succ n ih => rw [List.replicate_succ, List.flatten_cons, ih]; rfl
  rwa [e] at h
theorem s1_extend (i : Nat) {x : Str} {pn apos cpos : Pos} (h0 : ρ[i]? = some (.lst ds)) (h : EV X ρ e (.lst ds2) ρ) (hz : ds.length + ds2.length ≤ sizeLine) (o : O (.nx (ρ.set i (.lst (ds ++ ds2))))) (hst : starEach [e] X.env = (false, eval e X.env) :: starEach [] X.env) (hN : X.N[i]? = some x := by rfl) (hv : Vis X.env.scope x := by first | exact Or.inl rfl | exact Or.inr (Or.inl rfl) | exact Or.inr (Or.inr rfl)) (hd : (x == ("__debug__" : Str)) = false := by decide)
    (hcd : (x == ("__classdict__" : Str)) = false := by decide) (hbase : attributeBase (.Name x pn) "extend" X.env (eval (.Name x pn) X.env) = eval (.Name x pn) X.env := by rfl) (hline : (apos.endLine == cpos.line) = true := by rfl)
    (hs : swapsWith (.Call (.Attribute (.Name x pn) "extend" apos) [e] [] cpos) none pos.line X.env = pure false := by rfl) : S1 X W ρ (.Expr (.Call (.Attribute (.Name x pn) "extend" apos) [e] [] cpos) pos) O := by
  refine ⟨(ps_expr (pe_bm PySem.F.plainAttrs_list PySem.F.slot_list_extend PySem.F.type_list_extend mt_extend (pe_var hN hv hd hcd) (pa_cons h.pe pa_nil hst) hbase (by rw [hst]; rfl) hline hst rfl) hs).mono fun D σ H ⟨F, τ, R, h1, _⟩ => ?_⟩
  obtain ⟨a, vs, e1, e2, e3, e4⟩ := R.own h0
  refine ⟨_, e1, .inl ⟨rfl, _, SqL.of e2⟩, F, τ, R, fun v H1 R1 => ?_⟩
  obtain ⟨a', vs', e1', e2', e3', e4'⟩ := R1.own h0
  rw [e1] at e1'
  cases e1'
  obtain ⟨hl, Hm, fps, M⟩ := R1
  have hi : i < ρ.length := (List.getElem?_eq_some_iff.mp h0).1
  have hx : (σ.zip ρ ++ (τ ++ [(some v, Ow.lst ds2)]))[(σ.zip ρ ++ τ).length]? = some (some v, .lst ds2) := by
    rw [← List.append_assoc, List.getElem?_append_right (Nat.le_refl _), Nat.sub_self]; rfl
  obtain ⟨b, us, q1, q2, q3, q4⟩ := (M.ok _ _ _ hx).lst_inv
  cases q1
  have hds : DpAll X.K Hm vs' ds := by
    have hz : (σ.zip ρ ++ (τ ++ [(some (.ref b), Ow.lst ds2)]))[i]? = some (some (.ref a), .lst ds) := by
      rw [List.getElem?_append_left (by simp; omega), List.getElem?_zip_eq_some]
      exact ⟨e1, h0⟩
    obtain ⟨b', us', q1, q2, q3, q4⟩ := (M.ok i _ _ hz).lst_inv
    cases q1
    rw [e2'] at q3
    cases q3
    exact q4
  refine ⟨a, b, vs', us, rfl, rfl, e2', q3, by rw [e3', q4.lenE]; exact hz, h1 _ _ _ o ?_⟩
  obtain ⟨fps', M'⟩ := e4' _ Hm fps H1 (vs' ++ us) (ds ++ ds2) M (hds.app q4)
  have R2 : Rel X.K F (ρ.set i (.lst (ds ++ ds2))) σ (τ ++ [(some (.ref b), .lst ds2)]) (upd H1 a (.lst (vs' ++ us))) := ⟨by simpa using hl, Hm, fps', M'⟩
  exact R2.drop
end
end L2
namespace L2
open PySem PySem.Spec PyProof.Rows
def Rise (xs : Array Nat) : Prop := ∀ (i j a b : Nat), i < j → xs[i]? = some a → xs[j]? = some b → a < b
theorem below_go {xs : Array Nat} {j : Nat} (hs : Rise xs) : ∀ (fuel lo hi : Nat), hi ≤ xs.size → lo ≤ hi → hi - lo ≤ fuel → (∀ (i a : Nat), i < lo → xs[i]? = some a → a < j) → (∀ (i a : Nat), hi ≤ i → xs[i]? = some a → j ≤ a) →
    SetTable.below.go xs j fuel lo hi ≤ xs.size ∧ (∀ (i a : Nat), i < SetTable.below.go xs j fuel lo hi → xs[i]? = some a → a < j) ∧ (∀ (i a : Nat), SetTable.below.go xs j fuel lo hi ≤ i → xs[i]? = some a → j ≤ a)
  | 0, lo, hi, h1, h2, h3, h4, h5 => by
    have e : lo = hi := by omega
    subst e
    unfold SetTable.below.go
    exact ⟨h1, h4, h5⟩
  | fuel + 1, lo, hi, h1, h2, h3, h4, h5 => by
    unfold SetTable.below.go
    by_cases hlt : lo < hi
    · rw [if_pos hlt]
      have hm : (lo + hi) / 2 < xs.size := by omega
      have hg : xs.getD ((lo + hi) / 2) j = xs[(lo + hi) / 2] := by simp [Array.getD, hm]
      dsimp only
      rw [hg]
      have hge : xs[(lo + hi) / 2]? = some xs[(lo + hi) / 2] := Array.getElem?_eq_getElem hm
      generalize xs[(lo + hi) / 2] = m at hge
      by_cases hc : m < j
      · rw [if_pos hc]
        refine below_go hs fuel _ hi h1 (by omega) (by omega) (fun i a hi' e => ?_) h5
        by_cases z : i = (lo + hi) / 2
        · subst z
          rw [hge] at e
          cases e
          exact hc
        · have := hs i ((lo + hi) / 2) a m (by omega) e hge
          omega
      · rw [if_neg hc]
        refine below_go hs fuel lo _ (by omega) (by omega) (by omega) h4 (fun i a hi' e => ?_)
        by_cases z : i = (lo + hi) / 2
        · subst z
          rw [hge] at e
          cases e
          omega
        · have := hs ((lo + hi) / 2) i m a (by omega) hge e
          omega
    · rw [if_neg hlt]
      have e : lo = hi := by omega
      subst e
      exact ⟨h1, h4, h5⟩
theorem below_is {xs : Array Nat} (hs : Rise xs) (j : Nat) : SetTable.below xs j ≤ xs.size ∧ (∀ (i a : Nat), i < SetTable.below xs j → xs[i]? = some a → a < j) ∧ (∀ (i a : Nat), SetTable.below xs j ≤ i → xs[i]? = some a → j ≤ a) :=
  below_go hs xs.size 0 xs.size (Nat.le_refl _) (Nat.zero_le _) (by omega) (fun i a h => by omega) (fun i a h e => by
    have := (Array.getElem?_eq_some_iff.mp e).1
    omega)
theorem below_at {xs : Array Nat} (hs : Rise xs) {k : Nat} {slot : Nat} (h0 : ∀ (i a : Nat), i < k → xs[i]? = some a → a < slot) (h1 : ∀ a, xs[k]? = some a → slot ≤ a) (hk : k ≤ xs.size) : SetTable.below xs slot = k := by
  obtain ⟨b0, b1, b2⟩ := below_is hs slot
  by_cases hlt : SetTable.below xs slot < k
  · have hlt2 : SetTable.below xs slot < xs.size := by omega
    have e := Array.getElem?_eq_getElem hlt2
    have := b2 _ _ (Nat.le_refl _) e
    have := h0 _ _ hlt e
    omega
  · by_cases hgt : k < SetTable.below xs slot
    · have hlt2 : k < xs.size := by omega
      have e := Array.getElem?_eq_getElem hlt2
      have := b1 _ _ hgt e
      have := h1 _ e
      omega
    · omega
theorem rise_insert {xs : Array Nat} (hs : Rise xs) {j : Nat} (hj : ∀ i : Nat, xs[i]? ≠ some j) : Rise (SetTable.insertAt xs (SetTable.below xs j) j) := by
  obtain ⟨b0, b1, b2⟩ := below_is hs j
  generalize SetTable.below xs j = p at b0 b1 b2
  have hl : (SetTable.insertAt xs p j).toList = xs.toList.take p ++ j :: xs.toList.drop p := SetTable.toList_insertAt ..
  have get : ∀ i a : Nat, (SetTable.insertAt xs p j)[i]? = some a → (i < p ∧ xs[i]? = some a) ∨ (i = p ∧ a = j) ∨ (p < i ∧ xs[i - 1]? = some a) := by
    intro i a e
    rw [← Array.getElem?_toList, hl] at e
    have hlen : (xs.toList.take p).length = p := by rw [List.length_take, Array.length_toList]; omega
    by_cases h : i < p
    · left
      rw [List.getElem?_append_left (by omega), List.getElem?_take_of_lt h, Array.getElem?_toList] at e
      exact ⟨h, e⟩
    · rw [List.getElem?_append_right (by omega), hlen] at e
      by_cases h2 : i = p
      · subst h2
        rw [Nat.sub_self] at e
        simp at e
        exact .inr (.inl ⟨rfl, e.symm⟩)
      · right; right
        obtain ⟨m, hm⟩ : ∃ m, i - p = m + 1 := ⟨i - p - 1, by omega⟩
        rw [hm, List.getElem?_cons_succ, List.getElem?_drop, Array.getElem?_toList] at e
        exact ⟨by omega, by rw [show i - 1 = p + m by omega]; exact e⟩
  intro i k a b hik ha hb
  rcases get i a ha with ⟨x1, x2⟩ | ⟨x1, x2⟩ | ⟨x1, x2⟩ <;> rcases get k b hb with ⟨y1, y2⟩ | ⟨y1, y2⟩ | ⟨y1, y2⟩
  · exact hs i k a b hik x2 y2
  · have := b1 i a x1 x2; omega
  · exact hs i (k - 1) a b (by omega) x2 y2
  · omega
  · omega
  · have h1 := b2 (k - 1) b (by omega) y2
    have h2 : b ≠ j := fun z => hj (k - 1) (z ▸ y2)
    omega
  · omega
  · omega
  · exact hs (i - 1) (k - 1) a b (by omega) x2 y2
structure TOk (bt : Bool) (t : SetTable) : Prop where
  led : t.led = !bt
  dum : t.dummies = #[]
  rise : Rise t.place
theorem rise_range (n : Nat) : Rise (Array.range n) := by
  intro i j a b hij ha hb
  have h1 := (Array.getElem?_eq_some_iff.mp ha).1
  have h2 := (Array.getElem?_eq_some_iff.mp hb).1
  rw [Array.getElem?_eq_getElem h1] at ha
  rw [Array.getElem?_eq_getElem h2] at hb
  simp at ha hb
  omega
theorem TOk.stand {bt : Bool} {t : SetTable} (h : TOk bt t) (n : Nat) : TOk bt (t.standIn n) := ⟨h.led, rfl, rise_range n⟩
theorem TOk.orStand {bt : Bool} {t : SetTable} (h : TOk bt t) (n : Nat) : TOk bt (t.orStandIn n) := by
  unfold SetTable.orStandIn
  split
  · exact h
  · exact h.stand n
theorem TOk.fresh (bt : Bool) : TOk bt (.fresh 0 0 (!bt)) := ⟨rfl, rfl, fun i j a b _ h => by simp [SetTable.fresh] at h⟩
theorem TOk.plainOff {bt : Bool} {t : SetTable} (h : TOk bt t) (b : Bool) : TOk bt { t with plain := b } := ⟨h.led, h.dum, h.rise⟩
theorem TOk.slot {bt : Bool} {t : SetTable} (h : TOk bt t) (j : Nat) : t.slot j ≠ .dummy ∧ (t.slot j = .empty → ∀ i : Nat, t.place[i]? ≠ some j) := by
  unfold SetTable.slot
  dsimp only
  by_cases e : (t.place[SetTable.below t.place j]? == some j) = true
  · rw [if_pos e]
    exact ⟨fun z => (by cases z), fun z => (by cases z)⟩
  · rw [if_neg e]
    have hd : SetTable.has t.dummies j = false := by rw [h.dum]; rfl
    rw [hd]
    refine ⟨fun z => by simp at z, fun _ i hi => ?_⟩
    obtain ⟨b0, b1, b2⟩ := below_is h.rise j
    have hlt := (Array.getElem?_eq_some_iff.mp hi).1
    have h1 : SetTable.below t.place j ≤ i := Nat.le_of_not_lt fun z => by
      have := b1 i j z hi
      omega
    have h2 : SetTable.below t.place j = i := by
      by_cases z : SetTable.below t.place j = i
      · exact z
      · have hb : SetTable.below t.place j < t.place.size := by omega
        have e1 := Array.getElem?_eq_getElem hb
        have := b2 _ _ (Nat.le_refl _) e1
        have := h.rise _ i _ j (by omega) e1 hi
        omega
    rw [h2, hi] at e
    exact e (by simp)
theorem probe_empty {bt : Bool} {t : SetTable} (h : TOk bt t) (ha : Nat → Int) (hh : Int) : ∀ (fuel : Nat) (p : SetTable.Probe) (j : Nat) (dm : Option Nat), p.dummy = none → SetTable.probe.go t ha hh fuel p = some (.empty j dm) → t.slot j = .empty ∧ dm = none
  | 0, p, j, dm, h0, e => by unfold SetTable.probe.go at e; cases e
  | fuel + 1, p, j, dm, h0, e => by
    have adv : (t.advance p).dummy = none := by
      unfold SetTable.advance
      split
      · exact h0
      · exact h0
    unfold SetTable.probe.go at e
    cases hs : t.slot p.j with
    | empty =>
      rw [hs] at e
      simp at e
      obtain ⟨rfl, rfl⟩ := e
      exact ⟨hs, h0⟩
    | dummy => exact absurd hs (h.slot p.j).1
    | live i =>
      rw [hs] at e
      simp only at e
      split at e
      · cases e
      · exact probe_empty h ha hh fuel _ j dm adv e
theorem TOk.layNew {bt : Bool} {t : SetTable} (h : TOk bt t) (es : Array (Int × Value)) (hh : Int) (x : Value) : TOk bt (PySem.layNew t es hh x).2.1 := by
  unfold PySem.layNew
  cases e : t.freeSlot hh with
  | none => exact h.stand _
  | some sw =>
    obtain ⟨slot, wd⟩ := sw
    refine TOk.orStand ?_ _
    unfold SetTable.freeSlot at e
    cases e2 : t.probe (fun _ => hh + 1) hh (t.probeStart hh) with
    | none => rw [e2] at e; cases e
    | some m =>
      rw [e2] at e
      cases m with
      | candidate _ _ _ => cases e
      | empty j dm =>
        obtain ⟨h1, h2⟩ := probe_empty h _ _ _ _ j dm rfl e2
        subst h2
        simp at e
        obtain ⟨rfl, _⟩ := e
        have hd : SetTable.has t.dummies j = false := by rw [h.dum]; rfl
        refine ⟨h.led, ?_, rise_insert h.rise ((h.slot j).2 h1)⟩
        show (if SetTable.has t.dummies j then _ else t.dummies) = _
        rw [hd]
        exact h.dum
theorem rise_filterMap (f : Nat → Option (Nat × Nat)) (hf : ∀ j p, f j = some p → p.1 = j) (n : Nat) : Rise (((List.range n).filterMap f).map (·.1)).toArray := by
  have hp : ((List.range n).filterMap f).map (·.1) |>.Pairwise (· < ·) := by
    rw [List.map_filterMap]
    refine List.Pairwise.filterMap (R := (· < ·)) _ (fun a a' haa b hb b' hb' => ?_) List.pairwise_lt_range
    simp only [Option.mem_def, Option.map_eq_some_iff] at hb hb'
    obtain ⟨p, hp, rfl⟩ := hb
    obtain ⟨q, hq, rfl⟩ := hb'
    rw [hf _ _ hp, hf _ _ hq]
    exact haa
  intro i j a b hij ha hb
  rw [List.getElem?_toArray] at ha hb
  obtain ⟨h1, rfl⟩ := List.getElem?_eq_some_iff.mp ha
  obtain ⟨h2, rfl⟩ := List.getElem?_eq_some_iff.mp hb
  exact List.pairwise_iff_getElem.mp hp i j h1 h2 hij
theorem TOk.relayAll {bt : Bool} {t : SetTable} (h : TOk bt t) (es : Array (Int × Value)) (wanted : Nat) : TOk bt (PySem.relayAll t es wanted).2.1 := by
  unfold PySem.relayAll
  cases e : t.relaid (es.map (·.1)) wanted with
  | none => exact h.stand _
  | some to =>
    obtain ⟨t', order⟩ := to
    dsimp only
    split
    · unfold SetTable.relaid SetTable.laid at e
      simp only [Option.bind_eq_bind, Option.bind_eq_some_iff, Option.pure_def, Option.some.injEq, Prod.mk.injEq] at e
      obtain ⟨owner, _, e1, _⟩ := e
      subst e1
      exact ⟨h.led, rfl, rise_filterMap _ (fun j p hp => by
        obtain ⟨_, _, rfl⟩ := Option.map_eq_some_iff.mp hp
        rfl) _⟩
    · exact h.stand _
end L2
namespace L2
open PySem PySem.Spec PyProof.Rows
def intOf : Value → Int
  | .int k _ => k
  | _ => 0
abbrev bT (w : World) : Bool := w.params.followText "set-order"
section
variable {prog : Program} {w : World} {A : Around} {E : Value → Shared → Prop} {s : Shared}
def SetY (prog : Program) (w : World) (h : Heap) (a : Addr) (ks : List Int) : Prop := ∃ o es ep t, h.get? a = some o ∧ o.ExactSet ∧ o.data = .set es ep t ∧ ElemsOf (intKind prog w) es.toList ∧ (es.toList.map fun e => intOf e.2) = ks ∧ ks.Nodup ∧ es.size < scanBound ∧ t.fits es.size = true ∧ TOk (bT w) t
theorem SetY.at_ {h h' : Heap} {a : Addr} {ks : List Int} (y : SetY prog w h a ks) (k : ∀ o, h.get? a = some o → h'.get? a = some o) : SetY prog w h' a ks := by
  obtain ⟨o, es, ep, t, ho, r⟩ := y
  exact ⟨o, es, ep, t, k o ho, r⟩
theorem elems_int {l : List (Int × Value)} (h : ElemsOf (intKind prog w) l) {e : Int × Value} (he : e ∈ l) : ∃ t, e.2 = .int (intOf e.2) t := by
  obtain ⟨⟨k, hk, _⟩, _⟩ := h e he
  obtain ⟨t, z⟩ := Value.isInt_shape hk
  exact ⟨t, by rw [z]; rfl⟩
theorem store_Y {h : Heap} {a : Addr} {o : Obj} {es es' : Array (Int × Value)} {ep : Nat} {t t' : SetTable} (ho : h.get? a = some o) (hx : o.ExactSet) (hd : o.data = .set es ep t) (hel : ElemsOf (intKind prog w) es'.toList) (hn : (es'.toList.map fun e => intOf e.2).Nodup) (hb : es'.size < scanBound) (hf : t'.fits es'.size = true) (ht : TOk (bT w) t') :
    (h.update a (Obj.putSet es' t')).get? a = some { o with data := .set es' (ep + 1) t' } ∧ SetY prog w (h.update a (Obj.putSet es' t')) a (es'.toList.map fun e => intOf e.2) := by
  have g : (h.update a (Obj.putSet es' t')).get? a = some { o with data := .set es' (ep + 1) t' } := by
    have q := Heap.get?_update_self (Obj.putSet es' t') ho (by rw [putSet_of es' t' hd]; rfl)
    rwa [putSet_of es' t' hd] at q
  exact ⟨g, _, es', ep + 1, t', g, hx, rfl, hel, rfl, hn, hb, hf, ht⟩
def addK (ks : List Int) (k : Int) : List Int := if k ∈ ks then ks else ks ++ [k]
theorem add_Y {a : Addr} {ks : List Int} {k : Int} {tk : Tok} {Q : Bool → Shared → Prop} (hS : SetY prog w s.heap a ks) (hroom : ks.length + 1 < scanBound)
    (h : ∀ b h' ks', Heap.SameBut a s.heap h' → SetY prog w h' a ks' → ks'.Perm (addK ks k) → Q b { s with heap := h' }) : wpAny (model prog w) A (setAddHashed a (.int k tk) ((intKind prog w).hash k)) Q E s := by
  obtain ⟨o, es, ep, t, ho, hx, hd, hel, hks, hnd, hb, hf, ht⟩ := hS
  have hsc : (Value.int k tk).scannable = true := rfl
  have hkey : (intKind prog w).is k (.int k tk) = true := intKind_is _ _ _ _
  have hlen : es.size = ks.length := by rw [← hks, List.length_map, Array.length_toList]
  have hin : k ∈ ks ↔ ∃ e ∈ es.toList, (intKind prog w).is k e.2 = true := by
    rw [← hks, List.mem_map]
    constructor
    · rintro ⟨e, he, z⟩
      obtain ⟨t', z'⟩ := elems_int hel he
      refine ⟨e, he, ?_⟩
      rw [z', z]
      exact intKind_is _ _ _ _
    · rintro ⟨e, he, z⟩
      obtain ⟨t', z'⟩ := Value.isInt_shape z
      exact ⟨e, he, by rw [z']; rfl⟩
  have quiet : ∀ (b : Bool) (s₁ : Shared) (Q' : Unit → Shared → Prop), Q' () s₁ → wpAny (model prog w) A (match b with | true => rule "set.scan.the-table-gave-way" | false => pure ()) Q' E s₁ := fun b s₁ Q' q => by
    cases b
    · exact wpAny_pure q
    · exact wpAny_rule q
  unfold setAddHashed setAddHashedIn
  refine wpAny_holding (wpAny_bind (wpAny_setState_of ho hd hf ?_))
  dsimp only
  rw [byScan_of hsc hb hel, if_pos rfl]
  unfold setAddByScan
  refine wpAny_bind (wpAny_bind (wpAny_rule (wpAny_bind (wpAny_setScan_of hkey ho hd hf hel ?_))))
  cases hr : es.toList.findIdx? (fun e => (intKind prog w).is k e.2) with
  | some j =>
    dsimp only
    obtain ⟨hj, hp, _⟩ := List.findIdx?_eq_some_iff_getElem.mp hr
    have hm : k ∈ ks := hin.mpr ⟨_, List.getElem_mem hj, hp⟩
    refine wpAny_pure (wpAny_pure ?_)
    exact h false s.heap ks (Heap.SameBut.refl a s.heap) ⟨o, es, ep, t, ho, hx, hd, hel, hks, hnd, hb, hf, ht⟩ (by rw [addK, if_pos hm])
  | none =>
    dsimp only
    have hm : ¬ k ∈ ks := fun z => by
      obtain ⟨e, he, hp⟩ := hin.mp z
      have q := List.findIdx?_eq_none_iff.mp hr e he
      rw [hp] at q
      cases q
    have hp := layNew_perm t es ((intKind prog w).hash k) (.int k tk)
    have hfit := layNew_fits t es ((intKind prog w).hash k) (.int k tk)
    have htk := ht.layNew es ((intKind prog w).hash k) (.int k tk)
    generalize layNew t es ((intKind prog w).hash k) (.int k tk) = R at hp hfit htk ⊢
    obtain ⟨es1, t1, wd, gave⟩ := R
    dsimp only at hp hfit htk ⊢
    rw [Array.toList_push] at hp
    have hel1 : ElemsOf (intKind prog w) es1.toList := (hel.push hkey hsc).perm hp
    have hk1 : (es1.toList.map fun e => intOf e.2).Perm (addK ks k) := by
      rw [addK, if_neg hm, ← hks]
      have z := hp.map fun e => intOf e.2
      rw [List.map_append] at z
      exact z
    have hnd1 : (es1.toList.map fun e => intOf e.2).Nodup := by
      rw [hk1.nodup_iff, addK, if_neg hm]
      exact List.nodup_append.mpr ⟨hnd, by simp, fun x hx y hy => by simp at hy; subst hy; exact fun z => hm (z ▸ hx)⟩
    have hb1 : es1.size < scanBound := by
      have := hp.length_eq
      rw [Array.length_toList, List.length_append, Array.length_toList] at this
      simp at this
      omega
    have tail : ∀ (t2 : SetTable), t2.fits es1.size = true → TOk (bT w) t2 → wpAny (model prog w) A (do
        storeSet a es1 t2
        if (!wd && t2.tooFull) = true then do
            (match (relayAll t2 es1 (SetTable.grown es1.size)).2.2 with | true => rule "set.scan.the-table-gave-way" | false => pure ())
            storeSet a (relayAll t2 es1 (SetTable.grown es1.size)).1 (relayAll t2 es1 (SetTable.grown es1.size)).2.1
            pure (some true)
          else pure (some true)) (fun r s' => ∃ h', r = some true ∧ s' = { s with heap := h' } ∧ Heap.SameBut a s.heap h' ∧ ∃ ks', SetY prog w h' a ks' ∧ ks'.Perm (addK ks k)) E s := by
      intro t2 f2 ok2
      obtain ⟨g1, y1⟩ := store_Y (prog := prog) ho hx hd hel1 hnd1 hb1 f2 ok2
      have sb1 := Heap.SameBut.update s.heap a (Obj.putSet es1 t2)
      refine wpAny_bind (wpAny_storeSet_of ho hd ?_ (fits_of_scanBound hb1))
      split
      · have hp2 := relayAll_perm t2 es1 (SetTable.grown es1.size)
        have hf2 := relayAll_fits t2 es1 (SetTable.grown es1.size)
        have ok3 := ok2.relayAll es1 (SetTable.grown es1.size)
        generalize relayAll t2 es1 (SetTable.grown es1.size) = R2 at hp2 hf2 ok3 ⊢
        obtain ⟨es2, t3, gave2⟩ := R2
        dsimp only at hp2 hf2 ok3 ⊢
        have hsz : es2.size = es1.size := by rw [← Array.length_toList, hp2.length_eq, Array.length_toList]
        have hk2 := (hp2.map fun e => intOf e.2).trans hk1
        refine wpAny_bind (quiet _ _ _ ?_)
        obtain ⟨_, y2⟩ := store_Y (prog := prog) g1 hx rfl (hel1.perm hp2) ((hp2.map fun e => intOf e.2).nodup_iff.mpr hnd1) (by rw [hsz]; exact hb1) hf2 ok3
        refine wpAny_bind (wpAny_storeSet_of g1 rfl ?_ (fits_of_scanBound (by rw [hsz]; exact hb1)))
        exact wpAny_pure ⟨_, rfl, rfl, sb1.trans (Heap.SameBut.update _ a _), _, y2, hk2⟩
      · exact wpAny_pure ⟨_, rfl, rfl, sb1, _, y1, hk1⟩
    have fin : ∀ r s', (∃ h', r = some true ∧ s' = { s with heap := h' } ∧ Heap.SameBut a s.heap h' ∧ ∃ ks', SetY prog w h' a ks' ∧ ks'.Perm (addK ks k)) → wpAny (model prog w) A (match r with | some added => pure added | none => setAddHashedIn a (.int k tk) ((intKind prog w).hash k) 99999) Q E s' := by
      rintro r s' ⟨h', rfl, rfl, sb, ks', y, pm⟩
      exact wpAny_pure (h true h' ks' sb y pm)
    refine wpAny_bind (quiet _ _ _ ?_)
    split
    · refine wpAny_bind ?_
      rw [hashByValue_scannable 8 hsc]
      refine wpAny_pure ?_
      exact thn (tail _ (by split; exact hfit; exact SetTable.fits_plain_off hfit) (by split; exact htk; exact htk.plainOff _)) fin
    · refine wpAny_bind (wpAny_pure ?_)
      rw [if_pos rfl]
      exact thn (tail _ hfit htk) fin
end
end L2
namespace L2
open PySem PySem.Spec PyProof.Rows
def met (val : Nat → Int) : Nat → List Int
  | 0 => []
  | i + 1 => addK (met val i) (val i)
theorem addK_perm {ks ls : List Int} (h : ks.Perm ls) (k : Int) : (addK ks k).Perm (addK ls k) := by
  unfold addK
  by_cases z : k ∈ ks
  · rw [if_pos z, if_pos (h.mem_iff.mp z)]; exact h
  · rw [if_neg z, if_neg fun y => z (h.mem_iff.mpr y)]; exact h.append_right _
theorem met_len (val : Nat → Int) : ∀ i, (met val i).length ≤ i
  | 0 => Nat.le_refl _
  | i + 1 => by
    have := met_len val i
    unfold met addK
    split
    · omega
    · rw [List.length_append]; simp; omega
theorem met_nodup (val : Nat → Int) : ∀ i, (met val i).Nodup
  | 0 => List.nodup_nil
  | i + 1 => by
    have := met_nodup val i
    unfold met addK
    split
    · exact this
    · rename_i z
      exact List.nodup_append.mpr ⟨this, by simp, fun x hx y hy => by simp at hy; subst hy; exact fun q => z (q ▸ hx)⟩
theorem met_mem (val : Nat → Int) (k : Int) : ∀ i, k ∈ met val i ↔ ∃ j, j < i ∧ val j = k
  | 0 => by simp [met]
  | i + 1 => by
    have ih := met_mem val k i
    unfold met addK
    constructor
    · intro h
      split at h
      · obtain ⟨j, h1, h2⟩ := ih.mp h
        exact ⟨j, by omega, h2⟩
      · rcases List.mem_append.mp h with z | z
        · obtain ⟨j, h1, h2⟩ := ih.mp z
          exact ⟨j, by omega, h2⟩
        · simp at z
          exact ⟨i, by omega, z.symm⟩
    · rintro ⟨j, h1, h2⟩
      by_cases e : j = i
      · subst e
        split
        · rename_i z; rw [← h2]; exact z
        · rw [← h2]; simp
      · have := ih.mpr ⟨j, by omega, h2⟩
        split
        · exact this
        · exact List.mem_append.mpr (.inl this)
section
variable {prog : Program} {w : World} {A : Around} {R : Result → Shared → Prop} {I : Addr} {fp wr : List Addr} {G : Array GenState → Array GenState → Prop} {n : Nat} {P : Nat → Value → Prop} {St : Nat → Shared → Prop}
theorem update_Y (W : WalksS prog w A.in1 I fp wr G n P St) (S : Addr) (hf : S ∉ fp) (val : Nat → Int) (hv : ∀ i v, P i v → ∃ t, v = .int (val i) t) (hb : n + 1 < scanBound) : ∀ (k i : Nat) (s : Shared) (ks : List Int), n - i = k → i ≤ n → St i s → SetY prog w s.heap S ks → ks.Perm (met val i) →
    (∀ s' ks', Moved (S :: wr) G s s' → SetY prog w s'.heap S ks' → ks'.Perm (met val n) → R (.ok (.ret .none)) s') → codeAny (model prog w) A (.builtin "set.update.loop" ⟨[.ref S, .ref I], []⟩) R s := by
  have hw : S ∉ wr := fun z => hf (W.sub _ z)
  have up : ∀ b ∈ wr, b ∈ S :: wr := fun b z => List.mem_cons_of_mem _ z
  intro k
  induction k with
  | zero =>
    intro i s ks hk hi st y pm q
    obtain rfl : i = n := by omega
    refine codeAny_builtin PyProof.Rows.F.entry_set_update_loop ?_
    rw [Around.under_plainId PyProof.Rows.F.plain_set_update_loop _]
    show wpAny _ A.in1 (pyNext (.ref I) >>= _) _ _ s
    refine wpAny_bind (W.done s _ _ st fun s' hm => ?_)
    show wpAny _ A.in1 (ret Value.none) _ _ s'
    exact wpAny_pure (q s' ks (hm.mono up) (y.at_ fun o => hm.heap S o hw) pm)
  | succ k ih =>
    intro i s ks hk hi st y pm q
    have hlt : i < n := by omega
    refine codeAny_builtin PyProof.Rows.F.entry_set_update_loop ?_
    rw [Around.under_plainId PyProof.Rows.F.plain_set_update_loop _]
    show wpAny _ A.in1 (pyNext (.ref I) >>= _) _ _ s
    refine wpAny_bind (W.item i s _ _ hlt st fun v s' hP st' hm => ?_)
    obtain ⟨tk, rfl⟩ := hv i v hP
    have y' : SetY prog w s'.heap S ks := y.at_ fun o => hm.heap S o hw
    show wpAny _ A.in1 (holding [Value.int (val i) tk] (setAdd S (.int (val i) tk)) >>= _) _ _ s'
    refine wpAny_bind (wpAny_holding ?_)
    unfold setAdd
    refine wpAny_holding (wpAny_bind ((intKind prog w).pyHash (k := val i) (intKind_is _ _ _ _) ?_))
    have room : ks.length + 1 < scanBound := by
      have := met_len val i
      have := pm.length_eq
      omega
    refine add_Y (s := { s' with toks := s'.toks + 1 }) y' room fun b h' ks' sb y2 pm2 => ?_
    have pm3 : ks'.Perm (met val (i + 1)) := pm2.trans (addK_perm pm (val i))
    refine wpAny_pure ⟨plainId_quiet PyProof.Rows.F.plain_set_update_loop _, ih (i + 1) _ ks' (by omega) hlt (W.frame _ s' _ _ st' (Nat.le_succ _) fun c hc o e => ?_) y2 pm3 fun s2 ks2 hm2 y3 pm4 => ?_⟩
    · rw [sb.2 c (fun z : c = S => hf (z ▸ hc))]
      exact e
    · refine q s2 ks2 (Moved.trans W.gtrans ((hm.mono up).then_heap (Nat.le_succ _) fun c o hc e => ?_) hm2) y3 pm4
      rw [sb.2 c (fun z : c = S => hc (by rw [z]; exact List.mem_cons_self))]
      exact e
end
section
variable {prog : Program} {w : World} {A : Around} {E : Value → Shared → Prop} {s : Shared}
abbrev freshS (w : World) : Obj := { cls := .type "set", dict := none, data := .set #[] 0 (.fresh 0 0 (!bT w)) }
theorem fresh_Y (prog : Program) {h : Heap} {a : Addr} (e : h.get? a = some (freshS w)) : SetY prog w h a [] :=
  ⟨_, #[], 0, _, e, ⟨rfl, rfl, rfl⟩, rfl, fun x hx => by simp at hx, rfl, List.nodup_nil, by decide, by rfl, TOk.fresh _⟩
theorem new_Y (a : Value) {Q : Value → Shared → Prop} (h : Q (.ref s.heap.objs.size) { s with heap := s.heap.push (freshS w) }) : codeAny (model prog w) A (.call (.builtin "set.__new__") ⟨[.type "set", a], []⟩) (wants Q E) s := by
  refine codeAny_of_tree (?_ : wpAny _ A.in1 (do checkBuiltinCall "set.__new__" ⟨[.type "set", a], []⟩; again (.builtin "set.__new__" ⟨[.type "set", a], []⟩)) _ _ s)
  refine wpAny_bind (wpAny_of_eq (PySem.F.newCall_set_1 a) (wpAny_pure ⟨plainId_quiet PySem.F.plain_set_new _, codeAny_builtin PySem.F.entry_set_new ?_⟩))
  rw [Around.under_plainId PySem.F.plain_set_new _]
  unfold Builtin.«set.__new__» Builtin.Frozenset.newClass
  have z1 := sub_set_self
  obtain ⟨hp, g, d, tk, os⟩ := s
  dsimp only
  wp_walk
  refine wpAny_askSetting (wpAny_pure ?_)
  dsimp only
  simp only [newObj]
  exact wpAny_bind (wpAny_alloc (wpAny_pure (wpAny_pure h)))
theorem sub_tuple_set' : isSubtype (.type "tuple") (.type "set") = pure false := by rw [isSubtype_type]; kernel_rfl
theorem sub_tuple_frz' : isSubtype (.type "tuple") (.type "frozenset") = pure false := by rw [isSubtype_type]; kernel_rfl
set_option maxHeartbeats 3200000 in
theorem call_set_tupleY {l : Addr} {items : Array Value} {ns : List Int} {Q : Value → Shared → Prop} (hh : A.handled = none) (hl : s.heap.IsTuple l items) (hi : IntsAre items.toList ns) (hb : items.size + 1 < scanBound)
    (q : ∀ h' tk ks, SetY prog w h' s.heap.objs.size ks → ks.Perm (met (fun i => ns.getD i 0) items.size) → (∀ b o, s.heap.get? b = some o → h'.get? b = some o) → Q (.ref s.heap.objs.size) { s with heap := h', toks := tk }) : wpAny (model prog w) A (call (.type "set") [.ref l]) Q E s := by
  obtain ⟨c, tl, z0⟩ := PySem.F.called_set.mro
  have z1 := PySem.F.called_set.made
  have z2 := PySem.F.called_set.sub
  refine wpAny_call (codeAny_of_tree (?_ : wpAny _ _ (callAny (.type "set") _) _ _ _))
  refine wpAny_pure ⟨Code.quiet_builtin _ (by decide +kernel), codeAny_builtin PySem.F.entry_type_call ?_⟩
  rw [Around.under_plain (weight_type_call_type "set" [.ref l] []) rfl]
  have z3 := PySem.F.called_set.notType
  have z4 := PySem.F.called_set.canCreate
  have z5 := PySem.F.typeCall_set_1 (.ref l)
  repeat (any_goals (first | assumption | wp_step))
  refine codeAny_mono (new_Y (.ref l) (E := E) (Q := fun u s1 => u = .ref s.heap.objs.size ∧ s1 = { s with heap := s.heap.push (freshS w) }) ⟨rfl, rfl⟩) fun r s1 hr => ?_
  cases r with
  | error e => exact hr
  | ok fl =>
    cases fl with
    | ret u =>
      obtain ⟨rfl, rfl⟩ := hr
      have gS : (s.heap.push (freshS w)).get? s.heap.objs.size = some (freshS w) := Heap.get?_push_size _ rfl
      have tS : Shared.TypeIs { s with heap := s.heap.push (freshS w) } (.ref s.heap.objs.size) "set" := ⟨_, gS, rfl⟩
      have z6 := PySem.F.called_set.init.lookup
      have z7 := PySem.F.called_set.init.bind (.ref s.heap.objs.size)
      repeat (any_goals (first | assumption | wp_step))
      refine codeAny_mono (codeAny_call_builtin (R := wants (fun r s2 => r = .none ∧ ∃ h' tk ks, s2 = { s with heap := h', toks := tk } ∧ SetY prog w h' s.heap.objs.size ks ∧ ks.Perm (met (fun i => ns.getD i 0) items.size) ∧ ∀ b o, s.heap.get? b = some o → h'.get? b = some o) E) PySem.F.called_set.init.plain PySem.F.entry_set_init (check_set_init_1 tS ?_)) fun r2 s2 hr2 => ?_
      · obtain ⟨ol, g, hc, nl, hd⟩ := hl
        obtain ⟨oc, od, oe, os⟩ := ol
        simp only at hc hd
        subst hc hd
        have g' : (s.heap.push (freshS w)).get? l = some { cls := .type "tuple", dict := od, data := .seq items nl, slots := os } := Heap.get?_push_of_some _ g
        have y1 := sub_tuple_set'
        have y2 := sub_tuple_frz'
        have y3 : (Value.type "tuple" == Value.type "dict") = false := by decide
        have hl1 : (s.heap.push (freshS w)).IsTuple l items := ⟨_, g', rfl, nl, rfl⟩
        unfold Builtin.«set.__init__» noKeywords Builtin.Frozenset.updateFrom
        generalize hPI : pyIter = PI
        wp_walk
        subst hPI
        refine wpAny_pyIter_tuple hl1 (wpAny_bind (wpAny_runValue ?_))
        have lt : l < s.heap.objs.size := Heap.lt_size g
        have hh3 : A.in1.in1.in1.handled = none := by simp [hh]
        have ne1 : l ≠ (s.heap.push (freshS w)).objs.size := by rw [Heap.size_push]; exact Nat.ne_of_lt (Nat.lt_succ_of_lt lt)
        have ne2 : s.heap.objs.size ∉ [(s.heap.push (freshS w)).objs.size, l] := by
          rw [Heap.size_push]
          simp only [List.mem_cons, List.not_mem_nil, or_false, not_or]
          exact ⟨Nat.ne_of_lt (Nat.lt_succ_self _), Nat.ne_of_gt lt⟩
        have hv : ∀ (i : Nat) (v : Value), items[i]? = some v → ∃ t, v = .int ((fun i => ns.getD i 0) i) t := fun i v z => IntsAre.int_at hi i v (by rw [Array.getElem?_toList]; exact z)
        refine update_Y ((Walks.tuple hh3 _ l ne1 items).toS) s.heap.objs.size ne2 (fun i => ns.getD i 0) hv hb (items.size - 0) 0 _ [] (by omega) (Nat.zero_le _) ⟨⟨_, Heap.get?_push_size _ rfl, rfl, rfl⟩, hl1.push _⟩ (fresh_Y prog (Heap.get?_push_of_some _ gS)) (.refl _) ?_
        intro s' ks' hm y pm
        obtain ⟨h', g2, d', tk', os'⟩ := s'
        obtain rfl : g2 = s.gens := hm.gens
        obtain rfl : d' = s.drawn := hm.drawn
        obtain rfl : os' = s.os := hm.os
        refine wpAny_pure (?_ : wpAny _ _ (ret Value.none) _ _ _)
        refine wpAny_pure ⟨rfl, h', tk', ks', rfl, y, pm, fun b o e => ?_⟩
        have hb1 := Heap.lt_size e
        refine hm.heap b o ?_ (Heap.get?_push_of_some _ (Heap.get?_push_of_some _ e))
        rw [Heap.size_push]
        simp only [List.mem_cons, List.not_mem_nil, or_false, not_or]
        exact ⟨Nat.ne_of_lt hb1, Nat.ne_of_lt (Nat.lt_succ_of_lt hb1)⟩
      · cases r2 with
        | error e => exact hr2
        | ok fl2 =>
          cases fl2 with
          | ret r =>
            obtain ⟨rfl, h', tk, ks, rfl, y, pm, kp⟩ := hr2
            repeat (any_goals (first | assumption | wp_step))
            exact q _ _ _ y pm kp
          | _ => exact hr2.elim
    | _ => exact hr.elim
end
end L2
namespace L2
open PySem PySem.Spec PyProof.Rows
theorem slot_sit_next : Slot "set_iterator" "__next__" "set_iterator.__next__" :=
  .of (owner := "set_iterator") (n := "__next__") (by rw [typeLookup_type, builtinLookup_eq_fast]; kernel_rfl) (by decide +kernel) (by decide +kernel) (by decide +kernel) (.inl (by decide +kernel)) (by rw [isSubtype_type]; kernel_rfl)
theorem entry_sit_next : entryFor table "set_iterator.__next__" = some Builtin.«set_iterator.__next__» := entryFor_of_tree (by kernel_rfl)
theorem owner_sit : Manifest.owners.lookup (String.ofList ['r', 'o', 't', 'a', 'r', 'e', 't', 'i', '_', 't', 'e', 's'].reverse) = some Manifest.sig_set_iterator := by kernel_rfl
theorem args_sit_next (a : Value) : argsOk "set_iterator.__next__" ⟨[a], []⟩ := by
  unfold argsOk
  rw [signature?_of (id := "set_iterator.__next__") (n := ['_', '_', 't', 'x', 'e', 'n', '_', '_']) (o := ['r', 'o', 't', 'a', 'r', 'e', 't', 'i', '_', 't', 'e', 's']) (by kernel_rfl) owner_sit]
  kernel_rfl
theorem entry_set_iterY : entryFor table "set.__iter__" = some Builtin.«frozenset.__iter__» := entryFor_alias (id' := "frozenset.__iter__") (by kernel_rfl) rfl (by decide +kernel) (by kernel_rfl)
theorem len_setY : typeLookup (.type "set") "__len__" = pure (some (.builtin "set.__len__")) := by rw [typeLookup_type, builtinLookup_eq_fast]; kernel_rfl
def SIt (h : Heap) (it : Addr) (first : Value) (i : Nat) (a : Addr) (n ep : Nat) : Prop := ∃ o, h.get? it = some o ∧ o.cls = .type "set_iterator" ∧ o.data = .fields #[first, .int i 0, .ref a, .int n 0, .int ep 0]
theorem SIt.at_ {h h' : Heap} {it a : Addr} {first : Value} {i n ep : Nat} (x : SIt h it first i a n ep) (k : ∀ o, h.get? it = some o → h'.get? it = some o) : SIt h' it first i a n ep := by
  obtain ⟨o, g, c, d⟩ := x
  exact ⟨o, k o g, c, d⟩
theorem SIt.typeIs {s : Shared} {it a : Addr} {first : Value} {i n ep : Nat} (x : SIt s.heap it first i a n ep) : s.TypeIs (.ref it) "set_iterator" := by
  obtain ⟨o, g, c, d⟩ := x
  exact ⟨o, g, c⟩
section
variable {prog : Program} {w : World} {A : Around} {E : Value → Shared → Prop} {s : Shared} {it a : Addr} {first : Value} {i ep : Nat} {es : Array (Int × Value)} {t : SetTable} {o : Obj}
theorem entries_Y {Q : Array (Int × Value) → Shared → Prop} (ho : s.heap.get? a = some o) (hd : o.data = .set es ep t) (hf : t.fits es.size = true) (q : Q es s) : wpAny (model prog w) A (setEntries a) Q E s := by
  unfold setEntries
  exact wpAny_bind (wpAny_setState_of ho hd hf (wpAny_pure q))
theorem stop_Y {α : Type} {Q : α → Shared → Prop} {E' : Value → Shared → Prop} (hh : A.handled = none) (k : ∀ e h', s.heap.ExtBut it h' → Shared.TypeIs { s with heap := h' } e "StopIteration" → E' e { s with heap := h' }) : wpAny (model prog w) A (do raiseNew (← newExc (.type "StopIteration") []) : Sem α) Q E' s := by
  refine wpAny_bind ?_
  simp only [newExc, newTuple]
  refine wpAny_bind (wpAny_newObj_type ?_ (by size_fits))
  refine wpAny_bind (m := firstArgMember _ _) (wpAny_of_eq (a := Value.none) (by first | rfl | (simp only [firstArgMember]; rfl)) ?_)
  refine wpAny_newObj_type ?_ (by size_fits)
  simp only [raiseNew]
  refine wpAny_bind (wpAny_handled ?_)
  rw [hh]
  refine wpAny_bind (wpAny_pure (wpAny_throw ?_))
  exact k _ _ (((Heap.SameBut.refl it s.heap).extBut.push _).push _) ⟨_, Heap.get?_push_size _ rfl, rfl⟩
theorem sit_item {slot nx : Nat} {x : Value} {Q : Option Value → Shared → Prop} (I : SIt s.heap it (.int slot 0) i a es.size ep) (ho : s.heap.get? a = some o) (hd : o.data = .set es ep t) (hf : t.fits es.size = true)
    (hN : ∀ (Q : Option (Value × Nat) → Shared → Prop) (E' : Value → Shared → Prop), Q (some (x, nx)) s → wpAny (model prog w) A.in1 (setNext a slot i ep) Q E' s)
    (q : ∀ h', SIt h' it (.int nx 0) (i + 1) a es.size ep → Heap.SameBut it s.heap h' → Q (some x) { s with heap := h' }) : wpAny (model prog w) A (pyNext (.ref it)) Q E s := by
  obtain ⟨oi, g, c, d⟩ := id I
  unfold pyNext
  refine wpAny_bind (wpAny_attempt (wpAny_callSpecial?_slot (name := Str.ofString "__next__") I.typeIs slot_sit_next (wpAny_call_entry slot_sit_next I.typeIs entry_sit_next ?_ (args_sit_next _))))
  unfold Builtin.«set_iterator.__next__»
  refine wpAny_bind (wpAny_pure ?_)
  refine wpAny_bind (wpAny_fieldsOf g d ?_)
  show wpAny _ _ (setEntries a >>= _) _ _ s
  refine wpAny_bind (entries_Y ho hd hf ?_)
  rw [if_neg (by simp)]
  show wpAny _ _ (setNext a (slot : Int).toNat (i : Int).toNat (ep : Int).toNat >>= _) _ _ s
  rw [Int.toNat_natCast, Int.toNat_natCast, Int.toNat_natCast]
  refine wpAny_bind (hN _ _ ?_)
  show wpAny _ _ (setField (.ref it) 0 (rawInt nx) >>= _) _ _ s
  refine wpAny_bind (wpAny_setField g d (by simp) ?_)
  have g1 := Heap.get?_update_self (Obj.mapFields fun vs => vs.setIfInBounds 0 (rawInt nx)) g (Obj.isFreed_of_fields (Obj.data_mapFields d _))
  have d1 := Obj.data_mapFields d (fun vs => vs.setIfInBounds 0 (rawInt nx))
  refine wpAny_bind (wpAny_setField g1 d1 (by simp) (wpAny_pure ⟨x, rfl, wpAny_pure (q _ ?_ ((Heap.SameBut.update ..).trans (Heap.SameBut.update ..)))⟩))
  exact ⟨_, Heap.get?_update_self _ g1 (Obj.isFreed_of_fields (Obj.data_mapFields d1 _)), ((Obj.cls_mapFields ..).trans (Obj.cls_mapFields ..)).trans c, by
    rw [Obj.data_mapFields d1]; simp [rawInt]⟩
theorem sit_end {slot : Nat} {Q : Option Value → Shared → Prop} (hh : A.handled = none) (I : SIt s.heap it (.int slot 0) i a es.size ep) (ho : s.heap.get? a = some o) (hd : o.data = .set es ep t) (hf : t.fits es.size = true)
    (hN : ∀ (Q : Option (Value × Nat) → Shared → Prop) (E' : Value → Shared → Prop), Q none s → wpAny (model prog w) A.in1 (setNext a slot i ep) Q E' s)
    (q : ∀ h', Heap.ExtBut it s.heap h' → Q none { s with heap := h' }) : wpAny (model prog w) A (pyNext (.ref it)) Q E s := by
  obtain ⟨oi, g, c, d⟩ := id I
  unfold pyNext
  refine wpAny_bind (wpAny_attempt (wpAny_callSpecial?_slot (name := Str.ofString "__next__") I.typeIs slot_sit_next (wpAny_call_entry slot_sit_next I.typeIs entry_sit_next ?_ (args_sit_next _))))
  unfold Builtin.«set_iterator.__next__»
  refine wpAny_bind (wpAny_pure ?_)
  refine wpAny_bind (wpAny_fieldsOf g d ?_)
  show wpAny _ _ (setEntries a >>= _) _ _ s
  refine wpAny_bind (entries_Y ho hd hf ?_)
  rw [if_neg (by simp)]
  show wpAny _ _ (setNext a (slot : Int).toNat (i : Int).toNat (ep : Int).toNat >>= _) _ _ s
  rw [Int.toNat_natCast, Int.toNat_natCast, Int.toNat_natCast]
  refine wpAny_bind (hN _ _ ?_)
  show wpAny _ _ (setField (.ref it) 2 .none >>= _) _ _ s
  refine wpAny_bind (wpAny_setField g d (by simp) ?_)
  refine stop_Y (it := it) (A := A.in1) hh fun e h' eb ty => ?_
  refine wpAny_bind (wpAny_isInstance (T := "StopIteration") (b := true) ty isSubtype_stop ?_)
  exact wpAny_pure (q _ fun b ob hb e => eb b ob hb ((Heap.get?_update_other _ _ (Ne.symm hb)).trans e))
theorem sitC_item {tp : Addr} {ps : Array Value} {ot : Obj} {nt place : Nat} {x : Int × Value} {Q : Option Value → Shared → Prop} (I : SIt s.heap it (.ref tp) i a es.size ep) (ho : s.heap.get? a = some o) (hd : o.data = .set es ep t) (hf : t.fits es.size = true)
    (ht : s.heap.get? tp = some ot) (hdt : ot.data = .seq ps nt) (hp : ps[i]? = some (.int place 0)) (hx : es[place]? = some x)
    (q : ∀ h', SIt h' it (.ref tp) (i + 1) a es.size ep → Heap.SameBut it s.heap h' → Q (some x.2) { s with heap := h' }) : wpAny (model prog w) A (pyNext (.ref it)) Q E s := by
  obtain ⟨oi, g, c, d⟩ := id I
  unfold pyNext
  refine wpAny_bind (wpAny_attempt (wpAny_callSpecial?_slot (name := Str.ofString "__next__") I.typeIs slot_sit_next (wpAny_call_entry slot_sit_next I.typeIs entry_sit_next ?_ (args_sit_next _))))
  unfold Builtin.«set_iterator.__next__»
  refine wpAny_bind (wpAny_pure ?_)
  refine wpAny_bind (wpAny_fieldsOf g d ?_)
  show wpAny _ _ (setEntries a >>= _) _ _ s
  refine wpAny_bind (entries_Y ho hd hf ?_)
  rw [if_neg (by simp)]
  show wpAny _ _ (seqItems? (.ref tp) >>= _) _ _ s
  refine wpAny_bind (wpAny_seqItems ht hdt ?_)
  simp only [Int.toNat_natCast, hp]
  refine wpAny_bind ?_
  unfold setNextDrawn
  refine wpAny_bind (wpAny_setState_of ho hd hf ?_)
  dsimp only
  rw [if_neg (by simp), hx]
  refine wpAny_pure ?_
  refine wpAny_bind (wpAny_setField g d (by simp) (wpAny_pure ⟨x.2, rfl, wpAny_pure (q _ ?_ (Heap.SameBut.update ..))⟩))
  exact ⟨_, Heap.get?_update_self _ g (Obj.isFreed_of_fields (Obj.data_mapFields d _)), (Obj.cls_mapFields ..).trans c, by
    rw [Obj.data_mapFields d]; simp [rawInt]⟩
theorem sitC_end {tp : Addr} {ps : Array Value} {ot : Obj} {nt : Nat} {Q : Option Value → Shared → Prop} (hh : A.handled = none) (I : SIt s.heap it (.ref tp) i a es.size ep) (ho : s.heap.get? a = some o) (hd : o.data = .set es ep t) (hf : t.fits es.size = true)
    (ht : s.heap.get? tp = some ot) (hdt : ot.data = .seq ps nt) (hp : ps[i]? = none)
    (q : ∀ h', Heap.ExtBut it s.heap h' → Q none { s with heap := h' }) : wpAny (model prog w) A (pyNext (.ref it)) Q E s := by
  obtain ⟨oi, g, c, d⟩ := id I
  unfold pyNext
  refine wpAny_bind (wpAny_attempt (wpAny_callSpecial?_slot (name := Str.ofString "__next__") I.typeIs slot_sit_next (wpAny_call_entry slot_sit_next I.typeIs entry_sit_next ?_ (args_sit_next _))))
  unfold Builtin.«set_iterator.__next__»
  refine wpAny_bind (wpAny_pure ?_)
  refine wpAny_bind (wpAny_fieldsOf g d ?_)
  show wpAny _ _ (setEntries a >>= _) _ _ s
  refine wpAny_bind (entries_Y ho hd hf ?_)
  rw [if_neg (by simp)]
  show wpAny _ _ (seqItems? (.ref tp) >>= _) _ _ s
  refine wpAny_bind (wpAny_seqItems ht hdt ?_)
  simp only [Int.toNat_natCast, hp]
  refine wpAny_bind (wpAny_setField g d (by simp) ?_)
  have g1 := Heap.get?_update_self (Obj.mapFields fun vs => vs.setIfInBounds 0 (rawInt 0)) g (Obj.isFreed_of_fields (Obj.data_mapFields d _))
  have d1 := Obj.data_mapFields d (fun vs => vs.setIfInBounds 0 (rawInt 0))
  refine wpAny_bind (wpAny_setField g1 d1 (by simp) ?_)
  refine stop_Y (it := it) (A := A.in1) hh fun e h' eb ty => ?_
  refine wpAny_bind (wpAny_isInstance (T := "StopIteration") (b := true) ty isSubtype_stop ?_)
  exact wpAny_pure (q _ fun b ob hb e => eb b ob hb ((Heap.get?_update_other _ _ (Ne.symm hb)).trans ((Heap.get?_update_other _ _ (Ne.symm hb)).trans e)))
theorem next_text {slot : Nat} {Q : Option (Value × Nat) → Shared → Prop} (hb : bT w = true) (ho : s.heap.get? a = some o) (hd : o.data = .set es ep t) (hf : t.fits es.size = true)
    (q : Q (((pickOrder (w.params.setOrder a ep) es)[i]?).map fun e => (e.2, slot)) s) : wpAny (model prog w) A (setNext a slot i ep) Q E s := by
  unfold setNext
  refine wpAny_bind (wpAny_setState_of ho hd hf ?_)
  dsimp only
  unfold setsByText
  refine wpAny_bind (wpAny_bind (wpAny_askSetting (wpAny_pure ?_)))
  have hb' : (⟨(model prog w).prog, (model prog w).w.params⟩ : Setting).params.followText "set-order" = true := hb
  rw [if_pos hb', if_neg (by simp)]
  unfold setWalk
  refine wpAny_bind (wpAny_bind (wpAny_setState_of ho hd hf ?_))
  dsimp only
  unfold setsByText
  refine wpAny_bind (wpAny_bind (wpAny_askSetting (wpAny_pure ?_)))
  rw [if_pos hb']
  exact wpAny_bind (wpAny_askSetting (wpAny_pure (wpAny_pure q)))
theorem next_table {slot : Nat} {Q : Option (Value × Nat) → Shared → Prop} (hb : bT w = false) (ho : s.heap.get? a = some o) (hd : o.data = .set es ep t) (hf : t.fits es.size = true) (hl : t.led = true) (hdr : (!t.plain && decide (es.size > 1)) = false)
    (q : Q (match es[SetTable.below t.place slot]?, t.place[SetTable.below t.place slot]? with | some (_, x), some j => some (x, j + 1) | _, _ => none) s) : wpAny (model prog w) A (setNext a slot i ep) Q E s := by
  unfold setNext
  refine wpAny_bind (wpAny_setState_of ho hd hf ?_)
  dsimp only
  unfold setsByText
  refine wpAny_bind (wpAny_bind (wpAny_askSetting (wpAny_pure ?_)))
  rw [if_neg (by rw [show (⟨(model prog w).prog, (model prog w).w.params⟩ : Setting).params.followText "set-order" = false from hb]; simp)]
  refine wpAny_ite_split (fun z => ?_) (fun _ => ?_)
  · have z' : (!t.plain && decide (es.size > 1)) = true := z
    rw [hdr] at z'
    cases z'
  · refine wpAny_bind ?_
    refine wpAny_ite_split (fun z => ?_) (fun _ => wpAny_pure (wpAny_pure q))
    have z' : (!t.led && !es.isEmpty) = true := z
    rw [hl] at z'
    cases z'
end
end L2
namespace L2
open PySem PySem.Spec PyProof.Rows
theorem erase_perm {α : Type} : ∀ {l : List α} {i : Nat} (h : i < l.length), (l[i] :: l.eraseIdx i).Perm l
  | [], i, h => by simp at h
  | x :: l, 0, h => .refl _
  | x :: l, i + 1, h => by
    have ih := erase_perm (l := l) (i := i) (by simpa using h)
    exact (List.Perm.swap _ _ _).trans (List.Perm.cons x ih)
theorem slot_sit_iter : Slot "set_iterator" "__iter__" "set_iterator.__iter__" :=
  .of (owner := "set_iterator") (n := "__iter__") (by rw [typeLookup_type, builtinLookup_eq_fast]; kernel_rfl) (by decide +kernel) (by decide +kernel) (by decide +kernel) (.inl (by decide +kernel)) (by rw [isSubtype_type]; kernel_rfl)
theorem entry_sit_iter : entryFor table "set_iterator.__iter__" = some Builtin.«dict_keyiterator.__iter__» := entryFor_alias (id' := "dict_keyiterator.__iter__") (by kernel_rfl) rfl (by decide +kernel) (by kernel_rfl)
theorem args_sit_iter (a : Value) : argsOk "set_iterator.__iter__" ⟨[a], []⟩ := by
  unfold argsOk
  rw [signature?_of (id := "set_iterator.__iter__") (n := ['_', '_', 'r', 'e', 't', 'i', '_', '_']) (o := ['r', 'o', 't', 'a', 'r', 'e', 't', 'i', '_', 't', 'e', 's']) (by kernel_rfl) owner_sit]
  kernel_rfl
theorem pickGo_perm {α : Type} (next : Nat → Nat) : ∀ (fuel k : Nat) (left : List α) (out : Array α), fuel = left.length → (pickOrder.go next fuel k left out).toList.Perm (out.toList ++ left)
  | 0, k, left, out, h => by
    have : left = [] := List.length_eq_zero_iff.mp h.symm
    subst this
    unfold pickOrder.go
    simp
  | fuel + 1, k, left, out, h => by
    unfold pickOrder.go
    have hm : next k % left.length < left.length := Nat.mod_lt _ (by omega)
    rw [List.getElem?_eq_getElem hm]
    dsimp only
    refine (pickGo_perm next fuel (k + 1) _ _ (by rw [List.length_eraseIdx]; simp [hm]; omega)).trans ?_
    rw [Array.toList_push, List.append_assoc]
    exact List.Perm.append_left _ (erase_perm hm)
theorem pick_perm {α : Type} (next : Nat → Nat) (xs : Array α) : (pickOrder next xs).toList.Perm xs.toList := by
  have := pickGo_perm next xs.size 0 xs.toList #[] (Array.length_toList ..).symm
  rw [show (#[] : Array α).toList ++ xs.toList = xs.toList from rfl] at this
  exact this
theorem wp_chooseY {M : Model} {A : Around} {E : Value → Shared → Prop} {s : Shared} {src : Source} {n : Nat} {Q : Nat → Shared → Prop} (h0 : n ≠ 0) (q : ∀ i, i < n → Q i { s with drawn := s.drawn.bump src }) : wpAny M A (choose src n) Q E s := fun Γ p hΓ => by
  unfold choose
  rw [Sem.wp_choose]
  refine ⟨h0, ?_⟩
  have := wpAny_pure (M := M) (A := A) (E := E) (q (M.w.draws src (s.drawn.get src) % n) (Nat.mod_lt _ (Nat.pos_of_ne_zero h0)))
  exact this Γ p hΓ
theorem draw_Y {α : Type} {M : Model} {A : Around} {E : Value → Shared → Prop} : ∀ (n : Nat) (xs : List α) (s : Shared) (Q : List α → Shared → Prop), n = xs.length → (∀ ys d, ys.Perm xs → Q ys { s with drawn := d }) → wpAny M A (drawOrder n xs) Q E s
  | 0, xs, s, Q, h, q => by
    have : xs = [] := List.length_eq_zero_iff.mp h.symm
    subst this
    exact wpAny_pure (q [] s.drawn .nil)
  | n + 1, [], s, Q, h, q => by simp at h
  | n + 1, x :: xs, s, Q, h, q => by
    unfold drawOrder
    refine wpAny_bind (wp_chooseY (by simp) fun i hi => ?_)
    rw [List.getElem?_eq_getElem hi]
    dsimp only
    refine wpAny_bind (draw_Y n _ _ _ (by rw [List.length_eraseIdx]; simp at hi h ⊢; simp [hi]; omega) fun ys d pm => wpAny_pure ?_)
    exact q _ d ((List.Perm.cons _ pm).trans (erase_perm hi))
section
variable {prog : Program} {w : World} {A : Around} {E : Value → Shared → Prop} {s : Shared} {it a tp : Addr} {ep : Nat} {es : Array (Int × Value)} {t : SetTable} {o : Obj}
theorem self_Y {first : Value} {i n : Nat} {Q : Value → Shared → Prop} (I : SIt s.heap it first i a n ep) (q : Q (.ref it) s) : wpAny (model prog w) A (pyIter (.ref it)) Q E s := by
  refine wpAny_pyIter_slot I.typeIs slot_sit_iter (wpAny_call_entry slot_sit_iter I.typeIs entry_sit_iter (?_ : wpAny _ _ (ret (.ref it)) _ _ s) (args_sit_iter _))
  exact wpAny_pure ⟨_, rfl, "set_iterator", _, I.typeIs, slot_sit_next.lookup, q⟩
abbrev gEq : Array GenState → Array GenState → Prop := fun x y => x = y
theorem moved_of {h' : Heap} (k : ∀ b ob, b ≠ it → s.heap.get? b = some ob → h'.get? b = some ob) : Moved [it] gEq s { s with heap := h' } :=
  ⟨fun b ob hb e => k b ob (fun z => hb (by simp [z])) e, rfl, rfl, rfl, Nat.le_refl _⟩
theorem walk_text (hh : A.handled = none) (hb : bT w = true) (hd : o.data = .set es ep t) (hf : t.fits es.size = true) (hne : a ≠ it) : WalksS prog w A it [it, a] [it] gEq es.size (fun i v => (((pickOrder (w.params.setOrder a ep) es).toList.map (·.2))[i]? = some v)) (fun i s => SIt s.heap it (.int (0 : Nat) 0) i a es.size ep ∧ s.heap.get? a = some o) where
  sub := fun b hb => by simp at hb; simp [hb]
  grefl := fun _ => rfl
  gtrans := fun _ _ _ x y => x.trans y
  frame := fun i s h' tk st _ k => ⟨st.1.at_ fun ob e => k it (by simp) ob e, k a (by simp) o st.2⟩
  item := fun i s Q E hi st q => by
    have hsz : (pickOrder (w.params.setOrder a ep) es).size = es.size := by
      have := (pick_perm (w.params.setOrder a ep) es).length_eq
      simpa using this
    have hx : (pickOrder (w.params.setOrder a ep) es)[i]? = some ((pickOrder (w.params.setOrder a ep) es)[i]'(by omega)) := Array.getElem?_eq_getElem _
    generalize (pickOrder (w.params.setOrder a ep) es)[i]'(by omega) = x at hx
    refine sit_item (x := x.2) (nx := 0) st.1 st.2 hd hf (fun Q E' q => next_text hb st.2 hd hf (by rw [hx]; exact q)) fun h' I' sb => q _ _ ?_ ⟨I', (sb.2 a hne).trans st.2⟩ (moved_of fun b ob hb e => (sb.2 b hb).trans e)
    rw [List.getElem?_map, Array.getElem?_toList, hx]
    rfl
  done := fun s Q E st q => by
    have hsz : (pickOrder (w.params.setOrder a ep) es).size = es.size := by
      have := (pick_perm (w.params.setOrder a ep) es).length_eq
      simpa using this
    exact sit_end hh st.1 st.2 hd hf (fun Q E' q => next_text hb st.2 hd hf (by rw [Array.getElem?_eq_none (by omega)]; exact q)) fun h' eb => q _ (moved_of fun b ob hb e => eb b ob hb e)
  self := fun i s Q E st q => self_Y st.1 q
def slotAt (p : Array Nat) : Nat → Nat
  | 0 => 0
  | i + 1 => p.getD i 0 + 1
theorem below_slot {p : Array Nat} (hs : Rise p) {i : Nat} (hi : i ≤ p.size) : SetTable.below p (slotAt p i) = i := by
  refine below_at hs (fun j b hj e => ?_) (fun b e => ?_) hi
  · cases i with
    | zero => omega
    | succ i =>
      show b < p.getD i 0 + 1
      have hlt : i < p.size := by omega
      have e2 : p[i]? = some (p.getD i 0) := by simp [Array.getD, hlt]
      by_cases z : j = i
      · subst z; rw [e] at e2; cases e2; omega
      · have := hs j i b _ (by omega) e e2
        omega
  · cases i with
    | zero => exact Nat.zero_le _
    | succ i =>
      show p.getD i 0 + 1 ≤ b
      have hlt : i < p.size := by omega
      have e2 : p[i]? = some (p.getD i 0) := by simp [Array.getD, hlt]
      exact hs i (i + 1) _ b (by omega) e2 e
theorem walk_table (hh : A.handled = none) (hb : bT w = false) (hd : o.data = .set es ep t) (hf : t.fits es.size = true) (hT : TOk (bT w) t) (hdr : (!t.plain && decide (es.size > 1)) = false) (hne : a ≠ it) : WalksS prog w A it [it, a] [it] gEq es.size (fun i v => ((es.toList.map (·.2))[i]? = some v)) (fun i s => SIt s.heap it (.int (slotAt t.place i : Nat) 0) i a es.size ep ∧ s.heap.get? a = some o) where
  sub := fun b hb => by simp at hb; simp [hb]
  grefl := fun _ => rfl
  gtrans := fun _ _ _ x y => x.trans y
  frame := fun i s h' tk st _ k => ⟨st.1.at_ fun ob e => k it (by simp) ob e, k a (by simp) o st.2⟩
  item := fun i s Q E hi st q => by
    have hps : t.place.size = es.size := by simp [SetTable.fits] at hf; exact hf.1
    have hl : t.led = true := by rw [hT.led, hb]; rfl
    have hx : es[i]? = some es[i] := Array.getElem?_eq_getElem hi
    have hp : t.place[i]? = some (t.place.getD i 0) := by simp [Array.getD, show i < t.place.size by omega]
    generalize es[i] = x at hx
    refine sit_item (x := x.2) (nx := slotAt t.place (i + 1)) st.1 st.2 hd hf (fun Q E' q => next_table hb st.2 hd hf hl hdr (by rw [below_slot hT.rise (by omega), hx, hp]; exact q)) fun h' I' sb => q _ _ ?_ ⟨I', (sb.2 a hne).trans st.2⟩ (moved_of fun b ob hb e => (sb.2 b hb).trans e)
    rw [List.getElem?_map, Array.getElem?_toList, hx]
    rfl
  done := fun s Q E st q => by
    have hps : t.place.size = es.size := by simp [SetTable.fits] at hf; exact hf.1
    have hl : t.led = true := by rw [hT.led, hb]; rfl
    exact sit_end hh st.1 st.2 hd hf (fun Q E' q => next_table hb st.2 hd hf hl hdr (by rw [below_slot hT.rise (by omega), Array.getElem?_eq_none (by omega)]; exact q)) fun h' eb => q _ (moved_of fun b ob hb e => eb b ob hb e)
  self := fun i s Q E st q => self_Y st.1 q
theorem walk_drawn {ps : List Nat} {ot : Obj} {nt : Nat} (hh : A.handled = none) (hd : o.data = .set es ep t) (hf : t.fits es.size = true) (hp : ps.Perm (List.range es.size)) (hdt : ot.data = .seq (ps.map fun (p : Nat) => rawInt p).toArray nt) (hne : a ≠ it) (hnt : tp ≠ it) :
    WalksS prog w A it [it, a, tp] [it] gEq es.size (fun i v => ((ps.filterMap fun p => (es[p]?).map (·.2))[i]? = some v)) (fun i s => SIt s.heap it (.ref tp) i a es.size ep ∧ s.heap.get? a = some o ∧ s.heap.get? tp = some ot) where
  sub := fun b hb => by simp at hb; simp [hb]
  grefl := fun _ => rfl
  gtrans := fun _ _ _ x y => x.trans y
  frame := fun i s h' tk st _ k => ⟨st.1.at_ fun ob e => k it (by simp) ob e, k a (by simp) o st.2.1, k tp (by simp) ot st.2.2⟩
  item := fun i s Q E hi st q => by
    have hlen : ps.length = es.size := by rw [hp.length_eq, List.length_range]
    have hpi : ps[i]? = some ps[i] := List.getElem?_eq_getElem (by omega)
    have hall : ∀ p ∈ ps, p < es.size := fun p z => List.mem_range.mp (hp.mem_iff.mp z)
    have hlt : ps[i] < es.size := hall _ (List.getElem_mem _)
    have hx : es[ps[i]]? = some es[ps[i]] := Array.getElem?_eq_getElem hlt
    have hfm : ∀ (l : List Nat), (∀ p ∈ l, p < es.size) → (l.filterMap fun p => (es[p]?).map (·.2)) = l.map fun p => (es.getD p (0, .none)).2 := by
      intro l hl
      induction l with
      | nil => rfl
      | cons p l ih =>
        have h1 := hl p (by simp)
        rw [List.filterMap_cons, List.map_cons, ih fun x hx => hl x (by simp [hx])]
        simp [Array.getD, h1]
    refine sitC_item st.1 st.2.1 hd hf st.2.2 hdt (place := ps[i]) (by simp [hpi, rawInt]) hx fun h' I' sb => q _ _ ?_ ⟨I', (sb.2 a hne).trans st.2.1, (sb.2 tp hnt).trans st.2.2⟩ (moved_of fun b ob hb e => (sb.2 b hb).trans e)
    rw [hfm ps hall, List.getElem?_map, hpi]
    simp [Array.getD, hlt]
  done := fun s Q E st q => by
    have hlen : ps.length = es.size := by rw [hp.length_eq, List.length_range]
    exact sitC_end hh st.1 st.2.1 hd hf st.2.2 hdt (by simp; omega) fun h' eb => q _ (moved_of fun b ob hb e => eb b ob hb e)
  self := fun i s Q E st q => self_Y st.1 q
end
end L2
namespace L2
open PySem PySem.Spec PyProof.Rows
theorem ints_are : ∀ {vs : List Value}, (∀ v ∈ vs, ∃ t, v = .int (intOf v) t) → IntsAre vs (vs.map intOf)
  | [], _ => .nil
  | v :: vs, h => by
    obtain ⟨t, e⟩ := h v (by simp)
    have ih := ints_are (vs := vs) fun u hu => h u (by simp [hu])
    rw [List.map_cons]
    generalize intOf v = k at e
    subst e
    exact .cons k t ih
theorem items_list {L : List Value} {acc : Array Value} (h : ItemsOf (fun i v => L[i]? = some v) acc L.length) : acc.toList = L := by
  apply List.ext_getElem?
  intro i
  by_cases hi : i < acc.size
  · have e := h.2 i acc[i] (Array.getElem?_eq_getElem hi)
    rw [e, Array.getElem?_toList, Array.getElem?_eq_getElem hi]
  · have := h.1
    rw [List.getElem?_eq_none (by rw [Array.length_toList]; omega), List.getElem?_eq_none (by omega)]
section
variable {prog : Program} {w : World} {A B : Around} {E : Value → Shared → Prop} {s : Shared} {a : Addr} {ks : List Int}
structure Going (prog : Program) (w : World) (B : Around) (s s1 : Shared) (a I : Addr) (ks : List Int) : Prop where
  keep : ∀ b o, s.heap.get? b = some o → s1.heap.get? b = some o
  gens : s1.gens = s.gens
  os : s1.os = s.os
  toks : s1.toks = s.toks
  new : s.heap.objs.size ≤ I
  ty : s1.TypeIs (.ref I) "set_iterator"
  walk : ∃ n fp P St, n = ks.length ∧ WalksS prog w B I fp [I] gEq n P St ∧ St 0 s1 ∧ (∀ b ∈ fp, b = a ∨ s.heap.objs.size ≤ b) ∧ (∀ b ∈ fp, b < s1.heap.objs.size) ∧ ∀ acc, ItemsOf P acc n → ∃ ks', IntsAre acc.toList ks' ∧ ks'.Perm ks
theorem all_ints {es : Array (Int × Value)} (hel : ElemsOf (intKind prog w) es.toList) {L : List Value} (hL : L.Perm (es.toList.map (·.2))) (hk : (es.toList.map fun e => intOf e.2) = ks) {acc : Array Value} (e : acc.toList = L) : ∃ ks', IntsAre acc.toList ks' ∧ ks'.Perm ks := by
  refine ⟨L.map intOf, ?_, ?_⟩
  · rw [e]
    refine ints_are fun v hv => ?_
    obtain ⟨x, hx, rfl⟩ := List.mem_map.mp (hL.mem_iff.mp hv)
    exact elems_int hel hx
  · have := hL.map intOf
    rw [List.map_map] at this
    rw [← hk]
    exact this
theorem iter_Y {Q : Value → Shared → Prop} (hB : B.handled = none) (y : SetY prog w s.heap a ks) (k : ∀ I s1, Going prog w B s s1 a I ks → Q (.ref I) s1) : wpAny (model prog w) A (pyIter (.ref a)) Q E s := by
  obtain ⟨o, es, ep, t, ho, hx, hd, hel, hks, hnd, hb, hf, ht⟩ := y
  have hty : s.TypeIs (.ref a) "set" := ⟨o, ho, hx.1⟩
  have hlen : ks.length = es.size := by rw [← hks, List.length_map, Array.length_toList]
  have lta : a < s.heap.objs.size := Heap.lt_size ho
  refine wpAny_pyIter_slot hty PySem.F.slot_set_iter (wpAny_call_entry PySem.F.slot_set_iter hty entry_set_iterY ?_ (PySem.F.args_set_iter_1 _))
  unfold Builtin.«frozenset.__iter__»
  refine wpAny_bind (wpAny_pure ?_)
  refine wpAny_bind ?_
  unfold Builtin.Frozenset.sizeOf
  refine wpAny_bind (entries_Y ho hd hf (wpAny_pure ?_))
  refine wpAny_bind ?_
  unfold setDrawn
  refine wpAny_bind (wpAny_setState_of ho hd hf ?_)
  dsimp only
  unfold setsByText
  refine wpAny_bind (wpAny_bind (wpAny_askSetting (wpAny_pure (wpAny_pure ?_))))
  have plain : ∀ (L : List Value) (P : Nat → Value → Prop) (St : Nat → Shared → Prop), WalksS prog w B s.heap.objs.size [s.heap.objs.size, a] [s.heap.objs.size] gEq es.size P St → L.Perm (es.toList.map (·.2)) → (∀ acc, ItemsOf P acc es.size → acc.toList = L) →
      (∀ s1 : Shared, SIt s1.heap s.heap.objs.size (.int (0 : Nat) 0) 0 a es.size ep → s1.heap.get? a = some o → St 0 s1) →
      wpAny (model prog w) A.in1 (pure (rawInt 0) >>= fun first => setEpoch a >>= fun e => newFields "set_iterator" [first, rawInt 0, .ref a, rawInt es.size, rawInt e] >>= fun v => ret v) (fun fin s' => ∃ v, fin = .done (.ret v) ∧ ∃ T' r, s'.TypeIs v T' ∧ typeLookup (.type T') "__next__" = pure (some r) ∧ Q v s') E s := by
    intro L P St W hL hacc h0
    refine wpAny_bind (wpAny_pure ?_)
    refine wpAny_bind (wpAny_setEpoch_of ho hd hf ?_)
    unfold newFields
    have I1 : SIt (s.heap.push { cls := .type "set_iterator", data := .fields #[.int (0 : Nat) 0, .int (0 : Nat) 0, .ref a, .int es.size 0, .int ep 0] }) s.heap.objs.size (.int (0 : Nat) 0) 0 a es.size ep := ⟨_, Heap.get?_push_size _ rfl, rfl, rfl⟩
    refine wpAny_bind (wpAny_newObj_type (wpAny_pure ⟨_, rfl, "set_iterator", _, ⟨_, Heap.get?_push_size _ rfl, rfl⟩, slot_sit_next.lookup, k _ _ ?_⟩) (by size_fits))
    refine ⟨fun b ob e => Heap.get?_push_of_some _ e, rfl, rfl, rfl, Nat.le_refl _, ⟨_, Heap.get?_push_size _ rfl, rfl⟩, es.size, _, P, St, hlen.symm, W, h0 _ I1 (Heap.get?_push_of_some _ ho), fun b hb => ?_, fun b hb => ?_, fun acc ha => all_ints hel hL hks (hacc acc ha)⟩
    · simp at hb
      rcases hb with z | z
      · exact .inr (by rw [z]; exact Nat.le_refl _)
      · exact .inl z
    · show b < (s.heap.push _).objs.size
      rw [Heap.size_push]
      simp at hb
      rcases hb with z | z
      · rw [z]; exact Nat.lt_succ_self _
      · rw [z]; exact Nat.lt_succ_of_lt lta
  cases hbt : bT w with
  | true =>
    refine wpAny_ite_split (fun z => ?_) (fun _ => ?_)
    · have z' : (!(bT w) && (!t.plain && decide (es.size > 1))) = true := z
      rw [hbt] at z'
      cases z'
    · have hl2 := (pick_perm (w.params.setOrder a ep) es).length_eq
      exact plain _ _ _ (walk_text hB hbt hd hf (Nat.ne_of_lt lta)) ((pick_perm _ es).map _) (fun acc ha => items_list (by rw [List.length_map, hl2, Array.length_toList]; exact ha)) fun s1 i1 i2 => ⟨i1, i2⟩
  | false =>
    refine wpAny_ite_split (fun z => ?_) (fun z => ?_)
    · have z' : (!(bT w) && (!t.plain && decide (es.size > 1))) = true := z
      refine wpAny_bind (draw_Y es.size (List.range es.size) s _ (by simp) fun ps d pm => ?_)
      refine wpAny_bind (wpAny_newTuple ?_ (by rw [List.length_map, pm.length_eq, List.length_range]; exact fits_of_scanBound hb))
      have g0 : ∀ b ob, s.heap.get? b = some ob → (s.heap.push { cls := .type "tuple", data := .seq (ps.map fun (p : Nat) => rawInt p).toArray }).get? b = some ob := fun b ob e => Heap.get?_push_of_some _ e
      refine wpAny_bind (wpAny_setEpoch_of (g0 _ _ ho) hd hf ?_)
      unfold newFields
      have ne1 : a ≠ (s.heap.push { cls := .type "tuple", data := .seq (ps.map fun (p : Nat) => rawInt p).toArray }).objs.size := by rw [Heap.size_push]; exact Nat.ne_of_lt (Nat.lt_succ_of_lt lta)
      have ne2 : s.heap.objs.size ≠ (s.heap.push { cls := .type "tuple", data := .seq (ps.map fun (p : Nat) => rawInt p).toArray }).objs.size := by rw [Heap.size_push]; exact Nat.ne_of_lt (Nat.lt_succ_self _)
      refine wpAny_bind (wpAny_newObj_type (wpAny_pure ⟨_, rfl, "set_iterator", _, ⟨_, Heap.get?_push_size _ rfl, rfl⟩, slot_sit_next.lookup, k _ _ ?_⟩) (by size_fits))
      have W := walk_drawn (prog := prog) (w := w) (A := B) (o := o) (ot := { cls := .type "tuple", data := .seq (ps.map fun (p : Nat) => rawInt p).toArray }) (nt := 0) hB hd hf pm rfl ne1 ne2
      have hfm : (ps.filterMap fun p => (es[p]?).map (·.2)).Perm (es.toList.map (·.2)) := by
        refine (pm.filterMap _).trans ?_
        rw [← filterMap_getElem?_range es, List.map_filterMap]
      refine ⟨fun b ob e => Heap.get?_push_of_some _ (g0 b ob e), rfl, rfl, rfl, ?_, ⟨_, Heap.get?_push_size _ rfl, rfl⟩, es.size, _, _, _, hlen.symm, W, ⟨⟨_, Heap.get?_push_size _ rfl, rfl, rfl⟩, Heap.get?_push_of_some _ (g0 _ _ ho), Heap.get?_push_of_some _ (Heap.get?_push_size _ rfl)⟩, fun b hb => ?_, fun b hb => ?_, fun acc ha => all_ints hel hfm hks (items_list (by rw [hfm.length_eq, List.length_map, Array.length_toList]; exact ha))⟩
      · show s.heap.objs.size ≤ (s.heap.push _).objs.size
        rw [Heap.size_push]
        exact Nat.le_succ _
      · have : b = (s.heap.push { cls := .type "tuple", data := .seq (ps.map fun (p : Nat) => rawInt p).toArray }).objs.size ∨ b = a ∨ b = s.heap.objs.size := by simpa using hb
        rcases this with z | z | z
        · right; rw [z, Heap.size_push]; exact Nat.le_succ _
        · exact .inl z
        · right; rw [z]; exact Nat.le_refl _
      · show b < ((s.heap.push _).push _).objs.size
        rw [Heap.size_push, Heap.size_push]
        have : b = (s.heap.push { cls := .type "tuple", data := .seq (ps.map fun (p : Nat) => rawInt p).toArray }).objs.size ∨ b = a ∨ b = s.heap.objs.size := by simpa using hb
        rcases this with z | z | z
        · rw [z, Heap.size_push]; exact Nat.lt_succ_self _
        · rw [z]; exact Nat.lt_succ_of_lt (Nat.lt_succ_of_lt lta)
        · rw [z]; exact Nat.lt_succ_of_lt (Nat.lt_succ_self _)
    · have z' : (!t.plain && decide (es.size > 1)) = false := by
        have z2 : ¬ (!(bT w) && (!t.plain && decide (es.size > 1))) = true := z
        rw [hbt] at z2
        simpa using z2
      exact plain _ _ _ (walk_table hB hbt hd hf ht z' (Nat.ne_of_lt lta)) (.refl _) (fun acc ha => items_list (by rw [List.length_map, Array.length_toList]; exact ha)) fun s1 i1 i2 => ⟨i1, i2⟩
theorem hint_Y {Q : Bool → Shared → Prop} (hT : s.TypeIs (.ref a) "set") (h : Q false s) : wpAny (model prog w) A (Builtin.List.listLengthHint (.ref a)) Q E s := by
  unfold Builtin.List.listLengthHint
  refine wpAny_bind (wpAny_specialOf hT len_setY ?_)
  generalize hid : ("set.__len__" : String) = id0
  wp_delta
  rw [show splitId id0 = some ("set", "__len__") from by subst hid; decide +kernel]
  subst hid
  refine wpAny_bind (wpAny_isInstance (T := "set") (b := true) hT (by rw [isSubtype_type]; kernel_rfl) ?_)
  refine wpAny_ite_split (fun z => absurd z (by decide)) (fun _ => wpAny_ite_split (fun _ => wpAny_bind (wpAny_typeOf hT (wpAny_pure h))) (fun z => absurd (by decide +kernel) z))
theorem collect_Y {Q : List Value → Shared → Prop} (hh : A.handled = none) (y : SetY prog w s.heap a ks) (hn : ks.length ≤ sizeLine)
    (q : ∀ s1 vs ks', IntsAre vs ks' → ks'.Perm ks → (∀ b o, s.heap.get? b = some o → s1.heap.get? b = some o) → s1.gens = s.gens → s1.os = s.os → s.heap.objs.size < s1.heap.objs.size → Q vs s1) : wpAny (model prog w) A (collect (.ref a)) Q E s := by
  obtain ⟨o, es, ep, t, ho, hx, rest⟩ := id y
  have lta : a < s.heap.objs.size := Heap.lt_size ho
  have oS : (s.heap.push { cls := .type "list", data := .seq ([] : List Value).toArray }).get? s.heap.objs.size = some { cls := .type "list", data := .seq ([] : List Value).toArray } := Heap.get?_push_size _ rfl
  unfold collect
  refine wpAny_bind (wpAny_runValue (codeAny_builtin PySem.F.entry_proto_collect ?_))
  rw [Around.under_plainId PySem.F.plain_proto_collect _]
  refine (?_ : wpAny _ A.in1 (newList [] >>= fun l => again (.builtin "list.__iadd__" ⟨[l, .ref a], []⟩)) _ _ s)
  refine wpAny_bind (wpAny_newObj_type ?_)
  refine wpAny_pure ⟨plainId_quiet PySem.F.plain_list_iadd _, codeAny_builtin PySem.F.entry_list_iadd ?_⟩
  rw [Around.under_plainId PySem.F.plain_list_iadd _]
  refine (?_ : wpAny _ A.in1 (Builtin.List.listExtendWith (.ref s.heap.objs.size) (.ref a) (.ref s.heap.objs.size)) _ _ { s with heap := s.heap.push { cls := .type "list", data := .seq ([] : List Value).toArray } })
  have y1 : SetY prog w (s.heap.push { cls := .type "list", data := .seq ([] : List Value).toArray }) a ks := y.at_ fun ob e => Heap.get?_push_of_some _ e
  unfold Builtin.List.listExtendWith
  refine wpAny_bind (wpAny_typeOf (T := "set") ⟨o, Heap.get?_push_of_some _ ho, hx.1⟩ ?_)
  have z1 : Builtin.List.listSameRef (.ref s.heap.objs.size) (.ref a) = false := by simp [Builtin.List.listSameRef]; exact Nat.ne_of_gt lta
  have z2 : (Value.type "set" == Value.type "list") = false := by decide
  have z3 : (Value.type "set" == Value.type "tuple") = false := by decide
  simp only [z1, z2, z3, Bool.or_false, Bool.false_eq_true, if_false]
  refine wpAny_bind (iter_Y (B := A.in1) hh y1 fun I s1 G => ?_)
  obtain ⟨n, fp, P, St, en, W, st, f1, f2, hacc⟩ := G.walk
  have sz : (s.heap.push { cls := .type "list", data := .seq ([] : List Value).toArray }).objs.size = s.heap.objs.size + 1 := Heap.size_push ..
  have hSf : s.heap.objs.size ∉ fp := fun z => by
    rcases f1 _ z with e | e
    · exact absurd e (Nat.ne_of_gt lta)
    · have e' : (s.heap.push { cls := .type "list", data := .seq ([] : List Value).toArray }).objs.size ≤ s.heap.objs.size := e
      rw [sz] at e'
      exact absurd e' (Nat.not_succ_le_self _)
  have hSI : s.heap.objs.size ≠ I := fun e => by
    have e' : (s.heap.push { cls := .type "list", data := .seq ([] : List Value).toArray }).objs.size ≤ I := G.new
    rw [sz, ← e] at e'
    exact absurd e' (Nat.not_succ_le_self _)
  have oS1 := G.keep _ _ oS
  refine wpAny_bind (wpAny_holding (hint_Y ⟨o, G.keep _ _ (Heap.get?_push_of_some _ ho), hx.1⟩ ?_))
  have key : ∀ (h : Heap) (c1 tk : Nat), s1.toks ≤ tk → (∀ b ob, b ≠ s.heap.objs.size → s1.heap.get? b = some ob → h.get? b = some ob) → h.get? s.heap.objs.size = some { cls := .type "list", data := .seq #[] c1 } →
      codeAny (model prog w) A (.builtin "list.extend.loop" ⟨[.ref s.heap.objs.size, .ref I, .ref s.heap.objs.size], []⟩) (fun r s' => match r with
        | .ok (.ret v) => wpAny (model prog w) A (match v with | .ref x => (do match (← load x).data with | .seq xs _ => pure xs.toList | _ => unsupported "internal:collect") | _ => unsupported "internal:collect") Q E s'
        | .ok _ => False
        | .error e => E e s') { s1 with heap := h, toks := tk } := by
    intro h c1 tk htk hk hS1
    refine codeAny_extend_loopS W (by rw [en]; exact hn) _ hSf _ n 0 _ #[] c1 rfl (Nat.zero_le _) (W.frame 0 s1 h tk st htk fun b hb ob e => hk b ob (fun z => hSf (z ▸ hb)) e) hS1 (ItemsOf.nil _) fun s' acc c' hm hS' ha => ?_
    obtain ⟨ks', i1, pm⟩ := hacc acc ha
    refine wpAny_bind (wpAny_load hS' (wpAny_pure (q s' acc.toList ks' i1 pm (fun b ob e => ?_) (hm.gens.symm.trans G.gens) (hm.os.trans G.os) (Heap.lt_size hS'))))
    have hb := Heap.lt_size e
    refine hm.heap b ob (fun z => ?_) (hk b ob (Nat.ne_of_lt hb) (G.keep _ _ (Heap.get?_push_of_some _ e)))
    simp at z
    rcases z with z | z
    · exact absurd hb (by rw [z]; exact Nat.lt_irrefl _)
    · have e' : (s.heap.push { cls := .type "list", data := .seq ([] : List Value).toArray }).objs.size ≤ I := G.new
      rw [sz, ← z] at e'
      exact absurd (Nat.lt_trans hb e') (Nat.lt_irrefl _)
  refine wpAny_ite_split (fun _ => ?_) (fun _ => wpAny_pure ⟨plainId_quiet PySem.F.plain_extend_loop _, key s1.heap _ _ (Nat.le_refl _) (fun _ _ _ e => e) oS1⟩)
  refine wpAny_bind (wpAny_rule (wpAny_bind ?_))
  refine (?_ : wpAny _ _ (updateSeq s.heap.objs.size (·.push .none) >>= fun _ => updateSeq s.heap.objs.size (·.pop)) _ _ _)
  refine wpAny_bind (wpAny_updateSeq oS1 rfl ?_)
  have oS2 := Heap.get?_update_self (Obj.mapSeq (·.push Value.none)) oS1 rfl
  refine wpAny_updateSeq (hz := by seq_fits) oS2 rfl ?_
  have oS3 := Heap.get?_update_self (Obj.mapSeq (·.pop)) oS2 rfl
  exact wpAny_pure ⟨plainId_quiet PySem.F.plain_extend_loop _, key _ _ _ (Nat.le_refl _) (fun b ob hb e => (Heap.get?_update_other _ _ (Ne.symm hb)).trans ((Heap.get?_update_other _ _ (Ne.symm hb)).trans e)) oS3⟩
end
end L2
namespace L2
open PySem PySem.Spec PyProof.Rows
def insI (x : Int) : List Int → List Int
  | [] => [x]
  | y :: r => if x < y then x :: y :: r else if x = y then y :: r else y :: insI x r
def sortD (ns : List Int) : List Int := ns.foldr insI []
theorem insI_mem (x : Int) : ∀ (l : List Int) (z : Int), z ∈ insI x l ↔ z = x ∨ z ∈ l
  | [], z => by simp [insI]
  | y :: r, z => by
    unfold insI
    split
    · simp
    · split
      · rename_i h; subst h; simp
      · rw [List.mem_cons, insI_mem x r z, List.mem_cons]
        constructor
        · rintro (h | h | h) <;> simp [h]
        · rintro (h | h | h) <;> simp [h]
theorem insI_rise (x : Int) : ∀ (l : List Int), l.Pairwise (· < ·) → (insI x l).Pairwise (· < ·)
  | [], _ => by simp [insI]
  | y :: r, h => by
    obtain ⟨h1, h2⟩ := List.pairwise_cons.mp h
    unfold insI
    split
    · rename_i hx
      refine List.pairwise_cons.mpr ⟨fun z hz => ?_, h⟩
      rcases List.mem_cons.mp hz with e | e
      · omega
      · have := h1 z e; omega
    · split
      · exact h
      · refine List.pairwise_cons.mpr ⟨fun z hz => ?_, insI_rise x r h2⟩
        rcases (insI_mem x r z).mp hz with e | e
        · omega
        · exact h1 z e
theorem sortD_mem {ns : List Int} {z : Int} : z ∈ sortD ns ↔ z ∈ ns := by
  unfold sortD
  induction ns with
  | nil => simp
  | cons x r ih => rw [List.foldr_cons, insI_mem, ih, List.mem_cons]
theorem sortD_rise (ns : List Int) : (sortD ns).Pairwise (· < ·) := by
  unfold sortD
  induction ns with
  | nil => exact List.Pairwise.nil
  | cons x r ih => rw [List.foldr_cons]; exact insI_rise x _ ih
theorem rise_ext : ∀ {xs ys : List Int}, xs.Pairwise (· < ·) → ys.Pairwise (· < ·) → (∀ z, z ∈ xs ↔ z ∈ ys) → xs = ys
  | [], [], _, _, _ => rfl
  | [], y :: ys, _, _, h => by have := (h y).mpr (by simp); simp at this
  | x :: xs, [], _, _, h => by have := (h x).mp (by simp); simp at this
  | x :: xs, y :: ys, hx, hy, h => by
    obtain ⟨x1, x2⟩ := List.pairwise_cons.mp hx
    obtain ⟨y1, y2⟩ := List.pairwise_cons.mp hy
    have e : x = y := by
      have a1 := (h x).mp (by simp)
      have a2 := (h y).mpr (by simp)
      rcases List.mem_cons.mp a1 with e | e
      · exact e
      · rcases List.mem_cons.mp a2 with e2 | e2
        · exact e2.symm
        · have := x1 y e2
          have := y1 x e
          omega
    subst e
    have ih := rise_ext x2 y2 fun z => by
      constructor
      · intro hz
        rcases List.mem_cons.mp ((h z).mp (by simp [hz])) with e | e
        · have := x1 z hz; omega
        · exact e
      · intro hz
        rcases List.mem_cons.mp ((h z).mpr (by simp [hz])) with e | e
        · have := y1 z hz; omega
        · exact e
    rw [ih]
theorem sortD_len (ns : List Int) : (sortD ns).length ≤ ns.length := by
  unfold sortD
  induction ns with
  | nil => exact Nat.le_refl _
  | cons x r ih =>
    rw [List.foldr_cons, List.length_cons]
    have : ∀ l : List Int, (insI x l).length ≤ l.length + 1 := by
      intro l
      induction l with
      | nil => exact Nat.le_refl _
      | cons y l ih => unfold insI; split; simp; split; simp; simp; omega
    have := this (r.foldr insI [])
    omega
def SetE (prog : Program) (w : World) (p : Addr) (ns : List Int) : Heap → Prop := fun h => ∃ ks, SetY prog w h p ks ∧ ks.Perm (met (fun i => ns.getD i 0) ns.length)
theorem SetE.obj {prog : Program} {w : World} {p : Addr} {ns : List Int} {H : Hp} {h : Heap} (x : SetE prog w p ns h) : ObjOk prog w H h p (.ext (SetE prog w p ns)) := by
  obtain ⟨ks, y, pm⟩ := id x
  obtain ⟨o, es, ep, t, ho, r⟩ := id y
  exact ⟨x, ⟨o, ho⟩, fun h1 h2 ⟨ks, y, pm⟩ k => ⟨ks, y.at_ k, pm⟩⟩
section
variable {X : Cx}
theorem cr_setT (hc : X.calm = true) : CallR X (.type "set") (fun xs H Q => ∃ (a : Addr) (ns : List Int), xs = [.ref a] ∧ SqT X.K H a (ns.map V.int) ∧ ns.length + 1 < scanBound ∧ ∀ p, H p = none → Q (.ref p) (upd H p (.ext (SetE X.prog X.w p ns)))) := by
  intro pins s σ H xs us Q I r h
  obtain ⟨a, ns, rfl, hs, hb, q⟩ := h
  obtain ⟨its, rv, hl, hz⟩ := I.tuple hs
  rw [Vals.ref1 r]
  have hi := rv.ints
  have hlen : its.toArray.size = ns.length := by rw [List.size_toArray, hi.length]
  refine call_set_tupleY (I.ok.hd hc) hl hi (by rw [hlen]; exact hb) fun h' tk ks y pm kp => ?_
  rw [hlen] at pm
  exact ⟨.ref _, _, I.laid (t' := tk) kp (Nat.le_refl _) (SetE.obj ⟨ks, y, pm⟩), rfl, q _ (I.hok.fresh (Nat.le_refl _))⟩
theorem cr_sortedE (hc : X.calm = true) : CallR X (.builtin "sorted") (fun xs H Q => ∃ (p : Addr) (ns : List Int), xs = [.ref p] ∧ H p = some (.ext (SetE X.prog X.w p ns)) ∧ ns.length ≤ sizeLine ∧ ∀ l, H l = none → Q (.ref l) (upd H l (.lst ((sortD ns).map V.int)))) := by
  intro pins s σ H xs us Q I r h
  obtain ⟨p, ns, rfl, hp, hb, q⟩ := h
  rw [Vals.ref1 r]
  obtain ⟨ks, y, pm⟩ : SetE X.prog X.w p ns s.heap := (show ObjOk X.prog X.w H s.heap p (.ext (SetE X.prog X.w p ns)) from I.hok p _ hp).1
  have hkl : ks.length ≤ ns.length := by rw [pm.length_eq]; exact met_len ..
  refine Calls.call_function_entry kind_sorted plain_sorted entry_sorted (args_sorted1 _) ?_
  unfold Builtin.«sorted»
  refine wpAny_bind (m := checkCount "sorted" 1 1 _) (wpAny_pure ?_)
  refine wpAny_bind (collect_Y (I.ok.hd hc) y (by omega) fun s1 vs ks' ia pm2 kp hg hos hlt => ?_)
  have hvl : vs.length ≤ sizeLine := by rw [ia.length, pm2.length_eq]; omega
  refine wpAny_bind (wpAny_newList ?_ hvl)
  have oL : (s1.heap.push (seqObj "list" vs.toArray 0)).get? s1.heap.objs.size = some (seqObj "list" vs.toArray 0) := Heap.get?_push_size _ rfl
  refine wpAny_bind (wpAny_holding (wpAny_call_entry slot_list_sort ⟨_, oL, rfl⟩ entry_list_sort (list_sort_treeAny oL ia hvl fun out ns' b1 b2 b3 => ⟨_, rfl, ?_⟩) (args_list_sort _)))
  refine wpAny_pure ⟨_, rfl, ?_⟩
  have hnd : ns'.Nodup := (b2.trans (pm2.trans pm)).nodup_iff.mpr (met_nodup ..)
  have hrise : ns'.Pairwise (· < ·) := by
    refine List.Pairwise.imp₂ ?_ b3 hnd
    intro x y h1 h2
    omega
  have hns : ns' = sortD ns := rise_ext hrise (sortD_rise ns) fun z => by
    rw [(b2.trans (pm2.trans pm)).mem_iff, met_mem, sortD_mem]
    constructor
    · rintro ⟨j, hj, rfl⟩
      simp only [List.getD, List.getElem?_eq_getElem hj, Option.getD_some]
      exact List.getElem_mem hj
    · intro hz
      obtain ⟨j, hj, e⟩ := List.mem_iff_getElem.mp hz
      exact ⟨j, hj, by simp only [List.getD, List.getElem?_eq_getElem hj, Option.getD_some]; exact e⟩
  subst hns
  obtain ⟨ep, ge⟩ := sortedHeap_at (out := out) oL
  have old : ∀ b o, s.heap.get? b = some o → (sortedHeap (s1.heap.push (seqObj "list" vs.toArray 0)) s1.heap.objs.size vs out).get? b = some o := fun b o e => by
    have e1 := kp b o e
    have lt := Heap.lt_size e1
    rw [sortedHeap_old (Nat.ne_of_lt lt) (by rw [Heap.size_push]; exact Nat.lt_succ_of_lt lt)]
    exact Heap.get?_push_of_some _ e1
  have szle : s.heap.objs.size ≤ s1.heap.objs.size := Nat.le_of_lt hlt
  have fr : H s1.heap.objs.size = none := I.hok.fresh szle
  have hok : HOk X.prog X.w (upd H s1.heap.objs.size (.lst ((sortD ns).map V.int))) (sortedHeap (s1.heap.push (seqObj "list" vs.toArray 0)) s1.heap.objs.size vs out) :=
    I.hok.laid old szle ⟨by rw [List.length_map]; exact Nat.le_trans (sortD_len ns) hb, out.toList, ep, vals_of_ints b1, ge⟩
  refine ⟨.ref _, upd H s1.heap.objs.size (.lst ((sortD ns).map V.int)), ?_, rfl, q _ fr⟩
  exact I.call' (ch := []) hos (Un.laid old szle fr) hok (by show AllBare s1.gens; rw [hg]; exact I.bare) (fun b z => absurd z (by simp))
end
end L2
namespace L2
open PySem PySem.Spec PyProof.Rows
section
variable {X : Cx} {ρ ρ1 : List Ow} {e : Expr} {p1 p2 q1 q2 : Pos} {ns : List Int}
theorem Fin.sortset {K : PySem.W.Frag} {Hm H : Hp} {Q : VK} {p l : Addr} {φ : Heap → Prop} {vs : List V} {ds : List PyData} (f : Fin K (.lst ds) Hm H Q) (s : Same Hm H) (h : DpAll K Hm vs ds) (hp : H p = none) (hl : upd H p (.ext φ) l = none) : Q (.ref l) (upd (upd H p (.ext φ)) l (.lst vs)) := by
  have hne : l ≠ p := fun z => by subst z; rw [upd_same] at hl; cases hl
  have hl' : H l = none := by rw [upd_ne hne] at hl; exact hl
  have s1 : Same H (upd (upd H p (.ext φ)) l (.lst vs)) := (Same.upd hp).trans (Same.upd hl)
  exact f _ [l] Hm _ (Same.refl _) (s.trans s1) s1 New.refl (.lst upd_same h) (by
    intro a ha
    simp at ha
    subst ha
    exact ⟨hl', s.free hl', by rw [upd_same]; simp⟩)
theorem ev_sortsetT (hs : X.mg "sorted" = none) (ht : X.mg "set" = none) (h : EV X ρ e (.dat (.tuple (ns.map .int))) ρ1) (hz : ns.length + 1 < 4096) (hst : starEach [e] X.env = (false, eval e X.env) :: starEach [] X.env := by rfl) (hc : X.calm = true := by rfl) (hg : Gl X "sorted" := by rfl) (hg2 : Gl X "set" := by rfl) :
    EV X ρ (.Call (.Name "sorted" p1) [.Call (.Name "set" p2) [e] [] q2] [] q1) (.lst ((sortD ns).map .int)) ρ1 := by
  refine ⟨(pe_callB (cr_sortedE hc) hg hs (by decide +kernel) (pa_cons (pe_callTy (cr_setT hc) hg2 ht (by decide +kernel) (pa_cons h.pe pa_nil hst) (by decide) (by decide) hst rfl) pa_nil star_call) (by decide) (by decide) star_call rfl).mono fun σ H Q ⟨F, τ, R, q⟩ => ⟨F, τ, R, fun v H1 R1 => ?_⟩⟩
  obtain ⟨Hm, h1, h2, h3⟩ := R1.one
  cases h2 with
  | @tup a us _ p1 p2 =>
    rw [p2.ints_inv] at p1
    exact ⟨a, ns, rfl, h1.tup p1, hz, fun p hp => ⟨p, ns, rfl, upd_same, by have : sizeLine = 16777216 := by rw [sizeLine_eq]
                                                                            omega, fun l hl => (h3 _ Q q).sortset h1 (DpAll.ints _) hp hl⟩⟩
end
end L2
namespace HT
open PySem PySem.Spec PyProof.Rows
section
variable {prog : Program} {w : World} {A : Around} {E : Value → Shared → Prop} {s : Shared}
theorem cat_tup0 {t b : Addr} {vs ws : List Value} {Q : Value → Shared → Prop} (ht : IsTup s.heap t vs.toArray) (hb : IsTup s.heap b ws.toArray) (hv : vs = []) (h : Q (.ref b) s) : wpAny (model prog w) A (binaryOp .Add (.ref t) (.ref b)) Q E s := by
  obtain ⟨⟨cls, dd, data, sl⟩, ho, hc, n, hd⟩ := id ht
  obtain ⟨⟨cls2, dd2, data2, sl2⟩, ho2, hc2, n2, hd2⟩ := id hb
  simp only at hc hd hc2 hd2
  subst hc hd hc2 hd2
  have m := tuple_addW0 t b vs.toArray ws.toArray n n2 dd dd2 sl sl2 (by simp [hv])
  exact concat_meets ⟨_, ho, rfl⟩ ⟨_, ho2, rfl⟩ noFill_tuple_add seq_tuple_add PySem.F.slot_tuple_add PySem.F.entry_tuple_add (PySem.F.args_tuple_add_2 _ _) m ⟨ho, ho2, h⟩
end
end HT
namespace L2
open PySem PySem.Spec PyProof.Rows
section
variable {X : Cx} {ρ ρ1 ρ2 : List Ow} {a b e es : Expr} {pos p2 : Pos}
theorem op_catT0 : OpR X (binaryOp .Add) (fun x y H Q => ∃ a b ys, x = .ref a ∧ y = .ref b ∧ SqT X.K H a [] ∧ SqT X.K H b ys ∧ Q (.ref b) H) := by
  intro pins s σ H x y v u Q I rx ry h
  obtain ⟨a, b, ys, rfl, rfl, ha, hb, q⟩ := h
  cases rx
  cases ry
  obtain ⟨its, r1, p1, _⟩ := I.tuple ha
  obtain ⟨its2, r2, p2, _⟩ := I.tuple hb
  exact HT.cat_tup0 p1 p2 (r1.nil_iff.mpr rfl) ⟨.ref b, H, I, rfl, q⟩
theorem bin_catT0 {ys : List PyData} : Bin X .Add (.tuple []) (.tuple ys) (.dat (.tuple ys)) :=
  ⟨_, op_catT0, fun Hm H Q v u sm h1 h2 f => by
    cases h1 with
    | @tup a vs _ p1 q1 =>
      cases q1
      cases h2 with
      | @tup b us _ p2 q2 => exact ⟨a, b, us, rfl, rfl, sm.tup p1, sm.tup p2, f.flat sm (.tup p2 q2)⟩⟩
theorem ev_catT {xs ys : List PyData} (h : xs.length + ys.length ≤ sizeLine) (ha : EV X ρ a (.dat (.tuple xs)) ρ1) (hb : EV X ρ1 b (.dat (.tuple ys)) ρ2) : EV X ρ (.BinOp a .Add b pos) (.dat (.tuple (xs ++ ys))) ρ2 := by
  cases xs with
  | nil => exact ev_op bin_catT0 ha hb
  | cons x xs => exact ev_op (bin_catT (by simp) h) ha hb
theorem ev_catTi {xs ys : List Int} (h : xs.length + ys.length ≤ sizeLine) (ha : EV X ρ a (.dat (.tuple (xs.map .int))) ρ1) (hb : EV X ρ1 b (.dat (.tuple (ys.map .int))) ρ2) : EV X ρ (.BinOp a .Add b pos) (.dat (.tuple ((xs ++ ys).map .int))) ρ2 := by
  rw [List.map_append]
  exact ev_catT (by simpa using h) ha hb
end
end L2
namespace ZM
open PySem PySem.Spec PyProof.Rows
section
variable {prog : Program} {w : World} {A : Around} {E : Value → Shared → Prop} {s : Shared}
theorem turn {z ti to j1 j2 t1 t2 : Addr} {n1 n2 : Nat} {xs ys : Array Value} {x y p q : Value} {Q : Value → Shared → Prop} (D : ZT.Apart z ti to j1 j2 t1 t2)
    (gz : IsZip s.heap z ti to .none) (gi : IsPair s.heap ti (.ref j1) (.ref j2)) (go : IsPair s.heap to p q)
    (i1 : s.heap.IsTupleIter j1 t1 n1) (i2 : s.heap.IsListIter j2 t2 n2) (u1 : s.heap.IsTuple t1 xs) (u2 : s.heap.IsList t2 ys) (e1 : xs[n1]? = some x) (e2 : ys[n2]? = some y)
    (k : ∀ h2, IsZip h2 z ti to (rawInt s.heap.objs.size) → IsPair h2 to x y → h2.IsTupleIter j1 t1 (n1 + 1) → h2.IsListIter j2 t2 (n2 + 1) → IsPair h2 s.heap.objs.size x y → h2.objs.size = s.heap.objs.size + 1 →
      (∀ c o, c ≠ z → c ≠ to → c ≠ j1 → c ≠ j2 → s.heap.get? c = some o → h2.get? c = some o) → Q (.ref s.heap.objs.size) { s with heap := h2 }) :
    wpAny (model prog w) A (Builtin.«zip.__next__» ⟨[.ref z], []⟩) (fun fin s2 => ∃ v, fin = .done (.ret v) ∧ Q v s2) E s := by
  show wpAny _ _ (field (.ref z) 2 >>= _) _ _ _
  apply wpAny_bind
  refine wpAny_field gz rfl (x := .bool false) rfl ?_
  show wpAny _ _ (field (.ref z) 3 >>= _) _ _ _
  apply wpAny_bind
  refine wpAny_field gz rfl (x := .ref ti) rfl ?_
  apply wpAny_bind
  refine wpAny_seqItems gi rfl ?_
  show wpAny _ _ (Builtin.SmallTypes.ownedTupleIsFree (.ref z) >>= _) _ _ _
  apply wpAny_bind
  unfold Builtin.SmallTypes.ownedTupleIsFree
  apply wpAny_bind
  refine wpAny_field gz rfl (x := .none) rfl (wpAny_pure ?_)
  simp only [if_true]
  apply wpAny_bind
  apply wpAny_rule
  apply wpAny_bind
  refine wpAny_field gz rfl (x := .ref to) rfl ?_
  apply wpAny_bind
  refine wpAny_setField_rec gz (by simp) fun ha za sa => ?_
  replace za : IsZip ha z ti to .ellipsis := za
  apply wpAny_bind
  simp only [List.forIn_cons, List.forIn_nil, List.zipIdx_cons, List.zipIdx_nil]
  apply wpAny_bind
  apply wpAny_bind
  apply wpAny_onRaise
  show wpAny _ _ (Builtin.SmallTypes.nextOf (.ref j1) >>= _) _ _ _
  apply wpAny_bind
  refine ZT.step (i1.extBut sa.extBut D.a3) (u1.extBut sa.extBut D.b2) e1 fun hb ib sb => wpAny_pure ?_
  have gb : IsPair hb to p q := sb.extBut _ _ D.a8 (sa.extBut _ _ D.a2 go)
  apply wpAny_bind
  refine wpAny_seqItems gb rfl ?_
  apply wpAny_bind
  refine wpAny_updateSeq_pair gb fun hc gc sc => ?_
  replace gc : IsPair hc to x q := gc
  apply wpAny_bind
  refine wpAny_letGo (wpAny_pure ?_)
  apply wpAny_bind
  apply wpAny_bind
  apply wpAny_onRaise
  show wpAny _ _ (Builtin.SmallTypes.nextOf (.ref j2) >>= _) _ _ _
  apply wpAny_bind
  have i2c : hc.IsListIter j2 t2 n2 := ((i2.extBut sa.extBut D.a4).extBut sb.extBut D.b1.symm).extBut sc.extBut D.a9.symm
  have u2c : hc.IsList t2 ys := ((u2.extBut sa.extBut D.b6).extBut sb.extBut D.b8).extBut sc.extBut D.b7
  refine wpAny_nextOf_list_item i2c u2c e2 fun hd id sd => wpAny_pure ?_
  have gd : IsPair hd to x q := sd.extBut _ _ D.a9 gc
  apply wpAny_bind
  refine wpAny_seqItems gd rfl ?_
  apply wpAny_bind
  refine wpAny_updateSeq_pair gd fun hf gf sf => ?_
  replace gf : IsPair hf to x y := gf
  apply wpAny_bind
  refine wpAny_letGo (wpAny_pure (wpAny_pure ?_))
  apply wpAny_bind
  refine wpAny_seqItems gf rfl ?_
  apply wpAny_bind
  refine wpAny_newTuple ?_
  have size : hf.objs.size = s.heap.objs.size := sf.1.trans (sd.1.trans (sc.1.trans (sb.1.trans sa.1)))
  have zf : IsZip hf z ti to .ellipsis := sf.extBut _ _ D.a2.symm (sd.extBut _ _ D.a4.symm (sc.extBut _ _ D.a2.symm (sb.extBut _ _ D.a3.symm za)))
  have kf : ∀ c o, c ≠ z → c ≠ to → c ≠ j1 → c ≠ j2 → s.heap.get? c = some o → hf.get? c = some o := fun c o n1 n2 n3 n4 g =>
    sf.extBut _ _ n2 (sd.extBut _ _ n4 (sc.extBut _ _ n2 (sb.extBut _ _ n3 (sa.extBut _ _ n1 g))))
  have i1f : hf.IsTupleIter j1 t1 (n1 + 1) := ((ib.extBut sc.extBut D.a8.symm).extBut sd.extBut D.b1).extBut sf.extBut D.a8.symm
  have i2f : hf.IsListIter j2 t2 (n2 + 1) := id.extBut sf.extBut D.a9.symm
  have lz : z < hf.objs.size := Heap.lt_size zf
  show wpAny _ _ (Builtin.SmallTypes.ownedTupleHandOut (.ref z) (.ref hf.objs.size) >>= _) _ _ _
  apply wpAny_bind
  unfold Builtin.SmallTypes.ownedTupleHandOut
  have zg : IsZip (hf.push { cls := .type "tuple", data := .seq #[x, y] }) z ti to .ellipsis := Heap.get?_push_of_some _ zf
  apply wpAny_bind
  refine wpAny_setField_rec zg (by simp) fun hi zi si => ?_
  replace zi : IsZip hi z ti to (rawInt hf.objs.size) := zi
  refine wpAny_setField_rec zi (by simp) fun hj zj sj => ?_
  replace zj : IsZip hj z ti to (rawInt hf.objs.size) := zj
  have up : ∀ c o, c ≠ z → hf.get? c = some o → hj.get? c = some o := fun c o n g => sj.extBut _ _ n (si.extBut _ _ n (Heap.get?_push_of_some _ g))
  have new : IsPair hj hf.objs.size x y := sj.extBut _ _ (Nat.ne_of_gt lz) (si.extBut _ _ (Nat.ne_of_gt lz) (Heap.get?_push_size _ rfl))
  have sz : hj.objs.size = hf.objs.size + 1 := by rw [sj.1, si.1, Heap.size_push]
  rw [size] at zj new sz
  refine wpAny_pure ⟨_, rfl, ?_⟩
  show Q (.ref hf.objs.size) _
  rw [size]
  refine k hj zj (up _ _ D.a2 gf) (i1f.at fun o g => up _ o D.a3 g) (i2f.at fun o g => up _ o D.a4 g) new sz fun c o n1 n2 n3 n4 g => ?_
  exact up c o n1 (kf c o n1 n2 n3 n4 g)
theorem stop {z ti to j1 j2 t1 t2 : Addr} {n1 n2 : Nat} {xs ys : Array Value} {p q : Value} {Q : Fin → Shared → Prop} (calm : A.handled = none) (D : ZT.Apart z ti to j1 j2 t1 t2)
    (gz : IsZip s.heap z ti to .none) (gi : IsPair s.heap ti (.ref j1) (.ref j2)) (go : IsPair s.heap to p q)
    (i1 : s.heap.IsTupleIter j1 t1 n1) (i2 : s.heap.IsListIter j2 t2 n2) (u1 : s.heap.IsTuple t1 xs) (u2 : s.heap.IsList t2 ys) (ends : xs[n1]? = none ∨ ys[n2]? = none)
    (k : ∀ h2 e, (∀ c o, c ≠ z → c ≠ to → c ≠ j1 → c ≠ j2 → s.heap.get? c = some o → h2.get? c = some o) → (∃ o, h2.get? e = some o ∧ o.cls = .type "StopIteration") → E (.ref e) { s with heap := h2 }) :
    wpAny (model prog w) A (Builtin.«zip.__next__» ⟨[.ref z], []⟩) Q E s := by
  show wpAny _ _ (field (.ref z) 2 >>= _) _ _ _
  apply wpAny_bind
  refine wpAny_field gz rfl (x := .bool false) rfl ?_
  show wpAny _ _ (field (.ref z) 3 >>= _) _ _ _
  apply wpAny_bind
  refine wpAny_field gz rfl (x := .ref ti) rfl ?_
  apply wpAny_bind
  refine wpAny_seqItems gi rfl ?_
  show wpAny _ _ (Builtin.SmallTypes.ownedTupleIsFree (.ref z) >>= _) _ _ _
  apply wpAny_bind
  unfold Builtin.SmallTypes.ownedTupleIsFree
  apply wpAny_bind
  refine wpAny_field gz rfl (x := .none) rfl (wpAny_pure ?_)
  simp only [if_true]
  apply wpAny_bind
  apply wpAny_rule
  apply wpAny_bind
  refine wpAny_field gz rfl (x := .ref to) rfl ?_
  apply wpAny_bind
  refine wpAny_setField_rec gz (by simp) fun ha za sa => ?_
  replace za : IsZip ha z ti to .ellipsis := za
  apply wpAny_bind
  simp only [List.forIn_cons, List.forIn_nil, List.zipIdx_cons, List.zipIdx_nil]
  apply wpAny_bind
  apply wpAny_bind
  apply wpAny_onRaise
  show wpAny _ _ (Builtin.SmallTypes.nextOf (.ref j1) >>= _) _ _ _
  cases e1 : xs[n1]? with
  | none =>
    apply wpAny_bind
    refine ZT.last calm (i1.extBut sa.extBut D.a3) (u1.extBut sa.extBut D.b2) e1 fun hb e sb he => ?_
    obtain ⟨oe, ge, ce⟩ := he
    have zb : IsZip hb z ti to .ellipsis := sb _ _ D.a3.symm za
    have ne : e ≠ z := fun v => by
      subst v
      rw [zb] at ge
      cases ge
      simp at ce
    refine wpAny_setField_rec zb (by simp) fun hc _ sc => k hc e (fun c o n1 _ n3 _ g => ?_) ⟨oe, sc.extBut _ _ ne ge, ce⟩
    exact sc.extBut _ _ n1 (sb _ _ n3 (sa.extBut _ _ n1 g))
  | some x =>
    have e2 : ys[n2]? = none := ends.resolve_left fun v => by
      rw [e1] at v
      cases v
    apply wpAny_bind
    refine ZT.step (i1.extBut sa.extBut D.a3) (u1.extBut sa.extBut D.b2) e1 fun hb ib sb => wpAny_pure ?_
    have gb : IsPair hb to p q := sb.extBut _ _ D.a8 (sa.extBut _ _ D.a2 go)
    apply wpAny_bind
    refine wpAny_seqItems gb rfl ?_
    apply wpAny_bind
    refine wpAny_updateSeq_pair gb fun hc gc sc => ?_
    apply wpAny_bind
    refine wpAny_letGo (wpAny_pure ?_)
    apply wpAny_bind
    apply wpAny_bind
    apply wpAny_onRaise
    show wpAny _ _ (Builtin.SmallTypes.nextOf (.ref j2) >>= _) _ _ _
    apply wpAny_bind
    have i2c : hc.IsListIter j2 t2 n2 := ((i2.extBut sa.extBut D.a4).extBut sb.extBut D.b1.symm).extBut sc.extBut D.a9.symm
    have u2c : hc.IsList t2 ys := ((u2.extBut sa.extBut D.b6).extBut sb.extBut D.b8).extBut sc.extBut D.b7
    refine wpAny_nextOf_list_end calm i2c u2c e2 fun hd e sd he => ?_
    obtain ⟨oe, ge, ce⟩ := he
    have zd : IsZip hd z ti to .ellipsis := sd _ _ D.a4.symm (sc.extBut _ _ D.a2.symm (sb.extBut _ _ D.a3.symm za))
    have ne : e ≠ z := fun v => by
      subst v
      rw [zd] at ge
      cases ge
      simp at ce
    refine wpAny_setField_rec zd (by simp) fun hf _ sf => k hf e (fun c o n1 n2 n3 n4 g => ?_) ⟨oe, sf.extBut _ _ ne ge, ce⟩
    exact sf.extBut _ _ n1 (sd _ _ n4 (sc.extBut _ _ n2 (sb.extBut _ _ n3 (sa.extBut _ _ n1 g))))
theorem next_turn {z ti to j1 j2 t1 t2 : Addr} {n1 n2 : Nat} {xs ys : Array Value} {x y p q : Value} {Q : Option Value → Shared → Prop} (D : ZT.Apart z ti to j1 j2 t1 t2)
    (gz : IsZip s.heap z ti to .none) (gi : IsPair s.heap ti (.ref j1) (.ref j2)) (go : IsPair s.heap to p q)
    (i1 : s.heap.IsTupleIter j1 t1 n1) (i2 : s.heap.IsListIter j2 t2 n2) (u1 : s.heap.IsTuple t1 xs) (u2 : s.heap.IsList t2 ys) (e1 : xs[n1]? = some x) (e2 : ys[n2]? = some y)
    (k : ∀ h2, IsZip h2 z ti to (rawInt s.heap.objs.size) → IsPair h2 to x y → h2.IsTupleIter j1 t1 (n1 + 1) → h2.IsListIter j2 t2 (n2 + 1) → IsPair h2 s.heap.objs.size x y → h2.objs.size = s.heap.objs.size + 1 →
      (∀ c o, c ≠ z → c ≠ to → c ≠ j1 → c ≠ j2 → s.heap.get? c = some o → h2.get? c = some o) → Q (some (.ref s.heap.objs.size)) { s with heap := h2 }) : wpAny (model prog w) A (pyNext (.ref z)) Q E s := by
  have ty : s.TypeIs (.ref z) "zip" := ⟨_, gz, rfl⟩
  unfold pyNext
  apply wpAny_bind
  apply wpAny_attempt
  apply wpAny_callSpecial?_slot (name := Str.ofString "__next__") ty F.slot_zip_next
  refine wpAny_call_entry F.slot_zip_next ty F.entry_zip_next ?_ (F.args_zip_next_1 _)
  exact turn D gz gi go i1 i2 u1 u2 e1 e2 fun h2 c1 c2 c3 c4 c5 c6 c7 => wpAny_pure (k h2 c1 c2 c3 c4 c5 c6 c7)
theorem next_stop {z ti to j1 j2 t1 t2 : Addr} {n1 n2 : Nat} {xs ys : Array Value} {p q : Value} {Q : Option Value → Shared → Prop} (calm : A.handled = none) (D : ZT.Apart z ti to j1 j2 t1 t2)
    (gz : IsZip s.heap z ti to .none) (gi : IsPair s.heap ti (.ref j1) (.ref j2)) (go : IsPair s.heap to p q)
    (i1 : s.heap.IsTupleIter j1 t1 n1) (i2 : s.heap.IsListIter j2 t2 n2) (u1 : s.heap.IsTuple t1 xs) (u2 : s.heap.IsList t2 ys) (ends : xs[n1]? = none ∨ ys[n2]? = none)
    (k : ∀ h2, (∀ c o, c ≠ z → c ≠ to → c ≠ j1 → c ≠ j2 → s.heap.get? c = some o → h2.get? c = some o) → Q none { s with heap := h2 }) : wpAny (model prog w) A (pyNext (.ref z)) Q E s := by
  have ty : s.TypeIs (.ref z) "zip" := ⟨_, gz, rfl⟩
  unfold pyNext
  apply wpAny_bind
  apply wpAny_attempt
  apply wpAny_callSpecial?_slot (name := Str.ofString "__next__") ty F.slot_zip_next
  refine wpAny_call_entry F.slot_zip_next ty F.entry_zip_next ?_ (F.args_zip_next_1 _)
  refine stop calm D gz gi go i1 i2 u1 u2 ends fun h2 e kept ⟨o, ge, ce⟩ => ?_
  apply wpAny_bind
  exact wpAny_isInstance (T := "StopIteration") (b := true) ⟨o, ge, ce⟩ isSubtype_stop (wpAny_pure (k h2 kept))
end
abbrev hA (h : Heap) (t1 : Addr) : Heap := h.push { cls := .type "tuple_iterator", data := .fields #[.ref t1, .int 0 0] }
abbrev hB (h : Heap) (t1 t2 : Addr) : Heap := (hA h t1).push { cls := .type "list_iterator", data := .fields #[.ref t2, .int 0 0] }
abbrev hC (h : Heap) (t1 t2 : Addr) : Heap := (hB h t1 t2).push { cls := .type "tuple", data := .seq #[.ref h.objs.size, .ref (hA h t1).objs.size] }
abbrev hD (h : Heap) (t1 t2 : Addr) : Heap := (hC h t1 t2).push { cls := .type "tuple", data := .seq #[.none, .none] }
abbrev hE (h : Heap) (t1 t2 : Addr) : Heap := (hD h t1 t2).push { cls := .type "zip", data := .fields #[.none, .bool false, .bool false, .ref (hB h t1 t2).objs.size, .ref (hC h t1 t2).objs.size] }
theorem made (t1 t2 : Addr) (xs ys : Array Value) : Meets (Builtin.«zip.__new__» ⟨[.type "zip", .ref t1, .ref t2], []⟩) (fun _ R s => s.heap.IsTuple t1 xs ∧ s.heap.IsList t2 ys ∧
      R (.ok (.ret (.ref (hD s.heap t1 t2).objs.size))) { s with heap := hE s.heap t1 t2 }) :=
  .of_wp fun prog w A R s h => by
    obtain ⟨hp, g, d, tk, os⟩ := s
    obtain ⟨l1, l2, h⟩ := h
    have hsub := sub_zip
    have q1 : Heap.IsTuple (Shared.heap ⟨hp, g, d, tk, os⟩) t1 xs := l1
    have q2 : Heap.IsList (Shared.heap ⟨hp.push { cls := .type "tuple_iterator", data := .fields #[.ref t1, .int 0 0] }, g, d, tk, os⟩) t2 ys := Heap.IsList.push l2 _
    wp_walk using wpAny_pyIter_tuple q1, wpAny_pyIter_list q2
    exact ⟨_, rfl, h⟩
section
variable {prog : Program} {w : World} {A : Around} {E : Value → Shared → Prop} {s : Shared}
theorem call_zip {t1 t2 : Addr} {xs ys : Array Value} {Q : Value → Shared → Prop} (l1 : s.heap.IsTuple t1 xs) (l2 : s.heap.IsList t2 ys)
    (k : ∀ h2, IsZip h2 (s.heap.objs.size + 4) (s.heap.objs.size + 2) (s.heap.objs.size + 3) .none → IsPair h2 (s.heap.objs.size + 2) (.ref s.heap.objs.size) (.ref (s.heap.objs.size + 1)) →
      IsPair h2 (s.heap.objs.size + 3) .none .none → h2.IsTupleIter s.heap.objs.size t1 0 → h2.IsListIter (s.heap.objs.size + 1) t2 0 →
      (∀ c o, s.heap.get? c = some o → h2.get? c = some o) → Q (.ref (s.heap.objs.size + 4)) { s with heap := h2 }) : wpAny (model prog w) A (call (.type "zip") [.ref t1, .ref t2]) Q E s := by
  refine callType_new F.called_zip (by decide) (F.typeCall_zip_2 _ _) (F.newCall_zip_2 _ _) (fun obj => F.args_object_init_3 obj _ _) F.entry_zip_new (made t1 t2 xs ys) ⟨l1, l2, ?_⟩
  have n1 : (hA s.heap t1).objs.size = s.heap.objs.size + 1 := Heap.size_push ..
  have n2 : (hB s.heap t1 t2).objs.size = s.heap.objs.size + 2 := by rw [Heap.size_push, n1]
  have n3 : (hC s.heap t1 t2).objs.size = s.heap.objs.size + 3 := by rw [Heap.size_push, n2]
  have n4 : (hD s.heap t1 t2).objs.size = s.heap.objs.size + 4 := by rw [Heap.size_push, n3]
  have m5 : (hE s.heap t1 t2).get? (hD s.heap t1 t2).objs.size = some _ := Heap.get?_push_size _ rfl
  have m4 : (hE s.heap t1 t2).get? (hC s.heap t1 t2).objs.size = some _ := Heap.get?_push_of_some _ (Heap.get?_push_size _ rfl)
  have m3 : (hE s.heap t1 t2).get? (hB s.heap t1 t2).objs.size = some _ := Heap.get?_push_of_some _ (Heap.get?_push_of_some _ (Heap.get?_push_size _ rfl))
  have m2 : (hE s.heap t1 t2).get? (hA s.heap t1).objs.size = some _ := Heap.get?_push_of_some _ (Heap.get?_push_of_some _ (Heap.get?_push_of_some _ (Heap.get?_push_size _ rfl)))
  have m1 : (hE s.heap t1 t2).get? s.heap.objs.size = some _ := Heap.get?_push_of_some _ (Heap.get?_push_of_some _ (Heap.get?_push_of_some _ (Heap.get?_push_of_some _ (Heap.get?_push_size _ rfl))))
  show _ ∧ _
  rw [n2, n3, n4] at m5
  rw [n1, n2] at m3
  rw [n3] at m4
  rw [n1] at m2
  rw [n4]
  refine ⟨⟨_, m5, rfl⟩, k _ m5 m3 m4 ⟨_, m1, rfl, rfl⟩ ⟨_, m2, rfl, rfl⟩ fun c o g => ?_⟩
  exact Heap.get?_push_of_some _ (Heap.get?_push_of_some _ (Heap.get?_push_of_some _ (Heap.get?_push_of_some _ (Heap.get?_push_of_some _ g))))
end
end ZM
namespace L2
open PySem PySem.Spec PyProof.Rows
section
variable {X : Cx} {ρ ρ1 ρ2 ρ3 : List Ow} {a b c e tg : Expr} {es : List Expr} {pos : Pos} {s s1 s2 s3 : Ow} {d d1 d2 d3 : PyData} {ds : List PyData} {vs : List Nat}
end
end L2
namespace MD
open PySem PySem.Spec PyProof.Rows
section
variable {prog : Program} {w : World} {A : Around} {E : Value → Shared → Prop} {s : Shared}
end
section
variable {prog : Program} {w : World} {A : Around} {R : Result → Shared → Prop} {I : Addr} {fp wr : List Addr} {n : Nat} {P : Nat → Value → Prop} {St : Nat → Heap → Prop} {kw : List (Str × Value)}
theorem nm : (toString "max" ++ toString ".loop" : String) = "max.loop" := by
  decide
abbrev isL (h : Heap) (S : Addr) (vs : Array Value) : Prop := ∃ c, h.get? S = some { cls := .type "list", dict := none, data := .seq vs c, slots := #[] }
theorem loop (W : Walks prog w A.in1 I fp wr n P St) (g : Nat → Int) (hg : ∀ i v, P i v → ∃ t, v = .int (g i) t) (S : Addr) (hSf : S ∉ fp) : ∀ (k j b : Nat) (s : Shared) (vb : Value), n - (j + 1) = k → j + 1 ≤ n → St (j + 1) s.heap → P b vb → b ≤ j → (∀ i, i ≤ j → g i ≤ g b) → isL s.heap S #[vb, vb] →
    (∀ b v h' tk, P b v → b < n → (∀ i, i < n → g i ≤ g b) → (∀ c o, c ∉ wr → c ≠ S → s.heap.get? c = some o → h'.get? c = some o) → R (.ok (.ret v)) { s with heap := h', toks := tk }) →
    codeAny (model prog w) A (.builtin "max.loop" ⟨[.ref I, .none, .ref S], kw⟩) R s := by
  have hSw : S ∉ wr := fun h => hSf (W.sub _ h)
  intro k
  induction k with
  | zero =>
    intro j b s vb hk hj hst hPb hb hm ⟨c, hS⟩ hR
    have hin : j + 1 = n := by omega
    apply codeAny_builtin F.entry_max_loop
    rw [Around.under_plainId F.plain_max_loop]
    show wpAny _ A.in1 (seqItems? (.ref S) >>= _) _ _ _
    apply wpAny_bind
    apply wpAny_seqItems hS rfl
    show wpAny _ A.in1 (tryCatch (pyNext (.ref I)) _ >>= _) _ _ _
    apply wpAny_bind
    apply wpAny_tryCatch
    refine W.done s _ _ (hin ▸ hst) fun h2 tk kept => ?_
    have hS2 := kept S _ hSw hS
    show wpAny _ A.in1 (updateSeq S (fun _ => #[]) >>= _) _ _ _
    apply wpAny_bind
    refine wpAny_updateSeq hS2 rfl (wpAny_bind (wpAny_letGo ?_))
    refine wpAny_pure (hR b vb _ tk hPb (by omega) (fun i hi => hm i (by omega)) fun d o h1 h3 e => ?_)
    exact (Heap.get?_update_other _ _ (Ne.symm h3)).trans (kept d o h1 e)
  | succ k ih =>
    intro j b s vb hk hj hst hPb hb hm ⟨c, hS⟩ hR
    have hlt : j + 1 < n := by omega
    apply codeAny_builtin F.entry_max_loop
    rw [Around.under_plainId F.plain_max_loop]
    show wpAny _ A.in1 (seqItems? (.ref S) >>= _) _ _ _
    apply wpAny_bind
    apply wpAny_seqItems hS rfl
    show wpAny _ A.in1 (tryCatch (pyNext (.ref I)) _ >>= _) _ _ _
    apply wpAny_bind
    apply wpAny_tryCatch
    refine W.item (j + 1) s _ _ hlt hst fun v h2 tk hP hst2 kept => ?_
    have hS2 := kept S _ hSw hS
    show wpAny _ A.in1 (tryCatch (holding [v, v] (richCompare .Gt v vb >>= _)) _ >>= _) _ _ _
    apply wpAny_bind
    apply wpAny_tryCatch
    apply wpAny_holding
    apply wpAny_bind
    refine CmpOf.ints_gt g hg (j + 1) b v vb _ _ _ hP hPb ?_
    apply wpAny_bind
    apply wpAny_holding
    apply wpAny_truthy_bool
    apply wpAny_bind
    apply wpAny_letGo
    apply wpAny_pure
    by_cases z : g (j + 1) > g b
    · simp only [decide_eq_true z, if_true]
      apply wpAny_bind
      refine wpAny_updateSeq hS2 rfl (wpAny_bind (wpAny_letGo ?_))
      rw [nm]
      refine wpAny_pure ⟨plainId_quiet F.plain_max_loop _, ih (j + 1) (j + 1) _ v (by omega) hlt (W.frame _ _ _ hst2 fun d hd o e => ?_) hP (Nat.le_refl _) (fun i hi => ?_) ⟨_, Heap.get?_update_self _ hS2 rfl⟩ fun b2 v2 h3 tk2 hP2 hb2 hm2 kept2 => ?_⟩
      · exact (Heap.get?_update_other _ _ (fun h : S = d => hSf (h ▸ hd))).trans e
      · by_cases y : i = j + 1
        · rw [y]
          exact Int.le_refl _
        · have := hm i (by omega)
          omega
      · exact hR b2 v2 h3 tk2 hP2 hb2 hm2 fun d o h4 h5 e => kept2 d o h4 h5 ((Heap.get?_update_other _ _ (Ne.symm h5)).trans (kept d o h4 e))
    · simp only [decide_eq_false z, Bool.false_eq_true, if_false]
      apply wpAny_bind
      apply wpAny_letGo
      rw [nm]
      refine wpAny_pure ⟨plainId_quiet F.plain_max_loop _, ih (j + 1) b _ vb (by omega) hlt hst2 hPb (by omega) (fun i hi => ?_) ⟨c, hS2⟩ fun b2 v2 h3 tk2 hP2 hb2 hm2 kept2 => ?_⟩
      · by_cases y : i = j + 1
        · rw [y]
          omega
        · exact hm i (by omega)
      · exact hR b2 v2 h3 tk2 hP2 hb2 hm2 fun d o h4 h5 e => kept2 d o h4 h5 (kept d o h4 e)
theorem first (W : Walks prog w A.in1 I fp wr n P St) (g : Nat → Int) (hg : ∀ i v, P i v → ∃ t, v = .int (g i) t) (S : Addr) (hSf : S ∉ fp) {s : Shared} {dk : Str} {dv : Value} (hst : St 0 s.heap) (hS : isL s.heap S #[])
    (hR : ∀ b v h' tk, P b v → b < n → (∀ i, i < n → g i ≤ g b) → (∀ c o, c ∉ wr → c ≠ S → s.heap.get? c = some o → h'.get? c = some o) → R (.ok (.ret v)) { s with heap := h', toks := tk })
    (h0 : ∀ h' tk, n = 0 → (∀ c o, c ∉ wr → c ≠ S → s.heap.get? c = some o → h'.get? c = some o) → R (.ok (.ret dv)) { s with heap := h', toks := tk }) :
    codeAny (model prog w) A (.builtin "max.loop" ⟨[.ref I, .none, .ref S], [(dk, dv)]⟩) R s := by
  have hSw : S ∉ wr := fun h => hSf (W.sub _ h)
  obtain ⟨c, hS⟩ := hS
  apply codeAny_builtin F.entry_max_loop
  rw [Around.under_plainId F.plain_max_loop]
  show wpAny _ A.in1 (seqItems? (.ref S) >>= _) _ _ _
  apply wpAny_bind
  apply wpAny_seqItems hS rfl
  show wpAny _ A.in1 (tryCatch (pyNext (.ref I)) _ >>= _) _ _ _
  apply wpAny_bind
  apply wpAny_tryCatch
  by_cases hn : n = 0
  · refine W.done s _ _ (hn ▸ hst) fun h2 tk kept => ?_
    apply wpAny_bind
    apply wpAny_rule
    exact wpAny_pure (h0 h2 tk hn fun d o h1 _ e => kept d o h1 e)
  · refine W.item 0 s _ _ (by omega) hst fun v h2 tk hP hst2 kept => ?_
    have hS2 := kept S _ hSw hS
    show wpAny _ A.in1 (updateSeq S (fun _ => #[v, v]) >>= _) _ _ _
    apply wpAny_bind
    refine wpAny_updateSeq hS2 rfl ?_
    rw [nm]
    refine wpAny_pure ⟨plainId_quiet F.plain_max_loop _, loop W g hg S hSf _ 0 0 _ v rfl (by omega) (W.frame _ _ _ hst2 fun d hd o e => ?_) hP (Nat.le_refl _) (fun i hi => ?_) ⟨_, Heap.get?_update_self _ hS2 rfl⟩ fun b2 v2 h3 tk2 hP2 hb2 hm2 kept2 => ?_⟩
    · exact (Heap.get?_update_other _ _ (fun h : S = d => hSf (h ▸ hd))).trans e
    · rw [show i = 0 by omega]
      exact Int.le_refl _
    · exact hR b2 v2 h3 tk2 hP2 hb2 hm2 fun d o h4 h5 e => kept2 d o h4 h5 ((Heap.get?_update_other _ _ (Ne.symm h5)).trans (kept d o h4 e))
end
end MD
namespace MD
open PySem PySem.Spec PyProof.Rows
section
variable {prog : Program} {w : World} {A : Around} {E : Value → Shared → Prop} {s : Shared}
end
end MD
namespace L2
open PySem PySem.Spec PyProof.Rows
section
variable {X : Cx} {ρ ρ1 ρ2 : List Ow} {a b : Expr} {p kp pos : Pos}
end
end L2
namespace L2
open PySem PySem.Spec PyProof.Rows
section
variable {X : Cx} {W : Value → Hp → Prop} {ρ ρ1 ρ2 ρ3 : List Ow} {a b e : Expr} {ss : List Stmt} {pos : Pos} {d : PyData} {ds ds2 : List PyData} {O : Oc → Prop}
end
end L2
namespace EnT
open PySem PySem.Spec PyProof.Rows
section
variable {prog : Program} {w : World} {A : Around} {E : Value → Shared → Prop} {s : Shared}
theorem turn {e j t : Addr} {i : Nat} {xs : Array Value} {x old : Value} {Q : Value → Shared → Prop} (ge : IsEnum s.heap e j i old) (ij : s.heap.IsTupleIter j t i) (tu : s.heap.IsTuple t xs) (at_i : xs[i]? = some x) (ne : e ≠ j)
    (k : ∀ h2, IsEnumOut h2 e j ((i : Int) + 1) x s.heap.objs.size → h2.IsTupleIter j t (i + 1) → IsPair h2 s.heap.objs.size (.int i s.toks) x → (∀ c o, c ≠ e → c ≠ j → s.heap.get? c = some o → h2.get? c = some o) → Q (.ref s.heap.objs.size) { s with heap := h2, toks := s.toks + 1 }) :
    wpAny (model prog w) A (Builtin.«enumerate.__next__» ⟨[.ref e], []⟩) (fun fin s2 => ∃ v, fin = .done (.ret v) ∧ Q v s2) E s := by
  have le : e < s.heap.objs.size := Heap.lt_size ge
  show wpAny _ _ (field (.ref e) 2 >>= _) _ _ _
  apply wpAny_bind
  refine wpAny_field ge rfl (x := .ref j) rfl ?_
  apply wpAny_bind
  refine ZT.step ij tu at_i fun ha ia sa => ?_
  have ga : IsEnum ha e j i old := (sa.2 e ne).trans ge
  show wpAny _ _ (field (.ref e) 3 >>= _) _ _ _
  apply wpAny_bind
  refine wpAny_field ga rfl (x := rawInt i) rfl ?_
  show wpAny _ _ (field (.ref e) 4 >>= _) _ _ _
  apply wpAny_bind
  refine wpAny_field ga rfl (x := .none) rfl ?_
  show wpAny _ _ (mkInt i >>= _) _ _ _
  apply wpAny_bind
  apply wpAny_mkInt
  show wpAny _ _ (setField (.ref e) 3 (rawInt ((i : Int) + 1)) >>= _) _ _ _
  apply wpAny_bind
  refine wpAny_setField_rec ga (by simp) fun hb gb sb => ?_
  replace gb : IsEnum hb e j ((i : Int) + 1) old := gb
  show wpAny _ _ (setField (.ref e) 4 .none >>= _) _ _ _
  apply wpAny_bind
  refine wpAny_setField_rec gb (by simp) fun hc gc sc => ?_
  replace gc : IsEnum hc e j ((i : Int) + 1) old := gc
  show wpAny _ _ (newTuple [.int i s.toks, x] >>= _) _ _ _
  apply wpAny_bind
  refine wpAny_newTuple ?_
  have nz : hc.objs.size = s.heap.objs.size := sc.1.trans (sb.1.trans sa.1)
  have gd : IsEnum (hc.push { cls := .type "tuple", data := .seq #[.int i s.toks, x] }) e j ((i : Int) + 1) old := Heap.get?_push_of_some _ gc
  have pd : (hc.push { cls := .type "tuple", data := .seq #[.int i s.toks, x] }).get? s.heap.objs.size = some { cls := .type "tuple", data := .seq #[.int i s.toks, x] } := by
    rw [← nz]
    exact Heap.get?_push_size _ rfl
  have kd : ∀ c o, c ≠ e → c ≠ j → s.heap.get? c = some o → (hc.push { cls := .type "tuple", data := .seq #[.int i s.toks, x] }).get? c = some o := fun c o n1 n2 g =>
    Heap.get?_push_of_some _ (sc.extBut c o n1 (sb.extBut c o n1 (sa.extBut c o n2 g)))
  have idd : (hc.push { cls := .type "tuple", data := .seq #[.int i s.toks, x] }).IsTupleIter j t (i + 1) := ((ia.extBut sb.extBut ne.symm).extBut sc.extBut ne.symm).at fun o g => Heap.get?_push_of_some _ g
  show wpAny _ _ (Builtin.SmallTypes.ownedTupleIsFree (.ref e) >>= _) _ _ _
  rw [nz]
  generalize hc.push { cls := .type "tuple", data := .seq #[.int i s.toks, x] } = hd at gd pd kd idd
  apply wpAny_bind
  unfold Builtin.SmallTypes.ownedTupleIsFree
  apply wpAny_bind
  refine wpAny_field gd rfl (x := .none) rfl (wpAny_pure ?_)
  simp only [if_true]
  apply wpAny_bind
  apply wpAny_rule
  apply wpAny_bind
  refine wpAny_field gd rfl (x := old) rfl ?_
  apply wpAny_bind
  refine wpAny_setField_rec gd (by simp) fun hf gf sf => ?_
  replace gf : IsEnum hf e j ((i : Int) + 1) x := gf
  show wpAny _ _ (Builtin.SmallTypes.ownedTupleHandOut (.ref e) (.ref s.heap.objs.size) >>= _) _ _ _
  apply wpAny_bind
  unfold Builtin.SmallTypes.ownedTupleHandOut
  apply wpAny_bind
  refine wpAny_setField_rec gf (by simp) fun hg gg sg => ?_
  replace gg : IsEnumOut hg e j ((i : Int) + 1) x s.heap.objs.size := gg
  refine wpAny_setField_rec gg (by simp) fun hh gh sh => ?_
  replace gh : IsEnumOut hh e j ((i : Int) + 1) x s.heap.objs.size := gh
  apply wpAny_bind
  apply wpAny_letGo
  have up : ∀ c o, c ≠ e → hd.get? c = some o → hh.get? c = some o := fun c o n g => sh.extBut c o n (sg.extBut c o n (sf.extBut c o n g))
  refine wpAny_pure ⟨_, rfl, k hh gh ?_ ?_ fun c o n1 n2 g => up c o n1 (kd c o n1 n2 g)⟩
  · exact idd.at fun o g => up j o ne.symm g
  · exact up _ _ (Nat.ne_of_gt le) pd
theorem next_turn {e j t : Addr} {i : Nat} {xs : Array Value} {x old : Value} {Q : Option Value → Shared → Prop} (ge : IsEnum s.heap e j i old) (ij : s.heap.IsTupleIter j t i) (tu : s.heap.IsTuple t xs) (at_i : xs[i]? = some x) (ne : e ≠ j)
    (k : ∀ h2, IsEnumOut h2 e j ((i : Int) + 1) x s.heap.objs.size → h2.IsTupleIter j t (i + 1) → IsPair h2 s.heap.objs.size (.int i s.toks) x → (∀ c o, c ≠ e → c ≠ j → s.heap.get? c = some o → h2.get? c = some o) → Q (some (.ref s.heap.objs.size)) { s with heap := h2, toks := s.toks + 1 }) :
    wpAny (model prog w) A (pyNext (.ref e)) Q E s := by
  have ty : s.TypeIs (.ref e) "enumerate" := ⟨_, ge, rfl⟩
  unfold pyNext
  apply wpAny_bind
  apply wpAny_attempt
  apply wpAny_callSpecial?_slot (name := Str.ofString "__next__") ty F.slot_enumerate_next
  refine wpAny_call_entry F.slot_enumerate_next ty F.entry_enumerate_next ?_ (F.args_enumerate_next_1 _)
  exact turn ge ij tu at_i ne fun h2 c1 c2 c3 c4 => wpAny_pure (k h2 c1 c2 c3 c4)
theorem next_stop {e j t : Addr} {i : Nat} {xs : Array Value} {old : Value} {Q : Option Value → Shared → Prop} (calm : A.handled = none) (ge : IsEnum s.heap e j i old) (ij : s.heap.IsTupleIter j t i) (tu : s.heap.IsTuple t xs) (at_i : xs[i]? = none)
    (k : ∀ h2, Heap.ExtBut j s.heap h2 → Q none { s with heap := h2 }) : wpAny (model prog w) A (pyNext (.ref e)) Q E s := by
  have ty : s.TypeIs (.ref e) "enumerate" := ⟨_, ge, rfl⟩
  unfold pyNext
  apply wpAny_bind
  apply wpAny_attempt
  apply wpAny_callSpecial?_slot (name := Str.ofString "__next__") ty F.slot_enumerate_next
  refine wpAny_call_entry F.slot_enumerate_next ty F.entry_enumerate_next ?_ (F.args_enumerate_next_1 _)
  show wpAny _ _ (field (.ref e) 2 >>= _) _ _ _
  apply wpAny_bind
  refine wpAny_field ge rfl (x := .ref j) rfl ?_
  apply wpAny_bind
  refine ZT.last calm ij tu at_i fun h2 ex eb ⟨o, g, c⟩ => ?_
  apply wpAny_bind
  exact wpAny_isInstance (T := "StopIteration") (b := true) ⟨o, g, c⟩ isSubtype_stop (wpAny_pure (k h2 eb))
end
abbrev hI (h : Heap) (t : Addr) : Heap := h.push { cls := .type "tuple_iterator", data := .fields #[.ref t, .int 0 0] }
abbrev hN (h : Heap) (t : Addr) : Heap := (hI h t).push { cls := .type "enumerate", data := .fields #[.none, .bool false, .ref h.objs.size, rawInt 0, .none, .none] }
theorem made (t : Addr) (xs : Array Value) : Meets (Builtin.«enumerate.__new__» ⟨[.type "enumerate", .ref t], []⟩) (fun _ R s => s.heap.IsTuple t xs ∧ R (.ok (.ret (.ref (hI s.heap t).objs.size))) { s with heap := hN s.heap t }) :=
  .of_wp fun prog w A R s h => by
    obtain ⟨hp, g, d, tk, os⟩ := s
    obtain ⟨tu, h⟩ := h
    have sub1 := sub_enumerate
    have q1 : Heap.IsTuple (Shared.heap ⟨hp, g, d, tk, os⟩) t xs := tu
    wp_walk
    refine wpAny_stack_any fun st => ?_
    apply wpAny_pure
    split
    · rename_i c _ _ _ _ _
      cases (c == Value.type "enumerate") <;> (wp_walk using wpAny_pyIter_tuple q1; exact ⟨_, rfl, h⟩)
    · wp_walk using wpAny_pyIter_tuple q1
      exact ⟨_, rfl, h⟩
section
variable {prog : Program} {w : World} {A : Around} {E : Value → Shared → Prop} {s : Shared}
end
end EnT
namespace L2
open PySem PySem.Spec PyProof.Rows
section
variable {X : Cx} {ρ ρ1 ρ2 ρ3 : List Ow} {a b c e tg : Expr} {es : List Expr} {pos : Pos} {s s1 s2 s3 : Ow} {d d1 d2 d3 : PyData} {ds : List PyData} {vs : List Nat}
end
end L2
namespace L2
open PySem PySem.Spec PyProof.Rows
section
variable {X : Cx} {b c : Bool}
theorem op_notB : OpR X (compareOp .IsNot) (fun x y H Q => ∃ b c, x = .bl b ∧ y = .bl c ∧ Q (.bl (!(b == c))) H) := by
  intro pins s σ H x y v u Q I rx ry h
  obtain ⟨b, c, rfl, rfl, q⟩ := h
  cases rx
  cases ry
  refine wpAny_isNot_plain (by cases b <;> cases c <;> rfl) ⟨.bl (!(b == c)), H, I, ?_, q⟩
  cases b <;> cases c <;> rfl
theorem cmp_notB : Cmp X .IsNot (.bool b) (.bool c) (!(b == c)) := ⟨_, op_notB, fun Hm H Q v u sm p1 p2 q => by cases p1; cases p2; exact ⟨b, c, rfl, rfl, q⟩⟩
end
end L2
namespace L2
open PySem PySem.Spec PyProof.Rows
section
variable {X : Cx} {ρ : List Ow} {pos : Pos}
theorem zip_set_r {α β : Type} (b : β) : ∀ (xs : List α) (ys : List β) (i : Nat) (a : α), xs[i]? = some a → xs.zip (ys.set i b) = (xs.zip ys).set i (a, b)
  | [], _, _, _, h => by simp at h
  | _ :: _, [], _, _, _ => by simp
  | x :: xs, y :: ys, 0, a, h => by simp at h; simp [h]
  | x :: xs, y :: ys, i + 1, a, h => by simp; exact zip_set_r b xs ys i a (by simpa using h)
theorem Rel.move {K : PySem.W.Frag} {F : Fr} {σ : St} {τ : Sls} {H : Hp} {i : Nat} {v : V} {s : Ow} (R : Rel K F ρ σ τ H) (h : ρ[i]? = some s) (hv : σ[i]? = some (some v)) : Rel K F (ρ.set i .no) σ (τ ++ [(some v, s)]) H := by
  obtain ⟨hl, Hm, fps, M⟩ := R
  have hi : i < ρ.length := (List.getElem?_eq_some_iff.mp h).1
  have hz : (σ.zip ρ).length = ρ.length := by simp [hl]
  have hold : (σ.zip ρ ++ τ)[i]? = some (some v, s) := by
    rw [List.getElem?_append_left (by omega), List.getElem?_zip_eq_some]
    exact ⟨hv, h⟩
  have hn : (σ.zip ρ ++ τ).length = ρ.length + τ.length := by rw [List.length_append, hz]
  have e : σ.zip (ρ.set i .no) ++ (τ ++ [(some v, s)]) = (σ.zip ρ ++ τ).set i (some v, .no) ++ [(some v, s)] := by
    rw [zip_set_r _ _ _ _ _ hv, ← List.append_assoc, List.set_append_left _ _ (by omega)]
  have hget : ∀ (k : Nat) (x : Option V × Ow), ((σ.zip ρ ++ τ).set i (some v, .no) ++ [(some v, s)])[k]? = some x → (k = i ∧ x = (some v, .no)) ∨ (k ≠ i ∧ k < ρ.length + τ.length ∧ (σ.zip ρ ++ τ)[k]? = some x) ∨ (k = ρ.length + τ.length ∧ x = (some v, s)) := by
    intro k x q
    by_cases e1 : k < ρ.length + τ.length
    · rw [List.getElem?_append_left (by rw [List.length_set, hn]; exact e1)] at q
      by_cases e2 : k = i
      · subst e2
        rw [List.getElem?_set_self (by rw [hn]; exact e1)] at q
        exact .inl ⟨rfl, (Option.some.inj q).symm⟩
      · rw [List.getElem?_set_ne (Ne.symm e2)] at q
        exact .inr (.inl ⟨e2, e1, q⟩)
    · rw [List.getElem?_append_right (by rw [List.length_set, hn]; omega), List.length_set, hn] at q
      have e3 : k - (ρ.length + τ.length) = 0 := by
        have := (List.getElem?_eq_some_iff.mp q).1
        simp at this
        omega
      rw [e3] at q
      exact .inr (.inr ⟨by omega, (Option.some.inj q).symm⟩)
  refine ⟨by rw [List.length_set]; exact hl, Hm, fun k => if k = i then [] else if k = ρ.length + τ.length then fps i else fps k, ?_⟩
  rw [e]
  refine ⟨M.sub, M.ent, M.old, M.new, fun k o s' q => ?_, fun k hk a m => ?_, fun k j hk hj n a m => ?_⟩
  · rcases hget k _ q with ⟨e1, e2⟩ | ⟨e1, e2, e3⟩ | ⟨e1, e2⟩
    · cases e2
      simp only [e1, if_true]
      exact .no
    · have : ¬ k = ρ.length + τ.length := by omega
      simp only [e1, this, if_false]
      exact M.ok k _ _ e3
    · cases e2
      have : ¬ k = i := by omega
      simp only [this, e1, if_true, if_false]
      have : ¬ ρ.length + τ.length = i := by omega
      simp only [this, if_false]
      exact M.ok i _ _ hold
  · rw [List.length_append, List.length_set, hn] at hk
    simp at hk
    by_cases e1 : k = i
    · simp only [e1, if_true] at m
      cases m
    · simp only [e1, if_false] at m
      by_cases e2 : k = ρ.length + τ.length
      · simp only [e2, if_true] at m
        exact M.own i (by rw [hn]; omega) a m
      · simp only [e2, if_false] at m
        exact M.own k (by rw [hn]; omega) a m
  · rw [List.length_append, List.length_set, hn] at hk hj
    simp at hk hj
    by_cases e1 : k = i
    · simp only [e1, if_true] at m
      cases m
    · simp only [e1, if_false] at m
      by_cases e3 : j = i
      · simp only [e3, if_true]
        simp
      · simp only [e3, if_false]
        by_cases e2 : k = ρ.length + τ.length
        · simp only [e2, if_true] at m
          by_cases e4 : j = ρ.length + τ.length
          · omega
          · simp only [e4, if_false]
            exact M.dis i j (by rw [hn]; omega) (by rw [hn]; omega) (Ne.symm e3) a m
        · simp only [e2, if_false] at m
          by_cases e4 : j = ρ.length + τ.length
          · simp only [e4, if_true]
            exact M.dis k i (by rw [hn]; omega) (by rw [hn]; omega) e1 a m
          · simp only [e4, if_false]
            exact M.dis k j (by rw [hn]; omega) (by rw [hn]; omega) n a m
theorem ev_mv (i : Nat) {x : Str} {ds : List PyData} (h : ρ[i]? = some (.lst ds)) (hN : X.N[i]? = some x := by rfl) (hv : Vis X.env.scope x := by first | exact Or.inl rfl | exact Or.inr (Or.inl rfl) | exact Or.inr (Or.inr rfl)) (hd : (x == ("__debug__" : Str)) = false := by decide)
    (hcd : (x == ("__classdict__" : Str)) = false := by decide) : EV X ρ (.Name x pos) (.lst ds) (ρ.set i .no) := ⟨(pe_var hN hv hd hcd).mono fun σ H Q ⟨F, τ, R, q⟩ => by
  obtain ⟨a, vs, e1, _⟩ := R.own h
  exact ⟨.ref a, e1, q _ _ (R.move h e1)⟩⟩
end
end L2
namespace L2
open PySem PySem.Spec PyProof.Rows
section
variable {X : Cx} {ρ ρ1 ρ2 : List Ow} {a b c e es : Expr} {pos p2 : Pos}
end
end L2
namespace L2
open PySem PySem.Spec PyProof.Rows
def putO (f : Str) (v : Ow) : List (Str × Ow) → List (Str × Ow)
  | [] => [(f, v)]
  | (g, x) :: r => if g = f then (g, v) :: r else (g, x) :: putO f v r
theorem lookup_putO (f g : Str) (v : Ow) : ∀ fs : List (Str × Ow), (putO f v fs).lookup g = if g = f then some v else fs.lookup g
  | [] => by
    show List.lookup g [(f, v)] = _
    rw [List.lookup_cons]
    by_cases h : g = f
    · rw [if_pos h, beq_iff_eq.mpr h]
    · rw [if_neg h, beq_eq_false_iff_ne.mpr h]
  | (k, x) :: r => by
    have ih := lookup_putO f g v r
    unfold putO
    by_cases e : k = f
    · subst e
      rw [if_pos rfl, List.lookup_cons, List.lookup_cons]
      by_cases h : g = k
      · rw [if_pos h, beq_iff_eq.mpr h]
      · rw [if_neg h, beq_eq_false_iff_ne.mpr h]
    · rw [if_neg e, List.lookup_cons, List.lookup_cons]
      by_cases h : g = k
      · subst h
        rw [beq_iff_eq.mpr rfl, if_neg e]
      · rw [beq_eq_false_iff_ne.mpr h]
        exact ih
theorem putO_new {f : Str} {v : Ow} : ∀ {fs : List (Str × Ow)}, fs.lookup f = none → (putO f v fs).length = fs.length + 1
  | [], _ => rfl
  | (k, x) :: r, h => by
    rw [List.lookup_cons] at h
    unfold putO
    by_cases e : k = f
    · subst e; rw [beq_iff_eq.mpr rfl] at h; cases h
    · rw [if_neg e]
      rw [beq_eq_false_iff_ne.mpr (Ne.symm e)] at h
      simp [putO_new h]
theorem putO_old {f : Str} {v s : Ow} : ∀ {fs : List (Str × Ow)}, fs.lookup f = some s → (putO f v fs).length = fs.length
  | [], h => by cases h
  | (k, x) :: r, h => by
    rw [List.lookup_cons] at h
    unfold putO
    by_cases e : k = f
    · rw [if_pos e]; rfl
    · rw [if_neg e]
      rw [beq_eq_false_iff_ne.mpr (Ne.symm e)] at h
      simp [putO_old h]
theorem putF_new {f : Str} {v : V} : ∀ {fs : List (Str × V)}, fs.lookup f = none → (putF f v fs).length = fs.length + 1
  | [], _ => rfl
  | (k, x) :: r, h => by
    rw [List.lookup_cons] at h
    unfold putF
    by_cases e : k = f
    · subst e; rw [beq_iff_eq.mpr rfl] at h; cases h
    · rw [if_neg e]
      rw [beq_eq_false_iff_ne.mpr (Ne.symm e)] at h
      simp [putF_new h]
theorem putF_old {f : Str} {v s : V} : ∀ {fs : List (Str × V)}, fs.lookup f = some s → (putF f v fs).length = fs.length
  | [], h => by cases h
  | (k, x) :: r, h => by
    rw [List.lookup_cons] at h
    unfold putF
    by_cases e : k = f
    · rw [if_pos e]; rfl
    · rw [if_neg e]
      rw [beq_eq_false_iff_ne.mpr (Ne.symm e)] at h
      simp [putF_old h]
theorem own_there {K : PySem.W.Frag} {Hm H : Hp} {t : Ow} {o : Option V} {fp : List Addr} (h : OwAt K Hm H t o fp) : ∀ c ∈ fp, H c ≠ none := by
  induction h with
  | no => intro c hc; cases hc
  | dat _ => intro c hc; cases hc
  | hol => intro c hc; cases hc
  | tab e _ _ => intro c hc; simp at hc; rw [hc, e]; simp
  | dic e => intro c hc; simp at hc; rw [hc, e]; simp
  | lls e1 e2 e3 e4 e5 =>
    intro c hc
    rcases List.mem_cons.mp hc with rfl | hc
    · rw [e1]; simp
    obtain ⟨i, hi⟩ := List.getElem?_of_mem hc
    obtain ⟨vs, q, _⟩ := e5 i c _ hi (List.getElem?_eq_getElem (by rw [← e4]; exact (List.getElem?_eq_some_iff.mp hi).1))
    rw [q]; simp
  | rob _ _ _ => intro c hc; cases hc
  | lst e _ => intro c hc; simp at hc; rw [hc, e]; simp
  | exc e => intro c hc; simp at hc; rw [hc, e]; simp
  | obj h0 h1 h2 n1 hl h3 h4 h5 h6 h7 ih =>
    intro c hc
    rcases List.mem_cons.mp hc with rfl | hc
    · rw [h1]; simp
    rcases List.mem_cons.mp hc with rfl | hc
    · rw [h2]; simp
    obtain ⟨x, hx, hc⟩ := List.mem_flatMap.mp hc
    obtain ⟨s, hs⟩ := key_lookup hx
    exact ih x s hs c hc
section
variable {K : PySem.W.Frag} {F : Fr} {ρ ρ' : List Ow} {σ : St} {τ : Sls} {H : Hp} {i : Nat} {s t : Ow}
theorem Mem.repl {L : Sls} {Hm H' : Hp} {fps : Nat → List Addr} {j : Nat} {o y : Option V} {s' : Ow} {fp' : List Addr} (M : Mem K F (L ++ [(y, t)]) Hm H fps) (hj : L[j]? = some (o, s)) (hH : ∀ c, ¬ c ∈ fps j → H' c = H c) (hs : OwAt K Hm H' s' o fp')
    (hf : ∀ c ∈ fp', (c ∈ fps j ∨ c ∈ fps L.length) ∧ H' c ≠ none) : Mem K F (L.set j (o, s')) Hm H' (fun k => if k = j then fp' else fps k) := by
  have hlt := (List.getElem?_eq_some_iff.mp hj).1
  have hlt2 : j < (L ++ [(y, t)]).length := by simp; omega
  have hll : L.length < (L ++ [(y, t)]).length := by simp
  have hkeep : ∀ {c : Addr} {u : HO}, Hm c = some u → ¬ c ∈ fps j := fun q m => by
    have := (M.own j hlt2 _ m).2.1
    rw [this] at q
    cases q
  refine ⟨fun c u q => ?_, fun c u q z => ?_, M.old, M.new, fun k o' s2 q => ?_, fun k hk c m => ?_, fun k m hk hm n c hc => ?_⟩
  · rw [hH c (hkeep q)]
    exact M.sub _ _ q
  · by_cases m : c ∈ fps j
    · rcases (M.own j hlt2 c m).1 with y | y
      · rw [y] at q; cases q
      · exact absurd y z
    · rw [hH c m]
      exact M.ent c u q z
  · by_cases e : k = j
    · subst e
      rw [List.getElem?_set_self hlt] at q
      cases q
      simp only [if_true]
      exact hs
    · rw [List.getElem?_set_ne (Ne.symm e)] at q
      simp only [e, if_false]
      have hk := (List.getElem?_eq_some_iff.mp q).1
      refine (M.ok k o' s2 (by rw [List.getElem?_append_left hk]; exact q)).up (Same.refl _) fun c m u g => ?_
      rw [hH c (M.dis k j (by simp; omega) hlt2 e c m)]
      exact g
  · rw [List.length_set] at hk
    by_cases e : k = j
    · simp only [e, if_true] at m
      obtain ⟨z1, z2⟩ := hf c m
      rcases z1 with z | z
      · obtain ⟨a1, a2, a3⟩ := M.own j hlt2 c z
        exact ⟨a1, a2, z2⟩
      · obtain ⟨a1, a2, a3⟩ := M.own L.length hll c z
        exact ⟨a1, a2, z2⟩
    · simp only [e, if_false] at m
      obtain ⟨a1, a2, a3⟩ := M.own k (by simp; omega) c m
      refine ⟨a1, a2, ?_⟩
      rw [hH c (M.dis k j (by simp; omega) hlt2 e c m)]
      exact a3
  · rw [List.length_set] at hk hm
    by_cases e : k = j
    · simp only [e, if_true] at hc
      have e2 : ¬ m = j := fun z => n (by omega)
      simp only [e2, if_false]
      intro z
      rcases (hf c hc).1 with y | y
      · exact M.dis m j (by simp; omega) hlt2 e2 c z y
      · exact M.dis m L.length (by simp; omega) hll (by omega) c z y
    · simp only [e, if_false] at hc
      by_cases e2 : m = j
      · simp only [e2, if_true]
        intro z
        rcases (hf c z).1 with y | y
        · exact M.dis k j (by simp; omega) hlt2 e c hc y
        · exact M.dis k L.length (by simp; omega) hll (by omega) c hc y
      · simp only [e2, if_false]
        exact M.dis k m (by simp; omega) (by simp; omega) n c hc
theorem Rel.repl {y : Option V} (R : Rel K F ρ σ (τ ++ [(y, t)]) H) (h : ρ[i]? = some s) : ∃ Hm o fp ft, σ[i]? = some o ∧ Same Hm H ∧ OwAt K Hm H s o fp ∧ OwAt K Hm H t y ft ∧ (∀ c ∈ fp, ¬ c ∈ ft) ∧ (∀ c ∈ fp, Hm c = none ∧ H c ≠ none) ∧
    ∀ (H' : Hp) (s' : Ow) (fp' : List Addr), (∀ c, ¬ c ∈ fp → H' c = H c) → OwAt K Hm H' s' o fp' → (∀ c ∈ fp', (c ∈ fp ∨ c ∈ ft) ∧ H' c ≠ none) → Rel K F (ρ.set i s') σ τ H' := by
  obtain ⟨hl, Hm, fps, M⟩ := R
  rw [← List.append_assoc] at M
  have hi : i < ρ.length := (List.getElem?_eq_some_iff.mp h).1
  have hs : i < σ.length := by omega
  have hz : (σ.zip ρ ++ τ)[i]? = some (σ[i], s) := by
    rw [List.getElem?_append_left (by simp; omega), List.getElem?_zip_eq_some]
    exact ⟨List.getElem?_eq_getElem hs, h⟩
  have hlt := (List.getElem?_eq_some_iff.mp hz).1
  have hz2 : (σ.zip ρ ++ τ ++ [(y, t)])[i]? = some (σ[i], s) := by rw [List.getElem?_append_left hlt]; exact hz
  have hz3 : (σ.zip ρ ++ τ ++ [(y, t)])[(σ.zip ρ ++ τ).length]? = some (y, t) := by simp
  refine ⟨Hm, σ[i], fps i, fps (σ.zip ρ ++ τ).length, List.getElem?_eq_getElem hs, M.sub, M.ok _ _ _ hz2, M.ok _ _ _ hz3, M.dis i _ (by rw [List.length_append]; omega) (by simp) (by omega), fun c hc => (M.own i (by rw [List.length_append]; omega) c hc).2, fun H' s' fp' h1 h2 h3 => ?_⟩
  have M2 := M.repl hz h1 h2 h3
  refine ⟨by rw [List.length_set]; exact hl, Hm, (fun k => if k = i then fp' else fps k), ?_⟩
  rw [zip_set_r _ _ _ _ _ (List.getElem?_eq_getElem hs), ← List.set_append_left _ _ (by simp; omega)]
  exact M2
theorem Rel.any {v : Option V} (R : Rel K F ρ σ τ H) : Rel K F ρ σ (τ ++ [(v, .no)]) H := by
  obtain ⟨hl, Hm, fps, M⟩ := R
  exact ⟨hl, Hm, _, by rw [← List.append_assoc]; exact M.snoc .no (by simp)⟩
theorem OwAt.obj_inv {Hm : Hp} {w : Option Addr} {C : Addr} {ts : List (Str × Ow)} {o : Option V} {fp : List Addr} (h : OwAt K Hm H (.obj w C ts) o fp) : ∃ (a dx : Addr) (fs : List (Str × V)) (val : Str → V) (g : Str → List Addr), o = some (.ref a) ∧ fp = a :: dx :: (ts.map (·.1)).flatMap g ∧ (∀ b, w = some b → b = a) ∧ H a = some (.ins C dx fs) ∧ H dx = some (.own a) ∧ a ≠ dx ∧ fs.length ≤ ts.length ∧
      (∀ f, ts.lookup f = none → fs.lookup f = none) ∧ (∀ f s, ts.lookup f = some s → fs.lookup f = some (val f)) ∧ (∀ f s, ts.lookup f = some s → OwAt K Hm H s (some (val f)) (g f)) ∧
      (∀ f f' s s', ts.lookup f = some s → ts.lookup f' = some s' → f ≠ f' → ∀ c ∈ g f, ¬ c ∈ g f') ∧ (∀ f s, ts.lookup f = some s → ∀ c ∈ g f, c ≠ a ∧ c ≠ dx) := by
  cases h with
  | obj h0 h1 h2 n1 hl h3 h4 h5 h6 h7 => exact ⟨_, _, _, _, _, rfl, rfl, h0, h1, h2, n1, hl, h3, h4, h5, h6, h7⟩
theorem mem_obj {ts : List (Str × Ow)} {g : Str → List Addr} {a dx c : Addr} {f : Str} {s : Ow} (h : ts.lookup f = some s) (hc : c ∈ g f) : c ∈ a :: dx :: (ts.map (·.1)).flatMap g :=
  List.mem_cons_of_mem _ (List.mem_cons_of_mem _ (List.mem_flatMap.mpr ⟨f, lookup_key h, hc⟩))
theorem Rel.putF {y : V} {w : Option Addr} {C : Addr} {ts : List (Str × Ow)} {f : Str} (R : Rel K F ρ σ (τ ++ [(some y, t)]) H) (h : ρ[i]? = some (.obj w C ts)) (hsm : ts.length < 1000) : ∃ a dx fs, σ[i]? = some (some (.ref a)) ∧ H a = some (.ins C dx fs) ∧ fs.length < 1000 ∧ (∀ m, ts.lookup m = none → fs.lookup m = none) ∧
    Rel K F (ρ.set i (.obj w C (putO f t ts))) σ τ (upd H a (.ins C dx (L2.putF f y fs))) := by
  obtain ⟨Hm, o, fp, ft, e1, sm, ho, ht, dj, own, k⟩ := R.repl h
  obtain ⟨a, dx, fs, val, g, rfl, rfl, h0, h1, h2, n1, hl, h3, h4, h5, h6, h7⟩ := ho.obj_inv
  refine ⟨a, dx, fs, e1, h1, by omega, h3, ?_⟩
  have nin : ∀ {c : Addr}, c ∈ ft → c ≠ a ∧ c ≠ dx := fun {c} hc => ⟨fun z => dj a (by simp) (z ▸ hc), fun z => dj dx (by simp) (z ▸ hc)⟩
  refine k _ _ (a :: dx :: ((putO f t ts).map (·.1)).flatMap fun x => if x = f then ft else g x) (fun c hc => ?_) (.obj (val := fun x => if x = f then y else val x) (g := fun x => if x = f then ft else g x) h0 upd_same ?_ n1 ?_ (fun x q => ?_) (fun x s q => ?_) (fun x s q => ?_) (fun x x' s s' q q' n c hc => ?_) fun x s q c hc => ?_) fun c hc => ?_
  · rw [upd_ne (fun z => hc (by rw [z]; simp))]
  · rw [upd_ne (Ne.symm n1)]
    exact h2
  · cases q : ts.lookup f with
    | none => rw [putO_new q, putF_new (h3 f q)]; omega
    | some s => rw [putO_old q, putF_old (h4 f s q)]; exact hl
  · rw [lookup_putO] at q
    rw [lookup_putF]
    by_cases z : x = f
    · rw [if_pos z] at q; cases q
    · rw [if_neg z] at q ⊢
      exact h3 x q
  · rw [lookup_putO] at q
    rw [lookup_putF]
    by_cases z : x = f
    · rw [if_pos z, if_pos z]
    · rw [if_neg z] at q ⊢
      rw [if_neg z]
      exact h4 x s q
  · rw [lookup_putO] at q
    by_cases z : x = f
    · rw [if_pos z] at q
      cases q
      simp only [z, if_true]
      exact ht.up (Same.refl _) fun c hc u e => by rw [upd_ne (nin hc).1]; exact e
    · rw [if_neg z] at q
      simp only [z, if_false]
      exact (h5 x s q).up (Same.refl _) fun c hc u e => by rw [upd_ne (h7 x s q c hc).1]; exact e
  · rw [lookup_putO] at q q'
    by_cases z : x = f
    · have z' : ¬ x' = f := fun e => n (by rw [z, e])
      rw [if_neg z'] at q'
      simp only [z, if_true] at hc
      simp only [z', if_false]
      exact fun m => dj c (mem_obj q' m) hc
    · rw [if_neg z] at q
      simp only [z, if_false] at hc
      by_cases z' : x' = f
      · simp only [z', if_true]
        exact dj c (mem_obj q hc)
      · rw [if_neg z'] at q'
        simp only [z', if_false]
        exact h6 x x' s s' q q' n c hc
  · rw [lookup_putO] at q
    by_cases z : x = f
    · simp only [z, if_true] at hc
      exact nin hc
    · rw [if_neg z] at q
      simp only [z, if_false] at hc
      exact h7 x s q c hc
  · have ne : ∀ {c : Addr}, H c ≠ none → upd H a (.ins C dx (L2.putF f y fs)) c ≠ none := fun {c} q => by
      by_cases z : c = a
      · rw [z, upd_same]; simp
      · rw [upd_ne z]; exact q
    rcases List.mem_cons.mp hc with rfl | hc
    · exact ⟨.inl (by simp), by rw [upd_same]; simp⟩
    rcases List.mem_cons.mp hc with rfl | hc
    · exact ⟨.inl (by simp), ne (by rw [h2]; simp)⟩
    obtain ⟨x, hx, hc⟩ := List.mem_flatMap.mp hc
    obtain ⟨s, hs⟩ := key_lookup hx
    rw [lookup_putO] at hs
    by_cases z : x = f
    · simp only [z, if_true] at hc
      exact ⟨.inr hc, ne (own_there ht c hc)⟩
    · rw [if_neg z] at hs
      simp only [z, if_false] at hc
      have := mem_obj (a := a) (dx := dx) hs hc
      exact ⟨.inl this, ne (own c this).2⟩
end
end L2
namespace L2
open PySem PySem.Spec PyProof.Rows
section
variable {K : PySem.W.Frag} {F : Fr} {ρ ρ' : List Ow} {σ : St} {τ : Sls} {H : Hp} {i : Nat}
theorem Rel.slot {s : Ow} (R : Rel K F ρ σ τ H) (h : ρ[i]? = some s) : ∃ Hm o fp, σ[i]? = some o ∧ Same Hm H ∧ OwAt K Hm H s o fp ∧ (∀ c ∈ fp, Hm c = none ∧ H c ≠ none) ∧ ∀ v d, Dp K Hm v d → Rel K F ρ σ (τ ++ [(some v, .dat d)]) H := by
  obtain ⟨hl, Hm, fps, M⟩ := R
  have hi : i < ρ.length := (List.getElem?_eq_some_iff.mp h).1
  have hs : i < σ.length := by omega
  have hz : (σ.zip ρ ++ τ)[i]? = some (σ[i], s) := by
    rw [List.getElem?_append_left (by simp; omega), List.getElem?_zip_eq_some]
    exact ⟨List.getElem?_eq_getElem hs, h⟩
  exact ⟨Hm, _, _, List.getElem?_eq_getElem hs, M.sub, M.ok _ _ _ hz, fun c hc => (M.own i (List.getElem?_eq_some_iff.mp hz).1 c hc).2, fun v d q => ⟨hl, Hm, _, by rw [← List.append_assoc]; exact M.dat q⟩⟩
end
section
variable {X : Cx} {W : Value → Hp → Prop} {ρ ρ1 ρ2 : List Ow} {a b c e : Expr} {es : List Expr} {ss : List Stmt} {pos : Pos} {d : PyData} {ds : List PyData} {O : Oc → Prop} {s : Ow} {w : Option Addr} {C : Addr} {ts ts' : List (Str × Ow)} {f x : Str}
theorem s1_fset (i : Nat) {pn pos' : Pos} (h0 : ρ[i]? = some (.obj w C ts)) (cl : Cls X.K C) (na : NoAttr X.K C f) (h : EV X ρ e s ρ) (o : O (.nx (ρ.set i (.obj w C (putO f s ts))))) (hsm : ts.length < 1000 := by first | decide | simp) (hN : X.N[i]? = some x := by rfl) (hv : Vis X.env.scope x := by first | exact Or.inl rfl | exact Or.inr (Or.inl rfl) | exact Or.inr (Or.inr rfl)) (hd : (x == ("__debug__" : Str)) = false := by decide)
    (hcd : (x == ("__classdict__" : Str)) = false := by decide) (hs : swapsWith e (some (.Attribute (.Name x pn) f pos')) pos.line X.env = pure false := by rfl) : S1 X W ρ (.Assign [.Attribute (.Name x pn) f pos'] e pos) O :=
  ⟨(ps_fld (pe_var hN hv hd hcd) h.pe hs).mono fun D σ H ⟨F, τ, R, h1, _⟩ => ⟨F, τ, R, fun y H1 R1 => by
    obtain ⟨a, dx, fs, e1, e2, e3, _, k⟩ := R1.putF (f := f) h0 hsm
    exact ⟨_, e1, a, C, dx, fs, rfl, e2, cl, na, e3, h1 _ _ _ o k⟩⟩⟩
structure EQ (X : Cx) (ρ : List Ow) (e : Expr) (d : PyData) : Prop where
  pe : PE X e (fun σ H Q => ∃ F τ, Rel X.K F ρ σ τ H ∧ ∀ v H', Same H H' → Rel X.K F ρ σ (τ ++ [(some v, .dat d)]) H' → Q v H')
theorem EV.quiet (h : EV X (ρ.map frzO) e (.dat d) ρ1) (f : flatD d = true := by rfl) : EQ X ρ e d := ⟨h.pe.mono fun σ H Q ⟨F, τ, R, q⟩ => by
  obtain ⟨F', _, _, R1, k⟩ := R.lend
  refine ⟨F', [], R1, fun v H' R2 => q v H' (k _ _ _ _ R2).2 ((k _ _ _ _ R2).1.flat ?_)⟩
  obtain ⟨Hm, _, hd, _⟩ := Rel.one (τ := []) R2
  exact hd.flatD f⟩
end
end L2
namespace L2
open PySem PySem.Spec PyProof.Rows
section
variable {X : Cx} {W : Value → Hp → Prop} {ρ ρ1 ρ2 : List Ow} {a b c e : Expr} {es : List Expr} {ss : List Stmt} {pos : Pos} {d : PyData} {ds : List PyData} {O : Oc → Prop} {s : Ow} {w : Option Addr} {C : Addr} {ts ts' : List (Str × Ow)} {f x : Str}
end
abbrev Fs := List (Str × Ow)
structure Behind (K : PySem.W.Frag) (C a : Addr) (ts' : Fs) (fp : List Addr) (Hm H Hm' H' : Hp) (fp' : List Addr) : Prop where
  vis : Same Hm Hm'
  sub : Same Hm' H'
  frame : ∀ c o, H c = some o → ¬ c ∈ fp → H' c = some o
  new : ∀ c, Hm' c ≠ none → Hm c ≠ none ∨ H c = none ∨ c ∈ fp
  obj : OwAt K Hm' H' (.obj (some a) C ts') (some (.ref a)) fp'
  own : ∀ c ∈ fp', (H c = none ∨ c ∈ fp) ∧ Hm' c = none ∧ H' c ≠ none
def spM (K : PySem.W.Frag) (C : Addr) (n : Nat) (S : Fs → List PyData → Fs → Rs → Prop) : Sp := fun vs H Q E => ∃ (a : Addr) (us : List V) (Hm : Hp) (fp : List Addr) (ts ts' : Fs) (ds : List PyData) (r : Rs), vs = .ref a :: us ∧ us.length = n ∧ Same Hm H ∧ OwAt K Hm H (.obj (some a) C ts) (some (.ref a)) fp ∧ (∀ c ∈ fp, Hm c = none) ∧ DpAll K Hm us ds ∧ S ts ds ts' r ∧
  match r with
  | .ok s => ∀ w fs fp' Hm' H', Behind K C a ts' fp Hm H Hm' H' fp' → OwAt K Hm' H' s (some w) fs → (∀ c ∈ fs, (H c = none ∨ c ∈ fp) ∧ Hm' c = none ∧ H' c ≠ none ∧ ¬ c ∈ fp') → Q w H'
  | .no c => ∀ fp' Hm' H', Behind K C a ts' fp Hm H Hm' H' fp' → E c none H'
structure WhereM (K : PySem.W.Frag) (C : Addr) (m q : Str) (st : Stmt) : Prop where
  ex : ∃ f fd, Fun K m q st f fd ∧ Meth K C m f
structure PM (P : Program) (w : World) (K : PySem.W.Frag) (mg : Str → Option Value) (base : Heap) (k : Nat) (C : Addr) (m : Str) (ps : List Str) (S : Fs → List PyData → Fs → Rs → Prop) : Prop where
  ex : ∃ f fd, Meth K C m f ∧ Binds K fd ps [] ∧ FnOk P w K mg base (CXX P w) k f fd ps (spM K C (ps.length - 1) S)
def Rs.ocM (C a : Addr) (ts' : Fs) : Rs → Oc → Prop
  | .ok d, .rt s ρ => s = d ∧ ρ[0]? = some (.obj (some a) C ts')
  | .ok d, .nx ρ => d = .dat .none ∧ ρ[0]? = some (.obj (some a) C ts')
  | .no c, .xc c' ρ => c' = c ∧ ρ[0]? = some (.obj (some a) C ts')
  | _, _ => False
section
variable {P : Program} {w : World} {K : PySem.W.Frag} {mg : Str → Option Value} {base : Heap}
theorem Rel.entryM {N : List Str} {us : List V} {ds : List PyData} {n : Nat} {Hm H : Hp} {C a : Addr} {ts : Fs} {fp : List Addr} (h1 : Same Hm H) (ho : OwAt K Hm H (.obj (some a) C ts) (some (.ref a)) fp) (hf : ∀ c ∈ fp, Hm c = none) (h2 : DpAll K Hm us ds) (hn : us.length + 1 = n) (hN : n ≤ N.length) :
    Rel K ⟨Hm, H, fun c => c ∈ fp⟩ (.obj (some a) C ts :: (ds.map Ow.dat ++ List.replicate (N.length - n) Ow.no)) (start N (.ref a :: us)) [] H := by
  have hl := h2.lenE
  refine ⟨by simp [start]; omega, Hm, fun i => if i = 0 then fp else [], ⟨h1, fun a o q _ => q, Same.refl _, fun a q => .inl q, fun i o s q => ?_, fun i _ c m => ?_, fun i j _ _ hij c m => ?_⟩⟩
  · rw [List.append_nil, List.getElem?_zip_eq_some] at q
    obtain ⟨q1, q2⟩ := q
    dsimp only at q1 q2
    cases i with
    | zero =>
      simp [start] at q1 q2
      subst q1 q2
      exact ho
    | succ i =>
      simp only [Nat.add_eq_zero_iff, Nat.succ_ne_self, and_false, if_false]
      rw [List.getElem?_cons_succ] at q2
      unfold start at q1
      rw [List.map_cons, List.cons_append, List.getElem?_cons_succ] at q1
      by_cases hi : i < us.length
      · rw [List.getElem?_append_left (by simpa using hi), List.getElem?_map] at q1
        rw [List.getElem?_append_left (by simp; omega), List.getElem?_map] at q2
        obtain ⟨v, hv, e1⟩ := Option.map_eq_some_iff.mp q1
        obtain ⟨d, hd, e2⟩ := Option.map_eq_some_iff.mp q2
        obtain ⟨u, hu, hp⟩ := h2.at_ hd
        rw [hv] at hu
        cases hu
        subst e1
        subst e2
        exact .dat hp
      · rw [List.getElem?_append_right (by simp; omega), List.getElem?_replicate] at q2
        split at q2
        · cases q2
          exact .no
        · cases q2
  · by_cases e : i = 0
    · simp only [e, if_true] at m
      exact ⟨.inr m, hf c m, own_there ho c m⟩
    · simp only [e, if_false] at m
      cases m
  · by_cases e : i = 0
    · have e2 : ¬ j = 0 := fun z => hij (by omega)
      simp only [e2, if_false]
      simp
    · simp only [e, if_false] at m
      cases m
theorem Rel.exitM {ρ' : List Ow} {σ' : St} {τ : Sls} {Hm H H' : Hp} {C a : Addr} {ts' : Fs} {fp : List Addr} (R : Rel K ⟨Hm, H, fun c => c ∈ fp⟩ ρ' σ' τ H') (h0 : ρ'[0]? = some (.obj (some a) C ts')) : ∃ Hm' fps, Mem K ⟨Hm, H, fun c => c ∈ fp⟩ (σ'.zip ρ' ++ τ) Hm' H' fps ∧ Behind K C a ts' fp Hm H Hm' H' (fps 0) := by
  obtain ⟨hl, Hm', fps, M⟩ := R
  have hi : 0 < ρ'.length := (List.getElem?_eq_some_iff.mp h0).1
  have hs : 0 < σ'.length := by omega
  have hz : (σ'.zip ρ' ++ τ)[0]? = some (σ'[0], .obj (some a) C ts') := by
    rw [List.getElem?_append_left (by simp; omega), List.getElem?_zip_eq_some]
    exact ⟨List.getElem?_eq_getElem hs, h0⟩
  have ho := M.ok _ _ _ hz
  obtain ⟨a', dx, fs, val, g, e1, e2, e3, _⟩ := id ho.obj_inv
  have ea : a = a' := e3 a rfl
  subst ea
  rw [e1] at ho
  exact ⟨Hm', fps, M, M.old, M.sub, fun c o q n => M.ent c o q n, fun c q => M.new c q, ho, fun c hc => M.own 0 (List.getElem?_eq_some_iff.mp hz).1 c hc⟩
theorem PM.of {m q : Str} {C : Addr} {st : Stmt} {N ps : List Str} {k : Nat} {S : Fs → List PyData → Fs → Rs → Prop} (W : WhereM K C m q st) (Sc : FnScope N ps (defScope st)) (hps : 0 < ps.length) (hpN : ps.length ≤ N.length)
    (hb : ∀ (kV doc pm : Value) (an : Option Addr) (cdv ct : Value) (us : List Value), us.length = ps.length → bindArgs (PySem.W.fnOf m q (defArgs st) (defBody st) (defScope st) .none kV doc pm an cdv ct) ⟨us, []⟩ = pure (ps.zip us))
    (body : ∀ (f : Addr) (cdv : Value) (A : Around) (outer : List Env) (s : Shared) (H : Hp) (E : XK) (a : Addr) (ts ts' : Fs) (ds : List PyData) (r : Rs), Room k (A.deeper (envOfC q (defScope st) s.heap.objs.size f cdv)) → S ts ds ts' r →
      BS (ctX P w K mg base N q (defScope st) f cdv A outer s H E) (fun C H' => E C none H') (.obj (some a) C ts :: (ds.map Ow.dat ++ List.replicate (N.length - ps.length) Ow.no)) (defBody st) (r.ocM C a ts')) : PM P w K mg base (k + 1) C m ps S := by
  obtain ⟨f, fd, Fn, hm⟩ := W.ex
  refine ⟨f, fd, hm, Fn.binds hb, ?_⟩
  obtain ⟨oc, od, kV, doc, pm, an, cdv, ct, osl, rfl, lk, hcd⟩ := Fn.ex
  refine fn_of lk hcd Sc (fun vs H Q E h => ?_) fun A outer s H vs Q E hr h => ?_
  · obtain ⟨a, us, Hm, fp, ts, ts', ds, r, rfl, hn, _⟩ := h
    simp
    omega
  · obtain ⟨a, us, Hm, fp, ts, ts', ds, r, rfl, hn, h1, ho, hf, h2, hS, q⟩ := h
    have b := body f cdv A outer s H E a ts ts' ds r hr hS
    refine ⟨_, b.ps.out fun e s2 => out_xe, ⟨Hm, H, fun c => c ∈ fp⟩, [], Rel.entryM h1 ho hf h2 (by omega) hpN, fun ρ' σ' H' o R' => ?_, fun t ρ' v σ' H' o R' => ?_, fun ρ' σ' H' o R' => ?_, fun ρ' σ' H' o R' => ?_, fun c ρ' σ' H' o R' => ?_⟩
    · cases r with
      | no c => exact o.elim
      | ok d =>
        obtain ⟨rfl, o2⟩ := (show d = .dat .none ∧ _ from o)
        obtain ⟨Hm', fps, M, B⟩ := R'.exitM o2
        exact q .non [] (fps 0) Hm' H' B (.dat .non) (by simp)
    · cases r with
      | no c => exact o.elim
      | ok d =>
        obtain ⟨rfl, o2⟩ := (show t = d ∧ _ from o)
        obtain ⟨Hm', fps, M, B⟩ := R'.exitM o2
        have hi : 0 < ρ'.length := (List.getElem?_eq_some_iff.mp o2).1
        have hzl : 0 < (σ'.zip ρ').length := by have := R'.1; simp; omega
        rw [List.nil_append] at M
        have hx : (σ'.zip ρ' ++ [(some v, t)])[(σ'.zip ρ').length]? = some (some v, t) := by simp
        refine q v (fps (σ'.zip ρ').length) (fps 0) Hm' H' B (M.ok _ _ _ hx) fun c hc => ?_
        obtain ⟨z1, z2, z3⟩ := M.own _ (by simp) c hc
        exact ⟨z1, z2, z3, fun z => M.dis 0 (σ'.zip ρ').length (by simp) (by simp) (by omega) c z hc⟩
    · cases r <;> exact o.elim
    · cases r <;> exact o.elim
    · cases r with
      | ok d => exact o.elim
      | no c' =>
        obtain ⟨rfl, o2⟩ := (show c = c' ∧ _ from o)
        obtain ⟨Hm', fps, M, B⟩ := R'.exitM o2
        exact q (fps 0) Hm' H' B
end
end L2
namespace L2
open PySem PySem.Spec PyProof.Rows
section
variable {K : PySem.W.Frag} {F : Fr} {ρ ρ' : List Ow} {σ : St} {τ : Sls} {H : Hp} {i : Nat} {s : Ow}
theorem OwAt.reown {Hm : Hp} {w w' : Option Addr} {C a : Addr} {ts : Fs} {fp : List Addr} (h : OwAt K Hm H (.obj w C ts) (some (.ref a)) fp) (hw : ∀ b, w' = some b → b = a) : OwAt K Hm H (.obj w' C ts) (some (.ref a)) fp := by
  cases h with
  | obj h0 h1 h2 n1 hl h3 h4 h5 h6 h7 => exact .obj hw h1 h2 n1 hl h3 h4 h5 h6 h7
theorem Mem.called {L : Sls} {Hm Hm' H' : Hp} {fps : Nat → List Addr} {j : Nat} {a C : Addr} {ts ts' : Fs} {w : Option Addr} {v : V} {fs fp' : List Addr} (M : Mem K F L Hm H fps) (hj : L[j]? = some (some (.ref a), .obj w C ts)) (B : Behind K C a ts' (fps j) Hm H Hm' H' fp') (hs : OwAt K Hm' H' s (some v) fs)
    (hfs : ∀ c ∈ fs, (H c = none ∨ c ∈ fps j) ∧ Hm' c = none ∧ H' c ≠ none ∧ ¬ c ∈ fp') : Mem K F (L.set j (some (.ref a), .obj w C ts') ++ [(some v, s)]) Hm' H' (fun k => if k = L.length then fs else if k = j then fp' else fps k) := by
  have hlt := (List.getElem?_eq_some_iff.mp hj).1
  have hF : ∀ {c : Addr}, H c = none → F.H c = none ∨ F.md c := fun {c} q => by
    cases z : F.H c with
    | none => exact .inl rfl
    | some o =>
      by_cases y : F.md c
      · exact .inr y
      · rw [M.ent c o z y] at q; cases q
  have hF2 : ∀ {c : Addr}, (H c = none ∨ c ∈ fps j) → F.H c = none ∨ F.md c := fun {c} q => by
    rcases q with q | q
    · exact hF q
    · exact (M.own j hlt c q).1
  have hw : ∀ b, w = some b → b = a := by
    obtain ⟨a', _, _, _, _, e, _, e2, _⟩ := (M.ok _ _ _ hj).obj_inv
    cases e
    exact e2
  have hlen : (L.set j (some (.ref a), Ow.obj w C ts')).length = L.length := List.length_set ..
  have oth : ∀ {k : Nat} {c : Addr}, k < L.length → k ≠ j → c ∈ fps k → ¬ (H c = none ∨ c ∈ fps j) := fun {k c} hk n hc q => by
    rcases q with q | q
    · exact (M.own k hk c hc).2.2 q
    · exact M.dis k j hk hlt n c hc q
  refine ⟨B.sub, fun c o q z => ?_, M.old.trans B.vis, fun c q => ?_, fun k o' s' q => ?_, fun k hk c m => ?_, fun k m hk hm n c hc => ?_⟩
  · refine B.frame c o (M.ent c o q z) fun y => ?_
    rcases (M.own j hlt c y).1 with x | x
    · rw [x] at q; cases q
    · exact z x
  · rcases B.new c q with z | z | z
    · exact M.new c z
    · exact .inr (hF z)
    · exact .inr (hF2 (.inr z))
  · by_cases e : k = L.length
    · subst e
      rw [List.getElem?_append_right (by rw [hlen]; exact Nat.le_refl _), hlen, Nat.sub_self] at q
      cases q
      simp only [if_true]
      exact hs
    · simp only [e, if_false]
      have hk : k < L.length := by
        have := (List.getElem?_eq_some_iff.mp q).1
        rw [List.length_append, hlen] at this
        simp at this
        omega
      rw [List.getElem?_append_left (by rw [hlen]; exact hk)] at q
      by_cases e2 : k = j
      · subst e2
        rw [List.getElem?_set_self hlt] at q
        cases q
        simp only [if_true]
        exact B.obj.reown hw
      · rw [List.getElem?_set_ne (Ne.symm e2)] at q
        simp only [e2, if_false]
        exact (M.ok k o' s' q).up B.vis fun c hc u g => B.frame c u g (M.dis k j hk hlt e2 c hc)
  · rw [List.length_append, hlen] at hk
    simp at hk
    by_cases e : k = L.length
    · simp only [e, if_true] at m
      obtain ⟨z1, z2, z3, _⟩ := hfs c m
      exact ⟨hF2 z1, z2, z3⟩
    · simp only [e, if_false] at m
      by_cases e2 : k = j
      · simp only [e2, if_true] at m
        obtain ⟨z1, z2, z3⟩ := B.own c m
        exact ⟨hF2 z1, z2, z3⟩
      · simp only [e2, if_false] at m
        have hk' : k < L.length := by omega
        obtain ⟨z1, z2, z3⟩ := M.own k hk' c m
        have no := oth hk' e2 m
        refine ⟨z1, ?_, ?_⟩
        · cases q : Hm' c with
          | none => rfl
          | some u =>
            rcases B.new c (by rw [q]; simp) with y | y | y
            · exact absurd z2 y
            · exact absurd (.inl y) no
            · exact absurd (.inr y) no
        · cases q : H c with
          | none => exact absurd q z3
          | some u => rw [B.frame c u q fun y => no (.inr y)]; simp
  · rw [List.length_append, hlen] at hk hm
    simp at hk hm
    have key : ∀ {k : Nat} {c : Addr}, k ≤ L.length → c ∈ (if k = L.length then fs else if k = j then fp' else fps k) → (k = L.length ∨ k = j) → (H c = none ∨ c ∈ fps j) := fun {k c} _ hc e => by
      by_cases e1 : k = L.length
      · simp only [e1, if_true] at hc
        exact (hfs c hc).1
      · have e2 : k = j := e.resolve_left e1
        have e3 : ¬ j = L.length := by omega
        simp only [e2, e3, if_false, if_true] at hc
        exact (B.own c hc).1
    intro hc2
    by_cases k1 : k = L.length ∨ k = j
    · have q := key (by omega) hc k1
      by_cases m1 : m = L.length ∨ m = j
      · rcases k1 with k1 | k1
        · have m2 : m = j := m1.resolve_left (by omega)
          have e3 : ¬ j = L.length := by omega
          simp only [k1, if_true] at hc
          simp only [m2, e3, if_false, if_true] at hc2
          exact (hfs c hc).2.2.2 hc2
        · have m2 : m = L.length := m1.resolve_right (by omega)
          have e3 : ¬ j = L.length := by omega
          simp only [k1, e3, if_false, if_true] at hc
          simp only [m2, if_true] at hc2
          exact (hfs c hc2).2.2.2 hc
      · obtain ⟨m2, m3⟩ := not_or.mp m1
        simp only [m2, m3, if_false] at hc2
        exact oth (by omega) m3 hc2 q
    · obtain ⟨k2, k3⟩ := not_or.mp k1
      simp only [k2, k3, if_false] at hc
      by_cases m1 : m = L.length ∨ m = j
      · exact oth (by omega) k3 hc (key (by omega) hc2 m1)
      · obtain ⟨m2, m3⟩ := not_or.mp m1
        simp only [m2, m3, if_false] at hc2
        exact M.dis k m (by omega) (by omega) n c hc hc2
end
section
variable {X : Cx} {W : Value → Hp → Prop} {ρ ρ1 ρ2 : List Ow} {a b c e : Expr} {es : List Expr} {ss : List Stmt} {pos : Pos} {d : PyData} {ds : List PyData} {O : Oc → Prop} {s : Ow} {w : Option Addr} {C : Addr} {ts ts' : Fs} {x m : Str} {k : Nat} {ps : List Str} {S : Fs → List PyData → Fs → Rs → Prop}
theorem pass_E0 : Passes (CXX X.prog X.w) X E0 := fun pins σ H s e s' I h => by
  obtain ⟨_, _, _, _, _, _, _, _, _, z⟩ := h
  exact z.elim
theorem ev_make {p : Pos} (D : PM X.prog X.w X.K X.mg X.base k C "__init__" ps S) (hC : X.mg x = some (.ref C)) (hmk : ∃ f, Mk X.K C f) (hr : Room (k + 1) X.A) (ha : EA X ρ (e :: es) ds ρ) (hS : S [] ds ts' (.ok (.dat .none))) (hn : ds.length = ps.length - 1 := by rfl) (hg : Gl X x := by rfl) (hdb : (x == ("__debug__" : Str)) = false := by decide)
    (he : starEach (e :: es) X.env = (false, eval e X.env) :: starEach es X.env := by rfl) (hpl : (backTo pos (starEach es X.env)).any (·.1) = false := by rfl) : EV X ρ (.Call (.Name x p) (e :: es) [] pos) (.obj none C ts') ρ := by
  obtain ⟨f, fd, hme, hb, Fn⟩ := D.ex
  rw [← hn] at Fn
  obtain ⟨f', mk⟩ := hmk
  have ef : f' = f := by
    have h1 := mk.init
    have h2 := hme.at_
    rw [h1] at h2
    injection h2 with h2
    injection h2 with h2
    injection h2 with h2
  subst ef
  refine ⟨(pe_make mk Fn hr hg hC hb .nil pass_E0 ha.pa hdb he hpl).mono fun σ H Q ⟨F, τ, R, q⟩ => ⟨F, τ, R, fun vs H1 hl R1 o dx no ndx n => ?_⟩⟩
  rw [List.append_nil]
  obtain ⟨hz, Hm, fps, M⟩ := R1
  rw [← List.append_assoc] at M
  have hM := M.sub
  have hda := M.datas hl
  have M0 : Mem X.K F (σ.zip ρ ++ τ) Hm H1 fps := M.pick id (fun i x h => by
    have := (List.getElem?_eq_some_iff.mp h).1
    show ((σ.zip ρ ++ τ) ++ _)[i]? = _
    rw [List.getElem?_append_left this]
    exact h) fun i j _ _ n => n
  have s1 : Same H1 (upd (upd H1 dx (.own o)) o (.ins C dx [])) := (Same.upd ndx).trans (Same.upd (by rw [upd_ne (Ne.symm n)]; exact no))
  have hob : OwAt X.K Hm (upd (upd H1 dx (.own o)) o (.ins C dx [])) (.obj (some o) C []) (some (.ref o)) [o, dx] :=
    .obj (val := fun _ => .non) (g := fun _ => []) (fun b z => (Option.some.inj z).symm) upd_same (by rw [upd_ne n, upd_same]) (Ne.symm n) (Nat.le_refl _) (fun _ _ => rfl) (fun f s z => by cases z) (fun f s z => by cases z) (fun f f' s s' z => by cases z) (fun f s z => by cases z)
  have hv1 : ∀ {c : Addr}, H1 c = none → Hm c = none := fun {c} z => by
    cases q : Hm c with
    | none => rfl
    | some u => rw [hM _ _ q] at z; cases z
  have hF : ∀ {c : Addr}, H1 c = none → F.H c = none ∨ F.md c := fun {c} q => by
    cases z : F.H c with
    | none => exact .inl rfl
    | some u =>
      by_cases y : F.md c
      · exact .inr y
      · rw [M0.ent c u z y] at q; cases q
  have M2 := (M0.grow (Same.refl _) (hM.trans s1) s1 New.refl).snoc (o := some (.ref o)) (s := .obj none C []) (fp := [o, dx]) (hob.reown (by intro b z; cases z)) fun c hc => by
    simp at hc
    rcases hc with rfl | rfl
    · exact ⟨hF no, hv1 no, by rw [upd_same]; simp, fun i hi z => (M0.own i hi _ z).2.2 no⟩
    · exact ⟨hF ndx, hv1 ndx, by rw [upd_ne n, upd_same]; simp, fun i hi z => (M0.own i hi _ z).2.2 ndx⟩
  refine ⟨o, vs, Hm, [o, dx], [], ts', ds, .ok (.dat .none), rfl, hl, hM.trans s1, hob, fun c hc => ?_, hda, hS, fun v fs fp' Hm' H' B hv hfs => ?_⟩
  · simp at hc
    rcases hc with rfl | rfl
    · exact hv1 no
    · exact hv1 ndx
  · obtain ⟨v', ev, hvd⟩ := hv.dat_inv
    cases ev
    cases hvd
    refine ⟨rfl, q _ _ ?_⟩
    have M3 := M2.called (C := C) (ts' := ts') (fp' := fp') (Hm' := Hm') (H' := H') (j := (σ.zip ρ ++ τ).length) (a := o) (w := none) (ts := []) (by simp) (by simpa using B) (s := .dat .none) (v := .non) (fs := []) (.dat .non) (by simp)
    refine ⟨hz, Hm', _, M3.pick id (fun i x h => ?_) fun i j _ _ n => n⟩
    rw [List.getElem?_append_left (by
      have := (List.getElem?_eq_some_iff.mp h).1
      rw [List.length_set]
      rw [← List.append_assoc] at this
      simpa using this)]
    rw [← List.append_assoc] at h
    rw [show (σ.zip ρ ++ τ ++ [(some (V.ref o), Ow.obj none C ([] : Fs))]).set (σ.zip ρ ++ τ).length (some (V.ref o), Ow.obj none C ts') = σ.zip ρ ++ τ ++ [(some (V.ref o), Ow.obj none C ts')] by
      rw [List.set_append_right _ _ (Nat.le_refl _), Nat.sub_self]; rfl]
    exact h
end
end L2
namespace L2
open PySem PySem.Spec PyProof.Rows
section
variable {X : Cx} {W : Value → Hp → Prop} {ρ ρ1 : List Ow} {e : Expr} {pos : Pos} {ds ds2 ds' : List PyData} {O : Oc → Prop}
end
end L2
namespace L2
open PySem PySem.Spec PyProof.Rows
section
variable {K : PySem.W.Frag} {F : Fr} {ρ ρ' : List Ow} {σ : St} {τ : Sls} {H : Hp} {i : Nat} {s t : Ow}
end
end L2
namespace L2
open PySem PySem.Spec PyProof.Rows
section
variable {X : Cx} {W : Value → Hp → Prop} {ρ ρ1 ρ2 : List Ow} {a b c e : Expr} {es : List Expr} {ss : List Stmt} {pos : Pos} {d : PyData} {ds : List PyData} {O : Oc → Prop} {s : Ow} {w w2 : Option Addr} {C C2 : Addr} {ts ts2 ts' : Fs} {x m f : Str} {k : Nat} {ps : List Str} {S : Fs → List PyData → Fs → Rs → Prop}
end
end L2
namespace L2
open PySem PySem.Spec PyProof.Rows
def spR (K : PySem.W.Frag) (C : Addr) (n : Nat) (S : Fs → List PyData → Rs → Prop) : Sp := fun vs H Q E => ∃ (a : Addr) (us : List V) (Hm : Hp) (ts : Fs) (ds : List PyData) (r : Rs), vs = .ref a :: us ∧ us.length = n ∧ Same Hm H ∧ OwAt K Hm H (.rob C ts) (some (.ref a)) [] ∧ DpAll K Hm us ds ∧ S ts ds r ∧
  match r with
  | .ok s => Fin K s Hm H Q
  | .no c => ∀ H', Same H H' → E c none H'
structure PR (P : Program) (w : World) (K : PySem.W.Frag) (mg : Str → Option Value) (base : Heap) (k : Nat) (C : Addr) (m : Str) (ps : List Str) (S : Fs → List PyData → Rs → Prop) : Prop where
  ex : ∃ f fd, Meth K C m f ∧ Binds K fd ps [] ∧ FnOk P w K mg base (CXX P w) k f fd ps (spR K C (ps.length - 1) S)
section
variable {P : Program} {w : World} {K : PySem.W.Frag} {mg : Str → Option Value} {base : Heap}
theorem Rel.entryR {N : List Str} {us : List V} {ds : List PyData} {n : Nat} {Hm H : Hp} {C a : Addr} {ts : Fs} (h1 : Same Hm H) (ho : OwAt K Hm H (.rob C ts) (some (.ref a)) []) (h2 : DpAll K Hm us ds) (hn : us.length + 1 = n) (hN : n ≤ N.length) :
    Rel K ⟨Hm, H, fun _ => False⟩ (.rob C ts :: (ds.map Ow.dat ++ List.replicate (N.length - n) Ow.no)) (start N (.ref a :: us)) [] H := by
  have hl := h2.lenE
  refine ⟨by simp [start]; omega, Hm, fun _ => [], ⟨h1, fun a o q _ => q, Same.refl _, fun a q => .inl q, fun i o s q => ?_, fun i _ c m => (by cases m), fun i j _ _ hij c m => (by cases m)⟩⟩
  rw [List.append_nil, List.getElem?_zip_eq_some] at q
  obtain ⟨q1, q2⟩ := q
  dsimp only at q1 q2
  cases i with
  | zero =>
    simp [start] at q1 q2
    subst q1 q2
    exact ho
  | succ i =>
    rw [List.getElem?_cons_succ] at q2
    unfold start at q1
    rw [List.map_cons, List.cons_append, List.getElem?_cons_succ] at q1
    by_cases hi : i < us.length
    · rw [List.getElem?_append_left (by simpa using hi), List.getElem?_map] at q1
      rw [List.getElem?_append_left (by simp; omega), List.getElem?_map] at q2
      obtain ⟨v, hv, e1⟩ := Option.map_eq_some_iff.mp q1
      obtain ⟨d, hd, e2⟩ := Option.map_eq_some_iff.mp q2
      obtain ⟨u, hu, hp⟩ := h2.at_ hd
      rw [hv] at hu
      cases hu
      subst e1
      subst e2
      exact .dat hp
    · rw [List.getElem?_append_right (by simp; omega), List.getElem?_replicate] at q2
      split at q2
      · cases q2
        exact .no
      · cases q2
theorem PR.of {m q : Str} {C : Addr} {st : Stmt} {N ps : List Str} {k : Nat} {S : Fs → List PyData → Rs → Prop} (W : WhereM K C m q st) (Sc : FnScope N ps (defScope st)) (hps : 0 < ps.length) (hpN : ps.length ≤ N.length)
    (hb : ∀ (kV doc pm : Value) (an : Option Addr) (cdv ct : Value) (us : List Value), us.length = ps.length → bindArgs (PySem.W.fnOf m q (defArgs st) (defBody st) (defScope st) .none kV doc pm an cdv ct) ⟨us, []⟩ = pure (ps.zip us))
    (body : ∀ (f : Addr) (cdv : Value) (A : Around) (outer : List Env) (s : Shared) (H : Hp) (E : XK) (ts : Fs) (ds : List PyData) (r : Rs), Room k (A.deeper (envOfC q (defScope st) s.heap.objs.size f cdv)) → S ts ds r →
      BS (ctX P w K mg base N q (defScope st) f cdv A outer s H E) (fun C H' => E C none H') (.rob C ts :: (ds.map Ow.dat ++ List.replicate (N.length - ps.length) Ow.no)) (defBody st) r.oc) : PR P w K mg base (k + 1) C m ps S := by
  obtain ⟨f, fd, Fn, hm⟩ := W.ex
  refine ⟨f, fd, hm, Fn.binds hb, ?_⟩
  obtain ⟨oc, od, kV, doc, pm, an, cdv, ct, osl, rfl, lk, hcd⟩ := Fn.ex
  refine fn_of lk hcd Sc (fun vs H Q E h => ?_) fun A outer s H vs Q E hr h => ?_
  · obtain ⟨a, us, Hm, ts, ds, r, rfl, hn, _⟩ := h
    simp
    omega
  · obtain ⟨a, us, Hm, ts, ds, r, rfl, hn, h1, ho, h2, hS, q⟩ := h
    have b := body f cdv A outer s H E ts ds r hr hS
    refine ⟨_, b.ps.out fun e s2 => out_xe, ⟨Hm, H, fun _ => False⟩, [], Rel.entryR h1 ho h2 (by omega) hpN, fun ρ' σ' H' o R' => ?_, fun t ρ' v σ' H' o R' => ?_, fun ρ' σ' H' o R' => ?_, fun ρ' σ' H' o R' => ?_, fun c ρ' σ' H' o R' => ?_⟩
    · cases r with
      | no c => exact o.elim
      | ok d =>
        obtain ⟨_, Hm', fps, M⟩ := R'
        have : d = .dat .none := o
        subst this
        exact q .non [] Hm' H' M.old M.sub (fun a u z => M.ent a u z (fun y => y)) (fun a z => by rcases M.new a z with y | y | y; exact .inl y; exact .inr y; exact y.elim) (.dat .non) (by simp)
    · cases r with
      | no c => exact o.elim
      | ok d =>
        have : t = d := o
        subst this
        obtain ⟨_, Hm', fps, M⟩ := R'
        rw [List.nil_append] at M
        have hx : (σ'.zip ρ' ++ [(some v, t)])[(σ'.zip ρ').length]? = some (some v, t) := by simp
        refine q v (fps (σ'.zip ρ').length) Hm' H' M.old M.sub (fun a u z => M.ent a u z (fun y => y)) (fun a z => by rcases M.new a z with y | y | y; exact .inl y; exact .inr y; exact y.elim) (M.ok _ _ _ hx) fun a ha => ?_
        obtain ⟨z1, z2, z3⟩ := M.own _ (by simp) a ha
        exact ⟨z1.resolve_right fun y => y, z2, z3⟩
    · cases r <;> exact o.elim
    · cases r <;> exact o.elim
    · cases r with
      | ok d => exact o.elim
      | no c' =>
        have : c = c' := o
        subst this
        obtain ⟨_, Hm', fps, M⟩ := R'
        exact q H' (fun a u z => M.ent a u z (fun y => y))
end
section
variable {X : Cx} {W : Value → Hp → Prop} {ρ ρ1 ρ2 : List Ow} {a b c e : Expr} {es : List Expr} {ss : List Stmt} {pos : Pos} {d : PyData} {ds : List PyData} {O : Oc → Prop} {s : Ow} {C : Addr} {ts : Fs} {x m : Str} {k : Nat} {ps : List Str} {S : Fs → List PyData → Rs → Prop}
end
end L2
namespace L2
open PySem PySem.Spec PyProof.Rows
section
variable {X : Cx} {W : Value → Hp → Prop} {ρ ρ1 ρ2 : List Ow} {a b c e : Expr} {es : List Expr} {ss : List Stmt} {pos : Pos} {d : PyData} {ds ds2 : List PyData} {O : Oc → Prop} {s : Ow} {w : Option Addr} {C : Addr} {ts ts' : Fs} {f x : Str}
end
end L2
namespace L2
open PySem PySem.Spec PyProof.Rows
section
variable {X : Cx} {ρ ρ1 : List Ow} {e : Expr} {d : PyData}
end
end L2
namespace ZL
open PySem PySem.Spec PyProof.Rows
section
variable {prog : Program} {w : World} {A : Around} {E : Value → Shared → Prop} {s : Shared}
end
end ZL
namespace ZL
open PySem PySem.Spec PyProof.Rows
section
variable {prog : Program} {w : World} {A : Around} {R : Result → Shared → Prop}
end
end ZL
namespace ZL
open PySem PySem.Spec PyProof.Rows
section
variable {prog : Program} {w : World} {A : Around} {E : Value → Shared → Prop} {s : Shared} {R : Result → Shared → Prop}
end
end ZL
namespace ZL
open PySem PySem.Spec PyProof.Rows
section
variable {prog : Program} {w : World} {A : Around} {E : Value → Shared → Prop} {s : Shared}
end
end ZL
namespace L2
open PySem PySem.Spec PyProof.Rows
section
variable {X : Cx} {pins : List (Addr × Obj)} {σ : St} {H H' : Hp} {s : Shared} {h' : Heap}
theorem Inv.many {t' : Nat} (I : Inv X pins σ H s) (k : ∀ b u, s.heap.get? b = some u → h'.get? b = some u) (sm : Same H H') (nw : ∀ a o, H' a = some o → H a = none → s.heap.objs.size ≤ a) (ok : ∀ a o, H' a = some o → H a = none → ObjOk X.prog X.w H' h' a o) : Inv X pins σ H' { s with heap := h', toks := t' } := by
  refine I.un ⟨fun b u q _ _ _ => k b u q, fun b u q _ _ _ => ⟨u.slots, k b u q⟩, fun b u q n _ => ?_, fun b u q _ => ⟨u, k b u q⟩, fun b xs q => sm _ _ q, fun b u xs q => sm _ _ q, fun b ps q => ⟨#[], by rw [sm _ _ q]; simp⟩⟩ fun a o e => ?_
  · cases z : H' b with
    | none => rfl
    | some o => exact absurd (Heap.lt_size q) (Nat.not_lt.mpr (nw b o z n))
  · cases z : H a with
    | none => exact ok a o e z
    | some u =>
      have := sm _ _ z
      rw [e] at this
      cases this
      exact (I.hok a o z).stay (fun c v _ q => k c v q) (fun c q => sm _ _ q) fun c xs q => sm _ _ q
end
end L2
namespace L2
open PySem PySem.Spec PyProof.Rows
section
variable {X : Cx} {ρ ρ1 ρ2 : List Ow} {a b c e e2 : Expr} {p p2 pos pos2 : Pos} {d : PyData} {ds ds2 : List PyData}
theorem DpAll.mk {K : PySem.W.Frag} {H : Hp} : ∀ {vs : List V} {ds : List PyData}, vs.length = ds.length → (∀ (m : Nat) v d, vs[m]? = some v → ds[m]? = some d → Dp K H v d) → DpAll K H vs ds
  | [], [], _, _ => .nil
  | [], _ :: _, h, _ => by simp at h
  | _ :: _, [], h, _ => by simp at h
  | v :: vs, d :: ds, h, k => .cons (k 0 v d rfl rfl) (DpAll.mk (by simpa using h) fun m v' d' h1 h2 => k (m + 1) v' d' (by simpa using h1) (by simpa using h2))
end
end L2
namespace ZL
open PySem PyProof.Rows PySem.Spec
section
variable {prog : Program} {w : World} {A : Around} {E : Value → Shared → Prop} {s : Shared} {a : Addr} {k : Int} {t : Tok} {its : Array Value} {o : Obj} {n : Nat} {Q : PySem.Fin → Shared → Prop}
end
end ZL
namespace L2
open PySem PySem.Spec PyProof.Rows
section
variable {X : Cx}
section
variable {ρ ρ1 ρ2 : List Ow} {a b : Expr} {pos : Pos} {xs : List PyData} {i : Int}
end
end
end L2
namespace L2
open PySem PySem.Spec PyProof.Rows
section
variable {X : Cx} {W : Value → Hp → Prop} {ρ ρ1 : List Ow} {pos : Pos} {O : Oc → Prop}
end
end L2
namespace L2
open PySem PySem.Spec PyProof.Rows
abbrev PDo (P : Program) (w : World) (K : PySem.W.Frag) (mg : Str → Option Value) (base : Heap) (k : Nat) (C : Addr) (x : Str) (ps : List Str) (S : Fs → List PyData → Fs → Rs → Prop) : Prop := DefX P w K mg base k x ps (spM K C (ps.length - 1) S)
section
variable {P : Program} {w : World} {K : PySem.W.Frag} {mg : Str → Option Value} {base : Heap}
theorem PDo.mk {x : Str} {C : Addr} {st : Stmt} {N ps : List Str} {k : Nat} {S : Fs → List PyData → Fs → Rs → Prop} (W : Where K mg x st) (Sc : FnScope N ps (defScope st)) (hps : 0 < ps.length) (hpN : ps.length ≤ N.length)
    (hb : ∀ (kV doc pm : Value) (an : Option Addr) (cdv ct : Value) (us : List Value), us.length = ps.length → bindArgs (PySem.W.fnOf x x (defArgs st) (defBody st) (defScope st) .none kV doc pm an cdv ct) ⟨us, []⟩ = pure (ps.zip us))
    (body : ∀ (f : Addr) (cdv : Value) (A : Around) (outer : List Env) (s : Shared) (H : Hp) (E : XK) (a : Addr) (ts ts' : Fs) (ds : List PyData) (r : Rs), Room k (A.deeper (envOfC x (defScope st) s.heap.objs.size f cdv)) → S ts ds ts' r →
      BS (ctX P w K mg base N x (defScope st) f cdv A outer s H E) (fun C H' => E C none H') (.obj (some a) C ts :: (ds.map Ow.dat ++ List.replicate (N.length - ps.length) Ow.no)) (defBody st) (r.ocM C a ts')) : PDo P w K mg base (k + 1) C x ps S := by
  refine W.defX Sc hb (fun vs H Q E h => ?_) fun f cdv A outer s H vs Q E hr h => ?_
  · obtain ⟨a, us, Hm, fp, ts, ts', ds, r, rfl, hn, _⟩ := h
    simp
    omega
  · obtain ⟨a, us, Hm, fp, ts, ts', ds, r, rfl, hn, h1, ho, hf, h2, hS, q⟩ := h
    have b := body f cdv A outer s H E a ts ts' ds r hr hS
    refine ⟨_, b.ps, ⟨Hm, H, fun c => c ∈ fp⟩, [], Rel.entryM h1 ho hf h2 (by omega) hpN, fun ρ' σ' H' o R' => ?_, fun t ρ' v σ' H' o R' => ?_, fun ρ' σ' H' o R' => ?_, fun ρ' σ' H' o R' => ?_, fun c ρ' σ' H' o R' => ?_⟩
    · cases r with
      | no c => exact o.elim
      | ok d =>
        obtain ⟨rfl, o2⟩ := (show d = .dat .none ∧ _ from o)
        obtain ⟨Hm', fps, M, B⟩ := R'.exitM o2
        exact q .non [] (fps 0) Hm' H' B (.dat .non) (by simp)
    · cases r with
      | no c => exact o.elim
      | ok d =>
        obtain ⟨rfl, o2⟩ := (show t = d ∧ _ from o)
        obtain ⟨Hm', fps, M, B⟩ := R'.exitM o2
        have hi : 0 < ρ'.length := (List.getElem?_eq_some_iff.mp o2).1
        have hzl : 0 < (σ'.zip ρ').length := by have := R'.1; simp; omega
        rw [List.nil_append] at M
        have hx : (σ'.zip ρ' ++ [(some v, t)])[(σ'.zip ρ').length]? = some (some v, t) := by simp
        refine q v (fps (σ'.zip ρ').length) (fps 0) Hm' H' B (M.ok _ _ _ hx) fun c hc => ?_
        obtain ⟨z1, z2, z3⟩ := M.own _ (by simp) c hc
        exact ⟨z1, z2, z3, fun z => M.dis 0 (σ'.zip ρ').length (by simp) (by simp) (by omega) c z hc⟩
    · cases r <;> exact o.elim
    · cases r <;> exact o.elim
    · cases r with
      | ok d => exact o.elim
      | no c' =>
        obtain ⟨rfl, o2⟩ := (show c = c' ∧ _ from o)
        obtain ⟨Hm', fps, M, B⟩ := R'.exitM o2
        exact q (fps 0) Hm' H' B
end
section
variable {X : Cx} {ρ : List Ow} {es : List Expr} {pos : Pos} {ds : List PyData} {s : Ow} {w : Option Addr} {C : Addr} {ts ts' : Fs} {x y : Str} {k : Nat} {ps : List Str} {S : Fs → List PyData → Fs → Rs → Prop}
end
end L2
namespace L2
open PySem PySem.Spec PyProof.Rows
section
variable {X : Cx} {pins : List (Addr × Obj)} {σ : St} {H : Hp} {s : Shared} {M : Model} {A : Around} {E : Value → Shared → Prop}
structure Made (H H' : Hp) (Pt f c : Addr) (ps ps' : Array Value) (q : Str) (φ : Heap → Prop) : Prop where
  tb : H' Pt = some (.tbl ps')
  ok : TriplesOk ps'.toList
  cd : H' c = some (.ext (CodeAt c q))
  fn : H' f = some (.ext φ)
  nf : H f = none
  nc : H c = none ∨ ∃ p, codeAmong p ps.toList = some (.ref c)
  more : ∀ p cv, codeAmong p ps'.toList = some cv → codeAmong p ps.toList = some cv ∨ cv = .ref c
  els : ∀ a, a ≠ Pt → a ≠ c → a ≠ f → H' a = H a
  fc : f ≠ c
  fP : f ≠ Pt
  cP : c ≠ Pt
end
end L2
namespace L2
open PySem PySem.Spec PyProof.Rows
abbrev Kc := List (Addr × Obj)
def dropC (kc : Kc) (H : Hp) : Hp := fun a => if (kc.lookup a).isSome = true then none else H a
section
variable {P : Program} {w : World} {kc : Kc} {H H' : Hp} {h h' : Heap} {a : Addr} {o : Obj} {u : HO} {fs ex : List Addr}
theorem drop_in (e : kc.lookup a = some o) : dropC kc H a = none := by unfold dropC; rw [e]; rfl
theorem drop_out (e : kc.lookup a = none) : dropC kc H a = H a := by unfold dropC; rw [e]; rfl
theorem HOk.drop (ok : HOk P w H h) (k : ∀ a o, kc.lookup a = some o → ∃ u, H a = some (.frz o u)) : HOk P w (dropC kc H) h := fun a u q => by
  cases e : kc.lookup a with
  | some o => rw [drop_in e] at q; cases q
  | none =>
    rw [drop_out e] at q
    refine (ok a u q).stay (fun _ _ _ z => z) (fun b z => ?_) fun b xs z => ?_
    · cases e2 : kc.lookup b with
      | some o => obtain ⟨u2, r⟩ := k b o e2; rw [r] at z; cases z
      | none => rw [drop_out e2]; exact z
    · cases e2 : kc.lookup b with
      | some o => obtain ⟨u2, r⟩ := k b o e2; rw [r] at z; cases z
      | none => rw [drop_out e2]; exact z
end
section
variable {P : Program} {w : World} {K : PySem.W.Frag} {mg : Str → Option Value} {base : Heap} {N : List Str} {qual : Str} {scope : Scope} {f c : Addr} {cl : List (Str × Addr)} {A : Around} {outer : List Env} {s : Shared} {H : Hp} {E : XK}
end
def LamRun (P : Program) (w : World) (K : PySem.W.Frag) (mg : Str → Option Value) (base : Heap) (k : Nat) (f : Addr) (H : Hp) (Q : VK) (E : XK) : Prop :=
  ∀ (A : Around) (outer : List Env) (s : Shared), Room k A → Env0 P w K mg base A outer s H → codeAny (model P w) A (.call (.ref f) ⟨[], []⟩) (CR (CXX P w) outer P w H s Q E) s
structure LamScope (sc : Scope) : Prop where
  kind : sc.kind = .function
  co : sc.isCoroutine = false
  gen : sc.isGenerator = false
  nocell : ∀ y ∈ sc.names, y.2 ≠ .cell
end L2
namespace L2
open PySem PySem.Spec PyProof.Rows
structure DefH (P : Program) (w : World) (K : PySem.W.Frag) (mg : Str → Option Value) (base : Heap) (k : Nat) (x : Str) (ps : List Str) (sp : Sp) : Prop where
  ex : ∃ f fd, mg x = some (.ref f) ∧ PySem.W.keepIn K (.ref f) = true ∧ Binds K fd ps [] ∧ (∀ vs H Q E, sp vs H Q E → vs.length = ps.length) ∧
    ∀ (A : Around) (outer : List Env) (s : Shared) (H : Hp) (y : Addr) (args : Args) (us : List Value) (vs : List V) (Q : VK), Room k A → Env0 P w K mg base A outer s H → BindsTo s fd args (ps.zip us) → Vals vs us → sp vs H Q E0 → codeAny (model P w) (A.mark (some (.ref y))) (.call (.ref f) args) (CR CX0 outer P w H s Q E0) s
section
variable {P : Program} {w : World} {K : PySem.W.Frag} {mg : Str → Option Value} {base : Heap}
end
section
variable {X : Cx} {k : Nat} {ps : List Str} {sp : Sp} {x : Str} {p pos : Pos} {e : Expr} {es : List Expr} {t : TA} {y : Addr}
end
end L2
namespace L2
open PySem PySem.Spec PyProof.Rows
theorem LamRun.mono {P : Program} {w : World} {K : PySem.W.Frag} {mg : Str → Option Value} {base : Heap} {k : Nat} {f : Addr} {H : Hp} {Q Q' : VK} {E E' : XK} (L : LamRun P w K mg base k f H Q E) (hQ : ∀ v H', Q v H' → Q' v H') (hE : ∀ C H', E C none H' → E' C none H') : LamRun P w K mg base k f H Q' E' := fun A outer s hr e0 =>
  codeAny_mono (L A outer s hr e0) fun r s' h => by
    cases r with
    | error e =>
      obtain ⟨x, C, H', h1, h2, h3, h4, h5, h6, h7⟩ := h
      exact ⟨x, C, H', h1, h2, h3, h4, h5, h6, hE _ _ h7⟩
    | ok fl =>
      cases fl with
      | ret u =>
        obtain ⟨v, H', h1, h2, h3, h4, h5, h6⟩ := h
        exact ⟨v, H', h1, h2, h3, h4, h5, hQ _ _ h6⟩
      | next => exact h
      | brk => exact h
      | cont => exact h
end L2
namespace L2
open PySem PySem.Spec PyProof.Rows
theorem PE.out {X : Cx} {W : Value → Shared → Prop} {e : Expr} {t : TE} (h : PE (X.wish W) e t) (hw : ∀ e s, W e s → X.xe e s) : PE X e t := fun pins s σ H Q I hq =>
  wpAny_mono (h pins s σ H Q (I.wish _) hq) (fun u s' ⟨v, H', J, r, q⟩ => ⟨v, H', J.unwish, r, q⟩) hw
section
variable {X : Cx} {c Pt : Addr} {k k1 : Nat} {x y : Str} {wd : Value → Str → Prop} {params : Arguments} {body : Expr} {scope : Scope} {lpos p pos : Pos}
end
end L2
namespace L2
open PySem PySem.Spec PyProof.Rows
def putAt (ρ : List Ow) : List Nat → List Ow → List Ow
  | j :: js, t :: ts => (putAt ρ js ts).set j t
  | _, _ => ρ
section
variable {ρ : List Ow}
end
section
variable {K : PySem.W.Frag} {F : Fr} {ρ ρ2 : List Ow} {σ : St} {τ : Sls} {H H' : Hp} {js : List Nat}
theorem Rel.tab {it : Nat} {Pt : Addr} {q : Str} (R : Rel K F ρ σ τ H) (h0 : ρ[it]? = some (.tab Pt q)) : ∃ ps, H Pt = some (.tbl ps) ∧ TriplesOk ps.toList ∧ ∀ p cv, codeAmong p ps.toList = some cv → ∃ c0, cv = .ref c0 ∧ H c0 = some (.ext (CodeAt c0 q)) := by
  obtain ⟨Hm, o, fp, e1, sm, ho, _⟩ := R.slot h0
  cases ho with
  | @tab _ _ _ ps h1 h2 h3 => exact ⟨ps, h1, h2, fun p cv z => let ⟨c0, e, g⟩ := h3 p cv z; ⟨c0, e, sm _ _ g⟩⟩
theorem Rel.made {it : Nat} {Pt f c : Addr} {q : Str} {ps ps' : Array Value} {φ : Heap → Prop} (R : Rel K F ρ σ τ H) (h0 : ρ[it]? = some (.tab Pt q)) (hP : H Pt = some (.tbl ps)) (Md : Made H H' Pt f c ps ps' q φ) : Rel K F ρ σ τ H' := by
  obtain ⟨hl, Hm, fps, M⟩ := R
  have hi : it < ρ.length := (List.getElem?_eq_some_iff.mp h0).1
  have hs : it < σ.length := by omega
  have hz : (σ.zip ρ ++ τ)[it]? = some (σ[it], .tab Pt q) := by
    rw [List.getElem?_append_left (by rw [List.length_zip]; omega), List.getElem?_zip_eq_some]
    exact ⟨List.getElem?_eq_getElem hs, h0⟩
  have hlt : it < (σ.zip ρ ++ τ).length := (List.getElem?_eq_some_iff.mp hz).1
  obtain ⟨hfp, h3⟩ : fps it = [Pt] ∧ ∀ p cv, codeAmong p ps.toList = some cv → ∃ c0, cv = .ref c0 ∧ Hm c0 = some (.ext (CodeAt c0 q)) := by
    have ok := M.ok _ _ _ hz
    generalize fps it = fp at ok
    cases ok with
    | @tab _ _ _ ps0 h1 h2 h3 =>
      rw [hP] at h1
      cases h1
      exact ⟨rfl, h3⟩
  obtain ⟨w1, w2, w3⟩ := M.own it hlt Pt (by rw [hfp]; simp)
  have hmc : Hm c = none ∨ Hm c = some (.ext (CodeAt c q)) := by
    rcases Md.nc with z | ⟨p, z⟩
    · left
      cases y : Hm c with
      | none => rfl
      | some u => rw [M.sub _ _ y] at z; cases z
    · obtain ⟨c0, e, g⟩ := h3 p _ z
      cases e
      exact .inr g
  have hcF : H c = none → F.H c = none ∨ F.md c := fun z => by
    cases y : F.H c with
    | none => exact .inl rfl
    | some u =>
      by_cases w : F.md c
      · exact .inr w
      · rw [M.ent c u y w] at z; cases z
  have keep : ∀ {a : Addr} {u : HO}, a ≠ Pt → H a = some u → a ≠ c → H' a = some u := fun {a u} n1 e n2 => by
    rw [Md.els a n1 n2 (ne_of_none e Md.nf)]
    exact e
  have keepC : ∀ {a : Addr} {u : HO}, a ≠ Pt → Hm a = some u → H' a = some u := fun {a u} n1 e => by
    by_cases n2 : a = c
    · subst n2
      rcases hmc with z | z
      · rw [z] at e; cases e
      · rw [z] at e
        cases e
        exact Md.cd
    · exact keep n1 (M.sub _ _ e) n2
  have nP : ∀ {a : Addr} {u : HO}, Hm a = some u → a ≠ Pt := fun e z => by rw [z, w2] at e; cases e
  have hold : Same Hm (upd Hm c (.ext (CodeAt c q))) := fun a u e => by
    by_cases z : a = c
    · subst z
      rw [upd_same]
      rcases hmc with y | y
      · rw [y] at e; cases e
      · rw [y] at e; exact e
    · rw [upd_ne z]; exact e
  have ownc : ∀ i, i < (σ.zip ρ ++ τ).length → ∀ a ∈ fps i, a ≠ c := fun i hi a m z => by
    obtain ⟨_, y2, y3⟩ := M.own i hi a m
    subst z
    rcases Md.nc with w | ⟨p, w⟩
    · exact y3 w
    · obtain ⟨c0, e, g⟩ := h3 p _ w
      cases e
      rw [y2] at g
      cases g
  refine ⟨hl, upd Hm c (.ext (CodeAt c q)), fps, ⟨fun a u e => ?_, fun a u e n => ?_, M.old.trans hold, fun a e => ?_, fun i o s e => ?_, fun i hi a m => ?_, M.dis⟩⟩
  · by_cases z : a = c
    · subst z
      rw [upd_same] at e
      cases e
      exact Md.cd
    · rw [upd_ne z] at e
      exact keepC (nP e) e
  · have e1 := M.ent a u e n
    have n1 : a ≠ Pt := fun z => by
      subst z
      rcases w1 with y | y
      · rw [y] at e; cases e
      · exact n y
    by_cases z : a = c
    · subst z
      rcases Md.nc with w | ⟨p, w⟩
      · rw [w] at e1; cases e1
      · obtain ⟨c0, e2, g⟩ := h3 p _ w
        cases e2
        have := M.sub _ _ g
        rw [e1] at this
        cases this
        exact Md.cd
    · exact keep n1 e1 z
  · by_cases z : a = c
    · subst z
      rcases hmc with y | y
      · rcases Md.nc with w | ⟨p, w⟩
        · exact .inr (hcF w)
        · obtain ⟨c0, e2, g⟩ := h3 p _ w
          cases e2
          rw [y] at g
          cases g
      · exact M.new a (by rw [y]; simp)
    · rw [upd_ne z] at e
      exact M.new a e
  · by_cases hii : i = it
    · subst hii
      rw [hz] at e
      cases e
      rw [hfp]
      refine .tab Md.tb Md.ok fun p cv z => ?_
      rcases Md.more p cv z with y | y
      · obtain ⟨c0, e2, g⟩ := h3 p cv y
        exact ⟨c0, e2, hold _ _ g⟩
      · exact ⟨c, y, upd_same⟩
    · have hlt2 : i < (σ.zip ρ ++ τ).length := (List.getElem?_eq_some_iff.mp e).1
      refine (M.ok i o s e).up hold fun a m u z => ?_
      refine keep (fun y => ?_) z (ownc i hlt2 a m)
      subst y
      exact M.dis i it hlt2 hlt hii a m (by rw [hfp]; simp)
  · obtain ⟨y1, y2, y3⟩ := M.own i hi a m
    refine ⟨y1, ?_, ?_⟩
    · rw [upd_ne (ownc i hi a m)]; exact y2
    · by_cases z : a = Pt
      · subst z
        rw [Md.tb]; simp
      · cases e : H a with
        | none => exact absurd e y3
        | some u => rw [keep z e (ownc i hi a m)]; simp
end
section
variable {X : Cx} {c Pt : Addr} {k k1 : Nat} {x y q word : Str} {wd : Value → Str → Prop} {params : Arguments} {body : Expr} {scope : Scope} {lpos p pos : Pos} {ρ ρ2 : List Ow} {r : Ow} {cls : Value}
def lamOk (N : List Str) (sc scope : Scope) (js : List (Str × Nat)) : Bool :=
  (js.all fun q => (N[q.2]? == some q.1 && sc.names.lookup q.1 == some .cell && scope.names.lookup q.1 == some .free)) && (scope.names.all fun q => !(q.2 == .free) || sc.names.lookup q.1 == some .cell) && decide ((js.map (·.2)).Nodup) && (scope.kind == .function && !scope.isCoroutine && !scope.isGenerator) && scope.names.all fun q => !(q.2 == .cell)
theorem lamOk.all {N : List Str} {sc scope : Scope} {js : List (Str × Nat)} (h : lamOk N sc scope js = true) : (∀ q ∈ js, N[q.2]? = some q.1 ∧ sc.names.lookup q.1 = some .cell ∧ scope.names.lookup q.1 = some .free) ∧ (∀ z, (z, NameKind.free) ∈ scope.names → sc.names.lookup z = some .cell) ∧ (js.map (·.2)).Nodup ∧ LamScope scope := by
  simp only [lamOk, Bool.and_eq_true, List.all_eq_true, beq_iff_eq, decide_eq_true_eq, Bool.not_eq_true', Bool.or_eq_true] at h
  obtain ⟨⟨⟨⟨h1, h2⟩, h3⟩, ⟨h4, h5⟩, h6⟩, h7⟩ := h
  refine ⟨fun q hq => ⟨(h1 q hq).1.1, (h1 q hq).1.2, (h1 q hq).2⟩, fun z hz => ?_, h3, ⟨h4, h5, h6, fun y hy e => ?_⟩⟩
  · rcases h2 _ hz with e | e
    · have : (NameKind.free == NameKind.free) = true := rfl
      rw [this] at e
      cases e
    · exact e
  · have := h7 y hy
    rw [e] at this
    cases this
end
end L2
namespace L2
open PySem PySem.Spec PyProof.Rows
def spLawT (K : PySem.W.Frag) (Pt : Addr) : Sp := fun vs H Q _ => ∃ (a : Addr) (ns : List Int), vs = [.ref a] ∧ SqL K H a (ns.map V.int) ∧ ns.length ≤ 63 ∧ H Pt = some (.tbl #[]) ∧ ∀ H', Q (.bl true) H'
theorem spLawT_len {K : PySem.W.Frag} {Pt : Addr} : ∀ vs H Q E, spLawT K Pt vs H Q E → vs.length = 1 := fun vs H Q E h => by
  obtain ⟨a, ns, rfl, _⟩ := h
  rfl
structure WhereC (K : PySem.W.Frag) (mg : Str → Option Value) (x : Str) (st : Stmt) (c : Addr) : Prop where
  ex : ∃ (f : Addr) (oc : Value) (od an : Option Addr) (sl : Array (Option Value)) (kV dc pm ct : Value), K.lookup f = some ⟨oc, od, .func (PySem.W.fnOf x x (defArgs st) (defBody st) (defScope st) .none kV dc pm an (.ref c) ct), sl⟩ ∧ PySem.W.codeIn K (.ref c) x = true ∧ mg x = some (.ref f)
theorem WhereC.top {P : Program} {w : World} {K : PySem.W.Frag} {mg : Str → Option Value} {x y : Str} {st : Stmt} {N : List Str} {k : Nat} {fa c Pt : Addr} (W : WhereC K mg x st c) (hd : PySem.W.codeHdIn K c Pt = true) (hfa : mg x = some (.ref fa)) (S : FnScope N [y] (defScope st))
    (hb : ∀ (kV doc pm : Value) (an : Option Addr) (cdv ct : Value) (us : List Value), us.length = 1 → bindArgs (PySem.W.fnOf x x (defArgs st) (defBody st) (defScope st) .none kV doc pm an cdv ct) ⟨us, []⟩ = pure ([y].zip us))
    (hbody : ∀ (base : Heap), K.In base → base.Ns mainGlobals mg → PySem.W.CodeHd base c Pt → base.BuiltinsAt mg Pt → ∀ (f : Addr) (A : Around) (outer : List Env) (s : Shared) (H : Hp) (vs : List V) (Q : VK) (E : XK), Room k (A.deeper (envOfC x (defScope st) s.heap.objs.size f (.ref c))) → spLawT K Pt vs H Q E →
      ∃ t, PSs (cxOf CX0 P w K mg base N x (defScope st) f (.ref c) A outer s H E).nox (defBody st) t ∧ t { nx := fun _ H' => Q .non H', rt := Q } (start N vs) H) :
    ∃ (c : Addr) (fd : FuncData), PySem.W.codeHdIn K c Pt = true ∧ (∀ (s : Shared) (v : Value), BindsTo s fd ⟨[v], []⟩ [(y, v)]) ∧ ∀ base : Heap, K.In base → base.Ns mainGlobals mg → PySem.W.CodeHd base c Pt → base.BuiltinsAt mg Pt → FnOk P w K mg base CX0 (k + 1) fa fd [y] (spLawT K Pt) := by
  obtain ⟨f, oc, od, an, sl, kV, dc, pm, ct, lk, hcd, hm⟩ := W.ex
  have e := hfa.symm.trans hm
  injection e with e
  injection e with e
  subst e
  refine ⟨c, _, hd, fun s v => .of_eq (hb kV dc pm an (.ref c) ct [v] rfl), fun base h1 h2 h3 h4 => ?_⟩
  refine fn_of lk hcd S spLawT_len fun A outer s H vs Q E hr hsp => ?_
  obtain ⟨t, ht, q⟩ := hbody base h1 h2 h3 h4 fa A outer s H vs Q E hr hsp
  exact ⟨t, ht.out fun _ _ z => z.elim, q⟩
end L2
namespace L2
open PySem PySem.Spec PyProof.Rows
section
variable {X : Cx} {W : Value → Hp → Prop} {ρ ρ1 ρ2 : List Ow} {a b e tg : Expr} {es : List Expr} {c : Value} {ss A B : List Stmt} {p pos : Pos} {O : Oc → Prop}
theorem ex_cmp1 {op : CmpOp} (h : EX X W ρ a c) (hm : behindInMarks op b = false := by first | exact nomark _ | with_unfolding_all rfl) : EX X W ρ (.Compare a [op] [b] pos) c :=
  ⟨(pe_cmpR (X := X.wish (Out X W)) (r := fun _ _ _ _ => False) (fun _ _ _ _ _ _ _ _ _ _ _ _ h => h.elim) h.pe pe_never hm).mono fun σ H Q q => q⟩
theorem ex_or1 {rest : List Expr} (h : EX X W ρ a c) : EX X W ρ (.BoolOp .Or (a :: b :: rest) pos) c :=
  ⟨(pe_or (X := X.wish (Out X W)) h.pe pe_never).mono fun σ H Q q => q⟩
end
end L2
namespace TR
open PySem PySem.Spec PyProof.Rows
open AutoSeq1 (wpAny_loadPart')
section
variable {prog : Program} {w : World} {A : Around} {E : Value → Shared → Prop} {s : Shared} {r : Addr} {b : Int} {t u v : Tok} {n : Nat}
theorem collect_range {Q : List Value → Shared → Prop} (hh : A.handled = none) (hr : IsRange s.heap r 0 b 1 t u v) (hs : Builtin.Range.small 0 b 1 = true) (hn : Builtin.Range.rangeSize 0 b 1 = n) (hz : n ≤ 2 ^ 24)
    (hQ : ∀ (h' : Heap) (tk : Nat) (acc : Array Value), (∀ b o, s.heap.get? b = some o → h'.get? b = some o) → ItemsOf (fun i v => ∃ t, v = .int (0 + (i : Int) * 1) t) acc n → Q acc.toList { s with heap := h', toks := tk }) : wpAny (model prog w) A (collect (.ref r)) Q E s := by
  unfold collect
  refine wpAny_bind (wpAny_runValue (codeAny_builtin F.entry_proto_collect ?_))
  rw [Around.under_plainId F.plain_proto_collect _]
  show wpAny _ A.in1 (newList [] >>= fun l => again (.builtin "list.__iadd__" ⟨[l, .ref r], []⟩)) _ _ s
  refine wpAny_bind (wpAny_newObj_type (wpAny_pure ⟨plainId_quiet F.plain_list_iadd _, codeAny_builtin F.entry_list_iadd ?_⟩))
  rw [Around.under_plainId F.plain_list_iadd _]
  show wpAny _ A.in1 (Builtin.List.listExtendWith (.ref s.heap.objs.size) (.ref r) (.ref s.heap.objs.size)) _ _ _
  have hS : (s.heap.push { cls := .type "list", data := .seq ([] : List Value).toArray }).get? s.heap.objs.size = some { cls := .type "list", data := .seq #[] 0 } := Heap.get?_push_size _ rfl
  refine wpAny_mono (wpAny_extend_range (A := A) (R := fun rr s' => ∃ (h' : Heap) (tk : Nat) (acc : Array Value) (c' : Nat), rr = .ok (.ret (.ref s.heap.objs.size)) ∧ s' = { s with heap := h', toks := tk } ∧ (∀ b o, s.heap.get? b = some o → h'.get? b = some o) ∧ h'.get? s.heap.objs.size = some { cls := .type "list", dict := none, data := .seq acc c', slots := #[] } ∧ ItemsOf (fun i v => ∃ t, v = .int (0 + (i : Int) * 1) t) acc n)
    (s := { s with heap := s.heap.push { cls := .type "list", data := .seq ([] : List Value).toArray } }) hh (Heap.get?_push_of_some _ hr) hs hn hz _ _ 0 hS fun h' tk acc c' hk hS' hacc => ⟨h', tk, acc, c', rfl, rfl, fun b o e => hk b o (Nat.ne_of_lt (Heap.lt_size e)) (Heap.get?_push_of_some _ e), hS', hacc⟩) (fun fin s' h => ?_) (fun e s' h => ?_)
  · have fin' : ∀ {s' : Shared} {rr : Result}, (∃ (h' : Heap) (tk : Nat) (acc : Array Value) (c' : Nat), rr = .ok (.ret (.ref s.heap.objs.size)) ∧ s' = { s with heap := h', toks := tk } ∧ (∀ b o, s.heap.get? b = some o → h'.get? b = some o) ∧ h'.get? s.heap.objs.size = some { cls := .type "list", dict := none, data := .seq acc c', slots := #[] } ∧ ItemsOf (fun i v => ∃ t, v = .int (0 + (i : Int) * 1) t) acc n) →
        rr = .ok (.ret (.ref s.heap.objs.size)) ∧ wpAny (model prog w) A (load s.heap.objs.size >>= fun o => match o.data with | .seq xs _ => pure xs.toList | _ => unsupported "internal:collect") Q E s' := fun {s' rr} h => by
      obtain ⟨h', tk, acc, c', e1, rfl, hk, hS', hacc⟩ := h
      exact ⟨e1, wpAny_bind (wpAny_load hS' (wpAny_pure (hQ h' tk acc hk hacc)))⟩
    cases fin with
    | done f =>
      obtain ⟨e, q⟩ := fin' h
      cases e
      exact q
    | again c' => exact ⟨h.1, codeAny_mono h.2 fun r s'' hr => by obtain ⟨e, q⟩ := fin' hr; subst e; exact q⟩
  · obtain ⟨_, _, _, _, e1, _⟩ := h
    cases e1
end
theorem meets_new (r : Addr) (b : Int) (t u v : Tok) (n : Nat) (hz : n ≤ 2 ^ 20) : Meets (Builtin.«tuple.__new__» ⟨[.type "tuple", .ref r], []⟩)
    (fun A R s => A.handled = none ∧ IsRange s.heap r 0 b 1 t u v ∧ Builtin.Range.small 0 b 1 = true ∧ Builtin.Range.rangeSize 0 b 1 = n ∧ ∀ (h' : Heap) (tk : Nat) (acc : Array Value), (∀ b o, s.heap.get? b = some o → h'.get? b = some o) → ItemsOf (fun i v => ∃ t, v = .int (0 + (i : Int) * 1) t) acc n →
      R (.ok (.ret (.ref h'.objs.size))) { s with heap := h'.push { cls := .type "tuple", data := .seq acc }, toks := tk }) :=
  .of_wp fun prog w A R s h => by
    obtain ⟨hh, hr, hs, hn, h⟩ := h
    have hsub := sub_tuple_self
    have hinit := init_tuple_lookup
    have hmh := madeHere_tuple
    have hT : s.TypeIs (.ref r) "range" := ⟨_, hr, rfl⟩
    have hh1 : A.in1.handled = none := hh
    have hz2 : n ≤ 2 ^ 24 := Nat.le_trans hz (by decide)
    wp_walk using wpAny_loadPart' hr, wpAny_typeOf hT, collect_range hh1 hr hs hn hz2
    intro h' tk acc hk hacc
    show wpAny _ _ (Builtin.Tuple.tupleExact acc.toList.toArray >>= fun v => ret v) _ _ _
    unfold Builtin.Tuple.tupleExact
    have hl : acc.toList.toArray.size ≤ sizeLine := by
      simp only [Array.toArray_toList]
      rw [hacc.1]
      exact Nat.le_trans hz (by decide)
    refine wpAny_bind (wpAny_newObj_type ?_ hl)
    refine wpAny_pure ⟨_, rfl, ?_⟩
    have e : acc.toList.toArray = acc := by simp
    rw [e]
    exact h h' tk acc hk hacc
theorem call_tuple_range {prog : Program} {w : World} {A : Around} {E : Value → Shared → Prop} {s : Shared} {r : Addr} {b : Int} {t u v : Tok} {n : Nat} {Q : Value → Shared → Prop} (hh : A.handled = none) (hr : IsRange s.heap r 0 b 1 t u v) (hs : Builtin.Range.small 0 b 1 = true) (hn : Builtin.Range.rangeSize 0 b 1 = n) (hz : n ≤ 2 ^ 20)
    (h : ∀ (h' : Heap) (tk : Nat) (acc : Array Value), (∀ b o, s.heap.get? b = some o → h'.get? b = some o) → ItemsOf (fun i v => ∃ t, v = .int (0 + (i : Int) * 1) t) acc n → Q (.ref h'.objs.size) { s with heap := h'.push { cls := .type "tuple", data := .seq acc }, toks := tk }) : wpAny (model prog w) A (call (.type "tuple") [.ref r]) Q E s :=
  callType_new F.called_tuple (by decide) (F.typeCall_tuple_1 _) (F.newCall_tuple_1 _) (fun obj => F.args_object_init_2 obj _) F.entry_tuple_new (meets_new r b t u v n hz) ⟨hh, hr, hs, hn, fun h' tk acc hk hacc => ⟨⟨_, Heap.get?_push_size _ rfl, rfl⟩, h h' tk acc hk hacc⟩⟩
end TR
namespace L2
open PySem PySem.Spec PyProof.Rows
def iotaV (n : Nat) : List V := (List.range n).map fun (k : Nat) => .int (k : Int)
section
variable {X : Cx} {a : Expr} {p p2 pos pos2 : Pos} {ρ ρ1 : List Ow}
def tTupR (ta : TA) : TE := fun σ H Q => ta σ H fun vs H1 => ∃ n : Nat, vs = [.int (n : Int)] ∧ n ≤ 1000 ∧ ∀ l, H1 l = none → Q (.ref l) (upd H1 l (.tup (iotaV n)))
theorem pe_tuprange {ta : TA} (hc : X.calm = true) (hg : Gl X "tuple") (hm : X.mg "tuple" = none) (hg2 : Gl X "range") (hm2 : X.mg "range" = none) (ha : PA X [a] ta) (hs : starEach [a] X.env = [(false, eval a X.env)])
    (hs2 : starEach [.Call (.Name "range" p2) [a] [] pos2] X.env = (false, eval (.Call (.Name "range" p2) [a] [] pos2) X.env) :: starEach [] X.env) : PE X (.Call (.Name "tuple" p) [.Call (.Name "range" p2) [a] [] pos2] [] pos) (tTupR ta) := by
  intro pins s σ H Q I h
  refine wpAny_Call_Name_kw (ld_blt I hg hm (u := .type "tuple") (by decide +kernel) ?_)
  refine PyProof.Rows.callWith_type1 ?_ hs2 rfl
  rw [hs2]
  refine Calls.spliced_cons ?_
  refine wpAny_Call_Name_kw (ld_blt I hg2 hm2 (u := .type "range") (by decide +kernel) ?_)
  refine PyProof.Rows.callWith_type1 (thn (ha pos2 pins s σ H _ I h) fun us s1 ⟨vs, H1, I1, r1, n, e, hn, q⟩ => ?_) hs rfl
  subst e
  cases r1 with
  | cons r rr =>
    cases rr
    obtain ⟨t, rfl⟩ := r
    refine call_range_1 (Calls.spliced_nil ?_)
    have hsz : Builtin.Range.rangeSize 0 (n : Int) 1 = (n : Nat) := by rw [rangeSize_one]; split <;> omega
    refine TR.call_tuple_range (I1.ok.hd hc) (IsRange.new ..) (small_one (by omega) (by omega) (by omega) (by omega)) hsz (Nat.le_trans hn (by decide)) fun h' tk acc hk hacc => ?_
    have k2 : ∀ b o, s1.heap.get? b = some o → h'.get? b = some o := fun b o e => hk b o (Heap.get?_push_of_some _ e)
    have I2 : Inv X pins σ H1 { s1 with heap := h', toks := tk } := I1.kept k2
    have hf : H1 h'.objs.size = none := I2.hok.fresh (Nat.le_refl _)
    refine ⟨.ref h'.objs.size, upd H1 h'.objs.size (.tup (iotaV n)), I2.laid (fun b u e => Heap.get?_push_of_some _ e) (Nat.le_refl _) ?_, rfl, q _ hf⟩
    refine ⟨by simp [iotaV]; exact Nat.le_trans hn (by decide), acc.toList, ?_, ⟨_, Heap.get?_push_size _ rfl, ⟨rfl, rfl⟩, _, rfl⟩⟩
    have hl : acc.toList.length = n := by rw [Array.length_toList, hacc.1]
    have go : ∀ (m k : Nat) (l : List Value), l.length = m → (∀ (j : Nat) v, l[j]? = some v → ∃ t, v = .int (((k + j : Nat)) : Int) t) → Vals ((List.range' k m).map fun (k : Nat) => V.int (k : Int)) l := by
      intro m
      induction m with
      | zero =>
        intro k l hl _
        cases l with
        | nil => exact .nil
        | cons _ _ => simp at hl
      | succ m ih =>
        intro k l hl hv
        cases l with
        | nil => simp at hl
        | cons x l =>
          rw [List.range'_succ, List.map_cons]
          obtain ⟨t0, e0⟩ := hv 0 x rfl
          refine .cons ⟨t0, by simpa using e0⟩ (ih (k + 1) l (by simpa using hl) fun j v hj => ?_)
          obtain ⟨t1, e1⟩ := hv (j + 1) v (by simpa using hj)
          exact ⟨t1, by rw [e1]; congr 1; omega⟩
    have := go n 0 acc.toList hl fun j v hj => by
      obtain ⟨t1, e1⟩ := hacc.2 j v (by rw [← Array.getElem?_toList]; exact hj)
      exact ⟨t1, by rw [e1]; congr 1; omega⟩
    unfold iotaV
    rw [List.range_eq_range']
    exact this
theorem ev_tuprange {n : Nat} (hm : X.mg "tuple" = none) (hm2 : X.mg "range" = none) (ha : EA X ρ [a] [.int (n : Int)] ρ1) (hn : n ≤ 1000) (hc : X.calm = true := by rfl) (hg : Gl X "tuple" := by rfl) (hg2 : Gl X "range" := by rfl) (hs : starEach [a] X.env = [(false, eval a X.env)] := by rfl)
    (hs2 : starEach [.Call (.Name "range" p2) [a] [] pos2] X.env = (false, eval (.Call (.Name "range" p2) [a] [] pos2) X.env) :: starEach [] X.env := by rfl) : EV X ρ (.Call (.Name "tuple" p) [.Call (.Name "range" p2) [a] [] pos2] [] pos) (.dat (.tuple (((List.range n).map fun (k : Nat) => (k : Int)).map .int))) ρ1 := by
  refine ⟨(pe_tuprange hc hg hm hg2 hm2 ha.pa hs hs2).mono fun σ H Q ⟨F, τ, R, q⟩ => ⟨F, τ, R, fun vs H1 hl R1 => ?_⟩⟩
  obtain ⟨Hm, h3, h4, h5⟩ := R1.open hl
  obtain ⟨v, rfl, hv⟩ := h4.one
  cases hv
  refine ⟨n, rfl, hn, fun l hl2 => ?_⟩
  have hd : DpAll X.K Hm (iotaV n) (((List.range n).map fun (k : Nat) => (k : Int)).map .int) := by
    unfold iotaV
    generalize List.range n = xs
    induction xs with
    | nil => exact .nil
    | cons k xs ih => exact .cons (.int _) ih
  exact (h5 _ Q q).tup h3 hd hl2
end
end L2
namespace L2
open PySem PySem.Spec PyProof.Rows
section
variable {prog : Program} {w : World} {A : Around} {E : Value → Shared → Prop} {s : Shared}
end
section
variable {X : Cx} {W : Value → Hp → Prop} {ρ : List Ow} {O : Oc → Prop} {w : Option Addr} {C : Addr} {ts : Fs} {f x : Str} {e : Expr} {pos : Pos} {ds : List PyData}
end
end L2
namespace L2
open PySem PySem.Spec PyProof.Rows
section
variable {X : Cx} {W : Value → Hp → Prop} {ρ ρ1 ρ2 : List Ow} {a b e tg : Expr} {es : List Expr} {ss : List Stmt} {pos : Pos} {d : PyData} {ds : List PyData} {O : Oc → Prop} {s : Ow} {w w2 : Option Addr} {C C2 : Addr} {ts ts2 ts' : Fs} {x m f : Str} {k : Nat} {ps : List Str} {S : Fs → List PyData → Fs → Rs → Prop} {c : Value}
theorem s1_asgX (h : EX X W ρ e c) (o : O (.xc c ρ)) (hs : swapsWithSole [tg] e pos.line X.env = pure false := by rfl) (hw : swappedStores [tg] e X.env = pure none := by rfl) (h1 : (assignEach [tg] X.env).map (·.2) = [assign tg X.env] := by rfl) : S1 (X.wish (Out X W)) W ρ (.Assign [tg] e pos) O :=
  ⟨(ps_asg (X := X.wish (Out X W)) (g := fun _ _ _ _ => False) h.pe (fun _ _ _ _ _ _ _ _ _ z => z.elim) hs hw h1).mono fun D σ H ⟨F, τ, R, _, _, _, _, h5⟩ => ⟨F, τ, R, fun H1 R1 => h5 c ρ σ H1 o R1⟩⟩
theorem set_same {α : Type} {l : List α} {i : Nat} {y : α} (h : l[i]? = some y) : l.set i y = l := by
  refine List.ext_getElem? fun j => ?_
  by_cases z : i = j
  · subst z
    rw [List.getElem?_set_self (List.getElem?_eq_some_iff.mp h).1, h]
  · rw [List.getElem?_set_ne z]
theorem Rel.callTX {F : Fr} {σ : St} {τ : Sls} {H : Hp} {vs : List V} {b : Addr} {Q : VK} {E : XK} (R : Rel X.K F ρ σ (τ ++ [(some (.ref b), .obj w2 C2 ts2)] ++ (vs.map some).zip (ds.map Ow.dat)) H) (hl : vs.length = ds.length) (hS : S ts2 ds ts2 (.no c)) (q : ∀ H', Rel X.K F ρ σ (τ ++ [(some (.ref b), .obj w2 C2 ts2)] ++ [(some .non, .no)]) H' → E c none H') : spM X.K C2 ds.length S (.ref b :: vs) H Q E := by
  obtain ⟨hz, Hm, fps, M⟩ := R
  rw [← List.append_assoc, ← List.append_assoc] at M
  generalize hL : σ.zip ρ ++ τ = L at M
  have M0 : Mem X.K F (L ++ [(some (V.ref b), Ow.obj w2 C2 ts2)]) Hm H fps := M.pick id (fun i x h => by
    have := (List.getElem?_eq_some_iff.mp h).1
    show ((L ++ [(some (V.ref b), Ow.obj w2 C2 ts2)]) ++ _)[i]? = _
    rw [List.getElem?_append_left this]
    exact h) fun i j _ _ n => n
  have hz0 : (L ++ [(some (V.ref b), Ow.obj w2 C2 ts2)])[L.length]? = some (some (.ref b), .obj w2 C2 ts2) := by simp
  have ho := M0.ok _ _ _ hz0
  refine ⟨b, vs, Hm, fps L.length, ts2, ts2, ds, .no c, rfl, hl, M.sub, ho.reown (fun b z => (Option.some.inj z).symm), fun c hc => (M0.own L.length (by simp) c hc).2.1, M.datas hl, hS, fun fp' Hm' H' B => q H' ?_⟩
  have M1 := M0.called hz0 B (s := .no) (v := .non) (fs := []) .no (by simp)
  rw [set_same hz0, ← hL] at M1
  have e3 : σ.zip ρ ++ (τ ++ [(some (V.ref b), Ow.obj w2 C2 ts2)] ++ [(some V.non, Ow.no)]) = σ.zip ρ ++ τ ++ [(some (V.ref b), Ow.obj w2 C2 ts2)] ++ [(some V.non, Ow.no)] := by simp
  exact ⟨hz, Hm', _, e3 ▸ M1⟩
end
end L2
namespace L2
open PySem PySem.Spec PyProof.Rows
section
variable {X : Cx} {W : Value → Hp → Prop} {ρ ρ1 ρ2 : List Ow} {o e : Expr} {es : List Expr} {pos : Pos} {d : PyData} {ds : List PyData} {s : Ow} {w : Option Addr} {C : Addr} {ts ts' : Fs} {x m f : Str} {k : Nat} {ps : List Str} {S : Fs → List PyData → Fs → Rs → Prop}
end
end L2
namespace L2
open PySem PySem.Spec PyProof.Rows
theorem OwAt.notup {K : PySem.W.Frag} {Hm H : Hp} {s : Ow} {o : Option V} {fp : List Addr} (h : OwAt K Hm H s o fp) : ∀ a ∈ fp, ∀ xs, H a ≠ some (.tup xs) := by
  induction h with
  | no => intro a m; cases m
  | dat _ => intro a m; cases m
  | lst h _ => intro a m xs z; simp at m; subst m; rw [h] at z; cases z
  | @obj a C dx w fs ts val g h0 h1 h2 h3 h4 h5 h6 h7 h8 h9 ih =>
    intro b m xs z
    rcases List.mem_cons.mp m with rfl | m
    · rw [h1] at z; cases z
    rcases List.mem_cons.mp m with rfl | m
    · rw [h2] at z; cases z
    obtain ⟨f, hf, hb⟩ := List.mem_flatMap.mp m
    obtain ⟨s, hs⟩ := key_lookup hf
    exact ih f s hs b hb xs z
  | rob _ _ _ => intro a m; cases m
  | exc h => intro a m xs z; simp at m; subst m; rw [h] at z; cases z
  | hol => intro a m; cases m
  | tab h _ _ => intro a m xs z; simp at m; subst m; rw [h] at z; cases z
  | dic h => intro a m xs z; simp at m; subst m; rw [h] at z; cases z
  | lls e1 e2 e3 e4 e5 =>
    intro c hc xs z
    rcases List.mem_cons.mp hc with rfl | hc
    · rw [e1] at z; cases z
    obtain ⟨i, hi⟩ := List.getElem?_of_mem hc
    obtain ⟨vs, q, _⟩ := e5 i c _ hi (List.getElem?_eq_getElem (by rw [← e4]; exact (List.getElem?_eq_some_iff.mp hi).1))
    rw [q] at z; cases z
section
variable {K : PySem.W.Frag} {F : Fr} {ρ : List Ow} {σ : St} {τ : Sls} {H : Hp}
theorem Rel.frame (R : Rel K F ρ σ τ H) : ∃ F', Rel K F' ρ σ τ H ∧ (∀ ρ' σ' τ' H', Rel K F' ρ' σ' τ' H' → Rel K F ρ' σ' τ' H') ∧ ∀ ρ' σ' τ' H' a xs, H a = some (.tup xs) → Rel K F' ρ' σ' τ' H' → H' a = some (.tup xs) := by
  obtain ⟨hl, Hm, fps, M⟩ := R
  have back : ∀ a, H a = none → F.H a = none ∨ F.md a := fun a z => by
    cases y : F.H a with
    | none => exact .inl rfl
    | some u =>
      by_cases w : F.md a
      · exact .inr w
      · rw [M.ent a u y w] at z; cases z
  refine ⟨⟨Hm, H, fun c => ∃ i, i < (σ.zip ρ ++ τ).length ∧ c ∈ fps i⟩, ⟨hl, Hm, fps, ⟨M.sub, fun a o e _ => e, Same.refl _, fun a h => .inl h, M.ok, fun i hi a m => ⟨.inr ⟨i, hi, m⟩, (M.own i hi a m).2⟩, M.dis⟩⟩, fun ρ' σ' τ' H' ⟨hl', Hm', fps', M'⟩ => ⟨hl', Hm', fps', ⟨M'.sub, fun a o e n => ?_, M.old.trans M'.old, fun a h => ?_, M'.ok, fun i hi a m => ⟨?_, (M'.own i hi a m).2⟩, M'.dis⟩⟩, fun ρ' σ' τ' H' a xs e ⟨hl', Hm', fps', M'⟩ => ?_⟩
  · refine M'.ent a o (M.ent a o e n) fun ⟨i, hi, m⟩ => ?_
    rcases (M.own i hi a m).1 with z | z
    · rw [z] at e; cases e
    · exact n z
  · rcases M'.new a h with z | z | ⟨i, hi, m⟩
    · exact M.new a z
    · exact .inr (back a z)
    · exact .inr (M.own i hi a m).1
  · rcases (M'.own i hi a m).1 with z | ⟨j, hj, m'⟩
    · exact back a z
    · exact (M.own j hj a m').1
  · refine M'.ent a _ e fun ⟨i, hi, m⟩ => ?_
    have hi' : i < (σ.zip ρ ++ τ).length := hi
    obtain ⟨q, hq⟩ : ∃ q, (σ.zip ρ ++ τ)[i]? = some q := ⟨_, List.getElem?_eq_getElem hi'⟩
    exact (M.ok i q.1 q.2 hq).notup a m xs e
theorem Rel.grown {H' : Hp} (R : Rel K F ρ σ τ H) (sm : Same H H') : Rel K F ρ σ τ H' := by
  obtain ⟨hl, Hm, fps, M⟩ := R
  exact ⟨hl, Hm, fps, M.grow (Same.refl _) (M.sub.trans sm) sm New.refl⟩
theorem Rel.pin {i : Nat} {w : Option Addr} {C : Addr} {ts : Fs} (R : Rel K F ρ σ τ H) (h : ρ[i]? = some (.obj w C ts)) : ∃ b, σ[i]? = some (some (.ref b)) ∧ (∀ c, w = some c → c = b) ∧ Rel K F (ρ.set i (.obj (some b) C ts)) σ τ H := by
  obtain ⟨Hm, o, fp, e1, sm, ho, _, _⟩ := R.slot h
  obtain ⟨a, dx, fs, val, g, rfl, _, hw, _⟩ := ho.obj_inv
  refine ⟨a, e1, hw, ?_⟩
  obtain ⟨hl, Hm, fps, M⟩ := R
  have hi : i < ρ.length := (List.getElem?_eq_some_iff.mp h).1
  have hs : i < σ.length := by omega
  have es : σ[i] = some (.ref a) := by
    rw [List.getElem?_eq_getElem hs] at e1
    exact Option.some.inj e1
  have hz : (σ.zip ρ).length = ρ.length := by simp [hl]
  refine ⟨by rw [List.length_set]; exact hl, Hm, fps, ⟨M.sub, M.ent, M.old, M.new, fun j o s e => ?_, fun j hj => M.own j (by simpa using hj), fun j k hj hk => M.dis j k (by simpa using hj) (by simpa using hk)⟩⟩
  by_cases hj : j = i
  · subst hj
    rw [List.getElem?_append_left (by rw [List.length_zip, List.length_set]; omega), List.getElem?_zip_eq_some, List.getElem?_set_self hi] at e
    obtain ⟨q1, q2⟩ := e
    dsimp only at q1 q2
    cases q2
    rw [List.getElem?_eq_getElem hs, es] at q1
    cases q1
    have ho2 := M.ok j (some (.ref a)) (.obj w C ts) (by
      rw [List.getElem?_append_left (by omega), List.getElem?_zip_eq_some]
      exact ⟨by rw [List.getElem?_eq_getElem hs, es], h⟩)
    exact ho2.reown fun b z => (Option.some.inj z).symm
  · refine M.ok j o s ?_
    by_cases hj2 : j < ρ.length
    · rw [List.getElem?_append_left (by rw [List.length_zip, List.length_set]; omega), List.getElem?_zip_eq_some, List.getElem?_set_ne (Ne.symm hj)] at e
      rw [List.getElem?_append_left (by omega), List.getElem?_zip_eq_some]
      exact e
    · rw [List.getElem?_append_right (by rw [List.length_zip, List.length_set]; omega)] at e
      rw [List.getElem?_append_right (by omega)]
      rw [List.length_zip, List.length_set] at e
      rw [List.length_zip]
      exact e
end
section
variable {X : Cx} {W : Value → Hp → Prop} {ρ : List Ow} {O : Oc → Prop} {w1 w2 : Option Addr} {C1 C2 : Addr} {ts1 ts2 : Fs} {body : List Stmt}
end
end L2
namespace L2
open PySem PySem.Spec PyProof.Rows
section
variable {X : Cx} {ρ : List Ow} {w : Option Addr} {C : Addr} {ts : Fs} {f x : Str} {pos : Pos} {ds : List PyData}
end
end L2
namespace L2
open PySem PySem.Spec PyProof.Rows
section
variable {K : PySem.W.Frag} {F : Fr} {ρ : List Ow} {σ : St} {τ : Sls} {H : Hp} {L : Sls} {Hm : Hp} {fps : Nat → List Addr}
theorem Mem.pickG {L' : Sls} (M : Mem K F L Hm H fps) (f : Nat → Option Nat) (h : ∀ i o s, L'[i]? = some (o, s) → (f i = none ∧ s = .no) ∨ ∃ j o', f i = some j ∧ L[j]? = some (o', s) ∧ (o' = o ∨ ∃ P q, s = .tab P q))
    (inj : ∀ i i' j, i < L'.length → i' < L'.length → f i = some j → f i' = some j → i = i') : Mem K F L' Hm H (fun i => match f i with | some j => fps j | none => []) := by
  refine ⟨M.sub, M.ent, M.old, M.new, fun i o s e => ?_, fun i hi a m => ?_, fun i j hi hj n a m m2 => ?_⟩
  · rcases h i o s e with ⟨e1, rfl⟩ | ⟨j, o', e1, e2, e3⟩
    · simp only [e1]
      exact .no
    · simp only [e1]
      have ok := M.ok j o' s e2
      rcases e3 with rfl | ⟨P, q, rfl⟩
      · exact ok
      · generalize fps j = fp at ok
        cases ok with
        | tab h1 h2 h3 => exact .tab h1 h2 h3
  · obtain ⟨⟨o, s⟩, e⟩ : ∃ p, L'[i]? = some p := ⟨_, List.getElem?_eq_getElem hi⟩
    rcases h i o s e with ⟨e1, rfl⟩ | ⟨j, o', e1, e2, _⟩
    · simp only [e1] at m
      cases m
    · simp only [e1] at m
      exact M.own j (List.getElem?_eq_some_iff.mp e2).1 a m
  · obtain ⟨⟨o, s⟩, e⟩ : ∃ p, L'[i]? = some p := ⟨_, List.getElem?_eq_getElem hi⟩
    obtain ⟨⟨o2, s2⟩, e'⟩ : ∃ p, L'[j]? = some p := ⟨_, List.getElem?_eq_getElem hj⟩
    rcases h i o s e with ⟨e1, rfl⟩ | ⟨i1, o', e1, e2, _⟩
    · simp only [e1] at m
      cases m
    · rcases h j o2 s2 e' with ⟨d1, rfl⟩ | ⟨j1, o2', d1, d2, _⟩
      · simp only [d1] at m2
        cases m2
      · simp only [e1] at m
        simp only [d1] at m2
        exact M.dis i1 j1 (List.getElem?_eq_some_iff.mp e2).1 (List.getElem?_eq_some_iff.mp d2).1 (fun z => n (inj i j i1 hi hj e1 (by rw [d1, z]))) a m m2
theorem Rel.reown {i : Nat} {w : Option Addr} {b C : Addr} {ts : Fs} (R : Rel K F ρ σ τ H) (h : ρ[i]? = some (.obj (some b) C ts)) (hw : ∀ c, w = some c → c = b) : Rel K F (ρ.set i (.obj w C ts)) σ τ H := by
  obtain ⟨Hm, o, fp, e1, sm, ho, _, _⟩ := R.slot h
  obtain ⟨a, dx, fs, val, g, rfl, _, hb, _⟩ := ho.obj_inv
  obtain rfl := hb b rfl
  obtain ⟨hl, Hm, fps, M⟩ := R
  have hi : i < ρ.length := (List.getElem?_eq_some_iff.mp h).1
  have hs : i < σ.length := by omega
  have es : σ[i] = some (.ref b) := by
    rw [List.getElem?_eq_getElem hs] at e1
    exact Option.some.inj e1
  have hz : (σ.zip ρ).length = ρ.length := by simp [hl]
  refine ⟨by rw [List.length_set]; exact hl, Hm, fps, ⟨M.sub, M.ent, M.old, M.new, fun j o s e => ?_, fun j hj => M.own j (by simpa using hj), fun j k hj hk => M.dis j k (by simpa using hj) (by simpa using hk)⟩⟩
  by_cases hj : j = i
  · subst hj
    rw [List.getElem?_append_left (by rw [List.length_zip, List.length_set]; omega), List.getElem?_zip_eq_some, List.getElem?_set_self hi] at e
    obtain ⟨q1, q2⟩ := e
    dsimp only at q1 q2
    cases q2
    rw [List.getElem?_eq_getElem hs, es] at q1
    cases q1
    have ho2 := M.ok j (some (.ref b)) (.obj (some b) C ts) (by
      rw [List.getElem?_append_left (by omega), List.getElem?_zip_eq_some]
      exact ⟨by rw [List.getElem?_eq_getElem hs, es], h⟩)
    exact ho2.reown hw
  · refine M.ok j o s ?_
    by_cases hj2 : j < ρ.length
    · rw [List.getElem?_append_left (by rw [List.length_zip, List.length_set]; omega), List.getElem?_zip_eq_some, List.getElem?_set_ne (Ne.symm hj)] at e
      rw [List.getElem?_append_left (by omega), List.getElem?_zip_eq_some]
      exact e
    · rw [List.getElem?_append_right (by rw [List.length_zip, List.length_set]; omega)] at e
      rw [List.getElem?_append_right (by omega)]
      rw [List.length_zip, List.length_set] at e
      rw [List.length_zip]
      exact e
end
def spT (K : PySem.W.Frag) (C Pt : Addr) (q : Str) (n : Nat) (S : Fs → List PyData → Fs → Ow → Prop) : Sp := fun vs H Q E => ∃ (a : Addr) (us : List V) (F : Fr) (o : Option V) (τ : Sls) (ts ts' : Fs) (ds : List PyData) (s : Ow), vs = .ref a :: us ∧ us.length = n ∧ ds.length = n ∧
  Rel K F [.obj (some a) C ts, .tab Pt q] [some (.ref a), o] (τ ++ (us.map some).zip (ds.map Ow.dat)) H ∧ S ts ds ts' s ∧ ∀ v H', Rel K F [.obj (some a) C ts', .tab Pt q] [some (.ref a), o] (τ ++ [(some v, s)]) H' → Q v H'
abbrev PDt (P : Program) (w : World) (K : PySem.W.Frag) (mg : Str → Option Value) (base : Heap) (k : Nat) (C Pt : Addr) (q x : Str) (ps : List Str) (S : Fs → List PyData → Fs → Ow → Prop) : Prop := DefX P w K mg base k x ps (spT K C Pt q (ps.length - 1) S)
section
variable {P : Program} {w : World} {K : PySem.W.Frag} {mg : Str → Option Value} {base : Heap}
theorem Rel.entryT {F : Fr} {N : List Str} {us : List V} {ds : List PyData} {n : Nat} {H : Hp} {C a Pt : Addr} {q : Str} {ts : Fs} {o : Option V} {τ : Sls} (R : Rel K F [.obj (some a) C ts, .tab Pt q] [some (.ref a), o] (τ ++ (us.map some).zip (ds.map Ow.dat)) H) (hu : us.length = n) (hd : ds.length = n) (hN : n + 2 ≤ N.length) :
    Rel K F (.obj (some a) C ts :: (ds.map Ow.dat ++ (List.replicate (N.length - (n + 2)) Ow.no ++ [.tab Pt q]))) (start N (.ref a :: us)) τ H := by
  obtain ⟨_, Hm, fps, M⟩ := R
  have hl : (start N (V.ref a :: us)).length = N.length := by unfold start; simp; omega
  have hr : (Ow.obj (some a) C ts :: (ds.map Ow.dat ++ (List.replicate (N.length - (n + 2)) Ow.no ++ [Ow.tab Pt q]))).length = N.length := by simp; omega
  refine ⟨by rw [hl, hr], Hm, _, M.pickG (fun i => if i = 0 then some 0 else if i ≤ n then some (2 + (τ.length + (i - 1))) else if i + 1 < N.length then none else if i + 1 = N.length then some 1 else some (2 + (i - N.length))) (fun i o' s e => ?_) fun i i' j hi hi' e e' => ?_⟩
  · by_cases hi : i < N.length
    · rw [List.getElem?_append_left (by rw [List.length_zip, hl, hr]; omega), List.getElem?_zip_eq_some] at e
      obtain ⟨q1, q2⟩ := e
      dsimp only at q1 q2
      by_cases h0 : i = 0
      · right
        subst h0
        unfold start at q1
        simp at q1 q2
        subst q1 q2
        exact ⟨0, _, if_pos rfl, rfl, .inl rfl⟩
      · obtain ⟨m, rfl⟩ : ∃ m, i = m + 1 := ⟨i - 1, by omega⟩
        rw [List.getElem?_cons_succ] at q2
        unfold start at q1
        rw [List.map_cons, List.cons_append, List.getElem?_cons_succ] at q1
        by_cases h1 : m + 1 ≤ n
        · right
          rw [List.getElem?_append_left (by simp; omega)] at q1 q2
          refine ⟨2 + (τ.length + m), o', by simp [h1], ?_, .inl rfl⟩
          rw [List.getElem?_append_right (by simp <;> omega), List.getElem?_append_right (by simp <;> omega)]
          rw [show 2 + (τ.length + m) - ((([some (V.ref a), o] : List (Option V)).zip [Ow.obj (some a) C ts, Ow.tab Pt q]).length) - τ.length = m by simp, List.getElem?_zip_eq_some]
          exact ⟨q1, q2⟩
        · rw [List.getElem?_append_right (by simp; omega)] at q2
          by_cases h2 : m + 1 + 1 < N.length
          · left
            rw [List.getElem?_append_left (by simp; omega), List.getElem?_replicate] at q2
            split at q2
            · cases q2
              exact ⟨by simp [h1, h2], rfl⟩
            · cases q2
          · right
            have h3 : m + 1 + 1 = N.length := by omega
            rw [List.getElem?_append_right (by simp; omega)] at q2
            rw [show m - (ds.map Ow.dat).length - (List.replicate (N.length - (n + 2)) Ow.no).length = 0 by simp; omega] at q2
            cases q2
            exact ⟨1, o, by simp [h1, h3], rfl, .inr ⟨_, _, rfl⟩⟩
    · right
      rw [List.getElem?_append_right (by rw [List.length_zip, hl, hr]; omega), List.length_zip, hl, hr, Nat.min_self] at e
      have hi2 : i - N.length < τ.length := (List.getElem?_eq_some_iff.mp e).1
      refine ⟨2 + (i - N.length), o', ?_, ?_, .inl rfl⟩
      · rw [if_neg (by omega), if_neg (by omega), if_neg (by omega), if_neg (by omega)]
      · rw [List.getElem?_append_right (by simp), List.getElem?_append_left (by simp; omega)]
        rw [show 2 + (i - N.length) - ((([some (V.ref a), o] : List (Option V)).zip [Ow.obj (some a) C ts, Ow.tab Pt q]).length) = i - N.length by simp]
        exact e
  · rw [List.length_append, List.length_zip, hl, hr, Nat.min_self] at hi hi'
    skip
    split at e <;> split at e' <;> (try split at e) <;> (try split at e') <;> (try split at e) <;> (try split at e') <;> (try split at e) <;> (try split at e') <;> simp only [Option.some.injEq, reduceCtorEq] at e e' <;> omega
theorem Rel.exitT {F : Fr} {ρ' : List Ow} {σ' : St} {τ x : Sls} {H' : Hp} {C a Pt : Addr} {q : Str} {ts' : Fs} {o : Option V} {it : Nat} (R : Rel K F ρ' σ' (τ ++ x) H') (h0 : ρ'[0]? = some (.obj (some a) C ts')) (h1 : ρ'[it]? = some (.tab Pt q)) : Rel K F [.obj (some a) C ts', .tab Pt q] [some (.ref a), o] (τ ++ x) H' := by
  obtain ⟨Hm0, o0, fp0, e1, sm, ho, _, _⟩ := R.slot h0
  obtain ⟨a', dx, fs, val, g, rfl, _, hb, _⟩ := ho.obj_inv
  obtain rfl := hb a rfl
  obtain ⟨hl, Hm, fps, M⟩ := R
  have hit : it ≠ 0 := fun z => by rw [z, h0] at h1; cases h1
  have hlt : it < ρ'.length := (List.getElem?_eq_some_iff.mp h1).1
  refine ⟨rfl, Hm, _, M.pickG (fun i => if i = 0 then some 0 else if i = 1 then some it else some (ρ'.length + (i - 2))) (fun i o' s e => ?_) fun i i' j hi hi' e e' => ?_⟩
  · right
    match i with
    | 0 =>
      simp at e
      obtain ⟨rfl, rfl⟩ := e
      refine ⟨0, _, rfl, ?_, .inl rfl⟩
      rw [List.getElem?_append_left (by rw [List.length_zip]; omega), List.getElem?_zip_eq_some]
      exact ⟨e1, h0⟩
    | 1 =>
      simp at e
      obtain ⟨rfl, rfl⟩ := e
      refine ⟨it, σ'[it]'(by omega), rfl, ?_, .inr ⟨_, _, rfl⟩⟩
      rw [List.getElem?_append_left (by rw [List.length_zip]; omega), List.getElem?_zip_eq_some]
      exact ⟨List.getElem?_eq_getElem (by omega), h1⟩
    | i + 2 =>
      refine ⟨ρ'.length + i, o', by simp, ?_, .inl rfl⟩
      rw [List.getElem?_append_right (by rw [List.length_zip]; omega)]
      rw [show ρ'.length + i - (σ'.zip ρ').length = i by rw [List.length_zip]; omega]
      simpa using e
  · skip
    split at e <;> split at e' <;> (try split at e) <;> (try split at e') <;> simp only [Option.some.injEq] at e e' <;> omega
theorem WhereC.defX {x : Str} {st : Stmt} {N ps : List Str} {k : Nat} {sp : Sp} {c : Addr} (Wc : WhereC K mg x st c) (W : Where K mg x st) (S : FnScope N ps (defScope st))
    (hb : ∀ (kV doc pm : Value) (an : Option Addr) (cdv ct : Value) (us : List Value), us.length = ps.length → bindArgs (PySem.W.fnOf x x (defArgs st) (defBody st) (defScope st) .none kV doc pm an cdv ct) ⟨us, []⟩ = pure (ps.zip us))
    (len : ∀ vs H Q E, sp vs H Q E → vs.length = ps.length)
    (hbody : ∀ (f : Addr) (A : Around) (outer : List Env) (s : Shared) (H : Hp) (vs : List V) (Q : VK) (E : XK), Room k (A.deeper (envOfC x (defScope st) s.heap.objs.size f (.ref c))) → sp vs H Q E →
      ∃ t, PSs (ctX P w K mg base N x (defScope st) f (.ref c) A outer s H E) (defBody st) t ∧ t { nx := fun _ H' => Q .non H', rt := Q } (start N vs) H) : DefX P w K mg base (k + 1) x ps sp := by
  obtain ⟨f, fd, F, hm⟩ := W.ex
  refine ⟨f, fd, hm, F.kp, F.binds hb, ?_⟩
  obtain ⟨oc, od, kV, doc, pm, an, cdv, ct, osl, rfl, lk, hcd⟩ := F.ex
  obtain ⟨f2, oc2, od2, an2, sl2, kV2, dc2, pm2, ct2, lk2, _, hm2⟩ := Wc.ex
  have ef := hm.symm.trans hm2
  injection ef with ef
  injection ef with ef
  subst ef
  have eo := Option.some.inj (lk.symm.trans lk2)
  have ed : (Data.func (PySem.W.fnOf x x (defArgs st) (defBody st) (defScope st) .none kV doc pm an cdv ct)) = .func (PySem.W.fnOf x x (defArgs st) (defBody st) (defScope st) .none kV2 dc2 pm2 an2 (.ref c) ct2) := congrArg Obj.data eo
  injection ed with ed
  have ec : cdv = .ref c := congrArg FuncData.code ed
  subst ec
  refine fn_of lk hcd S len fun A outer s H vs Q E hr hsp => ?_
  obtain ⟨t, h, q⟩ := hbody f A outer s H vs Q E hr hsp
  exact ⟨t, h.out fun e s2 => out_xe, q⟩
def ocT (C a Pt : Addr) (q : Str) (it : Nat) (ts' : Fs) (s : Ow) : Oc → Prop
  | .rt s' ρ => s' = s ∧ ρ[0]? = some (.obj (some a) C ts') ∧ ρ[it]? = some (.tab Pt q)
  | _ => False
theorem PDt.mk {x : Str} {C Pt c : Addr} {q : Str} {st : Stmt} {N ps : List Str} {k : Nat} {S : Fs → List PyData → Fs → Ow → Prop} (Wc : WhereC K mg x st c) (W : Where K mg x st) (Sc : FnScope N ps (defScope st)) (hps : 0 < ps.length) (hpN : ps.length + 1 ≤ N.length)
    (hb : ∀ (kV doc pm : Value) (an : Option Addr) (cdv ct : Value) (us : List Value), us.length = ps.length → bindArgs (PySem.W.fnOf x x (defArgs st) (defBody st) (defScope st) .none kV doc pm an cdv ct) ⟨us, []⟩ = pure (ps.zip us))
    (body : ∀ (f : Addr) (A : Around) (outer : List Env) (s : Shared) (H : Hp) (E : XK) (a : Addr) (ts ts' : Fs) (ds : List PyData) (r : Ow), Room k (A.deeper (envOfC x (defScope st) s.heap.objs.size f (.ref c))) → ds.length = ps.length - 1 → S ts ds ts' r →
      BS (ctX P w K mg base N x (defScope st) f (.ref c) A outer s H E) (fun C H' => E C none H') (.obj (some a) C ts :: (ds.map Ow.dat ++ (List.replicate (N.length - (ps.length + 1)) Ow.no ++ [.tab Pt q]))) (defBody st) (ocT C a Pt q (N.length - 1) ts' r)) : PDt P w K mg base (k + 1) C Pt q x ps S := by
  refine Wc.defX W Sc hb (fun vs H Q E h => ?_) fun f A outer s H vs Q E hr h => ?_
  · obtain ⟨a, us, F, o, τ, ts, ts', ds, r, rfl, hn, _⟩ := h
    simp
    omega
  · obtain ⟨a, us, F, o, τ, ts, ts', ds, r, rfl, hn, hd, R, hS, q⟩ := h
    have b := body f A outer s H E a ts ts' ds r hr hd hS
    have R0 := R.entryT (N := N) hn hd (by omega)
    rw [show ps.length - 1 + 2 = ps.length + 1 by omega] at R0
    exact ⟨_, b.ps, F, τ, R0, fun ρ' σ' H' o R' => o.elim, fun t ρ' v σ' H' ⟨e, e0, e1⟩ R' => q v H' (by subst e; exact R'.exitT e0 e1), fun ρ' σ' H' o R' => o.elim, fun ρ' σ' H' o R' => o.elim, fun c ρ' σ' H' o R' => o.elim⟩
end
section
variable {X : Cx} {ρ : List Ow} {es : List Expr} {pos : Pos} {ds : List PyData} {s : Ow} {w : Option Addr} {C Pt : Addr} {ts ts' : Fs} {x y q : Str} {k : Nat} {ps : List Str} {S : Fs → List PyData → Fs → Ow → Prop}
end
end L2
namespace L2
open PySem PySem.Spec PyProof.Rows
end L2
namespace L2
open PySem PySem.Spec PyProof.Rows TL
section
variable {X : Cx} {ρ ρ1 ρ2 : List Ow} {o e tg : Expr} {pos : Pos}
end
section
variable {X : Cx} {ρ ρ1 ρ2 : List Ow} {e : Expr} {es : List Expr} {pos : Pos} {ds : List PyData} {s : Ow} {w : Option Addr} {C : Addr} {ts ts' : Fs} {x : Str} {k : Nat} {ps : List Str} {S : Fs → List PyData → Fs → Rs → Prop}
end
end L2
namespace L2
open PySem PySem.Spec PyProof.Rows
section
variable {K : PySem.W.Frag} {F : Fr} {ρ : List Ow} {σ : St} {τ : Sls} {H : Hp}
theorem Rel.caught {ρ' : List Ow} {σ' : St} {x : Addr} {C : Value} {n i : Nat} (R : Rel K F ρ' σ' τ H) (hx : H x = none) (hi : i < n) : Rel K F ((List.replicate n Ow.no).set i (.exc C)) ((List.replicate n none).set i (some (.ref x))) τ (upd H x (.ext (ExcAt x C))) := by
  obtain ⟨hl, Hm, fps, M⟩ := R
  have M1 := M.grow (Same.refl Hm) (M.sub.trans (Same.upd (o := .ext (ExcAt x C)) hx)) (Same.upd hx) New.refl
  have hv : Hm x = none := by
    cases q : Hm x with
    | none => rfl
    | some u => rw [M.sub _ _ q] at hx; cases hx
  have hF : F.H x = none ∨ F.md x := by
    cases z : F.H x with
    | none => exact .inl rfl
    | some u =>
      by_cases y : F.md x
      · exact .inr y
      · rw [M.ent x u z y] at hx; cases hx
  have M2 := M1.snoc (o := some (.ref x)) (s := .exc C) (fp := [x]) (.exc upd_same) fun a ha => by
    simp at ha
    subst ha
    exact ⟨hF, hv, by rw [upd_same]; simp, fun j hj z => (M.own j hj a z).2.2 hx⟩
  have hz : (σ'.zip ρ').length = ρ'.length := by rw [List.length_zip]; omega
  have hlen : (((List.replicate n (none : Option V)).set i (some (.ref x))).zip ((List.replicate n Ow.no).set i (.exc C))).length = n := by simp
  refine ⟨by simp, Hm, _, M2.pickG (fun k => if k = i then some (ρ'.length + τ.length) else if k < n then none else some (ρ'.length + (k - n))) (fun k o s e => ?_) fun k k' j hk hk' e e' => ?_⟩
  · by_cases h1 : k = i
    · subst h1
      rw [List.getElem?_append_left (by rw [hlen]; exact hi), List.getElem?_zip_eq_some, List.getElem?_set_self (by simpa using hi), List.getElem?_set_self (by simpa using hi)] at e
      obtain ⟨q1, q2⟩ := e
      cases q1
      cases q2
      refine .inr ⟨ρ'.length + τ.length, some (.ref x), if_pos rfl, ?_, .inl rfl⟩
      rw [List.getElem?_append_right (by rw [List.length_append, hz]; omega), List.length_append, hz, Nat.sub_self]
      rfl
    · by_cases h2 : k < n
      · rw [List.getElem?_append_left (by rw [hlen]; exact h2), List.getElem?_zip_eq_some, List.getElem?_set_ne (Ne.symm h1), List.getElem?_set_ne (Ne.symm h1), List.getElem?_replicate, List.getElem?_replicate] at e
        obtain ⟨q1, q2⟩ := e
        dsimp only at q2
        rw [if_pos h2] at q2
        cases q2
        exact .inl ⟨by rw [if_neg h1, if_pos h2], rfl⟩
      · rw [List.getElem?_append_right (by rw [hlen]; omega), hlen] at e
        have hkt := (List.getElem?_eq_some_iff.mp e).1
        refine .inr ⟨ρ'.length + (k - n), o, by rw [if_neg h1, if_neg h2], ?_, .inl rfl⟩
        rw [List.getElem?_append_left (by rw [List.length_append, hz]; omega), List.getElem?_append_right (by rw [hz]; omega), hz, Nat.add_sub_cancel_left]
        exact e
  · rw [List.length_append, hlen] at hk hk'
    split at e <;> split at e' <;> (try split at e) <;> (try split at e') <;> simp only [Option.some.injEq, reduceCtorEq] at e e' <;> omega
theorem Rel.unset {i : Nat} (R : Rel K F ρ σ τ H) : Rel K F (ρ.set i .no) (σ.set i none) τ H := by
  obtain ⟨hl, Hm, fps, M⟩ := R
  have hz : (σ.zip ρ).length = ρ.length := by rw [List.length_zip]; omega
  have hz2 : ((σ.set i none).zip (ρ.set i .no)).length = ρ.length := by rw [List.length_zip, List.length_set, List.length_set]; omega
  refine ⟨by rw [List.length_set, List.length_set]; exact hl, Hm, _, M.pickG (fun k => if k = i ∧ k < ρ.length then none else some k) (fun k o s e => ?_) fun k k' j hk hk' e e' => ?_⟩
  · by_cases h2 : k < ρ.length
    · rw [List.getElem?_append_left (by rw [hz2]; exact h2), List.getElem?_zip_eq_some] at e
      obtain ⟨q1, q2⟩ := e
      dsimp only at q1 q2
      by_cases h1 : k = i
      · subst h1
        rw [List.getElem?_set_self h2] at q2
        cases q2
        exact .inl ⟨if_pos ⟨rfl, h2⟩, rfl⟩
      · rw [List.getElem?_set_ne (Ne.symm h1)] at q1 q2
        refine .inr ⟨k, o, if_neg fun z => h1 z.1, ?_, .inl rfl⟩
        rw [List.getElem?_append_left (by rw [hz]; exact h2), List.getElem?_zip_eq_some]
        exact ⟨q1, q2⟩
    · rw [List.getElem?_append_right (by rw [hz2]; omega), hz2] at e
      refine .inr ⟨k, o, if_neg fun z => h2 z.2, ?_, .inl rfl⟩
      rw [List.getElem?_append_right (by rw [hz]; omega), hz]
      exact e
  · split at e
    · cases e
    · split at e'
      · cases e'
      · simp only [Option.some.injEq] at e e'
        omega
end
section
variable {X : Cx} {W : Value → Hp → Prop} {ρ ρ1 : List Ow} {O : Oc → Prop} {body suite : List Stmt} {b0 : Stmt} {i : Nat} {n cn : Str} {Cc : Addr} {np hpos pos : Pos} {cls : Value}
theorem s1_try (i : Nat) (Ob Os : Oc → Prop) (nd : X.N.Nodup) (hm : X.mg cn = some (.ref Cc)) (hb : ∀ pins W', BS ((X.pinned pins).wish (Out (X.pinned pins) W')) W' ρ body Ob) (hc : ∀ C ρ', Ob (.xc C ρ') → C = cls) (hW : (∃ ρ', Ob (.xc cls ρ')) → PySem.W.exmOne X.K cls (.ref Cc) = some true)
    (hs : ∀ pins x, BS ((X.pinned pins).hand x) noW ((List.replicate ρ.length Ow.no).set i (.exc cls)) (b0 :: suite) Os)
    (o1 : ∀ ρ', Ob (.nx ρ') → O (.nx ρ')) (o2 : ∀ s ρ', Ob (.rt s ρ') → O (.rt s ρ')) (o3 : ∀ ρ', ¬ Ob (.bk ρ')) (o4 : ∀ ρ', ¬ Ob (.ct ρ'))
    (p1 : ∀ ρ', Os (.nx ρ') → O (.nx (ρ'.set i .no))) (p2 : ∀ s ρ', Os (.rt s ρ') → O (.rt s ρ')) (p3 : ∀ ρ', ¬ Os (.bk ρ')) (p4 : ∀ ρ', ¬ Os (.ct ρ')) (p5 : ∀ C ρ', ¬ Os (.xc C ρ')) (hil : i < ρ.length := by exact Nat.lt_of_succ_le (Nat.le_of_ble_eq_true rfl))
    (hi : X.N[i]? = some n := by rfl) (hlo : X.env.scope.names.lookup n = some .local := by rfl) (hst : X.stack = X.env :: X.outer := by rfl) (hfm : X.env.frame = some X.env.locals := by rfl) (hex : X.ex = [] := by rfl)
    (hg : Gl X cn := by rfl) (hdb : (cn == ("__debug__" : Str)) = false := by decide) :
    S1 X W ρ (.Try body [.ExceptHandler (some (.Name cn np)) (some n) (b0 :: suite) hpos] [] [] pos) O := by
  refine ⟨fun pins s σ H D I ⟨F, τ, R, h1, h2, h3, h4, h5⟩ => ?_⟩
  have hlen := R.1
  refine ps_try (tb := tBs X.K (fun C H' => ∃ ρ' σ', Ob (.xc C ρ') ∧ Rel X.K F ρ' σ' τ H') ρ Ob) (ts := tBs X.K noW ((List.replicate ρ.length Ow.no).set i (.exc cls)) Os) (W := fun C H' => ∃ ρ' σ', Ob (.xc C ρ') ∧ Rel X.K F ρ' σ' τ H') (fun pins => (hb pins _).ps) hm (fun C H' ⟨ρ', _, ho, _⟩ => by
    have e := hc C ρ' ho
    subst e
    exact hW ⟨ρ', ho⟩) (fun pins x => (hs pins x).ps) nd hi hlo hst hfm hex hg hdb pins s σ H D I ⟨?_, ?_⟩
  · exact ⟨F, τ, R, fun ρ' σ' H' o R' => h1 ρ' σ' H' (o1 ρ' o) R', fun t ρ' v σ' H' o R' => h2 t ρ' v σ' H' (o2 t ρ' o) R', fun ρ' _ _ o _ => absurd o (o3 ρ'), fun ρ' _ _ o _ => absurd o (o4 ρ'), fun C ρ' σ' H' o R' => ⟨ρ', σ', o, R'⟩⟩
  · rintro x C H' ⟨ρ', σ', ho, R'⟩ hx
    have e := hc C ρ' ho
    subst e
    rw [hlen]
    exact ⟨F, τ, R'.caught hx hil, fun ρ2 σ2 H2 o R2 => h1 _ _ H2 (p1 ρ2 o) R2.unset, fun t ρ2 v σ2 H2 o R2 => h2 t ρ2 v σ2 H2 (p2 t ρ2 o) R2, fun ρ2 _ _ o _ => absurd o (p3 ρ2), fun ρ2 _ _ o _ => absurd o (p4 ρ2), fun C ρ2 σ2 H2 o R2 => absurd o (p5 C ρ2)⟩
theorem ev_mvX (i : Nat) {x : Str} (h : ρ[i]? = some (.exc cls)) (hN : X.N[i]? = some x := by rfl) (hv : Vis X.env.scope x := by first | exact Or.inl rfl | exact Or.inr (Or.inl rfl) | exact Or.inr (Or.inr rfl)) (hd : (x == ("__debug__" : Str)) = false := by decide)
    (hcd : (x == ("__classdict__" : Str)) = false := by decide) : EV X ρ (.Name x pos) (.exc cls) (ρ.set i .no) := ⟨(pe_var hN hv hd hcd).mono fun σ H Q ⟨F, τ, R, q⟩ => by
  obtain ⟨Hm, o, fp, e1, sm, ho, _, _⟩ := R.slot h
  cases ho with
  | @exc a _ h1 => exact ⟨.ref a, e1, q _ _ (R.move h e1)⟩⟩
theorem et_isX (i : Nat) {x : Str} {p1 : Pos} (h : ρ[i]? = some (.exc cls)) (hN : X.N[i]? = some x := by rfl) (hv : Vis X.env.scope x := by first | exact Or.inl rfl | exact Or.inr (Or.inl rfl) | exact Or.inr (Or.inr rfl)) (hd : (x == ("__debug__" : Str)) = false := by decide)
    (hcd : (x == ("__classdict__" : Str)) = false := by decide) {e : Expr} (he : EV X ρ e (.dat .none) ρ) : ET X ρ (.Compare (.Name x p1) [.Is] [e] pos) false ρ := by
  refine ⟨(pt_cmpR op_isN (pe_var hN hv hd hcd) he.pe (nomark _)).mono fun σ H Q ⟨F, τ, R, q⟩ => ?_⟩
  obtain ⟨Hm, o, fp, e1, sm, ho, _, _⟩ := R.slot h
  cases ho with
  | @exc a _ h1 =>
    refine ⟨.ref a, e1, F, τ, R, fun u H2 R2 => ?_⟩
    obtain ⟨Hm2, g1, g2, _⟩ := R2.one
    cases g2
    exact ⟨rfl, false, rfl, q H2 R2.drop⟩
theorem s1_tryN (i : Nat) (Ob Os : Oc → Prop) (nd : X.N.Nodup) (hm : X.mg cn = some (.ref Cc)) (hb : ∀ pins W', BS ((X.pinned pins).wish (Out (X.pinned pins) W')) W' ρ body Ob) (hc : ∀ C ρ', ¬ Ob (.xc C ρ'))
    (hs : ∀ pins x, BS ((X.pinned pins).hand x) noW ((List.replicate ρ.length Ow.no).set i (.exc cls)) (b0 :: suite) Os)
    (o1 : ∀ ρ', Ob (.nx ρ') → O (.nx ρ')) (o2 : ∀ s ρ', Ob (.rt s ρ') → O (.rt s ρ')) (o3 : ∀ ρ', ¬ Ob (.bk ρ')) (o4 : ∀ ρ', ¬ Ob (.ct ρ'))
    (hi : X.N[i]? = some n := by rfl) (hlo : X.env.scope.names.lookup n = some .local := by rfl) (hst : X.stack = X.env :: X.outer := by rfl) (hfm : X.env.frame = some X.env.locals := by rfl) (hex : X.ex = [] := by rfl)
    (hg : Gl X cn := by rfl) (hdb : (cn == ("__debug__" : Str)) = false := by decide) :
    S1 X W ρ (.Try body [.ExceptHandler (some (.Name cn np)) (some n) (b0 :: suite) hpos] [] [] pos) O := by
  refine ⟨fun pins s σ H D I ⟨F, τ, R, h1, h2, h3, h4, h5⟩ => ?_⟩
  refine ps_try (tb := tBs X.K (fun C H' => False) ρ Ob) (ts := tBs X.K noW ((List.replicate ρ.length Ow.no).set i (.exc cls)) Os) (W := fun C H' => False) (fun pins => (hb pins _).ps) hm (fun C H' h => h.elim) (fun pins x => (hs pins x).ps) nd hi hlo hst hfm hex hg hdb pins s σ H D I ⟨?_, fun x C H' h => h.elim⟩
  exact ⟨F, τ, R, fun ρ' σ' H' o R' => h1 ρ' σ' H' (o1 ρ' o) R', fun t ρ' v σ' H' o R' => h2 t ρ' v σ' H' (o2 t ρ' o) R', fun ρ' _ _ o _ => absurd o (o3 ρ'), fun ρ' _ _ o _ => absurd o (o4 ρ'), fun C ρ' σ' H' o R' => absurd o (hc C ρ')⟩
end
end L2
namespace L2
open PySem PySem.Spec PyProof.Rows TL
section
variable {X : Cx} {ρ ρ1 ρ2 : List Ow} {a b : Expr} {pos : Pos}
end
section
variable {X : Cx} {W : Value → Hp → Prop} {ρ ρ1 ρ2 : List Ow} {o e : Expr} {es : List Expr} {pos p : Pos} {d : PyData} {ds : List PyData} {s : Ow} {w : Option Addr} {C : Addr} {c : Value} {ts ts' : Fs} {x m : Str} {k : Nat} {ps : List Str} {sp : Sp} {S : Fs → List PyData → Fs → Rs → Prop}
end
end L2
namespace L2
open PySem PySem.Spec PyProof.Rows
section
variable {K : PySem.W.Frag} {F : Fr} {ρ : List Ow} {σ : St} {τ : Sls} {H : Hp} {vs : List Nat}
end
section
variable {X : Cx} {ρ ρ2 ρ3 : List Ow} {a b c e tg iter elt : Expr} {ifs : List Expr} {scope : Scope} {es : List Expr} {pos : Pos} {vs : List Nat}
end
end L2
namespace EnS
open PySem PySem.Spec PyProof.Rows
section
variable {prog : Program} {w : World} {A : Around} {E : Value → Shared → Prop} {s : Shared}
theorem stepS {j : Addr} {n c0 : Nat} {z : Str} {tz : Tok} {ty : String} {Q : Value → Shared → Prop} (hty : ty = "str_ascii_iterator" ∨ ty = "str_iterator") (it : s.heap.IsStrIter j ty z tz n) (hx : z.cps[n]? = some c0)
    (k : ∀ h2, h2.IsStrIter j ty z tz (n + 1) → Heap.SameBut j s.heap h2 → Q (.str ⟨#[c0]⟩ s.toks) { s with heap := h2, toks := s.toks + 1 }) : wpAny (model prog w) A (Builtin.SmallTypes.nextOf (.ref j)) Q E s := by
  rcases hty with rfl | rfl
  · exact wpAny_nextOf_ascii_item it hx k
  · exact wpAny_nextOf_wide_item it hx k
theorem lastS {j : Addr} {n : Nat} {z : Str} {tz : Tok} {ty : String} {Q : Value → Shared → Prop} (calm : A.handled = none) (hty : ty = "str_ascii_iterator" ∨ ty = "str_iterator") (it : s.heap.IsStrIter j ty z tz n) (hx : z.cps[n]? = none)
    (k : ∀ h2 e, Heap.ExtBut j s.heap h2 → (∃ o, h2.get? e = some o ∧ o.cls = .type "StopIteration") → E (.ref e) { s with heap := h2 }) : wpAny (model prog w) A (Builtin.SmallTypes.nextOf (.ref j)) Q E s := by
  rcases hty with rfl | rfl
  · exact wpAny_nextOf_ascii_end calm it hx k
  · exact wpAny_nextOf_wide_end calm it hx k
theorem turn {e j : Addr} {i c0 : Nat} {z : Str} {tz : Tok} {ty : String} {old : Value} {Q : Value → Shared → Prop} (ge : IsEnum s.heap e j i old) (hty : ty = "str_ascii_iterator" ∨ ty = "str_iterator") (ij : s.heap.IsStrIter j ty z tz i) (at_i : z.cps[i]? = some c0) (ne : e ≠ j)
    (k : ∀ h2, IsEnumOut h2 e j ((i : Int) + 1) (.str ⟨#[c0]⟩ s.toks) s.heap.objs.size → h2.IsStrIter j ty z tz (i + 1) → IsPair h2 s.heap.objs.size (.int i (s.toks + 1)) (.str ⟨#[c0]⟩ s.toks) → (∀ c o, c ≠ e → c ≠ j → s.heap.get? c = some o → h2.get? c = some o) → Q (.ref s.heap.objs.size) { s with heap := h2, toks := s.toks + 1 + 1 }) :
    wpAny (model prog w) A (Builtin.«enumerate.__next__» ⟨[.ref e], []⟩) (fun fin s2 => ∃ v, fin = .done (.ret v) ∧ Q v s2) E s := by
  have le : e < s.heap.objs.size := Heap.lt_size ge
  show wpAny _ _ (field (.ref e) 2 >>= _) _ _ _
  apply wpAny_bind
  refine wpAny_field ge rfl (x := .ref j) rfl ?_
  apply wpAny_bind
  refine stepS hty ij at_i fun ha ia sa => ?_
  have ga : IsEnum ha e j i old := (sa.2 e ne).trans ge
  show wpAny _ _ (field (.ref e) 3 >>= _) _ _ _
  apply wpAny_bind
  refine wpAny_field ga rfl (x := rawInt i) rfl ?_
  show wpAny _ _ (field (.ref e) 4 >>= _) _ _ _
  apply wpAny_bind
  refine wpAny_field ga rfl (x := .none) rfl ?_
  show wpAny _ _ (mkInt i >>= _) _ _ _
  apply wpAny_bind
  apply wpAny_mkInt
  show wpAny _ _ (setField (.ref e) 3 (rawInt ((i : Int) + 1)) >>= _) _ _ _
  apply wpAny_bind
  refine wpAny_setField_rec ga (by simp) fun hb gb sb => ?_
  replace gb : IsEnum hb e j ((i : Int) + 1) old := gb
  show wpAny _ _ (setField (.ref e) 4 .none >>= _) _ _ _
  apply wpAny_bind
  refine wpAny_setField_rec gb (by simp) fun hc gc sc => ?_
  replace gc : IsEnum hc e j ((i : Int) + 1) old := gc
  show wpAny _ _ (newTuple [.int i (s.toks + 1), (.str ⟨#[c0]⟩ s.toks)] >>= _) _ _ _
  apply wpAny_bind
  refine wpAny_newTuple ?_
  have nz : hc.objs.size = s.heap.objs.size := sc.1.trans (sb.1.trans sa.1)
  have gd : IsEnum (hc.push { cls := .type "tuple", data := .seq #[.int i (s.toks + 1), (.str ⟨#[c0]⟩ s.toks)] }) e j ((i : Int) + 1) old := Heap.get?_push_of_some _ gc
  have pd : (hc.push { cls := .type "tuple", data := .seq #[.int i (s.toks + 1), (.str ⟨#[c0]⟩ s.toks)] }).get? s.heap.objs.size = some { cls := .type "tuple", data := .seq #[.int i (s.toks + 1), (.str ⟨#[c0]⟩ s.toks)] } := by
    rw [← nz]
    exact Heap.get?_push_size _ rfl
  have kd : ∀ c o, c ≠ e → c ≠ j → s.heap.get? c = some o → (hc.push { cls := .type "tuple", data := .seq #[.int i (s.toks + 1), (.str ⟨#[c0]⟩ s.toks)] }).get? c = some o := fun c o n1 n2 g =>
    Heap.get?_push_of_some _ (sc.extBut c o n1 (sb.extBut c o n1 (sa.extBut c o n2 g)))
  have idd : (hc.push { cls := .type "tuple", data := .seq #[.int i (s.toks + 1), (.str ⟨#[c0]⟩ s.toks)] }).IsStrIter j ty z tz (i + 1) := let ⟨o, g, r⟩ := ia; ⟨o, Heap.get?_push_of_some _ (sc.extBut j o ne.symm (sb.extBut j o ne.symm g)), r⟩
  show wpAny _ _ (Builtin.SmallTypes.ownedTupleIsFree (.ref e) >>= _) _ _ _
  rw [nz]
  generalize hc.push { cls := .type "tuple", data := .seq #[.int i (s.toks + 1), (.str ⟨#[c0]⟩ s.toks)] } = hd at gd pd kd idd
  apply wpAny_bind
  unfold Builtin.SmallTypes.ownedTupleIsFree
  apply wpAny_bind
  refine wpAny_field gd rfl (x := .none) rfl (wpAny_pure ?_)
  simp only [if_true]
  apply wpAny_bind
  apply wpAny_rule
  apply wpAny_bind
  refine wpAny_field gd rfl (x := old) rfl ?_
  apply wpAny_bind
  refine wpAny_setField_rec gd (by simp) fun hf gf sf => ?_
  replace gf : IsEnum hf e j ((i : Int) + 1) (.str ⟨#[c0]⟩ s.toks) := gf
  show wpAny _ _ (Builtin.SmallTypes.ownedTupleHandOut (.ref e) (.ref s.heap.objs.size) >>= _) _ _ _
  apply wpAny_bind
  unfold Builtin.SmallTypes.ownedTupleHandOut
  apply wpAny_bind
  refine wpAny_setField_rec gf (by simp) fun hg gg sg => ?_
  replace gg : IsEnumOut hg e j ((i : Int) + 1) (.str ⟨#[c0]⟩ s.toks) s.heap.objs.size := gg
  refine wpAny_setField_rec gg (by simp) fun hh gh sh => ?_
  replace gh : IsEnumOut hh e j ((i : Int) + 1) (.str ⟨#[c0]⟩ s.toks) s.heap.objs.size := gh
  apply wpAny_bind
  apply wpAny_letGo
  have up : ∀ c o, c ≠ e → hd.get? c = some o → hh.get? c = some o := fun c o n g => sh.extBut c o n (sg.extBut c o n (sf.extBut c o n g))
  refine wpAny_pure ⟨_, rfl, k hh gh ?_ ?_ fun c o n1 n2 g => up c o n1 (kd c o n1 n2 g)⟩
  · exact let ⟨o, g, r⟩ := idd; ⟨o, up j o ne.symm g, r⟩
  · exact up _ _ (Nat.ne_of_gt le) pd
theorem next_turn {e j : Addr} {i c0 : Nat} {z : Str} {tz : Tok} {ty : String} {old : Value} {Q : Option Value → Shared → Prop} (ge : IsEnum s.heap e j i old) (hty : ty = "str_ascii_iterator" ∨ ty = "str_iterator") (ij : s.heap.IsStrIter j ty z tz i) (at_i : z.cps[i]? = some c0) (ne : e ≠ j)
    (k : ∀ h2, IsEnumOut h2 e j ((i : Int) + 1) (.str ⟨#[c0]⟩ s.toks) s.heap.objs.size → h2.IsStrIter j ty z tz (i + 1) → IsPair h2 s.heap.objs.size (.int i (s.toks + 1)) (.str ⟨#[c0]⟩ s.toks) → (∀ c o, c ≠ e → c ≠ j → s.heap.get? c = some o → h2.get? c = some o) → Q (some (.ref s.heap.objs.size)) { s with heap := h2, toks := s.toks + 1 + 1 }) :
    wpAny (model prog w) A (pyNext (.ref e)) Q E s := by
  have ty : s.TypeIs (.ref e) "enumerate" := ⟨_, ge, rfl⟩
  unfold pyNext
  apply wpAny_bind
  apply wpAny_attempt
  apply wpAny_callSpecial?_slot (name := Str.ofString "__next__") ty F.slot_enumerate_next
  refine wpAny_call_entry F.slot_enumerate_next ty F.entry_enumerate_next ?_ (F.args_enumerate_next_1 _)
  exact turn ge hty ij at_i ne fun h2 c1 c2 c3 c4 => wpAny_pure (k h2 c1 c2 c3 c4)
theorem next_stop {e j : Addr} {i : Nat} {z : Str} {tz : Tok} {ty : String} {old : Value} {Q : Option Value → Shared → Prop} (calm : A.handled = none) (ge : IsEnum s.heap e j i old) (hty : ty = "str_ascii_iterator" ∨ ty = "str_iterator") (ij : s.heap.IsStrIter j ty z tz i) (at_i : z.cps[i]? = none)
    (k : ∀ h2, Heap.ExtBut j s.heap h2 → Q none { s with heap := h2 }) : wpAny (model prog w) A (pyNext (.ref e)) Q E s := by
  have ty : s.TypeIs (.ref e) "enumerate" := ⟨_, ge, rfl⟩
  unfold pyNext
  apply wpAny_bind
  apply wpAny_attempt
  apply wpAny_callSpecial?_slot (name := Str.ofString "__next__") ty F.slot_enumerate_next
  refine wpAny_call_entry F.slot_enumerate_next ty F.entry_enumerate_next ?_ (F.args_enumerate_next_1 _)
  show wpAny _ _ (field (.ref e) 2 >>= _) _ _ _
  apply wpAny_bind
  refine wpAny_field ge rfl (x := .ref j) rfl ?_
  apply wpAny_bind
  refine lastS calm hty ij at_i fun h2 ex eb ⟨o, g, c⟩ => ?_
  apply wpAny_bind
  exact wpAny_isInstance (T := "StopIteration") (b := true) ⟨o, g, c⟩ isSubtype_stop (wpAny_pure (k h2 eb))
end
end EnS
namespace L2
open PySem PySem.Spec PyProof.Rows TL
section
variable {X : Cx} {ρ ρ1 : List Ow} {a : Expr} {pos : Pos}
end
end L2
namespace L2
open PySem PySem.Spec PyProof.Rows TL
section
variable {X : Cx}
end
end L2
namespace L2
open PySem PySem.Spec PyProof.Rows
section
variable {K : PySem.W.Frag} {F : Fr} {ρ : List Ow} {σ : St} {τ : Sls} {H : Hp}
end
section
variable {X : Cx} {W : Value → Hp → Prop} {ρ : List Ow} {O O2 : Oc → Prop} {body suite rest : List Stmt} {b0 : Stmt} {n cn : Str} {Cc : Addr} {np hpos pos : Pos} {cls : Value} {a C : Addr} {ts : Fs}
end
section
variable {X : Cx} {W : Value → Hp → Prop} {ρ ρ1 : List Ow} {o e : Expr} {pos : Pos} {C : Addr} {c : Value} {m : Str} {k : Nat} {ps : List Str} {S : Fs → List PyData → Fs → Rs → Prop}
end
def spP (K : PySem.W.Frag) (C : Addr) (n : Nat) (S : Fs → List PyData → Fs → Ow → Prop) : Sp := fun vs H Q E => ∃ (a : Addr) (u : V) (us : List V) (F : Fr) (τ : Sls) (ts ts' : Fs) (d : PyData) (ds : List PyData) (s : Ow), vs = u :: .ref a :: us ∧ us.length = n ∧ ds.length = n ∧
  Rel K F [.obj (some a) C ts] [some (.ref a)] (τ ++ ((u :: us).map some).zip ((d :: ds).map Ow.dat)) H ∧ S ts (d :: ds) ts' s ∧ ∀ v H', Rel K F [.obj (some a) C ts'] [some (.ref a)] (τ ++ [(some v, s)]) H' → Q v H'
abbrev PDp (P : Program) (w : World) (K : PySem.W.Frag) (mg : Str → Option Value) (base : Heap) (k : Nat) (C : Addr) (x : Str) (ps : List Str) (S : Fs → List PyData → Fs → Ow → Prop) : Prop := DefX P w K mg base k x ps (spP K C (ps.length - 2) S)
def ocP (C a : Addr) (ts' : Fs) (s : Ow) : Oc → Prop
  | .rt s' ρ => s' = s ∧ ρ[1]? = some (.obj (some a) C ts')
  | _ => False
section
variable {P : Program} {w : World} {K : PySem.W.Frag} {mg : Str → Option Value} {base : Heap}
theorem Rel.entryP {F : Fr} {N : List Str} {u : V} {us : List V} {d : PyData} {ds : List PyData} {n : Nat} {H : Hp} {C a : Addr} {ts : Fs} {τ : Sls} (R : Rel K F [.obj (some a) C ts] [some (.ref a)] (τ ++ ((u :: us).map some).zip ((d :: ds).map Ow.dat)) H) (hu : us.length = n) (hd : ds.length = n) (hN : n + 2 ≤ N.length) :
    Rel K F (.dat d :: .obj (some a) C ts :: (ds.map Ow.dat ++ List.replicate (N.length - (n + 2)) Ow.no)) (start N (u :: .ref a :: us)) τ H := by
  obtain ⟨_, Hm, fps, M⟩ := R
  have hl : (start N (u :: V.ref a :: us)).length = N.length := by unfold start; simp; omega
  have hr : (Ow.dat d :: Ow.obj (some a) C ts :: (ds.map Ow.dat ++ List.replicate (N.length - (n + 2)) Ow.no)).length = N.length := by simp; omega
  refine ⟨by rw [hl, hr], Hm, _, M.pickG (fun i => if i = 0 then some (1 + τ.length) else if i = 1 then some 0 else if i < n + 2 then some (1 + (τ.length + (i - 1))) else if i < N.length then none else some (1 + (i - N.length))) (fun i o' s e => ?_) fun i i' j hi hi' e e' => ?_⟩
  · by_cases hi : i < N.length
    · rw [List.getElem?_append_left (by rw [List.length_zip, hl, hr]; omega), List.getElem?_zip_eq_some] at e
      obtain ⟨q1, q2⟩ := e
      dsimp only at q1 q2
      match i with
      | 0 =>
        right
        unfold start at q1
        simp at q1 q2
        subst q1 q2
        refine ⟨1 + τ.length, _, if_pos rfl, ?_, .inl rfl⟩
        rw [List.getElem?_append_right (by simp), List.getElem?_append_right (by simp)]
        simp
      | 1 =>
        right
        unfold start at q1
        simp at q1 q2
        subst q1 q2
        exact ⟨0, _, rfl, rfl, .inl rfl⟩
      | m + 2 =>
        rw [List.getElem?_cons_succ, List.getElem?_cons_succ] at q2
        unfold start at q1
        rw [List.map_cons, List.map_cons, List.cons_append, List.cons_append, List.getElem?_cons_succ, List.getElem?_cons_succ] at q1
        by_cases h1 : m + 2 < n + 2
        · right
          rw [List.getElem?_append_left (by simp; omega)] at q1 q2
          refine ⟨1 + (τ.length + (m + 1)), o', by simp [h1], ?_, .inl rfl⟩
          rw [List.getElem?_append_right (by simp), List.getElem?_append_right (by simp <;> omega)]
          rw [show 1 + (τ.length + (m + 1)) - ((([some (V.ref a)] : List (Option V)).zip [Ow.obj (some a) C ts]).length) - τ.length = m + 1 by simp <;> omega, List.map_cons, List.map_cons, List.zip_cons_cons, List.getElem?_cons_succ, List.getElem?_zip_eq_some]
          exact ⟨q1, q2⟩
        · left
          rw [List.getElem?_append_right (by simp; omega), List.getElem?_replicate] at q2
          split at q2
          · cases q2
            exact ⟨by simp [h1, hi], rfl⟩
          · cases q2
    · right
      rw [List.getElem?_append_right (by rw [List.length_zip, hl, hr]; omega), List.length_zip, hl, hr, Nat.min_self] at e
      have hi2 : i - N.length < τ.length := (List.getElem?_eq_some_iff.mp e).1
      refine ⟨1 + (i - N.length), o', ?_, ?_, .inl rfl⟩
      · rw [if_neg (by omega), if_neg (by omega), if_neg (by omega), if_neg (by omega)]
      · rw [List.getElem?_append_right (by simp), List.getElem?_append_left (by simp; omega)]
        rw [show 1 + (i - N.length) - ((([some (V.ref a)] : List (Option V)).zip [Ow.obj (some a) C ts]).length) = i - N.length by simp]
        exact e
  · rw [List.length_append, List.length_zip, hl, hr, Nat.min_self] at hi hi'
    split at e <;> split at e' <;> (try split at e) <;> (try split at e') <;> (try split at e) <;> (try split at e') <;> (try split at e) <;> (try split at e') <;> simp only [Option.some.injEq, reduceCtorEq] at e e' <;> omega
theorem Rel.exitP {F : Fr} {ρ' : List Ow} {σ' : St} {τ x : Sls} {H' : Hp} {C a : Addr} {ts' : Fs} (R : Rel K F ρ' σ' (τ ++ x) H') (h0 : ρ'[1]? = some (.obj (some a) C ts')) : Rel K F [.obj (some a) C ts'] [some (.ref a)] (τ ++ x) H' := by
  obtain ⟨b, e1, hw, _⟩ := R.pin h0
  obtain rfl := hw a rfl
  obtain ⟨hl, Hm, fps, M⟩ := R
  have hlt : 1 < ρ'.length := (List.getElem?_eq_some_iff.mp h0).1
  refine ⟨rfl, Hm, _, M.pick (fun i => if i = 0 then 1 else ρ'.length + (i - 1)) (fun i q e => ?_) fun i i' hi hi' n => ?_⟩
  · match i with
    | 0 =>
      simp at e
      subst e
      simp only [if_true]
      rw [List.getElem?_append_left (by rw [List.length_zip]; omega), List.getElem?_zip_eq_some]
      exact ⟨e1, h0⟩
    | i + 1 =>
      simp only [Nat.add_eq_zero_iff, Nat.succ_ne_self, and_false, if_false, Nat.add_sub_cancel]
      rw [List.getElem?_append_right (by rw [List.length_zip]; omega)]
      rw [show ρ'.length + i - (σ'.zip ρ').length = i by rw [List.length_zip]; omega]
      simpa using e
  · split <;> split <;> omega
theorem PDp.mk {x : Str} {C : Addr} {st : Stmt} {N ps : List Str} {k : Nat} {S : Fs → List PyData → Fs → Ow → Prop} (W : Where K mg x st) (Sc : FnScope N ps (defScope st)) (hps : 2 ≤ ps.length) (hpN : ps.length ≤ N.length)
    (hb : ∀ (kV doc pm : Value) (an : Option Addr) (cdv ct : Value) (us : List Value), us.length = ps.length → bindArgs (PySem.W.fnOf x x (defArgs st) (defBody st) (defScope st) .none kV doc pm an cdv ct) ⟨us, []⟩ = pure (ps.zip us))
    (body : ∀ (f : Addr) (cdv : Value) (A : Around) (outer : List Env) (s : Shared) (H : Hp) (E : XK) (a : Addr) (ts ts' : Fs) (d : PyData) (ds : List PyData) (r : Ow), Room k (A.deeper (envOfC x (defScope st) s.heap.objs.size f cdv)) → ds.length = ps.length - 2 → S ts (d :: ds) ts' r →
      BS (ctX P w K mg base N x (defScope st) f cdv A outer s H E) (fun C H' => E C none H') (.dat d :: .obj (some a) C ts :: (ds.map Ow.dat ++ List.replicate (N.length - ps.length) Ow.no)) (defBody st) (ocP C a ts' r)) : PDp P w K mg base (k + 1) C x ps S := by
  refine W.defX Sc hb (fun vs H Q E h => ?_) fun f cdv A outer s H vs Q E hr h => ?_
  · obtain ⟨a, u, us, F, τ, ts, ts', d, ds, r, rfl, hn, _⟩ := h
    simp
    omega
  · obtain ⟨a, u, us, F, τ, ts, ts', d, ds, r, rfl, hn, hd, R, hS, q⟩ := h
    have b := body f cdv A outer s H E a ts ts' d ds r hr hd hS
    have R0 := R.entryP (N := N) hn hd (by omega)
    rw [show ps.length - 2 + 2 = ps.length by omega] at R0
    exact ⟨_, b.ps, F, τ, R0, fun ρ' σ' H' o R' => o.elim, fun t ρ' v σ' H' ⟨e, e0⟩ R' => q v H' (by subst e; exact R'.exitP e0), fun ρ' σ' H' o R' => o.elim, fun ρ' σ' H' o R' => o.elim, fun c ρ' σ' H' o R' => o.elim⟩
end
section
variable {X : Cx} {ρ ρ1 ρ2 : List Ow} {e0 e1 : Expr} {es : List Expr} {pos : Pos} {d : PyData} {ds : List PyData} {s : Ow} {w : Option Addr} {C : Addr} {ts ts' : Fs} {x y : Str} {k : Nat} {ps : List Str} {S : Fs → List PyData → Fs → Ow → Prop}
end
end L2
namespace L2
open PySem PySem.Spec PyProof.Rows
section
variable {X : Cx} {c Pt : Addr} {k k1 : Nat} {x y : Str} {params : Arguments} {body : Expr} {scope : Scope} {lpos p pos : Pos} {ds : List PyData}
end
section
variable {X : Cx} {c Pt : Addr} {k k1 : Nat} {x y q : Str} {params : Arguments} {body : Expr} {scope : Scope} {lpos p pos : Pos} {ρ ρ2 : List Ow} {ds : List PyData}
end
end L2
namespace MD
open PySem PySem.Spec PyProof.Rows
section
variable {prog : Program} {w : World} {A : Around} {R : Result → Shared → Prop} {I : Addr} {fp wr : List Addr} {n : Nat} {P : Nat → Value → Prop} {St : Nat → Heap → Prop} {kw : List (Str × Value)}
theorem start (W : Walks prog w A.in1 I fp wr n P St) (g : Nat → Int) (hg : ∀ i v, P i v → ∃ t, v = .int (g i) t) (S : Addr) (hSf : S ∉ fp) {s : Shared} (hn : 0 < n) (hst : St 0 s.heap) (hS : isL s.heap S #[])
    (hR : ∀ b v h' tk, P b v → b < n → (∀ i, i < n → g i ≤ g b) → (∀ c o, c ∉ wr → c ≠ S → s.heap.get? c = some o → h'.get? c = some o) → R (.ok (.ret v)) { s with heap := h', toks := tk }) :
    codeAny (model prog w) A (.builtin "max.loop" ⟨[.ref I, .none, .ref S], kw⟩) R s := by
  have hSw : S ∉ wr := fun h => hSf (W.sub _ h)
  obtain ⟨c, hS⟩ := hS
  apply codeAny_builtin F.entry_max_loop
  rw [Around.under_plainId F.plain_max_loop]
  show wpAny _ A.in1 (seqItems? (.ref S) >>= _) _ _ _
  apply wpAny_bind
  apply wpAny_seqItems hS rfl
  show wpAny _ A.in1 (tryCatch (pyNext (.ref I)) _ >>= _) _ _ _
  apply wpAny_bind
  apply wpAny_tryCatch
  refine W.item 0 s _ _ (by omega) hst fun v h2 tk hP hst2 kept => ?_
  have hS2 := kept S _ hSw hS
  show wpAny _ A.in1 (updateSeq S (fun _ => #[v, v]) >>= _) _ _ _
  apply wpAny_bind
  refine wpAny_updateSeq hS2 rfl ?_
  rw [nm]
  refine wpAny_pure ⟨plainId_quiet F.plain_max_loop _, loop W g hg S hSf _ 0 0 _ v rfl (by omega) (W.frame _ _ _ hst2 fun d hd o e => ?_) hP (Nat.le_refl _) (fun i hi => ?_) ⟨_, Heap.get?_update_self _ hS2 rfl⟩ fun b2 v2 h3 tk2 hP2 hb2 hm2 kept2 => ?_⟩
  · exact (Heap.get?_update_other _ _ (fun h : S = d => hSf (h ▸ hd))).trans e
  · rw [show i = 0 by omega]
    exact Int.le_refl _
  · exact hR b2 v2 h3 tk2 hP2 hb2 hm2 fun d o h4 h5 e => kept2 d o h4 h5 ((Heap.get?_update_other _ _ (Ne.symm h5)).trans (kept d o h4 e))
end
section
variable {prog : Program} {w : World} {A : Around} {E : Value → Shared → Prop} {s : Shared}
end
end MD
namespace L2
open PySem PySem.Spec PyProof.Rows
section
variable {X : Cx} {i j k : Int}
end
end L2
namespace L2
open PySem PySem.Spec PyProof.Rows
section
variable {K : PySem.W.Frag} {F : Fr} {ρ : List Ow} {σ : St} {τ : Sls} {H : Hp} {dss : List (List PyData)} {ds : List PyData}
end
section
variable {X : Cx} {ρ ρ2 ρ3 : List Ow} {a b c e tg elt iter : Expr} {pos : Pos} {d : PyData} {ds : List PyData} {dss : List (List PyData)} {scope : Scope} {W : Value → Hp → Prop} {O : Oc → Prop}
end
end L2
namespace L2
open PySem PySem.Spec PyProof.Rows
theorem Vals.gone : ∀ {xs : List V} {us : List Value} (j : Nat), Vals xs us → Vals (xs.eraseIdx j) (us.eraseIdx j)
  | _, _, _, .nil => .nil
  | _, _, 0, .cons _ t => t
  | _, _, j + 1, .cons r t => .cons r (Vals.gone j t)
section
variable {X : Cx}
end
section
variable {X : Cx} {W : Value → Hp → Prop} {ρ : List Ow} {e : Expr} {pos : Pos} {O : Oc → Prop}
end
end L2
namespace L2
open PySem PySem.Spec PyProof.Rows
section
variable {X : Cx} {pins : List (Addr × Obj)} {σ : St} {l I S q : Addr} {ks : List Int} {G : Hp → Prop} {R : Result → Shared → Prop}
theorem FpOk.at {H H' : Hp} {b : Addr} (h : FpOk X pins H b) (n : H' b = none) : FpOk X pins H' b := ⟨n, h.2⟩
end
end L2
namespace L2
open PySem PySem.Spec PyProof.Rows
section
variable {K : PySem.W.Frag} {F : Fr} {ρ : List Ow} {σ : St} {τ : Sls} {H Hm : Hp} {i : Nat} {kvs : List (Int × Int)} {a : Addr}
theorem Rel.nil (R : Rel K F ρ σ τ H) : Rel K F ρ σ (τ ++ [(none, .no)]) H := by
  obtain ⟨hl, Hm, fps, M⟩ := R
  exact ⟨hl, Hm, _, by rw [← List.append_assoc]; exact M.snoc (o := none) (s := .no) (fp := []) .no (by simp)⟩
end
section
variable {X : Cx} {ρ ρ2 : List Ow} {a b e f : Expr} {pos pn apos cpos tpos p p2 q2 : Pos} {k v : Int} {kvs : List (Int × Int)} {x : Str} {W : Value → Hp → Prop} {O : Oc → Prop}
end
section
variable {X : Cx} {ρ : List Ow} {pos pn p : Pos} {kvs : List (Int × Int)} {x : Str}
end
end L2
namespace L2
open PySem PySem.Spec PyProof.Rows
section
variable {K : PySem.W.Frag} {F : Fr} {ρ : List Ow} {σ : St} {τ : Sls} {H H' Hm : Hp} {fps : Nat → List Addr}
theorem Mem.made {it : Nat} {Pt f c : Addr} {q : Str} {ps ps' : Array Value} {φ : Heap → Prop} (hl : σ.length = ρ.length) (M : Mem K F (σ.zip ρ ++ τ) Hm H fps) (h0 : ρ[it]? = some (.tab Pt q)) (hP : H Pt = some (.tbl ps)) (Md : Made H H' Pt f c ps ps' q φ) :
    Mem K F (σ.zip ρ ++ τ) (upd Hm c (.ext (CodeAt c q))) H' fps ∧ ∀ i, i < (σ.zip ρ ++ τ).length → ∀ a ∈ fps i, a ≠ c ∧ a ≠ f := by
  have hi : it < ρ.length := (List.getElem?_eq_some_iff.mp h0).1
  have hs : it < σ.length := by omega
  have hz : (σ.zip ρ ++ τ)[it]? = some (σ[it], .tab Pt q) := by
    rw [List.getElem?_append_left (by rw [List.length_zip]; omega), List.getElem?_zip_eq_some]
    exact ⟨List.getElem?_eq_getElem hs, h0⟩
  have hlt : it < (σ.zip ρ ++ τ).length := (List.getElem?_eq_some_iff.mp hz).1
  obtain ⟨hfp, h3⟩ : fps it = [Pt] ∧ ∀ p cv, codeAmong p ps.toList = some cv → ∃ c0, cv = .ref c0 ∧ Hm c0 = some (.ext (CodeAt c0 q)) := by
    have ok := M.ok _ _ _ hz
    generalize fps it = fp at ok
    cases ok with
    | @tab _ _ _ ps0 h1 h2 h3 =>
      rw [hP] at h1
      cases h1
      exact ⟨rfl, h3⟩
  obtain ⟨w1, w2, w3⟩ := M.own it hlt Pt (by rw [hfp]; simp)
  have hmc : Hm c = none ∨ Hm c = some (.ext (CodeAt c q)) := by
    rcases Md.nc with z | ⟨p, z⟩
    · left
      cases y : Hm c with
      | none => rfl
      | some u => rw [M.sub _ _ y] at z; cases z
    · obtain ⟨c0, e, g⟩ := h3 p _ z
      cases e
      exact .inr g
  have hcF : H c = none → F.H c = none ∨ F.md c := fun z => by
    cases y : F.H c with
    | none => exact .inl rfl
    | some u =>
      by_cases w : F.md c
      · exact .inr w
      · rw [M.ent c u y w] at z; cases z
  have keep : ∀ {a : Addr} {u : HO}, a ≠ Pt → H a = some u → a ≠ c → H' a = some u := fun {a u} n1 e n2 => by
    rw [Md.els a n1 n2 (ne_of_none e Md.nf)]
    exact e
  have keepC : ∀ {a : Addr} {u : HO}, a ≠ Pt → Hm a = some u → H' a = some u := fun {a u} n1 e => by
    by_cases n2 : a = c
    · subst n2
      rcases hmc with z | z
      · rw [z] at e; cases e
      · rw [z] at e
        cases e
        exact Md.cd
    · exact keep n1 (M.sub _ _ e) n2
  have nP : ∀ {a : Addr} {u : HO}, Hm a = some u → a ≠ Pt := fun e z => by rw [z, w2] at e; cases e
  have hold : Same Hm (upd Hm c (.ext (CodeAt c q))) := fun a u e => by
    by_cases z : a = c
    · subst z
      rw [upd_same]
      rcases hmc with y | y
      · rw [y] at e; cases e
      · rw [y] at e; exact e
    · rw [upd_ne z]; exact e
  have ownc : ∀ i, i < (σ.zip ρ ++ τ).length → ∀ a ∈ fps i, a ≠ c := fun i hi a m z => by
    obtain ⟨_, y2, y3⟩ := M.own i hi a m
    subst z
    rcases Md.nc with w | ⟨p, w⟩
    · exact y3 w
    · obtain ⟨c0, e, g⟩ := h3 p _ w
      cases e
      rw [y2] at g
      cases g
  refine ⟨⟨fun a u e => ?_, fun a u e n => ?_, M.old.trans hold, fun a e => ?_, fun i o s e => ?_, fun i hi a m => ?_, M.dis⟩, fun i hi a m => ⟨ownc i hi a m, fun z => (M.own i hi a m).2.2 (by rw [z]; exact Md.nf)⟩⟩
  · by_cases z : a = c
    · subst z
      rw [upd_same] at e
      cases e
      exact Md.cd
    · rw [upd_ne z] at e
      exact keepC (nP e) e
  · have e1 := M.ent a u e n
    have n1 : a ≠ Pt := fun z => by
      subst z
      rcases w1 with y | y
      · rw [y] at e; cases e
      · exact n y
    by_cases z : a = c
    · subst z
      rcases Md.nc with w | ⟨p, w⟩
      · rw [w] at e1; cases e1
      · obtain ⟨c0, e2, g⟩ := h3 p _ w
        cases e2
        have := M.sub _ _ g
        rw [e1] at this
        cases this
        exact Md.cd
    · exact keep n1 e1 z
  · by_cases z : a = c
    · subst z
      rcases hmc with y | y
      · rcases Md.nc with w | ⟨p, w⟩
        · exact .inr (hcF w)
        · obtain ⟨c0, e2, g⟩ := h3 p _ w
          cases e2
          rw [y] at g
          cases g
      · exact M.new a (by rw [y]; simp)
    · rw [upd_ne z] at e
      exact M.new a e
  · by_cases hii : i = it
    · subst hii
      rw [hz] at e
      cases e
      rw [hfp]
      refine .tab Md.tb Md.ok fun p cv z => ?_
      rcases Md.more p cv z with y | y
      · obtain ⟨c0, e2, g⟩ := h3 p cv y
        exact ⟨c0, e2, hold _ _ g⟩
      · exact ⟨c, y, upd_same⟩
    · have hlt2 : i < (σ.zip ρ ++ τ).length := (List.getElem?_eq_some_iff.mp e).1
      refine (M.ok i o s e).up hold fun a m u z => ?_
      refine keep (fun y => ?_) z (ownc i hlt2 a m)
      subst y
      exact M.dis i it hlt2 hlt hii a m (by rw [hfp]; simp)
  · obtain ⟨y1, y2, y3⟩ := M.own i hi a m
    refine ⟨y1, ?_, ?_⟩
    · rw [upd_ne (ownc i hi a m)]; exact y2
    · by_cases z : a = Pt
      · subst z
        rw [Md.tb]; simp
      · cases e : H a with
        | none => exact absurd e y3
        | some u => rw [keep z e (ownc i hi a m)]; simp
end
theorem SqT.un {K : PySem.W.Frag} {fs ex : List Addr} {H H' : Hp} {h h' : Heap} {a : Addr} {xs : List V} (un : Un fs ex H H' h h') (t : SqT K H a xs) : SqT K H' a xs := by
  rcases t with (t | ⟨o, t⟩) | t
  · exact .inl (.inl (un.tups a xs t))
  · exact .inl (.inr ⟨o, un.frzs a o _ t⟩)
  · exact .inr t
section
variable {X : Cx} {c Pt : Addr} {k1 : Nat} {y : Str} {params : Arguments} {body a : Expr} {scope : Scope} {lpos p kp pos : Pos}
end
end L2
namespace L2
open PySem PySem.Spec PyProof.Rows
section
variable {X : Cx} {c Pt : Addr} {k1 : Nat} {y : Str} {params : Arguments} {body a : Expr} {scope : Scope} {lpos p kp pos : Pos} {ρ : List Ow} {ks : List Int} {kf : Int → List Int} {m : Int}
end
def spG (K : PySem.W.Frag) (Pt : Addr) (q : Str) (n : Nat) (S : List PyData → Ow → Prop) : Sp := fun vs H Q _ => ∃ (F : Fr) (o : Option V) (τ : Sls) (ds : List PyData) (s : Ow), vs.length = n ∧ ds.length = n ∧
  Rel K F [.tab Pt q] [o] (τ ++ (vs.map some).zip (ds.map Ow.dat)) H ∧ S ds s ∧ ∀ v H', Rel K F [.tab Pt q] [o] (τ ++ [(some v, s)]) H' → Q v H'
abbrev PDg (P : Program) (w : World) (K : PySem.W.Frag) (mg : Str → Option Value) (base : Heap) (k : Nat) (Pt : Addr) (q x : Str) (ps : List Str) (S : List PyData → Ow → Prop) : Prop := DefX P w K mg base k x ps (spG K Pt q ps.length S)
def ocG (Pt : Addr) (q : Str) (it : Nat) (s : Ow) : Oc → Prop
  | .rt s' ρ => s' = s ∧ ρ[it]? = some (.tab Pt q)
  | _ => False
section
variable {P : Program} {w : World} {K : PySem.W.Frag} {mg : Str → Option Value} {base : Heap}
theorem Rel.entryG {F : Fr} {N : List Str} {us : List V} {ds : List PyData} {n : Nat} {H : Hp} {Pt : Addr} {q : Str} {o : Option V} {τ : Sls} (R : Rel K F [.tab Pt q] [o] (τ ++ (us.map some).zip (ds.map Ow.dat)) H) (hu : us.length = n) (hd : ds.length = n) (hN : n + 1 ≤ N.length) :
    Rel K F (ds.map Ow.dat ++ (List.replicate (N.length - (n + 1)) Ow.no ++ [.tab Pt q])) (start N us) τ H := by
  obtain ⟨_, Hm, fps, M⟩ := R
  have hl : (start N us).length = N.length := by unfold start; simp; omega
  have hr : (ds.map Ow.dat ++ (List.replicate (N.length - (n + 1)) Ow.no ++ [Ow.tab Pt q])).length = N.length := by simp; omega
  refine ⟨by rw [hl, hr], Hm, _, M.pickG (fun i => if i < n then some (1 + (τ.length + i)) else if i + 1 < N.length then none else if i + 1 = N.length then some 0 else some (1 + (i - N.length))) (fun i o' s e => ?_) fun i i' j hi hi' e e' => ?_⟩
  · by_cases hi : i < N.length
    · rw [List.getElem?_append_left (by rw [List.length_zip, hl, hr]; omega), List.getElem?_zip_eq_some] at e
      obtain ⟨q1, q2⟩ := e
      dsimp only at q1 q2
      unfold start at q1
      by_cases h1 : i < n
      · right
        rw [List.getElem?_append_left (by simp; omega)] at q1 q2
        refine ⟨1 + (τ.length + i), o', by simp [h1], ?_, .inl rfl⟩
        rw [List.getElem?_append_right (by simp <;> omega), List.getElem?_append_right (by simp <;> omega)]
        rw [show 1 + (τ.length + i) - ((([o] : List (Option V)).zip [Ow.tab Pt q]).length) - τ.length = i by simp, List.getElem?_zip_eq_some]
        exact ⟨q1, q2⟩
      · rw [List.getElem?_append_right (by simp; omega)] at q2
        by_cases h2 : i + 1 < N.length
        · left
          rw [List.getElem?_append_left (by simp; omega), List.getElem?_replicate] at q2
          split at q2
          · cases q2
            exact ⟨by simp [h1, h2], rfl⟩
          · cases q2
        · right
          have h3 : i + 1 = N.length := by omega
          rw [List.getElem?_append_right (by simp; omega)] at q2
          rw [show i - (ds.map Ow.dat).length - (List.replicate (N.length - (n + 1)) Ow.no).length = 0 by simp; omega] at q2
          cases q2
          exact ⟨0, o, by simp [h1, h3], rfl, .inr ⟨_, _, rfl⟩⟩
    · right
      rw [List.getElem?_append_right (by rw [List.length_zip, hl, hr]; omega), List.length_zip, hl, hr, Nat.min_self] at e
      have hi2 : i - N.length < τ.length := (List.getElem?_eq_some_iff.mp e).1
      refine ⟨1 + (i - N.length), o', ?_, ?_, .inl rfl⟩
      · rw [if_neg (by omega), if_neg (by omega), if_neg (by omega)]
      · rw [List.getElem?_append_right (by simp), List.getElem?_append_left (by simp; omega)]
        rw [show 1 + (i - N.length) - ((([o] : List (Option V)).zip [Ow.tab Pt q]).length) = i - N.length by simp]
        exact e
  · rw [List.length_append, List.length_zip, hl, hr, Nat.min_self] at hi hi'
    skip
    split at e <;> split at e' <;> (try split at e) <;> (try split at e') <;> (try split at e) <;> (try split at e') <;> simp only [Option.some.injEq, reduceCtorEq] at e e' <;> omega
theorem Rel.exitG {F : Fr} {ρ' : List Ow} {σ' : St} {τ x : Sls} {H' : Hp} {Pt : Addr} {q : Str} {o : Option V} {it : Nat} (R : Rel K F ρ' σ' (τ ++ x) H') (h1 : ρ'[it]? = some (.tab Pt q)) : Rel K F [.tab Pt q] [o] (τ ++ x) H' := by
  obtain ⟨hl, Hm, fps, M⟩ := R
  have hlt : it < ρ'.length := (List.getElem?_eq_some_iff.mp h1).1
  refine ⟨rfl, Hm, _, M.pickG (fun i => if i = 0 then some it else some (ρ'.length + (i - 1))) (fun i o' s e => ?_) fun i i' j hi hi' e e' => ?_⟩
  · right
    match i with
    | 0 =>
      simp at e
      obtain ⟨rfl, rfl⟩ := e
      refine ⟨it, σ'[it]'(by omega), rfl, ?_, .inr ⟨_, _, rfl⟩⟩
      rw [List.getElem?_append_left (by rw [List.length_zip]; omega), List.getElem?_zip_eq_some]
      exact ⟨List.getElem?_eq_getElem (by omega), h1⟩
    | i + 1 =>
      refine ⟨ρ'.length + i, o', by simp, ?_, .inl rfl⟩
      rw [List.getElem?_append_right (by rw [List.length_zip]; omega)]
      rw [show ρ'.length + i - (σ'.zip ρ').length = i by rw [List.length_zip]; omega]
      simpa using e
  · skip
    split at e <;> split at e' <;> simp only [Option.some.injEq] at e e' <;> omega
theorem PDg.mk {x : Str} {Pt c : Addr} {q : Str} {st : Stmt} {N ps : List Str} {k : Nat} {S : List PyData → Ow → Prop} (Wc : WhereC K mg x st c) (W : Where K mg x st) (Sc : FnScope N ps (defScope st)) (hpN : ps.length + 1 ≤ N.length)
    (hb : ∀ (kV doc pm : Value) (an : Option Addr) (cdv ct : Value) (us : List Value), us.length = ps.length → bindArgs (PySem.W.fnOf x x (defArgs st) (defBody st) (defScope st) .none kV doc pm an cdv ct) ⟨us, []⟩ = pure (ps.zip us))
    (body : ∀ (f : Addr) (A : Around) (outer : List Env) (s : Shared) (H : Hp) (E : XK) (ds : List PyData) (r : Ow), Room k (A.deeper (envOfC x (defScope st) s.heap.objs.size f (.ref c))) → ds.length = ps.length → S ds r →
      BS (ctX P w K mg base N x (defScope st) f (.ref c) A outer s H E) (fun C H' => E C none H') (ds.map Ow.dat ++ (List.replicate (N.length - (ps.length + 1)) Ow.no ++ [.tab Pt q])) (defBody st) (ocG Pt q (N.length - 1) r)) : PDg P w K mg base (k + 1) Pt q x ps S := by
  refine Wc.defX W Sc hb (fun vs H Q E h => ?_) fun f A outer s H vs Q E hr h => ?_
  · obtain ⟨F, o, τ, ds, r, hn, _⟩ := h
    exact hn
  · obtain ⟨F, o, τ, ds, r, hn, hd, R, hS, q⟩ := h
    have b := body f A outer s H E ds r hr hd hS
    have R0 := R.entryG (N := N) hn hd hpN
    exact ⟨_, b.ps, F, τ, R0, fun ρ' σ' H' o R' => o.elim, fun t ρ' v σ' H' ⟨e, e1⟩ R' => q v H' (by subst e; exact R'.exitG e1), fun ρ' σ' H' o R' => o.elim, fun ρ' σ' H' o R' => o.elim, fun c ρ' σ' H' o R' => o.elim⟩
end
section
variable {X : Cx} {ρ : List Ow} {e : Expr} {es : List Expr} {pos : Pos} {ds : List PyData} {s : Ow} {Pt : Addr} {x q : Str} {k : Nat} {ps : List Str} {S : List PyData → Ow → Prop}
end
end L2
namespace L2
open PySem PySem.Spec PyProof.Rows
section
variable {X : Cx} {pins : List (Addr × Obj)} {σ : St} {l I S : Addr} {H : Hp} {ts : List Addr} {xs : List (List Int)} {R : Result → Shared → Prop}
end
end L2
namespace L2
open PySem PySem.Spec PyProof.Rows
section
variable {X : Cx} {W : Value → Hp → Prop} {ρ ρ1 : List Ow} {b e : Expr} {es gs : List Expr} {pos p2 p3 : Pos} {vs : List V} {i j : Int}
inductive FA (X : Cx) : List Expr → List V → Prop
  | nil : FA X [] []
  | cons {x : Str} {f : Addr} {p : Pos} {es : List Expr} {vs : List V} (hm : X.mg x = some (.ref f)) (hg : Gl X x) (hd : (x == ("__debug__" : Str)) = false) (r : FA X es vs) : FA X (.Name x p :: es) (.ref f :: vs)
theorem FA.pa (h : FA X gs vs) : PA X gs (fun σ H Q => Q vs H) := by
  induction h with
  | nil => exact pa_nil
  | cons hm hg hd r ih => exact pa_cons (pe_glob (v := .ref _) hg hm rfl hd) ih star_nam
def tCI (K : PySem.W.Frag) (ρ : List Ow) (i : Int) : TE := fun σ H Q => (∃ F τ, Rel K F ρ σ τ H) ∧ Q (.int i) H
theorem ci_var (k : Nat) {x : Str} (h : ρ[k]? = some (.dat (.int i))) (hN : X.N[k]? = some x := by rfl) (hv : Vis X.env.scope x := by first | exact Or.inl rfl | exact Or.inr (Or.inl rfl) | exact Or.inr (Or.inr rfl)) (hd : (x == ("__debug__" : Str)) = false := by decide)
    (hcd : (x == ("__classdict__" : Str)) = false := by decide) : PE X (.Name x pos) (tCI X.K ρ i) := fun pins s σ H Q I ⟨⟨F, τ, R⟩, q⟩ => by
  obtain ⟨Hm, o, fp, e1, sm, ho, _, _⟩ := R.slot h
  cases ho with
  | dat hp => cases hp; exact pe_var hN hv hd hcd pins s σ H Q I ⟨_, e1, q⟩
theorem ci_sub {a : Expr} {k : Int} {p4 : Pos} {w : Nat} (ha : PE X a (tCI X.K ρ i)) : PE X (.BinOp a .Sub (.Constant (.int k) w p4) pos) (tCI X.K ρ (i - k)) := fun pins s σ H Q I ⟨R, q⟩ =>
  pe_sub ha pe_int pins s σ H Q I ⟨R, ⟨i, k, rfl, rfl, q⟩⟩
theorem pe_pick (hf : FA X gs vs) (hb : PE X b (tCI X.K ρ i)) {f : Addr} (h : atI vs i = some (.ref f)) (hz : vs.length ≤ 40) (hp : PlainIx b := by intro _ _; rfl) :
    PE X (.Subscript (.List gs p2) b p3) (fun σ H Q => (∃ F τ, Rel X.K F ρ σ τ H) ∧ ∀ H', Same H H' → Q (.ref f) H') :=
  (pe_ix ix_list (pe_lst hf.pa) hb hp).mono fun σ H Q ⟨⟨F, τ, R⟩, q⟩ =>
    ⟨Nat.le_of_lt (Nat.lt_of_le_of_lt hz (by decide)), fun p hp => ⟨⟨F, τ, R.grown (Same.upd hp)⟩, p, vs, i, .ref f, rfl, rfl, SqL.of upd_same, h, q _ (Same.upd hp)⟩⟩
theorem pe_callV0 {fe : Expr} {tf : TE} {t : TA} (hf : PE X fe tf) (ha : PA X (e :: es) t) (hst : starEach (e :: es) X.env = (false, eval e X.env) :: starEach es X.env := by rfl) (hpl : (backTo pos (starEach es X.env)).any (·.1) = false := by rfl)
    (hcall : eval (.Call fe (e :: es) [] pos) X.env = (do callWith pos (← eval fe X.env) [] (backTo pos (starEach (e :: es) X.env)) (backToKw pos (keywordEach [] X.env))) := by rfl) :
    PE X (.Call fe (e :: es) [] pos) (tCallV X E0 tf t) := by
  intro pins s σ H Q I h
  refine Call_ (thn (hf pins s σ H _ I h) fun u s1 ⟨v, H1, I1, ru, sp, D, q⟩ => ?_) hcall
  refine PySem.W.callWith_K (first := []) (h₀ := X.base) I.ok.mod.kin (D.keep ru) (thn (ha pos pins s1 σ H1 _ I1 q) fun us s2 ⟨vs, H2, I2, r, q2⟩ => ⟨I2.kIn, ?_⟩) hst hpl
  refine (run_defX D (fun pins σ H s e s' I h => ?_) I2 ru r q2).2
  obtain ⟨_, _, _, _, _, _, _, _, _, z⟩ := h
  exact z.elim
section
variable {k : Nat} {x : Str} {ps : List Str} {S : List PyData → Rs → Prop} {ds : List PyData} {s : Ow} {c : Value} {f : Addr}
theorem ev_pick (D : PD X.prog X.w X.K X.mg X.base k x ps S) (hm : X.mg x = some (.ref f)) (hr : Room k X.A) (hf : FA X gs vs) (hb : PE X b (tCI X.K ρ i)) (hi : atI vs i = some (.ref f)) (hz : vs.length ≤ 40) (ha : EA X ρ (e :: es) ds ρ1) (h : S ds (.ok s)) (hn : ds.length = ps.length := by rfl) (hp : PlainIx b := by intro _ _; rfl)
    (he : starEach (e :: es) X.env = (false, eval e X.env) :: starEach es X.env := by rfl) (hpl : (backTo pos (starEach es X.env)).any (·.1) = false := by rfl) : EV X ρ (.Call (.Subscript (.List gs p2) b p3) (e :: es) [] pos) s ρ1 := by
  refine ⟨(pe_callV0 (pe_pick hf hb hi hz hp) ha.pa he hpl).mono fun σ H Q ⟨F, τ, R, q⟩ => ⟨⟨F, τ, R⟩, fun H' sm => ⟨_, ⟨k, x, ps, f, rfl, hm, D, hr⟩, F, τ, R.grown sm, fun vs H1 hl R1 => ?_⟩⟩⟩
  obtain ⟨Hm, h1, h2, h3⟩ := R1.open hl
  exact ⟨Hm, ds, .ok s, by rw [hl]; exact hn, h1, h2, h, h3 s Q q⟩
theorem ex_pick (D : PD X.prog X.w X.K X.mg X.base k x ps S) (hm : X.mg x = some (.ref f)) (hr : Room k X.A) (hf : FA (X.wish (Out X W)) gs vs) (hb : PE (X.wish (Out X W)) b (tCI X.K ρ i)) (hi : atI vs i = some (.ref f)) (hz : vs.length ≤ 40) (ha : EA (X.wish (Out X W)) ρ (e :: es) ds ρ) (h : S ds (.no c)) (hn : ds.length = ps.length := by rfl) (hex : X.ex = [] := by rfl) (hp : PlainIx b := by intro _ _; rfl)
    (he : starEach (e :: es) X.env = (false, eval e X.env) :: starEach es X.env := by rfl) (hpl : (backTo pos (starEach es X.env)).any (·.1) = false := by rfl) : EX X W ρ (.Call (.Subscript (.List gs p2) b p3) (e :: es) [] pos) c := by
  refine ⟨(pe_callV (X := X) (W := W) (pe_pick (X := X.wish (Out X W)) hf hb hi hz hp) ha.pa hex he hpl).mono fun σ H Q ⟨F, τ, R, q⟩ => ⟨⟨F, τ, R⟩, fun H' sm => ⟨_, ⟨k, x, ps, f, rfl, hm, D, hr⟩, F, τ, R.grown sm, fun vs H1 hl R1 => ?_⟩⟩⟩
  obtain ⟨hz, Hm, fps, M⟩ := id R1
  rw [← List.append_assoc] at M
  refine ⟨Hm, ds, .no c, by rw [hl]; exact hn, M.sub, M.datas hl, h, fun H' sm => q H' ?_⟩
  have R2 : Rel X.K F ρ σ τ H1 := R1.drop
  obtain ⟨hz2, Hm2, fps2, M2⟩ := R2
  exact ⟨hz2, Hm2, fps2, M2.grow (Same.refl _) (M2.sub.trans sm) sm New.refl⟩
end
theorem s1_setLcX {c : Value} {elt tg iter : Expr} {ifs : List Expr} {scope : Scope} {lpos pos' : Pos} {x : Str} {O : Oc → Prop} (i : Nat) (own : List (Str × Nat)) (hN : X.N.Nodup) (h : EX X W ρ iter c) (ok : BlkOk X.N X.env.scope scope own) (o : O (.xc c ρ)) (hy : X.N[i]? = some x := by rfl) (hyl : X.env.scope.names.lookup x = some .local := by rfl)
    (hsw : swapsWith (.ListComp elt [⟨tg, iter, ifs, 0⟩] scope lpos) (some (.Name x pos')) pos.line X.env = pure true := by exact sw_true rfl rfl rfl (by decide +kernel)) (hc : X.calm = true := by rfl) (hs : ∀ x, foldedSetIterable iter X.env x = pure x := by intro _; rfl) :
    S1 (X.wish (Out X W)) W ρ (.Assign [.Name x pos'] (.ListComp elt [⟨tg, iter, ifs, 0⟩] scope lpos) pos) O :=
  ⟨(ps_setLc (X := X.wish (Out X W)) (g := fun _ _ _ _ => False) (tt := fun _ _ _ => False) (te := fun _ _ _ => False) hc hN hy hyl hsw (pi_list h.pe) ok (fun _ _ _ _ _ _ _ _ _ _ _ _ _ _ h => h.elim) (fun _ _ _ _ _ _ _ _ _ _ _ h => h.elim) (fun _ _ _ _ _ _ _ _ _ _ _ h => h.elim) hs).mono fun D σ H ⟨F, τ, R, _, _, _, _, h5⟩ => ⟨F, τ, R, fun H1 R1 => h5 c ρ σ H1 o R1⟩⟩
end
end L2
namespace L2
open PySem PySem.Spec PyProof.Rows
section
variable {X : Cx} {W : Value → Hp → Prop} {ρ : List Ow} {o e : Expr} {es : List Expr} {pos : Pos} {C : Addr} {c : Value} {m : Str} {k : Nat} {ps : List Str} {S : Fs → List PyData → Fs → Rs → Prop} {w : Option Addr} {ts : Fs} {ds : List PyData}
theorem ex_onM {apos : Pos} (D : PM X.prog X.w X.K X.mg X.base k C m ps S) (cl : Cls X.K C) (hr : Room k X.A) (ho : EV (X.wish (Out X W)) ρ o (.obj w C ts) ρ) (ha : EA (X.wish (Out X W)) ρ (e :: es) ds ρ) (hS : S ts ds ts (.no c)) (hm : ts.lookup m = none := by rfl) (hn : ds.length = ps.length - 1 := by rfl) (hex : X.ex = [] := by rfl)
    (hst : starEach (e :: es) X.env = (false, eval e X.env) :: starEach es X.env := by rfl) (hpl : (backTo pos (starEach es X.env)).any (·.1) = false := by rfl) {pl : Sem Bool}
    (ht : eval (.Call (.Attribute o m apos) (e :: es) [] pos) X.env = (do
      let ov ← eval o X.env
      standAt apos.atName
      let (f, first) ← holding [ov] (getMethod ov m pl)
      callWith pos f first (backTo pos (starEach (e :: es) X.env)) (backToKw pos (keywordEach [] X.env))) := by rfl) :
    EX X W ρ (.Call (.Attribute o m apos) (e :: es) [] pos) c := by
  obtain ⟨f, fd, hme, hb, Fn⟩ := D.ex
  rw [← hn] at Fn
  refine ⟨(pe_meth (X := X.wish (Out X W)) ho.pe cl hme Fn hr hb .nil (passX (W := W) (E := fun C _ H => W C H) (fun _ _ h => h) hex) ha.pa hst hpl ht).mono fun σ H Q ⟨F, τ, R, q⟩ => ⟨F, τ, R, fun v H1 R1 => ?_⟩⟩
  obtain ⟨hz, Hm, fps, M⟩ := id R1
  rw [← List.append_assoc] at M
  have hz0 : (σ.zip ρ ++ τ ++ [((some v : Option V), Ow.obj w C ts)])[(σ.zip ρ ++ τ).length]? = some (some v, .obj w C ts) := by simp
  have ho := M.ok _ _ _ hz0
  obtain ⟨a, dx, fs, val, g, e1, _, _, h1, _, _, _, h3, _⟩ := ho.obj_inv
  cases e1
  refine ⟨a, dx, fs, rfl, h1, h3 m hm, F, _, R1, fun vs H2 hl R2 => ?_⟩
  dsimp only
  rw [List.append_nil]
  exact Rel.callTX (X := X) (Q := Q) (E := fun C _ H => W C H) R2 hl hS fun H' R' => q H' R'.drop.drop
end
end L2
namespace L2
open PySem PySem.Spec PyProof.Rows
section
variable {X : Cx} {ρ ρ1 ρ2 : List Ow} {o e : Expr} {pos : Pos} {xs : List Int} {n : Int}
theorem mt_countT : MtR X "tuple.count" (fun x xs H Q => ∃ (a : Addr) (ys : List V) (y : V), x = .ref a ∧ xs = [y] ∧ SqT X.K H a ys ∧ flatV y = true ∧ ys.all flatV = true ∧ Q (.int (ys.countP (fun z => eqV z y) : Nat)) H) := by
  intro pins s σ H x xs v us Q I rx rxs h
  obtain ⟨a, ys, y, rfl, rfl, hs, fy, fys, q⟩ := h
  cases rx
  cases rxs with
  | cons ry rt =>
    rename_i uy ut
    cases rt
    obtain ⟨its, rv, ⟨⟨cls, dd, data, sl⟩, ho, hc, n, hd⟩, hlen⟩ := I.tuple hs
    simp only at hc hd
    subst hc hd
    have cnt : ∀ {zs : List V} {ws : List Value}, Vals zs ws → zs.all flatV = true → ws.countP (eqU y) = zs.countP fun z => eqV z y := by
      intro zs ws r
      induction r with
      | nil => intro _; rfl
      | cons r1 _ ih =>
        intro f
        rw [List.all_cons, Bool.and_eq_true] at f
        rw [List.countP_cons, List.countP_cons, ih f.2, eqU_of r1 f.1]
    refine call_meets PySem.F.slot_tuple_count ⟨_, ho, rfl⟩ PySem.F.entry_tuple_count (PySem.F.args_tuple_count_2 _ _) (SeqAt.tuple_countAt a its.toArray n dd sl uy (eqU y)) ⟨ho, fun u hu => mem_eqAt ry fy rv fys u (by simpa using hu), ?_⟩
    refine ⟨.int (ys.countP (fun z => eqV z y) : Nat), H, I.tok _, ⟨s.toks, ?_⟩, q⟩
    rw [cnt rv fys]
theorem countP_ints (xs : List Int) (n : Int) : (xs.map V.int).countP (fun z => eqV z (V.int n)) = xs.count n := by
  rw [List.countP_map, List.count]
  congr 1
theorem pe_bmT {es : List Expr} {to : TE} {t : TA} {name : Str} {apos cpos : Pos} {id : String} {r : V → List V → Hp → VK → Prop} (pa : PlainAttrs "tuple") (slot : Slot "tuple" name id) (hty : typeOf (.builtin id) = pure (.type "method_descriptor")) (hm : MtR X id r) (ho : PE X o to) (ha : PA X (e :: es) t)
    (hbase : attributeBase o name X.env (eval o X.env) = eval o X.env := by rfl)
    (hfew : ((backTo cpos (starEach (e :: es) X.env)).all (fun x => !x.1) && (backToKw cpos (keywordEach [] X.env)).all (fun x => x.1.isSome)
      && decide ((e :: es).length + ([] : List Keyword).length + (if ([] : List Keyword).isEmpty then 0 else 1) < 30)) = true := by rfl)
    (hline : (apos.endLine == cpos.line) = true := by rfl) (hs : starEach (e :: es) X.env = (false, eval e X.env) :: starEach es X.env := by rfl) (hplain : (backTo cpos (starEach es X.env)).any (·.1) = false := by rfl) :
    PE X (.Call (.Attribute o name apos) (e :: es) [] cpos) (fun σ H Q => to σ H fun x H1 => (∃ a ys, x = .ref a ∧ SqT X.K H1 a ys) ∧ t σ H1 fun xs H2 => r x xs H2 Q) := by
  intro pins s σ H Q I h
  refine wpAny_Call_method_late hbase hfew hline rfl (thn (ho pins s σ H _ I h) fun v s1 ⟨x, H1, I1, r1, ⟨a, ys, ex, hq⟩, q1⟩ => ?_)
  subst ex
  cases r1
  obtain ⟨its, _, ⟨o', eo, ⟨c, d⟩, n, _⟩, _⟩ := I1.tupleD hq
  refine ⟨"tuple", id, pa, slot, hty, ⟨o', eo, c⟩, fun b eb => by cases eb; exact ⟨o', eo, d⟩, ?_⟩
  have hA := ha cpos pins s1 σ H1 _ I1 q1
  rw [hs] at hA ⊢
  refine Calls.callWith_builtin (by show (false || (backTo cpos (starEach es X.env)).any (·.1)) = false; rw [hplain] <;> rfl) (Calls.evalArgs_plain ?_)
  exact thn hA fun us s2 ⟨vs, H2, I2, r2, q2⟩ => hm pins s2 σ H2 (.ref a) vs (.ref a) us Q I2 rfl r2 q2
theorem ev_countT {apos : Pos} (ho : EV X ρ o (.dat (.tuple (xs.map .int))) ρ) (he : EV X ρ e (.dat (.int n)) ρ) (hst : starEach [e] X.env = (false, eval e X.env) :: starEach [] X.env) (hbase : attributeBase o "count" X.env (eval o X.env) = eval o X.env := by rfl) (hline : (apos.endLine == pos.line) = true := by rfl) :
    EV X ρ (.Call (.Attribute o "count" apos) [e] [] pos) (.dat (.int (xs.count n : Nat))) ρ := by
  refine ⟨(pe_bmT PySem.F.plainAttrs_tuple PySem.F.slot_tuple_count PySem.F.type_tuple_count mt_countT ho.pe (pa_cons he.pe pa_nil hst) hbase (by rw [hst]; rfl) hline hst rfl).mono fun σ H Q ⟨F, τ, R, q⟩ => ⟨F, τ, R, fun v H1 R1 => ⟨?_, F, _, R1, fun u H2 R2 => ?_⟩⟩⟩
  · obtain ⟨Hm, h1, h2, _⟩ := R1.one
    cases h2 with
    | @tup t vs _ p1 p2 => exact ⟨t, vs, rfl, h1.tup p1⟩
  · obtain ⟨Hm, h1, h2, h3, h4⟩ := R2.two
    cases h3
    cases h2 with
    | @tup t vs _ p1 p2 =>
      rw [p2.ints_inv] at p1
      exact ⟨t, _, _, rfl, rfl, h1.tup p1, rfl, by rw [List.all_map]; exact List.all_eq_true.mpr fun _ _ => rfl, by rw [countP_ints]; exact (h4 _ Q q).flat h1 (.int _)⟩
end
end L2
namespace My
open PySem L2
def top (i : Nat) : Stmt := PySem.Challenge.pw_gatebeats_k01_rows.main.body.getD i (.Pass ⟨0, 0, 0, 0⟩)
abbrev s_is_whole : Stmt := top 2
abbrev s_is_within : Stmt := top 3
abbrev s_common_divisor : Stmt := top 4
abbrev s_fraction : Stmt := top 5
abbrev s_is_less : Stmt := top 6
abbrev s_lesser : Stmt := top 7
abbrev s_greater : Stmt := top 8
abbrev s_is_row : Stmt := top 19
abbrev s_check_row : Stmt := top 20
abbrev s_check_rows : Stmt := top 21
abbrev s_check_length : Stmt := top 22
abbrev s_check_gate : Stmt := top 23
abbrev s_beats_from : Stmt := top 24
abbrev s_beats_in : Stmt := top 25
abbrev s_counted : Stmt := top 26
abbrev s_gaps : Stmt := top 27
abbrev s_gates_end : Stmt := top 32
abbrev s_check_gates : Stmt := top 33
abbrev s_gate_starts : Stmt := top 34
abbrev s_in_gates : Stmt := top 35
abbrev s_lost : Stmt := top 36
abbrev s_check_step : Stmt := top 39
abbrev s_Counter___init__ : Stmt := inClass (top 40) 0
abbrev s_Counter_go_on : Stmt := inClass (top 40) 1
abbrev s_wait_for : Stmt := top 42
abbrev s_to_next : Stmt := top 43
abbrev s_longest_wait : Stmt := top 44
abbrev s_between : Stmt := top 45
abbrev s_bounds : Stmt := top 47
abbrev s_can_be_steady : Stmt := top 48
abbrev s_simplest_between : Stmt := top 49
abbrev s_simplest : Stmt := top 50
abbrev s_phase_for : Stmt := top 51
abbrev s_by_count : Stmt := top 53
abbrev s_by_time : Stmt := top 54
abbrev s_width : Stmt := top 55
abbrev s_sharper : Stmt := top 56
abbrev s__law_cell : Stmt := top 58
abbrev s__law_pick : Stmt := top 59
abbrev s__law_places : Stmt := top 60
abbrev s__law_put : Stmt := top 61
abbrev s__law_spoilt_thing : Stmt := top 62
abbrev s__law_word : Stmt := top 63
abbrev s__law_row : Stmt := top 64
abbrev s__law_do : Stmt := top 66
abbrev s__law_is_row : Stmt := top 67
abbrev s_law : Stmt := top 68
structure Bt (mg : Str → Option Value) : Prop where
  len : mg "len" = none
  isinstance : mg "isinstance" = none
  int : mg "int" = none
  bool : mg "bool" = none
  str : mg "str" = none
  tuple : mg "tuple" = none
  list : mg "list" = none
  set : mg "set" = none
  all : mg "all" = none
  any : mg "any" = none
  zip : mg "zip" = none
  range : mg "range" = none
  max : mg "max" = none
  min : mg "min" = none
  sum : mg "sum" = none
  abs : mg "abs" = none
  sorted : mg "sorted" = none
  enumerate : mg "enumerate" = none
  divmod : mg "divmod" = none
  dict : mg "dict" = none
theorem shapedInts (ns : List Int) : SeqAt.shaped (.list (ns.map PyData.int)) = true := by
  have h1 : ∀ l : List Int, PyData.canLayAll0 (l.map PyData.int) = true := by
    intro l
    induction l with
    | nil => rfl
    | cons a l ih => simp [PyData.canLayAll0, PyData.canLay0, ih]
  have h2 : ∀ l : List Int, PyData.depthAll (l.map PyData.int) ≤ 1 := by
    intro l
    induction l with
    | nil => simp [PyData.depthAll]
    | cons a l ih => simp [PyData.depthAll, PyData.depth]; omega
  have := h2 ns
  simp [SeqAt.shaped, PyData.canLay0, PyData.depth, h1]
  omega
theorem fit40 {n : Nat} (h : n ≤ 40) : n < sizeLine := Nat.lt_of_le_of_lt h (by decide)
theorem fit1000 {n : Nat} (h : n ≤ 1000) : n < sizeLine := Nat.lt_of_le_of_lt h (by decide)
theorem eqvAll_ints : ∀ xs ys : List Int, PyData.eqvAll (xs.map PyData.int) (ys.map PyData.int) = decide (xs = ys)
  | [], [] => rfl
  | [], _ :: _ => rfl
  | _ :: _, [] => rfl
  | x :: xs, y :: ys => by
    simp only [List.map_cons, PyData.eqvAll, PyData.eqv, eqvAll_ints xs ys]
    by_cases h : x = y <;> simp [h]
theorem eqvL_ints (xs ys : List Int) : PyData.eqv (.list (xs.map PyData.int)) (.list (ys.map PyData.int)) = decide (xs = ys) := by
  simp [PyData.eqv, eqvAll_ints]
theorem eqvT_ints (xs ys : List Int) : PyData.eqv (.tuple (xs.map PyData.int)) (.tuple (ys.map PyData.int)) = decide (xs = ys) := by
  simp [PyData.eqv, eqvAll_ints]
theorem shapedIntsT (ns : List Int) : SeqAt.shaped (.tuple (ns.map PyData.int)) = true := by
  have h1 : ∀ l : List Int, PyData.canLayAll0 (l.map PyData.int) = true := by
    intro l
    induction l with
    | nil => rfl
    | cons a l ih => simp [PyData.canLayAll0, PyData.canLay0, ih]
  have h2 : ∀ l : List Int, PyData.depthAll (l.map PyData.int) ≤ 1 := by
    intro l
    induction l with
    | nil => simp [PyData.depthAll]
    | cons a l ih => simp [PyData.depthAll, PyData.depth]; omega
  have := h2 ns
  simp [SeqAt.shaped, PyData.canLay0, PyData.depth, h1]
  omega
def cell (ns : List Int) (k : Int) : Int := if k < ns.length then ns.getD k.toNat 0 else if ns = [] then 0 else ns.getD (k % ns.length).toNat 0 * 31 + k
def drawn (ns : List Int) (k : Int) : Int := (cell ns k + 6151 * (k + 1)) * 40692 % 2147483399
def pick (ns : List Int) (k m : Int) : Int := (drawn ns k * drawn ns k + drawn ns k / 31) % 2147483629 % m
theorem pick_lo (ns : List Int) (k : Int) {m : Int} (h : 0 < m) : 0 ≤ pick ns k m := Int.emod_nonneg _ (by omega)
theorem pick_hi (ns : List Int) (k : Int) {m : Int} (h : 0 < m) : pick ns k m < m := Int.emod_lt_of_pos _ h
theorem drawn_lo (ns : List Int) (k : Int) : 0 ≤ drawn ns k := Int.emod_nonneg _ (by decide)
theorem drawn_hi (ns : List Int) (k : Int) : drawn ns k < 2147483399 := Int.emod_lt_of_pos _ (by decide)
def rowGo (ns : List Int) (at_ top_ : Int) : Nat → Int → Int → List Int
  | 0, _, _ => []
  | n + 1, k, here => here :: rowGo ns at_ top_ n (k + 1) (here + 1 + pick ns (at_ + 3 + k) top_)
def rowTop (ns : List Int) (at_ : Int) : Int := ([1, 3, 12, 200] : List Int).getD (pick ns (at_ + 1) 4).toNat 0
def rowN (ns : List Int) (at_ most : Int) : Nat := (pick ns (at_ + 2) (most + 1)).toNat
def rowM (ns : List Int) (at_ most : Int) : List Int := rowGo ns at_ (rowTop ns at_) (rowN ns at_ most) 0 (pick ns at_ 30)
theorem four {k : Int} (h0 : 0 ≤ k) (h1 : k < 4) : k = 0 ∨ k = 1 ∨ k = 2 ∨ k = 3 := by omega
theorem rowTop_ok (ns : List Int) (at_ : Int) : 1 ≤ rowTop ns at_ ∧ rowTop ns at_ ≤ 200 := by
  unfold rowTop
  rcases four (pick_lo ns (at_ + 1) (m := 4) (by decide)) (pick_hi ns (at_ + 1) (m := 4) (by decide)) with h | h | h | h <;> rw [h] <;> decide
theorem rowGo_len (ns : List Int) (at_ top_ : Int) : ∀ (n : Nat) (k here : Int), (rowGo ns at_ top_ n k here).length = n
  | 0, _, _ => rfl
  | n + 1, k, here => by simp [rowGo, rowGo_len ns at_ top_ n]
theorem rowGo_mem (ns : List Int) (at_ top_ : Int) (h1 : 1 ≤ top_) (h2 : top_ ≤ 200) : ∀ (n : Nat) (k here : Int), ∀ b ∈ rowGo ns at_ top_ n k here, here ≤ b ∧ b + 200 ≤ here + 200 * (n : Int)
  | 0, _, _, b, hb => by simp [rowGo] at hb
  | n + 1, k, here, b, hb => by
    have p0 := pick_lo ns (at_ + 3 + k) (m := top_) (by omega)
    have p1 := pick_hi ns (at_ + 3 + k) (m := top_) (by omega)
    rcases List.mem_cons.mp hb with rfl | hb
    · omega
    · have := rowGo_mem ns at_ top_ h1 h2 n (k + 1) _ b hb
      omega
theorem rowGo_rise (ns : List Int) (at_ top_ : Int) (h1 : 1 ≤ top_) (h2 : top_ ≤ 200) : ∀ (n : Nat) (k here : Int), (rowGo ns at_ top_ n k here).Pairwise (· < ·)
  | 0, _, _ => List.Pairwise.nil
  | n + 1, k, here => by
    have p0 := pick_lo ns (at_ + 3 + k) (m := top_) (by omega)
    refine List.Pairwise.cons (fun b hb => ?_) (rowGo_rise ns at_ top_ h1 h2 n _ _)
    have := rowGo_mem ns at_ top_ h1 h2 n (k + 1) _ b hb
    omega
structure RowOk (r : List Int) : Prop where
  len : r.length ≤ 40
  rng : ∀ b ∈ r, 0 ≤ b ∧ b ≤ 9999
  inc : r.Pairwise (· < ·)
theorem rowM_len (ns : List Int) (at_ : Int) {most : Int} (h0 : 0 ≤ most) : ((rowM ns at_ most).length : Int) ≤ most := by
  have p0 := pick_lo ns (at_ + 2) (m := most + 1) (by omega)
  have p1 := pick_hi ns (at_ + 2) (m := most + 1) (by omega)
  unfold rowM
  rw [rowGo_len, rowN]
  omega
theorem rowM_hi (ns : List Int) (at_ : Int) {most : Int} (h0 : 0 ≤ most) : ∀ b ∈ rowM ns at_ most, 0 ≤ b ∧ b + 200 < 30 + 200 * most := fun b hb => by
  obtain ⟨t1, t2⟩ := rowTop_ok ns at_
  have := rowGo_mem ns at_ _ t1 t2 _ _ _ b hb
  have p0 := pick_lo ns at_ (m := 30) (by decide)
  have p1 := pick_hi ns at_ (m := 30) (by decide)
  have q0 := pick_lo ns (at_ + 2) (m := most + 1) (by omega)
  have q1 := pick_hi ns (at_ + 2) (m := most + 1) (by omega)
  have e : ((rowN ns at_ most : Nat) : Int) = pick ns (at_ + 2) (most + 1) := by
    unfold rowN
    omega
  omega
theorem rowM_ok (ns : List Int) (at_ : Int) {most : Int} (h0 : 0 ≤ most) (h1 : most ≤ 40) : RowOk (rowM ns at_ most) := by
  obtain ⟨t1, t2⟩ := rowTop_ok ns at_
  refine ⟨?_, fun b hb => ?_, rowGo_rise ns at_ _ t1 t2 _ _ _⟩
  · have := rowM_len ns at_ h0
    omega
  · have := rowM_hi ns at_ h0 b hb
    omega
def isWholeD : PyData → Bool
  | .int _ => true
  | _ => false
def withinD : PyData → Int → Int → Bool
  | .int i, lo, hi => decide (lo ≤ i) && decide (i ≤ hi)
  | _, _, _ => false
structure Cs (mg : Str → Option Value) : Prop where
  most : ∃ t, mg "MOST_BEATS" = some (.int 40 t)
  last : ∃ t, mg "LAST_TICK" = some (.int 9999 t)
  long : ∃ t, mg "LONGEST_GATE" = some (.int 9999 t)
def ltD : PyData → PyData → Bool
  | .int i, .int j => decide (i < j)
  | _, _ => false
def risingD : List PyData → Bool
  | a :: b :: r => ltD a b && risingD (b :: r)
  | _ => true
def isRowD : PyData → Bool
  | .tuple ds => decide (ds.length ≤ 40) && ds.all (fun d => withinD d 0 9999) && risingD ds
  | _ => false
def pairsLt (ns : List Int) : List Bool := (ns.zip (ns.drop 1)).map fun p => decide (p.1 < p.2)
theorem pairsLt_all : ∀ ns : List Int, (pairsLt ns).all id = risingD (ns.map PyData.int)
  | [] => rfl
  | [_] => rfl
  | a :: b :: r => by
    have ih := pairsLt_all (b :: r)
    simp only [pairsLt, List.drop_succ_cons, List.drop_zero, List.zip_cons_cons, List.map_cons, List.all_cons, id, risingD, ltD] at ih ⊢
    rw [ih]
theorem isRowD_of {r : List Int} (h : RowOk r) : isRowD (.tuple (r.map PyData.int)) = true := by
  have h1 : (r.map PyData.int).all (fun d => withinD d 0 9999) = true := by
    rw [List.all_eq_true]
    intro d hd
    obtain ⟨b, hb, rfl⟩ := List.mem_map.mp hd
    have := h.rng b hb
    simp [withinD, this.1, this.2]
  have h2 : ∀ {r : List Int}, r.Pairwise (· < ·) → risingD (r.map PyData.int) = true := by
    intro r hr
    induction r with
    | nil => rfl
    | cons a r ih =>
      cases r with
      | nil => rfl
      | cons b r =>
        have e := ih (List.Pairwise.of_cons hr)
        have lt := List.rel_of_pairwise_cons hr (List.mem_cons_self ..)
        simp only [List.map_cons, risingD, ltD, decide_eq_true lt, Bool.true_and] at e ⊢
        exact e
  have h3 := h.len
  simp only [isRowD, List.length_map, decide_eq_true h3, h1, h2 h.inc, Bool.and_self]
def fromTo (r : List Int) (s e : Int) : List Int := r.filter fun b => decide (s ≤ b) && decide (b < e)
abbrev inGate (r : List Int) (s l : Int) : List Int := fromTo r s (s + l)
section
variable {P : Program} {w : World} {K : PySem.W.Frag} {mg : Str → Option Value} {base : Heap}
abbrev tI (r : List Int) : PyData := .tuple (r.map .int)
abbrev lI (r : List Int) : PyData := .list (r.map .int)
theorem sc_is_whole : FnScope ["thing"] ["thing"] (defScope s_is_whole) := ⟨rfl, rfl, rfl, by decide +kernel, rfl, by decide +kernel, by decide +kernel⟩
abbrev S_is_whole : List PyData → Rs → Prop := fun ds r => ∃ d, ds = [d] ∧ r = okD (.bool (isWholeD d))
theorem vd_is_whole (W : Where K mg "is_whole" s_is_whole) (B : Bt mg) : PD P w K mg base 1 "is_whole" ["thing"] S_is_whole := by
  refine PD.mk W sc_is_whole (fun _ _ _ _ _ _ us hl => match us, hl with | [_], _ => rfl) fun f cdv A outer s H E ds r hr hS => ?_
  obtain ⟨d, rfl, rfl⟩ := hS
  show BS _ _ [.dat d] _ _
  refine bs_ret (ev_and (ev_isD (c := "int") B.isinstance B.int (ev_var 0 rfl)) fun _ => ev_one (ev_not (ev_isD (c := "bool") B.isinstance B.bool (ev_var 0 rfl)))) ?_
  cases d <;> rfl
theorem sc_is_within : FnScope ["thing", "least", "most"] ["thing", "least", "most"] (defScope s_is_within) := ⟨rfl, rfl, rfl, by decide +kernel, rfl, by decide +kernel, by decide +kernel⟩
abbrev S_is_within : List PyData → Rs → Prop := fun ds r => ∃ d lo hi, ds = [d, .int lo, .int hi] ∧ r = okD (.bool (withinD d lo hi))
theorem vd_is_within (W : Where K mg "is_within" s_is_within) (D_is_whole : PD P w K mg base 1 "is_whole" ["thing"] S_is_whole) : PD P w K mg base 2 "is_within" ["thing", "least", "most"] S_is_within := by
  refine PD.mk W sc_is_within (fun _ _ _ _ _ _ us hl => match us, hl with | [_, _, _], _ => rfl) fun f cdv A outer s H E ds r hr hS => ?_
  obtain ⟨d, lo, hi, rfl, rfl⟩ := hS
  show BS _ _ [.dat d, .dat (.int lo), .dat (.int hi)] _ _
  cases d with
  | int i => exact bs_ret (ev_and (ev_call D_is_whole hr (ea_cons (ev_var 0 rfl) ea_nil star_nam) ⟨_, rfl, rfl⟩) fun _ => (ev_one (ev_chain cmp_le cmp_le (ev_var 1 rfl) (ev_var 0 rfl) (ev_var 2 rfl)))) rfl
  | _ => exact bs_ret (ev_and (k' := false) (ev_call D_is_whole hr (ea_cons (ev_var 0 rfl) ea_nil star_nam) ⟨_, rfl, rfl⟩) fun h => by cases h) rfl
theorem sc_is_row : FnScope ["thing", "beat", "sooner", "later"] ["thing"] (defScope s_is_row) := ⟨rfl, rfl, rfl, by decide +kernel, rfl, by decide +kernel, by decide +kernel⟩
abbrev S_is_row : List PyData → Rs → Prop := fun ds r => ∃ d, ds = [d] ∧ r = okD (.bool (isRowD d))
theorem ints_of_all : ∀ {ds : List PyData}, ds.all (fun d => withinD d 0 9999) = true → ∃ ns : List Int, ds = ns.map PyData.int
  | [], _ => ⟨[], rfl⟩
  | d :: ds, e => by
    simp only [List.all_cons, Bool.and_eq_true] at e
    obtain ⟨ns, rfl⟩ := ints_of_all e.2
    cases d with
    | int i => exact ⟨i :: ns, rfl⟩
    | _ => exact absurd e.1 (by simp [withinD])
theorem vd_is_row (W : Where K mg "is_row" s_is_row) (B : Bt mg) (c_MOST_BEATS : ∃ t, mg "MOST_BEATS" = some (.int 40 t)) (c_LAST_TICK : ∃ t, mg "LAST_TICK" = some (.int 9999 t)) (D_is_within : PD P w K mg base 2 "is_within" ["thing", "least", "most"] S_is_within) : PD P w K mg base 3 "is_row" ["thing"] S_is_row := by
  have nd := sc_is_row.nd
  refine PD.mk W sc_is_row (fun _ _ _ _ _ _ us hl => match us, hl with | [_], _ => rfl) fun f cdv A outer s H E ds r hr hS => ?_
  obtain ⟨d, rfl, rfl⟩ := hS
  show BS _ _ [.dat d, .no, .no, .no] _ _
  cases d with
  | tuple xs =>
    by_cases h1 : (xs.length : Int) > 40
    · refine bs_yes (ew_or (et_not (et_val (ev_isD (c := "tuple") B.isinstance B.tuple (ev_var 0 rfl)))) fun _ => (ew_or1 (et_cmp cmp_gt (ev_callB fn_lenT B.len (ea_cons (ev_var 0 rfl) ea_nil star_nam)) (ev_gint c_MOST_BEATS)))).et (by simp [isD, tyD]; omega) (bs_ret ev_bl ?_)
      show Ow.dat (.bool false) = _
      rw [show isRowD (.tuple xs) = false by simp [isRowD]; intro z; omega]
    · refine bs_no (ew_or (et_not (et_val (ev_isD (c := "tuple") B.isinstance B.tuple (ev_var 0 rfl)))) fun _ => (ew_or1 (et_cmp cmp_gt (ev_callB fn_lenT B.len (ea_cons (ev_var 0 rfl) ea_nil star_nam)) (ev_gint c_MOST_BEATS)))).et (by simp [isD, tyD]; omega) ?_
      have hz : xs.length < sizeLine := fit40 (by omega)
      have hl : decide (xs.length ≤ 40) = true := decide_eq_true (by omega)
      have all1 : ∀ {Y : Cx}, Y.mg = mg → True := fun _ => True.intro
      cases h2 : xs.all (fun d => withinD d 0 9999) with
      | false =>
        refine bs_yes (et_not (et_val (ev_callB fn_all B.all (ea_cons (ev_lcM (xs := xs) (g := fun x => x) [("beat", 1)] nd (ei_tup (by rw [List.map_id']; exact ev_var 0 rfl)) (blkOk_by (own := [("beat", 1)]) (N := ["thing", "beat", "sooner", "later"]) (sc := defScope s_is_row) (by decide +kernel)) hz (fun _ _ _ _ _ x hx => (gt_name 1 nd)) (fun _ _ _ _ _ x hx => (ev_call D_is_within (hr.mono (by decide)) (ea_cons (ev_var 1 rfl) (ea_cons ev_int (ea_cons (ev_gint c_LAST_TICK) ea_nil star_nam) star_con) star_nam) (by exact ⟨_, _, _, rfl, rfl⟩)))).bools.frz ea_nil star_lc)))) ?_ (bs_ret ev_bl ?_)
        · rw [List.all_map]
          simpa using h2
        · show Ow.dat (.bool false) = _
          rw [show isRowD (.tuple xs) = false by simp only [isRowD, hl, h2, Bool.and_false, Bool.false_and]]
      | true =>
        refine bs_no (et_not (et_val (ev_callB fn_all B.all (ea_cons (ev_lcM (xs := xs) (g := fun x => x) [("beat", 1)] nd (ei_tup (by rw [List.map_id']; exact ev_var 0 rfl)) (blkOk_by (own := [("beat", 1)]) (N := ["thing", "beat", "sooner", "later"]) (sc := defScope s_is_row) (by decide +kernel)) hz (fun _ _ _ _ _ x hx => (gt_name 1 nd)) (fun _ _ _ _ _ x hx => (ev_call D_is_within (hr.mono (by decide)) (ea_cons (ev_var 1 rfl) (ea_cons ev_int (ea_cons (ev_gint c_LAST_TICK) ea_nil star_nam) star_con) star_nam) (by exact ⟨_, _, _, rfl, rfl⟩)))).bools.frz ea_nil star_lc)))) ?_ ?_
        · rw [List.all_map]
          simpa using h2
        · obtain ⟨ns, rfl⟩ := ints_of_all h2
          refine bs_ret (ev_callB fn_all B.all (ea_cons (ev_lcM [("sooner", 2), ("later", 3)] nd (ei_zipT B.zip (ea_cons (ev_var 0 rfl) (ea_cons (ev_slT' (ev_var 0 rfl) (eo_some ev_int) eo_no) ea_nil star_sub) star_nam)).zip (blkOk_by (own := [("sooner", 2), ("later", 3)]) (N := ["thing", "beat", "sooner", "later"]) (sc := defScope s_is_row) (by decide +kernel)) ?_ (fun _ _ _ _ _ x hx => (gt_tup rfl (gts_cons (gt_name 2 nd) (gts_cons (gt_name 3 nd) gts_nil)))) (fun _ _ _ _ _ x hx => (ev_cmp cmp_lt (ev_var 2 rfl) (ev_var 3 rfl)))).bools.frz ea_nil star_lc)) ?_
          · simp at hz ⊢
            omega
          · show Ow.dat (.bool (List.all (List.map _ (ns.zip (cutD ns (some 1) none))) id)) = _
            rw [cutD_1, show isRowD (.tuple (ns.map .int)) = risingD (ns.map .int) by simp only [isRowD, hl, h2, Bool.true_and]]
            rw [← pairsLt_all]
            rfl
  | _ => exact bs_yes (ew_or (k' := true) (et_not (et_val (ev_isD (c := "tuple") B.isinstance B.tuple (ev_var 0 rfl)))) fun h => by cases h).et rfl (bs_ret ev_bl rfl)
abbrev S_row1 : List PyData → Rs → Prop := fun ds r => ∃ q, ds = [tI q] ∧ RowOk q ∧ r = okD .none
theorem sc_check_row : FnScope ["row"] ["row"] (defScope s_check_row) := ⟨rfl, rfl, rfl, by decide +kernel, rfl, by decide +kernel, by decide +kernel⟩
theorem vd_check_row (W : Where K mg "check_row" s_check_row) (D_is_row : PD P w K mg base 3 "is_row" ["thing"] S_is_row) : PD P w K mg base 4 "check_row" ["row"] S_row1 := by
  refine PD.mk W sc_check_row (fun _ _ _ _ _ _ us hl => match us, hl with | [_], _ => rfl) fun f cdv A outer s H E ds r hr hS => ?_
  obtain ⟨q, rfl, ok, rfl⟩ := hS
  show BS _ _ [.dat (tI q)] _ _
  refine bs_no (et_not (et_val (ev_call D_is_row (hr.mono (by decide)) (ea_cons (ev_var 0 rfl) ea_nil star_nam) ⟨_, rfl, rfl⟩))) ?_ (bs_nil rfl)
  rw [isRowD_of ok]
  rfl
theorem sc_check_length : FnScope ["length"] ["length"] (defScope s_check_length) := ⟨rfl, rfl, rfl, by decide +kernel, rfl, by decide +kernel, by decide +kernel⟩
abbrev S_len : List PyData → Rs → Prop := fun ds r => ∃ l : Int, ds = [.int l] ∧ 1 ≤ l ∧ l ≤ 9999 ∧ r = okD .none
theorem vd_check_length (W : Where K mg "check_length" s_check_length) (c_LONGEST_GATE : ∃ t, mg "LONGEST_GATE" = some (.int 9999 t)) (D_is_within : PD P w K mg base 2 "is_within" ["thing", "least", "most"] S_is_within) : PD P w K mg base 3 "check_length" ["length"] S_len := by
  refine PD.mk W sc_check_length (fun _ _ _ _ _ _ us hl => match us, hl with | [_], _ => rfl) fun f cdv A outer s H E ds r hr hS => ?_
  obtain ⟨l, rfl, h1, h2, rfl⟩ := hS
  show BS _ _ [.dat (.int l)] _ _
  refine bs_no (et_not (et_val (ev_call D_is_within hr (ea_cons (ev_var 0 rfl) (ea_cons ev_int (ea_cons (ev_gint c_LONGEST_GATE) ea_nil star_nam) star_con) star_nam) ⟨_, _, _, rfl, rfl⟩))) ?_ (bs_nil rfl)
  simp [withinD, h1, h2]
theorem sc_check_gate : FnScope ["start", "length"] ["start", "length"] (defScope s_check_gate) := ⟨rfl, rfl, rfl, by decide +kernel, rfl, by decide +kernel, by decide +kernel⟩
abbrev S_gate : List PyData → Rs → Prop := fun ds r => ∃ s l : Int, ds = [.int s, .int l] ∧ 0 ≤ s ∧ s ≤ 9999 ∧ 1 ≤ l ∧ l ≤ 9999 ∧ r = okD .none
theorem vd_check_gate (W : Where K mg "check_gate" s_check_gate) (c_LAST_TICK : ∃ t, mg "LAST_TICK" = some (.int 9999 t)) (D_is_within : PD P w K mg base 2 "is_within" ["thing", "least", "most"] S_is_within) (D_check_length : PD P w K mg base 3 "check_length" ["length"] S_len) : PD P w K mg base 4 "check_gate" ["start", "length"] S_gate := by
  refine PD.mk W sc_check_gate (fun _ _ _ _ _ _ us hl => match us, hl with | [_, _], _ => rfl) fun f cdv A outer s H E ds r hr hS => ?_
  obtain ⟨st, l, rfl, h1, h2, h3, h4, rfl⟩ := hS
  show BS _ _ [.dat (.int st), .dat (.int l)] _ _
  refine bs_no (et_not (et_val (ev_call D_is_within (hr.mono (by decide)) (ea_cons (ev_var 0 rfl) (ea_cons ev_int (ea_cons (ev_gint c_LAST_TICK) ea_nil star_nam) star_con) star_nam) ⟨_, _, _, rfl, rfl⟩))) (by simp [withinD, h1, h2]) ?_
  exact bs_cons (s1_expr (ev_call D_check_length hr (ea_cons (ev_var 1 rfl) ea_nil star_nam) ⟨_, rfl, h3, h4, rfl⟩) (bs_nil rfl))
theorem sc_beats_from : FnScope ["row", "start", "end", "beat"] ["row", "start", "end"] (defScope s_beats_from) := ⟨rfl, rfl, rfl, by decide +kernel, rfl, by decide +kernel, by decide +kernel⟩
abbrev S_from : List PyData → Rs → Prop := fun ds r => ∃ (d : PyData) (q : List Int) (s e : Int), ds = [d, .int s, .int e] ∧ (d = tI q ∨ d = lI q) ∧ q.length ≤ 1000 ∧ r = .ok (.lst ((fromTo q s e).map .int))
theorem vd_beats_from (W : Where K mg "beats_from" s_beats_from) : PD P w K mg base 1 "beats_from" ["row", "start", "end"] S_from := by
  have nd := sc_beats_from.nd
  refine PD.mk W sc_beats_from (fun _ _ _ _ _ _ us hl => match us, hl with | [_, _, _], _ => rfl) fun f cdv A outer s H E ds r hr hS => ?_
  obtain ⟨d, q, st, e, rfl, hd, hz, rfl⟩ := hS
  show BS _ _ [.dat d, .dat (.int st), .dat (.int e), .no] _ _
  rcases hd with rfl | rfl
  · exact bs_ret (ev_lcF [("beat", 3)] nd (ei_tup (ev_var 0 rfl)) (blkOk_by (own := [("beat", 3)]) (N := ["row", "start", "end", "beat"]) (sc := defScope s_beats_from) (by decide +kernel)) (fit1000 hz) (fun _ _ _ _ _ x hx => (gt_name 3 nd)) (fun _ _ _ _ _ x hx => (et_chain cmp_le cmp_lt (ev_var 1 rfl) (ev_var 3 rfl) (ev_var 2 rfl))) (fun _ _ _ _ _ x hx hf => (ev_var 3 rfl))) rfl
  · exact bs_ret (ev_lcF [("beat", 3)] nd (ei_list (ev_var 0 rfl)) (blkOk_by (own := [("beat", 3)]) (N := ["row", "start", "end", "beat"]) (sc := defScope s_beats_from) (by decide +kernel)) (fit1000 hz) (fun _ _ _ _ _ x hx => (gt_name 3 nd)) (fun _ _ _ _ _ x hx => (et_chain cmp_le cmp_lt (ev_var 1 rfl) (ev_var 3 rfl) (ev_var 2 rfl))) (fun _ _ _ _ _ x hx hf => (ev_var 3 rfl))) rfl
theorem sc_beats_in : FnScope ["row", "start", "length"] ["row", "start", "length"] (defScope s_beats_in) := ⟨rfl, rfl, rfl, by decide +kernel, rfl, by decide +kernel, by decide +kernel⟩
abbrev S_in : List PyData → Rs → Prop := fun ds r => ∃ (q : List Int) (s l : Int), ds = [tI q, .int s, .int l] ∧ RowOk q ∧ 0 ≤ s ∧ s ≤ 9999 ∧ 1 ≤ l ∧ l ≤ 9999 ∧ r = .ok (.lst ((inGate q s l).map .int))
theorem vd_beats_in (W : Where K mg "beats_in" s_beats_in) (D_check_row : PD P w K mg base 4 "check_row" ["row"] S_row1) (D_check_gate : PD P w K mg base 4 "check_gate" ["start", "length"] S_gate) (D_beats_from : PD P w K mg base 1 "beats_from" ["row", "start", "end"] S_from) : PD P w K mg base 5 "beats_in" ["row", "start", "length"] S_in := by
  refine PD.mk W sc_beats_in (fun _ _ _ _ _ _ us hl => match us, hl with | [_, _, _], _ => rfl) fun f cdv A outer s H E ds r hr hS => ?_
  obtain ⟨q, st, l, rfl, ok, h1, h2, h3, h4, rfl⟩ := hS
  show BS _ _ [.dat (tI q), .dat (.int st), .dat (.int l)] _ _
  refine bs_cons (s1_expr (ev_call D_check_row (hr.mono (by decide)) (ea_cons (ev_var 0 rfl) ea_nil star_nam) ⟨_, rfl, by assumption, rfl⟩) ?_)
  refine bs_cons (s1_expr (ev_call D_check_gate (hr.mono (by decide)) (ea_cons (ev_var 1 rfl) (ea_cons (ev_var 2 rfl) ea_nil star_nam) star_nam) ⟨_, _, rfl, by omega, by omega, by omega, by omega, rfl⟩) ?_)
  exact bs_ret (ev_call D_beats_from (hr.mono (by decide)) (ea_cons (ev_var 0 rfl) (ea_cons (ev_var 1 rfl) (ea_cons (ev_op bin_add (ev_var 1 rfl) (ev_var 2 rfl)) ea_nil star_bin) star_nam) star_nam) ⟨_, _, _, _, rfl, .inl rfl, Nat.le_trans ok.len (by decide), rfl⟩) rfl
theorem sc_counted : FnScope ["row", "start", "length"] ["row", "start", "length"] (defScope s_counted) := ⟨rfl, rfl, rfl, by decide +kernel, rfl, by decide +kernel, by decide +kernel⟩
abbrev S_counted : List PyData → Rs → Prop := fun ds r => ∃ (q : List Int) (s l : Int), ds = [tI q, .int s, .int l] ∧ RowOk q ∧ 0 ≤ s ∧ s ≤ 9999 ∧ 1 ≤ l ∧ l ≤ 9999 ∧ r = okD (.int (inGate q s l).length)
theorem vd_counted (W : Where K mg "counted" s_counted) (B : Bt mg) (D_beats_in : PD P w K mg base 5 "beats_in" ["row", "start", "length"] S_in) : PD P w K mg base 6 "counted" ["row", "start", "length"] S_counted := by
  refine PD.mk W sc_counted (fun _ _ _ _ _ _ us hl => match us, hl with | [_, _, _], _ => rfl) fun f cdv A outer s H E ds r hr hS => ?_
  obtain ⟨q, st, l, rfl, ok, h1, h2, h3, h4, rfl⟩ := hS
  show BS _ _ [.dat (tI q), .dat (.int st), .dat (.int l)] _ _
  refine bs_ret (ev_callB fn_lenL B.len (ea_cons (ev_call D_beats_in hr (ea_cons (ev_var 0 rfl) (ea_cons (ev_var 1 rfl) (ea_cons (ev_var 2 rfl) ea_nil star_nam) star_nam) star_nam) ⟨_, _, _, rfl, by assumption, by omega, by omega, by omega, by omega, rfl⟩).frz ea_nil star_call)) ?_
  rw [List.length_map]
  rfl
def gapsM (r : List Int) : List Int := (r.zip (r.drop 1)).map fun p => p.2 - p.1
theorem sc_gaps : FnScope ["row", "sooner", "later"] ["row"] (defScope s_gaps) := ⟨rfl, rfl, rfl, by decide +kernel, rfl, by decide +kernel, by decide +kernel⟩
abbrev S_gaps : List PyData → Rs → Prop := fun ds r => ∃ q, ds = [tI q] ∧ RowOk q ∧ r = .ok (.lst ((gapsM q).map .int))
theorem vd_gaps (W : Where K mg "gaps" s_gaps) (B : Bt mg) (D_check_row : PD P w K mg base 4 "check_row" ["row"] S_row1) : PD P w K mg base 5 "gaps" ["row"] S_gaps := by
  have nd := sc_gaps.nd
  refine PD.mk W sc_gaps (fun _ _ _ _ _ _ us hl => match us, hl with | [_], _ => rfl) fun f cdv A outer s H E ds r hr hS => ?_
  obtain ⟨q, rfl, ok, rfl⟩ := hS
  show BS _ _ [.dat (tI q), .no, .no] _ _
  have hq := ok.len
  refine bs_cons (s1_expr (ev_call D_check_row hr (ea_cons (ev_var 0 rfl) ea_nil star_nam) ⟨_, rfl, by assumption, rfl⟩) ?_)
  refine bs_ret (ev_lcM [("sooner", 1), ("later", 2)] nd (ei_zipT B.zip (ea_cons (ev_var 0 rfl) (ea_cons (ev_slT' (ev_var 0 rfl) (eo_some ev_int) eo_no) ea_nil star_sub) star_nam)).zip (blkOk_by (own := [("sooner", 1), ("later", 2)]) (N := ["row", "sooner", "later"]) (sc := defScope s_gaps) (by decide +kernel)) (fit1000 (by simp; omega)) (fun _ _ _ _ _ x hx => (gt_tup rfl (gts_cons (gt_name 1 nd) (gts_cons (gt_name 2 nd) gts_nil)))) (fun _ _ _ _ _ x hx => (ev_op bin_sub (ev_var 2 rfl) (ev_var 1 rfl)))).ints ?_
  rw [cutD_1]
  rfl
end
section
variable {P : Program} {w : World} {K : PySem.W.Frag} {mg : Str → Option Value} {base : Heap}
theorem sc__law_cell : FnScope ["_law_script", "_law_k"] ["_law_script", "_law_k"] (defScope s__law_cell) := ⟨rfl, rfl, rfl, by decide +kernel, rfl, by decide +kernel, by decide +kernel⟩
abbrev S__law_cell : List PyData → Rs → Prop := fun ds r => ∃ (ns : List Int) (k : Int), ds = [lI ns, .int k] ∧ 0 ≤ k ∧ r = okD (.int (cell ns k))
theorem vd__law_cell (W : Where K mg "_law_cell" s__law_cell) (B : Bt mg) : PD P w K mg base 1 "_law_cell" ["_law_script", "_law_k"] S__law_cell := by
  refine PD.mk W sc__law_cell (fun _ _ _ _ _ _ us hl => match us, hl with | [_, _], _ => rfl) fun f cdv A outer s H E ds r hr hS => ?_
  obtain ⟨ns, k, rfl, hk, rfl⟩ := hS
  show BS _ _ [.dat (lI ns), .dat (.int k)] _ _
  refine bs_cons (s1_if (et_cmp cmp_lt (ev_var 1 rfl) (ev_callB fn_lenL B.len (ea_cons (ev_var 0 rfl) ea_nil star_nam))) (fun h => ?_) (fun h => bs_nil ?_))
  · have h := of_decide_eq_true h
    rw [List.length_map] at h
    refine bs_ret (ev_ixL' (ev_var 0 rfl) (ev_var 1 rfl) (atI_getD hk h)) ?_
    show Ow.dat (.int _) = .dat (.int _)
    simp only [cell, h, if_true]
  · have h := of_decide_eq_false h
    rw [List.length_map] at h
    refine bs_cons (s1_if (et_cmp (cmp_eqD hr.units (shapedInts ns) rfl) (ev_var 0 rfl) (ev_lst ea_nil (by show 0 ≤ sizeLine; decide)).frz) (fun h2 => ?_) (fun h2 => bs_nil ?_))
    · have : ns = [] := by
        cases ns with
        | nil => rfl
        | cons x xs => simp [PyData.eqv, PyData.eqvAll] at h2
      subst this
      exact bs_ret ev_int (by show Ow.dat (.int _) = .dat (.int _); simp [cell, hk])
    · have hne : ns ≠ [] := by
        rintro rfl
        simp [PyData.eqv, PyData.eqvAll] at h2
      have hpos : 0 < ns.length := List.length_pos_iff.mpr hne
      have h0 : 0 ≤ k % (ns.length : Int) := Int.emod_nonneg _ (by omega)
      have h1 : k % (ns.length : Int) < ns.length := Int.emod_lt_of_pos _ (by omega)
      have hle : ((ns.map PyData.int).length : Int) = ns.length := by rw [List.length_map]
      refine bs_ret (ev_op bin_add (ev_op (bin_mul (.inr ⟨by decide, by decide⟩)) (ev_ixL' (ev_var 0 rfl) (ev_op (bin_mod (by omega)) (ev_var 1 rfl) (ev_callB fn_lenL B.len (ea_cons (ev_var 0 rfl) ea_nil star_nam))) (by rw [hle]; exact atI_getD h0 h1)) ev_int) (ev_var 1 rfl)) ?_
      show Ow.dat (.int _) = .dat (.int _)
      simp only [cell, h, hne, if_false]
theorem sc__law_pick : FnScope ["_law_script", "_law_k", "_law_many", "_law_drawn"] ["_law_script", "_law_k", "_law_many"] (defScope s__law_pick) := ⟨rfl, rfl, rfl, by decide +kernel, rfl, by decide +kernel, by decide +kernel⟩
abbrev S__law_pick : List PyData → Rs → Prop := fun ds r => ∃ (ns : List Int) (k m : Int), ds = [lI ns, .int k, .int m] ∧ 0 ≤ k ∧ 0 < m ∧ r = okD (.int (pick ns k m))
theorem vd__law_pick (W : Where K mg "_law_pick" s__law_pick) (D__law_cell : PD P w K mg base 1 "_law_cell" ["_law_script", "_law_k"] S__law_cell) : PD P w K mg base 2 "_law_pick" ["_law_script", "_law_k", "_law_many"] S__law_pick := by
  have nd := sc__law_pick.nd
  refine PD.mk W sc__law_pick (fun _ _ _ _ _ _ us hl => match us, hl with | [_, _, _], _ => rfl) fun f cdv A outer s H E ds r hr hS => ?_
  obtain ⟨ns, k, m, rfl, hk, hm, rfl⟩ := hS
  show BS _ _ [.dat (lI ns), .dat (.int k), .dat (.int m), .no] _ _
  refine bs_cons (s1_set 3 nd (ev_op (bin_mod (by decide)) (ev_op (bin_mul (.inr ⟨by decide, by decide⟩)) (ev_op bin_add (ev_call D__law_cell hr (ea_cons (ev_var 0 rfl) (ea_cons (ev_var 1 rfl) ea_nil star_nam) star_nam) ⟨_, _, rfl, by omega, rfl⟩) (ev_op (bin_mul (.inl ⟨by decide, by decide⟩)) ev_int (ev_op bin_add (ev_var 1 rfl) ev_int))) ev_int) ev_int) ?_)
  have h1 := drawn_lo ns k
  have h2 := drawn_hi ns k
  refine bs_ret (ev_op (bin_mod hm) (ev_op (bin_mod (by decide)) (ev_op bin_add (ev_op (bin_mul (i := drawn ns k) (.inl ⟨by omega, by omega⟩)) (ev_var 3 rfl) (ev_var 3 rfl)) (ev_op (bin_div ⟨by decide, by decide⟩) (ev_var 3 rfl) ev_int)) ev_int) (ev_var 2 rfl)) rfl
def rowAt (ns : List Int) (at_ top_ : Int) : Nat → Int → Int
  | 0, h => h
  | n + 1, h => rowAt ns at_ top_ n h + 1 + pick ns (at_ + 3 + n) top_
theorem rowGo_snoc (ns : List Int) (at_ top_ : Int) : ∀ (n : Nat) (k h : Int), rowGo ns at_ top_ (n + 1) k h = rowGo ns at_ top_ n k h ++ [rowAt ns (at_ + k) top_ n h]
  | 0, k, h => by simp [rowGo, rowAt]
  | n + 1, k, h => by
    have ih := rowGo_snoc ns at_ top_ n (k + 1) (h + 1 + pick ns (at_ + 3 + k) top_)
    rw [rowGo, ih]
    show _ = (h :: rowGo ns at_ top_ n (k + 1) _) ++ _
    rw [List.cons_append]
    congr 3
    have e : ∀ (m : Nat) (x : Int), rowAt ns (at_ + (k + 1)) top_ m (x + 1 + pick ns (at_ + 3 + k) top_) = rowAt ns (at_ + k) top_ (m + 1) x := by
      intro m
      induction m with
      | zero => intro x; simp [rowAt]; congr 1; omega
      | succ m ih2 =>
        intro x
        rw [rowAt, ih2, rowAt]
        congr 2
        push_cast
        omega
    exact e n h
theorem rowTop_at (ns : List Int) (at_ : Int) : atI [PyData.int 1, .int 3, .int 12, .int 200] (pick ns (at_ + 1) 4) = some (.int (rowTop ns at_)) := by
  have h0 := pick_lo ns (at_ + 1) (m := 4) (by decide)
  have h1 := pick_hi ns (at_ + 1) (m := 4) (by decide)
  unfold rowTop
  generalize pick ns (at_ + 1) 4 = x at h0 h1
  have : x = 0 ∨ x = 1 ∨ x = 2 ∨ x = 3 := by omega
  rcases this with rfl | rfl | rfl | rfl <;> rfl
theorem sc__law_row : FnScope ["_law_script", "_law_at", "_law_most", "_law_made", "_law_here", "_law_top", "_law_k"] ["_law_script", "_law_at", "_law_most"] (defScope s__law_row) := ⟨rfl, rfl, rfl, by decide +kernel, rfl, by decide +kernel, by decide +kernel⟩
abbrev S__law_row : List PyData → Rs → Prop := fun ds r => ∃ (ns : List Int) (a m : Int), ds = [lI ns, .int a, .int m] ∧ 0 ≤ a ∧ 0 ≤ m ∧ m ≤ 40 ∧ r = okD (tI (rowM ns a m))
theorem vd__law_row (W : Where K mg "_law_row" s__law_row) (B : Bt mg) (D__law_pick : PD P w K mg base 2 "_law_pick" ["_law_script", "_law_k", "_law_many"] S__law_pick) : PD P w K mg base 3 "_law_row" ["_law_script", "_law_at", "_law_most"] S__law_row := by
  have nd := sc__law_row.nd
  refine PD.mk W sc__law_row (fun _ _ _ _ _ _ us hl => match us, hl with | [_, _, _], _ => rfl) fun f cdv A outer s H E ds r hr hS => ?_
  obtain ⟨ns, a, m, rfl, ha, hm, hm2, rfl⟩ := hS
  show BS _ _ [.dat (lI ns), .dat (.int a), .dat (.int m), .no, .no, .no, .no] _ _
  refine bs_cons (s1_par (i := 3) (j := 4) nd (eo_cons (ev_lst ea_nil (by show 0 ≤ sizeLine; decide)) (eo_cons (ev_call D__law_pick hr (ea_cons (ev_var 0 rfl) (ea_cons (ev_var 1 rfl) (ea_cons ev_int ea_nil star_con) star_nam) star_nam) ⟨_, _, _, rfl, by omega, by omega, rfl⟩) eo_nil star_call) star_lst) ?_)
  refine bs_cons (s1_set 5 nd (ev_ixL (ev_lst (ea_cons ev_int (ea_cons ev_int (ea_cons ev_int (ea_cons ev_int ea_nil star_con) star_con) star_con) star_con) (by show 4 ≤ sizeLine; decide)).frz (ev_call D__law_pick hr (ea_cons (ev_var 0 rfl) (ea_cons (ev_op bin_add (ev_var 1 rfl) ev_int) (ea_cons ev_int ea_nil star_con) star_bin) star_nam) ⟨_, _, _, rfl, by omega, by omega, rfl⟩) (rowTop_at ns a)) ?_)
  obtain ⟨t1, t2⟩ := rowTop_ok ns a
  have p0 := pick_lo ns (a + 2) (m := m + 1) (by omega)
  have p1 := pick_hi ns (a + 2) (m := m + 1) (by omega)
  refine bs_cons (s1_forT (fun i ρ => ∃ x, ρ = [.dat (lI ns), .dat (.int a), .dat (.int m), .lst ((rowGo ns a (rowTop ns a) i 0 (pick ns a 30)).map .int), .dat (.int (rowAt ns a (rowTop ns a) i (pick ns a 30))), .dat (.int (rowTop ns a)), x]) [6] (ei_range1 B.range (ea_cons (ev_call D__law_pick (hr.mono (by decide)) (ea_cons (ev_var 0 rfl) (ea_cons (ev_op bin_add (ev_var 1 rfl) ev_int) (ea_cons (ev_op bin_add (ev_var 2 rfl) ev_int) ea_nil star_bin) star_bin) star_nam) ⟨_, _, _, rfl, by omega, by omega, rfl⟩) ea_nil star_call) (by omega) (by omega)).rng ⟨_, rfl⟩ (fun i x ρ hx hI => ?_) (fun ρ hI => ?_))
  · obtain ⟨x0, rfl⟩ := hI
    refine ⟨_, (gt_name 6 nd), ?_⟩
    have hx' : i < (pick ns (a + 2) (m + 1)).toNat ∧ x = 0 + (i : Int) := by
      have hlt := (List.getElem?_eq_some_iff.mp hx).1
      rw [List.length_map, List.length_range] at hlt
      rw [List.getElem?_map, List.getElem?_range hlt] at hx
      exact ⟨hlt, (Option.some.inj hx).symm⟩
    obtain ⟨hlt, rfl⟩ := hx'
    refine bs_cons (s1_append 3 rfl (ev_var 4 rfl) (by rw [List.length_map, rowGo_len]; exact fit40 (by omega)) ?_)
    refine bs_cons (s1_set 4 nd (ev_op bin_add (ev_op bin_add (ev_var 4 rfl) ev_int) (ev_call D__law_pick (hr.mono (by decide)) (ea_cons (ev_var 0 rfl) (ea_cons (ev_op bin_add (ev_op bin_add (ev_var 1 rfl) ev_int) (ev_var 6 rfl)) (ea_cons (ev_var 5 rfl) ea_nil star_nam) star_bin) star_nam) ⟨_, _, _, rfl, by omega, by omega, rfl⟩)) (bs_nil ⟨.dat (.int (0 + (i : Int))), ?_⟩))
    rw [rowGo_snoc, List.map_append, Int.add_zero, rowAt, Int.zero_add]
    rfl
  · obtain ⟨x0, rfl⟩ := hI
    refine bs_frz 3 rfl ?_
    refine bs_ret (ev_callTy fn_tupL B.tuple (ea_cons (ev_var 3 rfl) ea_nil star_nam)) ?_
    rw [List.length_map, List.length_range]
    rfl
end
abbrev gat (r : List Int) (i : Nat) : Int := r.getD i 0
def startsM (s l d : Int) (m : Nat) : List Int := (List.range m).map fun (k : Nat) => s + (k : Int) * (l + d)
section
variable {P : Program} {w : World} {K : PySem.W.Frag} {mg : Str → Option Value} {base : Heap}
structure GsOk (s l d m : Int) : Prop where
  s0 : 0 ≤ s
  s1 : s ≤ 9999
  l0 : 1 ≤ l
  l1 : l ≤ 9999
  d0 : 0 ≤ d
  d1 : d ≤ 9999
  m0 : 1 ≤ m
  m1 : m ≤ 20
  e : s + m * l + (m - 1) * d ≤ 100000
theorem sc_gates_end : FnScope ["start", "length", "dead", "many"] ["start", "length", "dead", "many"] (defScope s_gates_end) := ⟨rfl, rfl, rfl, by decide +kernel, rfl, by decide +kernel, by decide +kernel⟩
abbrev S_gates_end : List PyData → Rs → Prop := fun ds r => ∃ s l d m : Int, ds = [.int s, .int l, .int d, .int m] ∧ GsOk s l d m ∧ r = okD (.int (s + m * l + (m - 1) * d))
theorem vd_gates_end (W : Where K mg "gates_end" s_gates_end) : PD P w K mg base 1 "gates_end" ["start", "length", "dead", "many"] S_gates_end := by
  have nd := sc_gates_end.nd
  refine PD.mk W sc_gates_end (fun _ _ _ _ _ _ us hl => match us, hl with | [_, _, _, _], _ => rfl) fun f cdv A outer s H E ds r hr hS => ?_
  obtain ⟨s, l, d, m, rfl, g, rfl⟩ := hS
  obtain ⟨s0, s1, l0, l1, d0, d1, m0, m1, ee⟩ := g
  show BS _ _ [.dat (.int s), .dat (.int l), .dat (.int d), .dat (.int m)] _ _
  exact bs_ret (ev_op bin_add (ev_op bin_add (ev_var 0 rfl) (ev_op (bin_mul (by first | exact .inl ⟨by omega, by omega⟩ | exact .inr ⟨by omega, by omega⟩)) (ev_var 3 rfl) (ev_var 1 rfl))) (ev_op (bin_mul (by first | exact .inl ⟨by omega, by omega⟩ | exact .inr ⟨by omega, by omega⟩)) (ev_op bin_sub (ev_var 3 rfl) ev_int) (ev_var 2 rfl))) rfl
theorem sc_check_gates : FnScope ["start", "length", "dead", "many"] ["start", "length", "dead", "many"] (defScope s_check_gates) := ⟨rfl, rfl, rfl, by decide +kernel, rfl, by decide +kernel, by decide +kernel⟩
abbrev S_gates : List PyData → Rs → Prop := fun ds r => ∃ s l d m : Int, ds = [.int s, .int l, .int d, .int m] ∧ GsOk s l d m ∧ r = okD .none
theorem vd_check_gates (W : Where K mg "check_gates" s_check_gates) (c_MOST_DEAD : ∃ t, mg "MOST_DEAD" = some (.int 9999 t)) (c_MOST_GATES : ∃ t, mg "MOST_GATES" = some (.int 20 t)) (c_LAST_TICK_OF_GATES : ∃ t, mg "LAST_TICK_OF_GATES" = some (.int 99999 t)) (D_is_within : PD P w K mg base 2 "is_within" ["thing", "least", "most"] S_is_within) (D_check_gate : PD P w K mg base 4 "check_gate" ["start", "length"] S_gate) (D_gates_end : PD P w K mg base 1 "gates_end" ["start", "length", "dead", "many"] S_gates_end) : PD P w K mg base 5 "check_gates" ["start", "length", "dead", "many"] S_gates := by
  have nd := sc_check_gates.nd
  refine PD.mk W sc_check_gates (fun _ _ _ _ _ _ us hl => match us, hl with | [_, _, _, _], _ => rfl) fun f cdv A outer s H E ds r hr hS => ?_
  obtain ⟨s, l, d, m, rfl, g, rfl⟩ := hS
  have g' := g
  obtain ⟨s0, s1, l0, l1, d0, d1, m0, m1, ee⟩ := g'
  show BS _ _ [.dat (.int s), .dat (.int l), .dat (.int d), .dat (.int m)] _ _
  refine bs_cons (s1_expr (ev_call D_check_gate (hr.mono (by decide)) (ea_cons (ev_var 0 rfl) (ea_cons (ev_var 1 rfl) ea_nil star_nam) star_nam) ⟨_, _, rfl, by omega, by omega, by omega, by omega, rfl⟩) ?_)
  refine bs_no (et_not (et_val (ev_call D_is_within (hr.mono (by decide)) (ea_cons (ev_var 2 rfl) (ea_cons ev_int (ea_cons (ev_gint c_MOST_DEAD) ea_nil star_nam) star_con) star_nam) ⟨_, _, _, rfl, rfl⟩))) (by simp [withinD, d0, d1]) ?_
  refine bs_no (et_not (et_val (ev_call D_is_within (hr.mono (by decide)) (ea_cons (ev_var 3 rfl) (ea_cons ev_int (ea_cons (ev_gint c_MOST_GATES) ea_nil star_nam) star_con) star_nam) ⟨_, _, _, rfl, rfl⟩))) (by simp [withinD, m0, m1]) ?_
  refine bs_no (et_cmp cmp_gt (ev_op bin_sub (ev_call D_gates_end (hr.mono (by decide)) (ea_cons (ev_var 0 rfl) (ea_cons (ev_var 1 rfl) (ea_cons (ev_var 2 rfl) (ea_cons (ev_var 3 rfl) ea_nil star_nam) star_nam) star_nam) star_nam) ⟨_, _, _, _, rfl, g, rfl⟩) ev_int) (ev_gint c_LAST_TICK_OF_GATES)) (decide_eq_false (by omega)) (bs_nil rfl)
theorem sc_gate_starts : FnScope ["start", "length", "dead", "many", "place"] ["start", "length", "dead", "many"] (defScope s_gate_starts) := ⟨rfl, rfl, rfl, by decide +kernel, rfl, by decide +kernel, by decide +kernel⟩
abbrev S_starts : List PyData → Rs → Prop := fun ds r => ∃ s l d m : Int, ds = [.int s, .int l, .int d, .int m] ∧ GsOk s l d m ∧ r = .ok (.lst ((startsM s l d m.toNat).map .int))
theorem vd_gate_starts (W : Where K mg "gate_starts" s_gate_starts) (B : Bt mg) : PD P w K mg base 1 "gate_starts" ["start", "length", "dead", "many"] S_starts := by
  have nd := sc_gate_starts.nd
  refine PD.mk W sc_gate_starts (fun _ _ _ _ _ _ us hl => match us, hl with | [_, _, _, _], _ => rfl) fun f cdv A outer s H E ds r hr hS => ?_
  obtain ⟨s, l, d, m, rfl, g, rfl⟩ := hS
  obtain ⟨s0, s1, l0, l1, d0, d1, m0, m1, ee⟩ := g
  show BS _ _ [.dat (.int s), .dat (.int l), .dat (.int d), .dat (.int m), .no] _ _
  refine bs_ret (ev_lcM [("place", 4)] nd (ei_range1 B.range (ea_cons (ev_var 3 rfl) ea_nil star_nam) (by omega) (by omega)).rng (blkOk_by (own := [("place", 4)]) (N := ["start", "length", "dead", "many", "place"]) (sc := defScope s_gate_starts) (by decide +kernel)) (fit40 (by simp; omega)) (fun _ _ _ _ _ x hx => (gt_name 4 nd)) (fun _ _ _ _ _ x hx => (ev_op bin_add (ev_var 0 rfl) (ev_op (bin_mul (by first | exact .inl ⟨by omega, by omega⟩ | exact .inr ⟨by omega, by omega⟩)) (ev_var 4 rfl) (ev_op bin_add (ev_var 1 rfl) (ev_var 2 rfl)))))).ints ?_
  unfold startsM
  rw [List.map_map]
  show Ow.lst _ = Ow.lst _
  congr 1
  rw [List.map_map, List.map_map]
  apply List.map_congr_left
  intro k _
  simp
end
structure CF_Counter (K : PySem.W.Frag) (mg : Str → Option Value) (C : Addr) : Prop where
  at_ : mg "Counter" = some (.ref C)
  cl : Cls K C
  mks : ∃ f, Mk K C f
  n_starts : NoAttr K C "starts"
  n_length : NoAttr K C "length"
  n_counts : NoAttr K C "counts"
  n_gone : NoAttr K C "gone"
  w___init__ : WhereM K C "__init__" "Counter.__init__" s_Counter___init__
  w_go_on : WhereM K C "go_on" "Counter.go_on" s_Counter_go_on
theorem cf_Counter_mk {K : PySem.W.Frag} {h : Heap} {mg : Str → Option Value} {C : Addr} {f0 : Addr} {oc0 kV0 dc0 pm0 cd0 ct0 : Value} {od0 an0 : Option Addr} {sl0 : Array (Option Value)} {f1 : Addr} {oc1 kV1 dc1 pm1 cd1 ct1 : Value} {od1 an1 : Option Addr} {sl1 : Array (Option Value)} (X : K.In h) (G : h.Ns mainGlobals mg) (aC : PySem.W.nsIn K mainGlobals "Counter" = some (some (.ref C))) (pg : PySem.W.plainGet K C Str.empty = true) (hd : PySem.W.hasDictIn K C = true) (po : PySem.W.plainOver K C = true) (sa : PySem.W.findIn K (.ref C) "__setattr__" = some (some (.builtin "object.__setattr__"))) (mk : PySem.W.makesIn K C = true) (kc : PySem.W.keepIn K (.ref C) = true) (n_starts : PySem.W.findIn K (.ref C) "starts" = some none) (n_length : PySem.W.findIn K (.ref C) "length" = some none) (n_counts : PySem.W.findIn K (.ref C) "counts" = some none) (n_gone : PySem.W.findIn K (.ref C) "gone" = some none) (a0 : PySem.W.findIn K (.ref C) "__init__" = some (some (.ref f0))) (i0 : PySem.W.isFn K (.ref f0) = true) (l0 : K.lookup f0 = some ⟨oc0, od0, .func (PySem.W.fnOf "__init__" "Counter.__init__" (defArgs s_Counter___init__) (defBody s_Counter___init__) (defScope s_Counter___init__) .none kV0 dc0 pm0 an0 cd0 ct0), sl0⟩) (c0 : PySem.W.codeIn K cd0 "Counter.__init__" = true) (k0 : PySem.W.keepIn K (.ref f0) = true) (a1 : PySem.W.findIn K (.ref C) "go_on" = some (some (.ref f1))) (i1 : PySem.W.isFn K (.ref f1) = true) (l1 : K.lookup f1 = some ⟨oc1, od1, .func (PySem.W.fnOf "go_on" "Counter.go_on" (defArgs s_Counter_go_on) (defBody s_Counter_go_on) (defScope s_Counter_go_on) .none kV1 dc1 pm1 an1 cd1 ct1), sl1⟩) (c1 : PySem.W.codeIn K cd1 "Counter.go_on" = true) (k1 : PySem.W.keepIn K (.ref f1) = true) : ∃ C, CF_Counter K mg C :=
  ⟨C, PySem.W.mg_of X G aC, ⟨pg, hd, po, sa⟩, ⟨f0, mk, a0, i0, kc⟩, n_starts, n_length, n_counts, n_gone, ⟨f0, _, fun_mk l0 c0 k0, ⟨a0, i0, k0⟩⟩, ⟨f1, _, fun_mk l1 c1 k1, ⟨a1, i1, k1⟩⟩⟩
section
variable {P : Program} {w : World} {K : PySem.W.Frag} {mg : Str → Option Value} {base : Heap}
theorem sc_check_step : FnScope ["ticks", "row"] ["ticks", "row"] (defScope s_check_step) := ⟨rfl, rfl, rfl, by decide +kernel, rfl, by decide +kernel, by decide +kernel⟩
abbrev cFs (st : List Int) (l : Int) (cs : List Int) (g : Int) : Fs := [("starts", .dat (lI st)), ("length", .dat (.int l)), ("counts", .lst (cs.map .int)), ("gone", .dat (.int g))]
abbrev SM_init : Fs → List PyData → Fs → Rs → Prop := fun ts ds ts' r => ∃ s l d m : Int, ts = [] ∧ ds = [.int s, .int l, .int d, .int m] ∧ GsOk s l d m ∧ ts' = cFs (startsM s l d m.toNat) l (List.replicate m.toNat 0) 0 ∧ r = okD .none
theorem sc_Counter___init__ : FnScope ["self", "start", "length", "dead", "many"] ["self", "start", "length", "dead", "many"] (defScope s_Counter___init__) := ⟨rfl, rfl, rfl, by decide +kernel, rfl, by decide +kernel, by decide +kernel⟩
theorem vm_Counter_init {C : Addr} (T : CF_Counter K mg C) (D_check_gates : PD P w K mg base 5 "check_gates" ["start", "length", "dead", "many"] S_gates) (D_gate_starts : PD P w K mg base 1 "gate_starts" ["start", "length", "dead", "many"] S_starts) : PM P w K mg base 6 C "__init__" ["self", "start", "length", "dead", "many"] SM_init := by
  have nd := sc_Counter___init__.nd
  refine PM.of T.w___init__ sc_Counter___init__ (by decide) (by decide) (fun _ _ _ _ _ _ us hl => match us, hl with | [_, _, _, _, _], _ => rfl) fun f cdv A outer s H E a ts ts' ds r hr hS => ?_
  obtain ⟨s, l, d, m, rfl, rfl, g, rfl, rfl⟩ := hS
  have m1 := g.m1
  show BS _ _ [.obj (some a) C [], .dat (.int s), .dat (.int l), .dat (.int d), .dat (.int m)] _ _
  refine bs_cons (s1_expr (ev_call D_check_gates (hr.mono (by decide)) (ea_cons (ev_var 1 rfl) (ea_cons (ev_var 2 rfl) (ea_cons (ev_var 3 rfl) (ea_cons (ev_var 4 rfl) ea_nil star_nam) star_nam) star_nam) star_nam) ⟨_, _, _, _, rfl, g, rfl⟩) ?_)
  refine bs_cons (s1_fset 0 rfl T.cl T.n_starts (ev_call D_gate_starts (hr.mono (by decide)) (ea_cons (ev_var 1 rfl) (ea_cons (ev_var 2 rfl) (ea_cons (ev_var 3 rfl) (ea_cons (ev_var 4 rfl) ea_nil star_nam) star_nam) star_nam) star_nam) ⟨_, _, _, _, rfl, g, rfl⟩).frz ?_)
  show BS _ _ [.obj (some a) C [("starts", .dat (lI (startsM s l d m.toNat)))], .dat (.int s), .dat (.int l), .dat (.int d), .dat (.int m)] _ _
  refine bs_cons (s1_fset 0 rfl T.cl T.n_length (ev_var 2 rfl) ?_)
  show BS _ _ [.obj (some a) C [("starts", .dat (lI (startsM s l d m.toNat))), ("length", .dat (.int l))], .dat (.int s), .dat (.int l), .dat (.int d), .dat (.int m)] _ _
  refine bs_cons (s1_fset 0 rfl T.cl T.n_counts (ev_rep1 ⟨by have := g.m0; omega, by omega, Nat.le_of_lt (fit40 (by omega))⟩ (ev_lst (ea_cons ev_int ea_nil star_con) (by show 1 ≤ sizeLine; decide)) (ev_var 4 rfl)) ?_)
  show BS _ _ [.obj (some a) C [("starts", .dat (lI (startsM s l d m.toNat))), ("length", .dat (.int l)), ("counts", .lst (List.replicate m.toNat (.int 0)))], .dat (.int s), .dat (.int l), .dat (.int d), .dat (.int m)] _ _
  refine bs_cons (s1_fset 0 rfl T.cl T.n_gone ev_int (bs_nil ⟨rfl, ?_⟩))
  have e : (List.replicate m.toNat (0 : Int)).map PyData.int = List.replicate m.toNat (.int 0) := List.map_replicate
  show _ = some (Ow.obj (some a) C (cFs (startsM s l d m.toNat) l (List.replicate m.toNat 0) 0))
  unfold cFs
  rw [e]
  rfl
theorem sc_Counter_go_on : FnScope ["self", "ticks", "row", "beats", "beat", "ended", "number", "at", "end"] ["self", "ticks", "row"] (defScope s_Counter_go_on) := ⟨rfl, rfl, rfl, by decide +kernel, rfl, by decide +kernel, by decide +kernel⟩
end
theorem et_is {X : Cx} {ρ ρ1 : List Ow} {c : Expr} {k k' : Bool} (h : ET X ρ c k ρ1) (e : k = k') : ET X ρ c k' ρ1 := e ▸ h
theorem ev_isQ {X : Cx} {ρ ρ1 : List Ow} {e : Expr} {d d' : PyData} (h : EV X ρ e (.dat d) ρ1) (q : d = d') : EV X ρ e (.dat d') ρ1 := q ▸ h
theorem rng_at {lo : Int} {n i : Nat} {x : Int} (hx : ((List.range n).map fun k : Nat => lo + (k : Int))[i]? = some x) : i < n ∧ x = lo + (i : Int) := by
  have hlt := (List.getElem?_eq_some_iff.mp hx).1
  rw [List.length_map, List.length_range] at hlt
  rw [List.getElem?_map, List.getElem?_range hlt] at hx
  exact ⟨hlt, (Option.some.inj hx).symm⟩
theorem row_isRowD {r : List Int} (h : isRowD (.tuple (r.map PyData.int)) = true) : RowOk r := by
  simp only [isRowD, List.length_map, Bool.and_eq_true, decide_eq_true_eq] at h
  obtain ⟨⟨h1, h2⟩, h3⟩ := h
  refine ⟨h1, fun b hb => ?_, ?_⟩
  · rw [List.all_eq_true] at h2
    have := h2 (.int b) (List.mem_map.mpr ⟨b, hb, rfl⟩)
    simpa [withinD] using this
  · clear h1 h2
    induction r with
    | nil => exact .nil
    | cons a r ih =>
      cases r with
      | nil => simp
      | cons b r =>
        simp only [List.map_cons, risingD, ltD, Bool.and_eq_true, decide_eq_true_eq] at h3 ih
        have h4 := ih h3.2
        refine List.pairwise_cons.mpr ⟨fun x hx => ?_, h4⟩
        simp only [List.mem_cons] at hx
        rcases hx with rfl | hx
        · exact h3.1
        · exact Int.lt_trans h3.1 ((List.pairwise_cons.mp h4).1 x hx)
section
variable {P : Program} {w : World} {K : PySem.W.Frag} {mg : Str → Option Value} {base : Heap} {cG cR : Addr}
abbrev S_lenX (cG : Addr) : List PyData → Rs → Prop := fun ds r => ∃ d, ds = [d] ∧ withinD d 1 9999 = false ∧ r = .no (.ref cG)
theorem vd_check_lengthX (W : Where K mg "check_length" s_check_length) (eG : Rf K mg "NoGate" cG) (c_LONGEST_GATE : ∃ t, mg "LONGEST_GATE" = some (.int 9999 t)) (D_is_within : PD P w K mg base 2 "is_within" ["thing", "least", "most"] S_is_within) : PD P w K mg base 3 "check_length" ["length"] (S_lenX cG) := by
  refine PD.mk W sc_check_length (fun _ _ _ _ _ _ us hl => match us, hl with | [_], _ => rfl) fun f cdv A outer s H E ds r hr hS => ?_
  obtain ⟨d, rfl, hd, rfl⟩ := hS
  show BS _ _ [.dat d] _ _
  refine bs_yes (et_not (et_val (ev_call D_is_within (hr.mono (by decide)) (ea_cons (ev_var 0 rfl) (ea_cons ev_int (ea_cons (ev_gint c_LONGEST_GATE) ea_nil star_nam) star_con) star_nam) ⟨_, _, _, rfl, rfl⟩))) (by rw [hd]; rfl) ?_
  exact bs_cons (s1_raise eG ev_str rfl)
def NoGateD (d1 d2 : PyData) : Prop := withinD d1 0 9999 = false ∨ (∃ s : Int, d1 = .int s ∧ 0 ≤ s ∧ s ≤ 9999) ∧ withinD d2 1 9999 = false
abbrev S_gateX (cG : Addr) : List PyData → Rs → Prop := fun ds r => ∃ d1 d2, ds = [d1, d2] ∧ NoGateD d1 d2 ∧ r = .no (.ref cG)
theorem vd_check_gateX (W : Where K mg "check_gate" s_check_gate) (eG : Rf K mg "NoGate" cG) (c_LAST_TICK : ∃ t, mg "LAST_TICK" = some (.int 9999 t)) (D_is_within : PD P w K mg base 2 "is_within" ["thing", "least", "most"] S_is_within) (D_check_lengthX : PD P w K mg base 3 "check_length" ["length"] (S_lenX cG)) : PD P w K mg base 4 "check_gate" ["start", "length"] (S_gateX cG) := by
  refine PD.mk W sc_check_gate (fun _ _ _ _ _ _ us hl => match us, hl with | [_, _], _ => rfl) fun f cdv A outer s H E ds r hr hS => ?_
  obtain ⟨d1, d2, rfl, hN, rfl⟩ := hS
  show BS _ _ [.dat d1, .dat d2] _ _
  rcases hN with h | ⟨⟨s, rfl, s0, s1⟩, h⟩
  · refine bs_yes (et_not (et_val (ev_call D_is_within (hr.mono (by decide)) (ea_cons (ev_var 0 rfl) (ea_cons ev_int (ea_cons (ev_gint c_LAST_TICK) ea_nil star_nam) star_con) star_nam) ⟨_, _, _, rfl, rfl⟩))) (by rw [h]; rfl) ?_
    exact bs_cons (s1_raise eG ev_str rfl)
  · refine bs_no (et_not (et_val (ev_call D_is_within (hr.mono (by decide)) (ea_cons (ev_var 0 rfl) (ea_cons ev_int (ea_cons (ev_gint c_LAST_TICK) ea_nil star_nam) star_con) star_nam) ⟨_, _, _, rfl, rfl⟩))) (by simp [withinD, s0, s1]) ?_
    exact bs_cons (s1_exprX (ex_call D_check_lengthX (hr.mono (by decide)) (ea_cons (ev_var 1 rfl) ea_nil star_nam) ⟨_, rfl, h, rfl⟩) rfl)
abbrev S_rowX (cR : Addr) : List PyData → Rs → Prop := fun ds r => ∃ d, ds = [d] ∧ isRowD d = false ∧ r = .no (.ref cR)
theorem vd_check_rowX (W : Where K mg "check_row" s_check_row) (eR : Rf K mg "NoRow" cR) (D_is_row : PD P w K mg base 3 "is_row" ["thing"] S_is_row) : PD P w K mg base 4 "check_row" ["row"] (S_rowX cR) := by
  refine PD.mk W sc_check_row (fun _ _ _ _ _ _ us hl => match us, hl with | [_], _ => rfl) fun f cdv A outer s H E ds r hr hS => ?_
  obtain ⟨d, rfl, hd, rfl⟩ := hS
  show BS _ _ [.dat d] _ _
  exact bs_yes (et_not (et_val (ev_call D_is_row (hr.mono (by decide)) (ea_cons (ev_var 0 rfl) ea_nil star_nam) ⟨_, rfl, rfl⟩))) (by rw [hd]; rfl) (bs_cons (s1_raise eR ev_str rfl))
abbrev S_gatesX (cG : Addr) : List PyData → Rs → Prop := fun ds r => ∃ d1 d2 d3 d4, ds = [d1, d2, d3, d4] ∧ NoGateD d1 d2 ∧ r = .no (.ref cG)
theorem vd_check_gatesX (W : Where K mg "check_gates" s_check_gates) (D_check_gateX : PD P w K mg base 4 "check_gate" ["start", "length"] (S_gateX cG)) : PD P w K mg base 5 "check_gates" ["start", "length", "dead", "many"] (S_gatesX cG) := by
  refine PD.mk W sc_check_gates (fun _ _ _ _ _ _ us hl => match us, hl with | [_, _, _, _], _ => rfl) fun f cdv A outer s H E ds r hr hS => ?_
  obtain ⟨d1, d2, d3, d4, rfl, hN, rfl⟩ := hS
  show BS _ _ [.dat d1, .dat d2, .dat d3, .dat d4] _ _
  exact bs_cons (s1_exprX (ex_call D_check_gateX (hr.mono (by decide)) (ea_cons (ev_var 0 rfl) (ea_cons (ev_var 1 rfl) ea_nil star_nam) star_nam) ⟨_, _, rfl, hN, rfl⟩) rfl)
def StepX (cG cR : Addr) (d1 d2 : PyData) (c : Addr) : Prop := (isRowD d2 = false ∧ c = cR) ∨ (∃ (t b : Int) (q : List Int), d1 = .int t ∧ d2 = tI q ∧ RowOk q ∧ q.getLast? = some b ∧ t ≤ b ∧ c = cR) ∨ ∃ q : List Int, d2 = tI q ∧ RowOk q ∧ (isWholeD d1 = false ∨ q = []) ∧ withinD d1 0 9999 = false ∧ c = cG
theorem at_last {q : List Int} {b : Int} (h : q.getLast? = some b) : atI q (-1) = some b := by
  have hn : q ≠ [] := fun z => by rw [z] at h; cases h
  have hp : 0 < q.length := List.length_pos_iff.mpr hn
  unfold atI ixN
  rw [if_neg (by decide), if_pos (by omega)]
  rw [List.getLast?_eq_getElem?] at h
  show q[(-1 + (q.length : Int)).toNat]? = some b
  rw [show (-1 + (q.length : Int)).toNat = q.length - 1 by omega]
  exact h
abbrev S_stepX (cG cR : Addr) : List PyData → Rs → Prop := fun ds r => ∃ d1 d2 c, ds = [d1, d2] ∧ StepX cG cR d1 d2 c ∧ r = .no (.ref c)
theorem vd_check_stepX (W : Where K mg "check_step" s_check_step) (B : Bt mg) (eG : Rf K mg "NoGate" cG) (eR : Rf K mg "NoRow" cR) (c_MOST_TICKS : ∃ t, mg "MOST_TICKS" = some (.int 9999 t)) (D_is_whole : PD P w K mg base 1 "is_whole" ["thing"] S_is_whole) (D_is_within : PD P w K mg base 2 "is_within" ["thing", "least", "most"] S_is_within) (D_check_row : PD P w K mg base 4 "check_row" ["row"] S_row1) (D_check_rowX : PD P w K mg base 4 "check_row" ["row"] (S_rowX cR)) : PD P w K mg base 5 "check_step" ["ticks", "row"] (S_stepX cG cR) := by
  refine PD.mk W sc_check_step (fun _ _ _ _ _ _ us hl => match us, hl with | [_, _], _ => rfl) fun f cdv A outer s H E ds r hr hS => ?_
  obtain ⟨d1, d2, c, rfl, hx, rfl⟩ := hS
  show BS _ _ [.dat d1, .dat d2] _ _
  rcases hx with ⟨h, rfl⟩ | ⟨t, b, q, rfl, rfl, ok, hl, htb, rfl⟩ | ⟨q, rfl, ok, hw, hn, rfl⟩
  · exact bs_cons (s1_exprX (ex_call D_check_rowX (hr.mono (by decide)) (ea_cons (ev_var 1 rfl) ea_nil star_nam) ⟨_, rfl, h, rfl⟩) rfl)
  · refine bs_cons (s1_expr (ev_call D_check_row (hr.mono (by decide)) (ea_cons (ev_var 1 rfl) ea_nil star_nam) ⟨_, rfl, by assumption, rfl⟩) ?_)
    have hne : q ≠ [] := fun z => by rw [z] at hl; cases hl
    have hp := List.length_pos_iff.mpr hne
    refine bs_yes (ew_and (et_val (ev_call D_is_whole (hr.mono (by decide)) (ea_cons (ev_var 0 rfl) ea_nil star_nam) ⟨_, rfl, rfl⟩)) fun _ => (ew_and (et_cmp cmp_gt (ev_callB fn_lenT B.len (ea_cons (ev_var 1 rfl) ea_nil star_nam)) ev_int) fun _ => (ew_and1 (et_cmp cmp_ge (ev_ixT' (ev_var 1 rfl) (ev_neg ev_int) (at_last hl)) (ev_var 0 rfl))))).et (by simp [isWholeD, htb]; omega) ?_
    exact bs_cons (s1_raise eR ev_str rfl)
  · refine bs_cons (s1_expr (ev_call D_check_row (hr.mono (by decide)) (ea_cons (ev_var 1 rfl) ea_nil star_nam) ⟨_, rfl, by assumption, rfl⟩) ?_)
    have fin : BS (ctX P w K mg base ["ticks", "row"] "check_step" (defScope s_check_step) f cdv A outer s H E) (fun C H' => E C none H') [.dat d1, .dat (tI q)] ((defBody s_check_step).drop 2) (Rs.no (.ref c)).oc :=
      bs_yes (et_not (et_val (ev_call D_is_within (hr.mono (by decide)) (ea_cons (ev_var 0 rfl) (ea_cons ev_int (ea_cons (ev_gint c_MOST_TICKS) ea_nil star_nam) star_con) star_nam) ⟨_, _, _, rfl, rfl⟩))) (by rw [hn]; rfl) (bs_cons (s1_raise eG ev_str rfl))
    by_cases hwh : isWholeD d1 = false
    · exact bs_no (ew_and (k' := true) (et_is (k' := false) (et_val (ev_call D_is_whole (hr.mono (by decide)) (ea_cons (ev_var 0 rfl) ea_nil star_nam) ⟨_, rfl, rfl⟩)) (by rw [hwh])) fun h => nomatch h).et rfl fin
    · have hq : q = [] := hw.resolve_left hwh
      subst hq
      exact bs_no (ew_and (et_val (ev_call D_is_whole (hr.mono (by decide)) (ea_cons (ev_var 0 rfl) ea_nil star_nam) ⟨_, rfl, rfl⟩)) fun _ => (ew_and (k' := false) (et_cmp cmp_gt (ev_callB fn_lenT B.len (ea_cons (ev_var 1 rfl) ea_nil star_nam)) ev_int) fun h => by simp at h)).et (by simp) fin
abbrev SM_goX (cG cR : Addr) : Fs → List PyData → Fs → Rs → Prop := fun ts ds ts' r => ∃ (st : List Int) (l : Int) (cs : List Int) (g : Int) (d1 d2 : PyData) (c : Addr), ts = cFs st l cs g ∧ ds = [d1, d2] ∧ StepX cG cR d1 d2 c ∧ ts' = ts ∧ r = .no (.ref c)
theorem vm_Counter_go_onX {C : Addr} (T : CF_Counter K mg C) (D_check_stepX : PD P w K mg base 5 "check_step" ["ticks", "row"] (S_stepX cG cR)) : PM P w K mg base 6 C "go_on" ["self", "ticks", "row"] (SM_goX cG cR) := by
  refine PM.of T.w_go_on sc_Counter_go_on (by decide) (by decide) (fun _ _ _ _ _ _ us hl => match us, hl with | [_, _, _], _ => rfl) fun f cdv A outer s H E a ts ts' ds r hr hS => ?_
  obtain ⟨st, l, cs, g, d1, d2, c, rfl, rfl, hx, rfl, rfl⟩ := hS
  show BS _ _ [.obj (some a) C (cFs st l cs g), .dat d1, .dat d2, .no, .no, .no, .no, .no, .no] _ _
  exact bs_cons (s1_exprX (ex_call D_check_stepX (hr.mono (by decide)) (ea_cons (ev_var 1 rfl) (ea_cons (ev_var 2 rfl) ea_nil star_nam) star_nam) ⟨_, _, _, rfl, hx, rfl⟩) ⟨rfl, rfl⟩)
end
section
variable {P : Program} {w : World} {K : PySem.W.Frag} {mg : Str → Option Value} {base : Heap} {cR cG : Addr}
def RefG (cG cR : Addr) (d s l : PyData) (c : Addr) : Prop := (isRowD d = false ∧ c = cR) ∨ ∃ q : List Int, d = tI q ∧ RowOk q ∧ NoGateD s l ∧ c = cG
abbrev S_g3X (cG cR : Addr) : List PyData → Rs → Prop := fun ds r => ∃ d s l c, ds = [d, s, l] ∧ RefG cG cR d s l c ∧ r = .no (.ref c)
abbrev S_g5X (cG cR : Addr) : List PyData → Rs → Prop := fun ds r => ∃ d s l e m c, ds = [d, s, l, e, m] ∧ RefG cG cR d s l c ∧ r = .no (.ref c)
abbrev S_r2X (cR : Addr) : List PyData → Rs → Prop := fun ds r => ∃ d e, ds = [d, e] ∧ (isRowD d = false ∨ ∃ q, d = tI q ∧ RowOk q ∧ isRowD e = false) ∧ r = .no (.ref cR)
theorem sc0_beats_in : FnScope ["row", "start", "length"] ["row", "start", "length"] (defScope s_beats_in) := ⟨rfl, rfl, rfl, by decide +kernel, rfl, by decide +kernel, by decide +kernel⟩
theorem vd_beats_inX (W : Where K mg "beats_in" s_beats_in) (D_check_row : PD P w K mg base 4 "check_row" ["row"] (S_row1)) (D_check_rowX : PD P w K mg base 4 "check_row" ["row"] (S_rowX cR)) (D_check_gateX : PD P w K mg base 4 "check_gate" ["start", "length"] (S_gateX cG)) : PD P w K mg base 5 "beats_in" ["row", "start", "length"] (S_g3X cG cR) := by
  have nd := sc0_beats_in.nd
  refine PD.mk W sc0_beats_in (fun _ _ _ _ _ _ us hl => match us, hl with | [_, _, _], _ => rfl) fun f cdv A outer s0 H E ds r hr hS => ?_
  obtain ⟨d, s, l, c, rfl, hx, rfl⟩ := hS
  rcases hx with ⟨h, rfl⟩ | ⟨q, rfl, ok, h, rfl⟩
  · exact bs_cons (s1_exprX (ex_call D_check_rowX (hr.mono (by decide)) (ea_cons (ev_var 0 rfl) ea_nil star_nam) ⟨_, rfl, h, rfl⟩) rfl)
  · refine bs_cons (s1_expr (ev_call D_check_row (hr.mono (by decide)) (ea_cons (ev_var 0 rfl) ea_nil star_nam) ⟨_, rfl, ok, rfl⟩) ?_)
    exact bs_cons (s1_exprX (ex_call D_check_gateX (hr.mono (by decide)) (ea_cons (ev_var 1 rfl) (ea_cons (ev_var 2 rfl) ea_nil star_nam) star_nam) ⟨_, _, rfl, h, rfl⟩) rfl)
theorem sc0_counted : FnScope ["row", "start", "length"] ["row", "start", "length"] (defScope s_counted) := ⟨rfl, rfl, rfl, by decide +kernel, rfl, by decide +kernel, by decide +kernel⟩
theorem vd_countedX (W : Where K mg "counted" s_counted) (B : Bt mg) (D_beats_inX : PD P w K mg base 5 "beats_in" ["row", "start", "length"] (S_g3X cG cR)) : PD P w K mg base 6 "counted" ["row", "start", "length"] (S_g3X cG cR) := by
  have nd := sc0_counted.nd
  refine PD.mk W sc0_counted (fun _ _ _ _ _ _ us hl => match us, hl with | [_, _, _], _ => rfl) fun f cdv A outer s0 H E ds r hr hS => ?_
  obtain ⟨d, s, l, c, rfl, hx, rfl⟩ := hS
  exact bs_cons (s1_retX (ex_inB (id := "len") (ex_call D_beats_inX (hr.mono (by decide)) (ea_cons (ev_var 0 rfl) (ea_cons (ev_var 1 rfl) (ea_cons (ev_var 2 rfl) ea_nil star_nam) star_nam) star_nam) ⟨_, _, _, _, rfl, hx, rfl⟩) B.len) rfl)
theorem sc0_by_count : FnScope ["row", "start", "length", "many"] ["row", "start", "length"] (defScope s_by_count) := ⟨rfl, rfl, rfl, by decide +kernel, rfl, by decide +kernel, by decide +kernel⟩
theorem vd_by_countX (W : Where K mg "by_count" s_by_count) (D_countedX : PD P w K mg base 6 "counted" ["row", "start", "length"] (S_g3X cG cR)) : PD P w K mg base 7 "by_count" ["row", "start", "length"] (S_g3X cG cR) := by
  have nd := sc0_by_count.nd
  refine PD.mk W sc0_by_count (fun _ _ _ _ _ _ us hl => match us, hl with | [_, _, _], _ => rfl) fun f cdv A outer s0 H E ds r hr hS => ?_
  obtain ⟨d, s, l, c, rfl, hx, rfl⟩ := hS
  exact bs_cons (s1_setX 3 nd (ex_call D_countedX (hr.mono (by decide)) (ea_cons (ev_var 0 rfl) (ea_cons (ev_var 1 rfl) (ea_cons (ev_var 2 rfl) ea_nil star_nam) star_nam) star_nam) ⟨_, _, _, _, rfl, hx, rfl⟩) rfl)
theorem sc0_by_time : FnScope ["row", "start", "length", "beats", "behind", "ticks"] ["row", "start", "length"] (defScope s_by_time) := ⟨rfl, rfl, rfl, by decide +kernel, rfl, by decide +kernel, by decide +kernel⟩
theorem vd_by_timeX (W : Where K mg "by_time" s_by_time) (D_beats_inX : PD P w K mg base 5 "beats_in" ["row", "start", "length"] (S_g3X cG cR)) : PD P w K mg base 6 "by_time" ["row", "start", "length"] (S_g3X cG cR) := by
  have nd := sc0_by_time.nd
  refine PD.mk W sc0_by_time (fun _ _ _ _ _ _ us hl => match us, hl with | [_, _, _], _ => rfl) fun f cdv A outer s0 H E ds r hr hS => ?_
  obtain ⟨d, s, l, c, rfl, hx, rfl⟩ := hS
  exact bs_cons (s1_setX 3 nd (ex_call D_beats_inX (hr.mono (by decide)) (ea_cons (ev_var 0 rfl) (ea_cons (ev_var 1 rfl) (ea_cons (ev_var 2 rfl) ea_nil star_nam) star_nam) star_nam) ⟨_, _, _, _, rfl, hx, rfl⟩) rfl)
theorem sc0_sharper : FnScope ["row", "start", "length", "by_first_and_last"] ["row", "start", "length"] (defScope s_sharper) := ⟨rfl, rfl, rfl, by decide +kernel, rfl, by decide +kernel, by decide +kernel⟩
theorem vd_sharperX (W : Where K mg "sharper" s_sharper) (D_by_timeX : PD P w K mg base 6 "by_time" ["row", "start", "length"] (S_g3X cG cR)) : PD P w K mg base 7 "sharper" ["row", "start", "length"] (S_g3X cG cR) := by
  have nd := sc0_sharper.nd
  refine PD.mk W sc0_sharper (fun _ _ _ _ _ _ us hl => match us, hl with | [_, _, _], _ => rfl) fun f cdv A outer s0 H E ds r hr hS => ?_
  obtain ⟨d, s, l, c, rfl, hx, rfl⟩ := hS
  exact bs_cons (s1_setX 3 nd (ex_call D_by_timeX (hr.mono (by decide)) (ea_cons (ev_var 0 rfl) (ea_cons (ev_var 1 rfl) (ea_cons (ev_var 2 rfl) ea_nil star_nam) star_nam) star_nam) ⟨_, _, _, _, rfl, hx, rfl⟩) rfl)
theorem sc0_in_gates : FnScope ["row", "start", "length", "dead", "many", "at"] ["row", "start", "length", "dead", "many"] (defScope s_in_gates) := ⟨rfl, rfl, rfl, by decide +kernel, rfl, by decide +kernel, by decide +kernel⟩
theorem vd_in_gatesX (W : Where K mg "in_gates" s_in_gates) (D_check_row : PD P w K mg base 4 "check_row" ["row"] (S_row1)) (D_check_rowX : PD P w K mg base 4 "check_row" ["row"] (S_rowX cR)) (D_check_gatesX : PD P w K mg base 5 "check_gates" ["start", "length", "dead", "many"] (S_gatesX cG)) : PD P w K mg base 6 "in_gates" ["row", "start", "length", "dead", "many"] (S_g5X cG cR) := by
  have nd := sc0_in_gates.nd
  refine PD.mk W sc0_in_gates (fun _ _ _ _ _ _ us hl => match us, hl with | [_, _, _, _, _], _ => rfl) fun f cdv A outer s0 H E ds r hr hS => ?_
  obtain ⟨d, s, l, e, m, c, rfl, hx, rfl⟩ := hS
  rcases hx with ⟨h, rfl⟩ | ⟨q, rfl, ok, h, rfl⟩
  · exact bs_cons (s1_exprX (ex_call D_check_rowX (hr.mono (by decide)) (ea_cons (ev_var 0 rfl) ea_nil star_nam) ⟨_, rfl, h, rfl⟩) rfl)
  · refine bs_cons (s1_expr (ev_call D_check_row (hr.mono (by decide)) (ea_cons (ev_var 0 rfl) ea_nil star_nam) ⟨_, rfl, ok, rfl⟩) ?_)
    exact bs_cons (s1_exprX (ex_call D_check_gatesX (hr.mono (by decide)) (ea_cons (ev_var 1 rfl) (ea_cons (ev_var 2 rfl) (ea_cons (ev_var 3 rfl) (ea_cons (ev_var 4 rfl) ea_nil star_nam) star_nam) star_nam) star_nam) ⟨_, _, _, _, rfl, h, rfl⟩) rfl)
theorem sc0_lost : FnScope ["row", "start", "length", "dead", "many", "in_some", "end"] ["row", "start", "length", "dead", "many"] (defScope s_lost) := ⟨rfl, rfl, rfl, by decide +kernel, rfl, by decide +kernel, by decide +kernel⟩
theorem vd_lostX (W : Where K mg "lost" s_lost) (B : Bt mg) (D_in_gatesX : PD P w K mg base 6 "in_gates" ["row", "start", "length", "dead", "many"] (S_g5X cG cR)) : PD P w K mg base 7 "lost" ["row", "start", "length", "dead", "many"] (S_g5X cG cR) := by
  have nd := sc0_lost.nd
  refine PD.mk W sc0_lost (fun _ _ _ _ _ _ us hl => match us, hl with | [_, _, _, _, _], _ => rfl) fun f cdv A outer s0 H E ds r hr hS => ?_
  obtain ⟨d, s, l, e, m, c, rfl, hx, rfl⟩ := hS
  exact bs_cons (s1_setX 5 nd (ex_inB (id := "sum") (ex_call D_in_gatesX (hr.mono (by decide)) (ea_cons (ev_var 0 rfl) (ea_cons (ev_var 1 rfl) (ea_cons (ev_var 2 rfl) (ea_cons (ev_var 3 rfl) (ea_cons (ev_var 4 rfl) ea_nil star_nam) star_nam) star_nam) star_nam) star_nam) ⟨_, _, _, _, _, _, rfl, hx, rfl⟩) B.sum) rfl)
theorem sc0_check_rows : FnScope ["one", "other"] ["one", "other"] (defScope s_check_rows) := ⟨rfl, rfl, rfl, by decide +kernel, rfl, by decide +kernel, by decide +kernel⟩
theorem vd_check_rowsX (W : Where K mg "check_rows" s_check_rows) (D_check_row : PD P w K mg base 4 "check_row" ["row"] (S_row1)) (D_check_rowX : PD P w K mg base 4 "check_row" ["row"] (S_rowX cR)) : PD P w K mg base 5 "check_rows" ["one", "other"] (S_r2X cR) := by
  have nd := sc0_check_rows.nd
  refine PD.mk W sc0_check_rows (fun _ _ _ _ _ _ us hl => match us, hl with | [_, _], _ => rfl) fun f cdv A outer s0 H E ds r hr hS => ?_
  obtain ⟨d, e, rfl, hx, rfl⟩ := hS
  rcases hx with hd | ⟨q, rfl, ok, he⟩
  · exact bs_cons (s1_exprX (ex_call D_check_rowX (hr.mono (by decide)) (ea_cons (ev_var 0 rfl) ea_nil star_nam) ⟨_, rfl, hd, rfl⟩) rfl)
  · refine bs_cons (s1_expr (ev_call D_check_row (hr.mono (by decide)) (ea_cons (ev_var 0 rfl) ea_nil star_nam) ⟨_, rfl, ok, rfl⟩) ?_)
    exact bs_cons (s1_exprX (ex_call D_check_rowX (hr.mono (by decide)) (ea_cons (ev_var 1 rfl) ea_nil star_nam) ⟨_, rfl, he, rfl⟩) rfl)
theorem sc0_to_next : FnScope ["one", "other", "beat"] ["one", "other"] (defScope s_to_next) := ⟨rfl, rfl, rfl, by decide +kernel, rfl, by decide +kernel, by decide +kernel⟩
theorem vd_to_nextX (W : Where K mg "to_next" s_to_next) (D_check_rowsX : PD P w K mg base 5 "check_rows" ["one", "other"] (S_r2X cR)) : PD P w K mg base 6 "to_next" ["one", "other"] (S_r2X cR) := by
  have nd := sc0_to_next.nd
  refine PD.mk W sc0_to_next (fun _ _ _ _ _ _ us hl => match us, hl with | [_, _], _ => rfl) fun f cdv A outer s0 H E ds r hr hS => ?_
  obtain ⟨d, e, rfl, hx, rfl⟩ := hS
  exact bs_cons (s1_exprX (ex_call D_check_rowsX (hr.mono (by decide)) (ea_cons (ev_var 0 rfl) (ea_cons (ev_var 1 rfl) ea_nil star_nam) star_nam) ⟨_, _, rfl, hx, rfl⟩) rfl)
theorem sc0_longest_wait : FnScope ["one", "other", "waits", "wait"] ["one", "other"] (defScope s_longest_wait) := ⟨rfl, rfl, rfl, by decide +kernel, rfl, by decide +kernel, by decide +kernel⟩
theorem vd_longest_waitX (W : Where K mg "longest_wait" s_longest_wait) (D_to_nextX : PD P w K mg base 6 "to_next" ["one", "other"] (S_r2X cR)) : PD P w K mg base 7 "longest_wait" ["one", "other"] (S_r2X cR) := by
  have nd := sc0_longest_wait.nd
  refine PD.mk W sc0_longest_wait (fun _ _ _ _ _ _ us hl => match us, hl with | [_, _], _ => rfl) fun f cdv A outer s0 H E ds r hr hS => ?_
  obtain ⟨d, e, rfl, hx, rfl⟩ := hS
  exact bs_cons (s1_setLcX 2 [("wait", 3)] nd (ex_call D_to_nextX (hr.mono (by decide)) (ea_cons (ev_var 0 rfl) (ea_cons (ev_var 1 rfl) ea_nil star_nam) star_nam) ⟨_, _, rfl, hx, rfl⟩) (blkOk_by (own := [("wait", 3)]) (N := ["one", "other", "waits", "wait"]) (sc := defScope s_longest_wait) (by decide +kernel)) rfl)
theorem sc0_between : FnScope ["one", "other", "sooner", "later"] ["one", "other"] (defScope s_between) := ⟨rfl, rfl, rfl, by decide +kernel, rfl, by decide +kernel, by decide +kernel⟩
theorem vd_betweenX (W : Where K mg "between" s_between) (D_check_rowsX : PD P w K mg base 5 "check_rows" ["one", "other"] (S_r2X cR)) : PD P w K mg base 6 "between" ["one", "other"] (S_r2X cR) := by
  have nd := sc0_between.nd
  refine PD.mk W sc0_between (fun _ _ _ _ _ _ us hl => match us, hl with | [_, _], _ => rfl) fun f cdv A outer s0 H E ds r hr hS => ?_
  obtain ⟨d, e, rfl, hx, rfl⟩ := hS
  exact bs_cons (s1_exprX (ex_call D_check_rowsX (hr.mono (by decide)) (ea_cons (ev_var 0 rfl) (ea_cons (ev_var 1 rfl) ea_nil star_nam) star_nam) ⟨_, _, rfl, hx, rfl⟩) rfl)
theorem sc0_gaps : FnScope ["row", "sooner", "later"] ["row"] (defScope s_gaps) := ⟨rfl, rfl, rfl, by decide +kernel, rfl, by decide +kernel, by decide +kernel⟩
theorem vd_gapsX (W : Where K mg "gaps" s_gaps) (D_check_rowX : PD P w K mg base 4 "check_row" ["row"] (S_rowX cR)) : PD P w K mg base 5 "gaps" ["row"] (S_rowX cR) := by
  have nd := sc0_gaps.nd
  refine PD.mk W sc0_gaps (fun _ _ _ _ _ _ us hl => match us, hl with | [_], _ => rfl) fun f cdv A outer s0 H E ds r hr hS => ?_
  obtain ⟨d, rfl, hx, rfl⟩ := hS
  exact bs_cons (s1_exprX (ex_call D_check_rowX (hr.mono (by decide)) (ea_cons (ev_var 0 rfl) ea_nil star_nam) ⟨_, rfl, hx, rfl⟩) rfl)
theorem sc0_bounds : FnScope ["row", "low", "high", "behind", "sooner", "later"] ["row"] (defScope s_bounds) := ⟨rfl, rfl, rfl, by decide +kernel, rfl, by decide +kernel, by decide +kernel⟩
theorem vd_boundsX (W : Where K mg "bounds" s_bounds) (D_check_rowX : PD P w K mg base 4 "check_row" ["row"] (S_rowX cR)) : PD P w K mg base 5 "bounds" ["row"] (S_rowX cR) := by
  have nd := sc0_bounds.nd
  refine PD.mk W sc0_bounds (fun _ _ _ _ _ _ us hl => match us, hl with | [_], _ => rfl) fun f cdv A outer s0 H E ds r hr hS => ?_
  obtain ⟨d, rfl, hx, rfl⟩ := hS
  exact bs_cons (s1_exprX (ex_call D_check_rowX (hr.mono (by decide)) (ea_cons (ev_var 0 rfl) ea_nil star_nam) ⟨_, rfl, hx, rfl⟩) rfl)
theorem sc0_can_be_steady : FnScope ["row"] ["row"] (defScope s_can_be_steady) := ⟨rfl, rfl, rfl, by decide +kernel, rfl, by decide +kernel, by decide +kernel⟩
theorem vd_can_be_steadyX (W : Where K mg "can_be_steady" s_can_be_steady) (D_boundsX : PD P w K mg base 5 "bounds" ["row"] (S_rowX cR)) : PD P w K mg base 6 "can_be_steady" ["row"] (S_rowX cR) := by
  have nd := sc0_can_be_steady.nd
  refine PD.mk W sc0_can_be_steady (fun _ _ _ _ _ _ us hl => match us, hl with | [_], _ => rfl) fun f cdv A outer s0 H E ds r hr hS => ?_
  obtain ⟨d, rfl, hx, rfl⟩ := hS
  exact bs_cons (s1_retX (ex_or1 (ex_cmp1 (ex_call D_boundsX (hr.mono (by decide)) (ea_cons (ev_var 0 rfl) ea_nil star_nam) ⟨_, rfl, hx, rfl⟩))) rfl)
theorem sc0_simplest : FnScope ["row", "pair"] ["row"] (defScope s_simplest) := ⟨rfl, rfl, rfl, by decide +kernel, rfl, by decide +kernel, by decide +kernel⟩
theorem vd_simplestX (W : Where K mg "simplest" s_simplest) (D_boundsX : PD P w K mg base 5 "bounds" ["row"] (S_rowX cR)) : PD P w K mg base 6 "simplest" ["row"] (S_rowX cR) := by
  have nd := sc0_simplest.nd
  refine PD.mk W sc0_simplest (fun _ _ _ _ _ _ us hl => match us, hl with | [_], _ => rfl) fun f cdv A outer s0 H E ds r hr hS => ?_
  obtain ⟨d, rfl, hx, rfl⟩ := hS
  exact bs_cons (s1_setX 1 nd (ex_call D_boundsX (hr.mono (by decide)) (ea_cons (ev_var 0 rfl) ea_nil star_nam) ⟨_, rfl, hx, rfl⟩) rfl)
theorem sc0_phase_for : FnScope ["row", "period", "up", "down", "latest", "place", "beat"] ["row"] (defScope s_phase_for) := ⟨rfl, rfl, rfl, by decide +kernel, rfl, by decide +kernel, by decide +kernel⟩
theorem vd_phase_forX (W : Where K mg "phase_for" s_phase_for) (D_simplestX : PD P w K mg base 6 "simplest" ["row"] (S_rowX cR)) : PD P w K mg base 7 "phase_for" ["row"] (S_rowX cR) := by
  have nd := sc0_phase_for.nd
  refine PD.mk W sc0_phase_for (fun _ _ _ _ _ _ us hl => match us, hl with | [_], _ => rfl) fun f cdv A outer s0 H E ds r hr hS => ?_
  obtain ⟨d, rfl, hx, rfl⟩ := hS
  exact bs_cons (s1_setX 1 nd (ex_call D_simplestX (hr.mono (by decide)) (ea_cons (ev_var 0 rfl) ea_nil star_nam) ⟨_, rfl, hx, rfl⟩) rfl)
end
structure Kinds (K : PySem.W.Frag) (cB : Addr) (cs : List Addr) : Prop where
  look : ∀ c ∈ cs, ExcLook K c
  self : ∀ c ∈ cs, ∀ d ∈ cs, PySem.W.kitOne K (.ref c) (.ref d) = some (decide (c = d))
  beat : ∀ c ∈ cs, PySem.W.kitOne K (.ref c) (.ref cB) = some true
  val : ∀ c ∈ cs, PySem.W.kitOne K (.ref c) (.type "ValueError") = some true
  catch_ : ∀ c ∈ cs, PySem.W.exmOne K (.ref c) (.ref cB) = some true
theorem kinds4_mk {K : PySem.W.Frag} {cB cG cP cR cT : Addr} {cdG cdP cdR cdT : ClassData}
    (sp : PySem.W.specialIn K (.builtin "object.__class__") "__get__" = some (some (.builtin "getset_descriptor.__get__")))
    (tk : PySem.W.takesIn K (.builtin "object.__class__") = some true)
    (gaG : PySem.W.findIn K (.ref cG) "__getattribute__" = some (some (.builtin "BaseException.__getattribute__")))
    (gtG : PySem.W.findIn K (.ref cG) "__getattr__" = some none)
    (clG : PySem.W.findIn K (.ref cG) "__class__" = some (some (.builtin "object.__class__")))
    (moG : PySem.W.mroIn K cG (.type "object") = some true)
    (mbG : PySem.W.mroIn K cG (.type "BaseException") = some true)
    (csG : PySem.W.clsIn K cG = some cdG)
    (kGG : PySem.W.kitOne K (.ref cG) (.ref cG) = some true)
    (kGP : PySem.W.kitOne K (.ref cG) (.ref cP) = some false)
    (kGR : PySem.W.kitOne K (.ref cG) (.ref cR) = some false)
    (kGT : PySem.W.kitOne K (.ref cG) (.ref cT) = some false)
    (beG : PySem.W.kitOne K (.ref cG) (.ref cB) = some true)
    (veG : PySem.W.kitOne K (.ref cG) (.type "ValueError") = some true)
    (exG : PySem.W.exmOne K (.ref cG) (.ref cB) = some true)
    (gaP : PySem.W.findIn K (.ref cP) "__getattribute__" = some (some (.builtin "BaseException.__getattribute__")))
    (gtP : PySem.W.findIn K (.ref cP) "__getattr__" = some none)
    (clP : PySem.W.findIn K (.ref cP) "__class__" = some (some (.builtin "object.__class__")))
    (moP : PySem.W.mroIn K cP (.type "object") = some true)
    (mbP : PySem.W.mroIn K cP (.type "BaseException") = some true)
    (csP : PySem.W.clsIn K cP = some cdP)
    (kPG : PySem.W.kitOne K (.ref cP) (.ref cG) = some false)
    (kPP : PySem.W.kitOne K (.ref cP) (.ref cP) = some true)
    (kPR : PySem.W.kitOne K (.ref cP) (.ref cR) = some false)
    (kPT : PySem.W.kitOne K (.ref cP) (.ref cT) = some false)
    (beP : PySem.W.kitOne K (.ref cP) (.ref cB) = some true)
    (veP : PySem.W.kitOne K (.ref cP) (.type "ValueError") = some true)
    (exP : PySem.W.exmOne K (.ref cP) (.ref cB) = some true)
    (gaR : PySem.W.findIn K (.ref cR) "__getattribute__" = some (some (.builtin "BaseException.__getattribute__")))
    (gtR : PySem.W.findIn K (.ref cR) "__getattr__" = some none)
    (clR : PySem.W.findIn K (.ref cR) "__class__" = some (some (.builtin "object.__class__")))
    (moR : PySem.W.mroIn K cR (.type "object") = some true)
    (mbR : PySem.W.mroIn K cR (.type "BaseException") = some true)
    (csR : PySem.W.clsIn K cR = some cdR)
    (kRG : PySem.W.kitOne K (.ref cR) (.ref cG) = some false)
    (kRP : PySem.W.kitOne K (.ref cR) (.ref cP) = some false)
    (kRR : PySem.W.kitOne K (.ref cR) (.ref cR) = some true)
    (kRT : PySem.W.kitOne K (.ref cR) (.ref cT) = some false)
    (beR : PySem.W.kitOne K (.ref cR) (.ref cB) = some true)
    (veR : PySem.W.kitOne K (.ref cR) (.type "ValueError") = some true)
    (exR : PySem.W.exmOne K (.ref cR) (.ref cB) = some true)
    (gaT : PySem.W.findIn K (.ref cT) "__getattribute__" = some (some (.builtin "BaseException.__getattribute__")))
    (gtT : PySem.W.findIn K (.ref cT) "__getattr__" = some none)
    (clT : PySem.W.findIn K (.ref cT) "__class__" = some (some (.builtin "object.__class__")))
    (moT : PySem.W.mroIn K cT (.type "object") = some true)
    (mbT : PySem.W.mroIn K cT (.type "BaseException") = some true)
    (csT : PySem.W.clsIn K cT = some cdT)
    (kTG : PySem.W.kitOne K (.ref cT) (.ref cG) = some false)
    (kTP : PySem.W.kitOne K (.ref cT) (.ref cP) = some false)
    (kTR : PySem.W.kitOne K (.ref cT) (.ref cR) = some false)
    (kTT : PySem.W.kitOne K (.ref cT) (.ref cT) = some true)
    (beT : PySem.W.kitOne K (.ref cT) (.ref cB) = some true)
    (veT : PySem.W.kitOne K (.ref cT) (.type "ValueError") = some true)
    (exT : PySem.W.exmOne K (.ref cT) (.ref cB) = some true)
    (nd : [cG, cP, cR, cT].Nodup) : Kinds K cB [cG, cP, cR, cT] := by
  simp only [List.nodup_cons, List.mem_cons, List.not_mem_nil, not_or, or_false, not_false_eq_true, and_true, List.nodup_nil] at nd
  obtain ⟨⟨n1, n2, n3⟩, ⟨n4, n5⟩, n6⟩ := nd
  have all : ∀ {p : Addr → Prop}, p cG → p cP → p cR → p cT → ∀ c ∈ [cG, cP, cR, cT], p c := fun {p} a b c d e he => by
    simp only [List.mem_cons, List.not_mem_nil, or_false] at he
    rcases he with rfl | rfl | rfl | rfl <;> assumption
  refine ⟨?_, ?_, ?_, ?_, ?_⟩
  · exact all ⟨gaG, gtG, clG, sp, tk, moG, mbG, by rw [csG]; rfl⟩ ⟨gaP, gtP, clP, sp, tk, moP, mbP, by rw [csP]; rfl⟩ ⟨gaR, gtR, clR, sp, tk, moR, mbR, by rw [csR]; rfl⟩ ⟨gaT, gtT, clT, sp, tk, moT, mbT, by rw [csT]; rfl⟩
  · refine all (all ?_ ?_ ?_ ?_) (all ?_ ?_ ?_ ?_) (all ?_ ?_ ?_ ?_) (all ?_ ?_ ?_ ?_)
    · rw [kGG]; simp
    · rw [kGP]; simp [n1]
    · rw [kGR]; simp [n2]
    · rw [kGT]; simp [n3]
    · rw [kPG]; simp [Ne.symm n1]
    · rw [kPP]; simp
    · rw [kPR]; simp [n4]
    · rw [kPT]; simp [n5]
    · rw [kRG]; simp [Ne.symm n2]
    · rw [kRP]; simp [Ne.symm n4]
    · rw [kRR]; simp
    · rw [kRT]; simp [n6]
    · rw [kTG]; simp [Ne.symm n3]
    · rw [kTP]; simp [Ne.symm n5]
    · rw [kTR]; simp [Ne.symm n6]
    · rw [kTT]; simp
  · exact all beG beP beR beT
  · exact all veG veP veR veT
  · exact all exG exP exR exT
def words4 : List Str := ["no gate", "no period", "no row", "no text"]
def sp__law_word (K : PySem.W.Frag) (cs : List Addr) : Sp := fun vs H Q _ => ∃ (x D : Addr) (i : Nat) (wd : Str), vs = [.ref x] ∧ H x = some (.ext (ExcAt x (.ref D))) ∧ cs[i]? = some D ∧ words4[i]? = some wd ∧ ∀ H', Same H H' → Q (.str wd) H'
section
variable {P : Program} {w : World} {K : PySem.W.Frag} {mg : Str → Option Value} {base : Heap} {cB cG cP cR cT : Addr}
theorem sc__law_word : FnScope ["_law_kept", "_law_kinds"] ["_law_kept"] (defScope s__law_word) := ⟨rfl, rfl, rfl, by decide +kernel, rfl, by decide +kernel, by decide +kernel⟩
theorem def__law_word (W : Where K mg "_law_word" s__law_word) (B : Bt mg) (zV : mg "ValueError" = none) (eB : mg "BeatError" = some (.ref cB)) (eG : mg "NoGate" = some (.ref cG)) (eP : mg "NoPeriod" = some (.ref cP)) (eR : mg "NoRow" = some (.ref cR)) (eT : mg "NoText" = some (.ref cT))
    (nd4 : [cG, cP, cR, cT].Nodup) (Ks : Kinds K cB [cG, cP, cR, cT]) : Def P w K mg base 1 "_law_word" ["_law_kept"] (sp__law_word K [cG, cP, cR, cT]) := by
  refine W.def sc__law_word (fun _ _ _ _ _ _ us hl => match us, hl with | [_], _ => rfl) (fun vs H Q E h => ?_) (fun f cdv A outer s H vs Q E hr h => ?_)
  · obtain ⟨x, D, i, wd, rfl, _⟩ := h
    rfl
  · obtain ⟨x, D, i, wd, rfl, hx, hD, hw, q⟩ := h
    have nd := sc__law_word.nd
    have mem : D ∈ [cG, cP, cR, cT] := List.mem_of_getElem? hD
    have lk := Ks.look D mem
    have isT : bootBuiltins "isinstance" = some (.builtin "isinstance") := by decide +kernel
    refine ⟨_, pss_cons (ps_set (i := 1) nd rfl (Or.inl rfl) (pe_lst (pa_cons (pe_callB call_isE (by rfl) B.isinstance isT (pa_cons (pv 0) (pa_cons (pe_glob (v := .ref cG) rfl eG rfl) pa_nil))) (pa_cons (pe_callB call_isE (by rfl) B.isinstance isT (pa_cons (pv 0) (pa_cons (pe_glob (v := .ref cP) rfl eP rfl) pa_nil)))
        (pa_cons (pe_callB call_isE (by rfl) B.isinstance isT (pa_cons (pv 0) (pa_cons (pe_glob (v := .ref cR) rfl eR rfl) pa_nil))) (pa_cons (pe_callB call_isE (by rfl) B.isinstance isT (pa_cons (pv 0) (pa_cons (pe_glob (v := .ref cT) rfl eT rfl) pa_nil))) pa_nil))))))
      (pss_cons (ps_if (PW.pt (pw_or (pt_cmpR op_ne (pe_bm PySem.F.plainAttrs_list PySem.F.slot_list_count PySem.F.type_list_count mt_countF (pv 1) (pa_cons pe_bl pa_nil)) pe_int (nomark _))
          (pw_or (pt_not (pt_val (pe_callB call_isT (by rfl) B.isinstance isT (pa_cons (pv 0) (pa_cons (pe_bltn (v := .ty "ValueError") rfl zV (by decide +kernel) rfl) pa_nil)))))
          (pw_or1 (pt_not (pt_val (pe_callB call_isE (by rfl) B.isinstance isT (pa_cons (pv 0) (pa_cons (pe_glob (v := .ref cB) rfl eB rfl) pa_nil))))))))) (pss_one (ps_ret pe_str)) pss_nil)
      (pss_one (ps_ret (pe_ix ix_list (pe_lst (pa_cons pe_str (pa_cons pe_str (pa_cons pe_str (pa_cons pe_str pa_nil))))) (pe_bm PySem.F.plainAttrs_list PySem.F.slot_list_index PySem.F.type_list_index mt_index (pv 1) (pa_cons pe_bl pa_nil)) (fun _ _ => rfl))))), ?_⟩
    have sf : ∀ d ∈ [cG, cP, cR, cT], PySem.W.kitOne K (.ref D) (.ref d) = some (decide (D = d)) := fun d hd => Ks.self D mem d hd
    refine ⟨_, rfl, x, D, cG, _, rfl, hx, lk, sf cG (by simp), ?_⟩
    refine ⟨_, rfl, x, D, cP, _, rfl, hx, lk, sf cP (by simp), ?_⟩
    refine ⟨_, rfl, x, D, cR, _, rfl, hx, lk, sf cR (by simp), ?_⟩
    refine ⟨_, rfl, x, D, cT, _, rfl, hx, lk, sf cT (by simp), (by show 4 ≤ sizeLine; decide), fun l hl => ?_⟩
    have hx2 : ∀ {o : HO}, upd H l o x = some (.ext (ExcAt x (.ref D))) := fun {o} => by rw [upd_ne (ne_of_none hx hl)]; exact hx
    simp only [List.nodup_cons, List.mem_cons, List.not_mem_nil, not_or, or_false, not_false_eq_true, and_true, List.nodup_nil] at nd4
    obtain ⟨⟨n1, n2, n3⟩, ⟨n4, n5⟩, n6⟩ := nd4
    have be := Ks.beat D mem
    have ve := Ks.val D mem
    have tail : ∀ (j : Nat) (b1 b2 b3 b4 : Bool), decide (D = cG) = b1 → decide (D = cP) = b2 → decide (D = cR) = b3 → decide (D = cT) = b4 → [b1, b2, b3, b4] = [decide (j = 0), decide (j = 1), decide (j = 2), decide (j = 3)] → j < 4 → words4[j]? = some wd →
        ∃ (a : Addr) (ys : List V) (y : V), V.ref l = .ref a ∧ [V.bl true] = [y] ∧ SqL K (upd H l (.lst [.bl b1, .bl b2, .bl b3, .bl b4])) a ys ∧ flatV y = true ∧ ys.all flatV = true ∧ (ys.countP (fun z => eqV z y) : Nat) = 1 ∧ ∃ z, ys[j]? = some z ∧ eqV z y = true ∧ ∀ m z', m < j → ys[m]? = some z' → eqV z' y = false := by
      intro j b1 b2 b3 b4 _ _ _ _ e lt _
      refine ⟨l, _, _, rfl, rfl, SqL.of upd_same, rfl, rfl, ?_, .bl true, ?_, rfl, ?_⟩
      all_goals
        injection e with e1 e
        injection e with e2 e
        injection e with e3 e
        injection e with e4 e
        subst e1 e2 e3 e4
      · match j, lt with
        | 0, _ => rfl
        | 1, _ => rfl
        | 2, _ => rfl
        | 3, _ => rfl
      · match j, lt with
        | 0, _ => rfl
        | 1, _ => rfl
        | 2, _ => rfl
        | 3, _ => rfl
      · match j, lt with
        | 0, _ => exact fun m z h => absurd h (by omega)
        | 1, _ =>
          intro m z h g
          match m, h with
          | 0, _ => cases g; rfl
        | 2, _ =>
          intro m z h g
          match m, h with
          | 0, _ => cases g; rfl
          | 1, _ => cases g; rfl
        | 3, _ =>
          intro m z h g
          match m, h with
          | 0, _ => cases g; rfl
          | 1, _ => cases g; rfl
          | 2, _ => cases g; rfl
    have lt4 : i < 4 := by
      have := (List.getElem?_eq_some_iff.mp hD).1
      simpa using this
    have eqs : [decide (D = cG), decide (D = cP), decide (D = cR), decide (D = cT)] = [decide (i = 0), decide (i = 1), decide (i = 2), decide (i = 3)] := by
      match i, lt4, hD with
      | 0, _, hD => cases hD; simp [n1, n2, n3]
      | 1, _, hD => cases hD; simp [Ne.symm n1, n4, n5]
      | 2, _, hD => cases hD; simp [Ne.symm n2, Ne.symm n4, n6]
      | 3, _, hD => cases hD; simp [Ne.symm n3, Ne.symm n5, Ne.symm n6]
    obtain ⟨a, ys, y, ea, ey, hS, fy, fys, cnt, z, hz, ez, ahead⟩ := tail i _ _ _ _ rfl rfl rfl rfl eqs lt4 hw
    cases ea
    injection ey with ey
    subst ey
    refine ⟨_, rfl, .inl ⟨rfl, _, hS⟩, l, ys, _, rfl, rfl, hS, fy, fys, ?_⟩
    rw [cnt]
    refine ⟨rfl, _, rfl, ?_⟩
    refine iteF ?_
    refine ⟨_, rfl, x, D, "ValueError", _, rfl, hx2, lk, ve, _, rfl, ?_⟩
    refine iteF ?_
    refine ⟨_, rfl, x, D, cB, _, rfl, hx2, lk, be, _, rfl, ?_⟩
    refine iteF ?_
    refine ⟨(by show 4 ≤ sizeLine; decide), fun l2 hl2 => ?_⟩
    have hS2 := (Same.upd (o := .lst [.str "no gate", .str "no period", .str "no row", .str "no text"]) hl2).seq hS
    refine ⟨_, rfl, .inl ⟨rfl, _, hS2⟩, l, ys, .bl true, i, z, rfl, rfl, hS2, fy, fys, hz, ez, ahead, ?_⟩
    refine ⟨l2, _, _, .str wd, rfl, rfl, SqL.of upd_same, atI_nat ?_, q _ ((Same.upd hl).trans (Same.upd hl2))⟩
    match i, lt4, hw with
    | 0, _, hw => cases hw; rfl
    | 1, _, hw => cases hw; rfl
    | 2, _, hw => cases hw; rfl
    | 3, _, hw => cases hw; rfl
end
structure Refs4 (K : PySem.W.Frag) (mg : Str → Option Value) (cB cG cP cR cT : Addr) : Prop where
  zV : mg "ValueError" = none
  eB : mg "BeatError" = some (.ref cB)
  eG : Rf K mg "NoGate" cG
  eP : Rf K mg "NoPeriod" cP
  eR : Rf K mg "NoRow" cR
  eT : Rf K mg "NoText" cT
  nd : [cG, cP, cR, cT].Nodup
  kinds : Kinds K cB [cG, cP, cR, cT]
theorem refs4_mk {K : PySem.W.Frag} {mg : Str → Option Value} {h : Heap} (X : K.In h) (G : h.Ns mainGlobals mg) {cB cG cP cR cT : Addr} (aV : PySem.W.nsIn K mainGlobals "ValueError" = some none) (aB : PySem.W.nsIn K mainGlobals "BeatError" = some (some (.ref cB))) (aG : PySem.W.nsIn K mainGlobals "NoGate" = some (some (.ref cG))) (aP : PySem.W.nsIn K mainGlobals "NoPeriod" = some (some (.ref cP))) (aR : PySem.W.nsIn K mainGlobals "NoRow" = some (some (.ref cR))) (aT : PySem.W.nsIn K mainGlobals "NoText" = some (some (.ref cT)))
    (xG : PySem.W.excIn K cG bmV "ValueError.__new__" = true) (xP : PySem.W.excIn K cP bmV "ValueError.__new__" = true) (xR : PySem.W.excIn K cR bmV "ValueError.__new__" = true) (xT : PySem.W.excIn K cT bmV "ValueError.__new__" = true) (nd : [cG, cP, cR, cT].Nodup) (ks : Kinds K cB [cG, cP, cR, cT]) : ∃ cB cG cP cR cT, Refs4 K mg cB cG cP cR cT :=
  ⟨cB, cG, cP, cR, cT, PySem.W.mg_none_of X G aV, PySem.W.mg_of X G aB, ⟨PySem.W.mg_of X G aG, xG⟩, ⟨PySem.W.mg_of X G aP, xP⟩, ⟨PySem.W.mg_of X G aR, xR⟩, ⟨PySem.W.mg_of X G aT, xT⟩, nd, ks⟩
theorem ev_word {X : Cx} {ρ : List Ow} {pos p pn : Pos} {cs : List Addr} {D : Addr} {wd y : Str} (i j : Nat) (Dw : Def X.prog X.w X.K X.mg X.base 1 "_law_word" ["_law_kept"] (sp__law_word X.K cs)) (hr : Room 1 X.A) (h : ρ[i]? = some (.exc (.ref D))) (hD : cs[j]? = some D) (hw : words4[j]? = some wd) (hg : Gl X "_law_word" := by rfl)
    (hN : X.N[i]? = some y := by rfl) (hv : Vis X.env.scope y := by first | exact Or.inl rfl | exact Or.inr (Or.inl rfl) | exact Or.inr (Or.inr rfl)) (hd : (y == ("__debug__" : Str)) = false := by decide) (hcd : (y == ("__classdict__" : Str)) = false := by decide) :
    EV X ρ (.Call (.Name "_law_word" p) [.Name y pn] [] pos) (.dat (.str wd)) ρ := by
  refine ⟨(pe_callN Dw.x hr (pa_cons (pe_var hN hv hd hcd) pa_nil star_nam) hg (by decide) star_nam rfl).mono fun σ H Q ⟨F, τ, R, q⟩ => ?_⟩
  obtain ⟨Hm, o, fp, e1, sm, ho, _, _⟩ := R.slot h
  cases ho with
  | @exc a _ h1 => exact ⟨.ref a, e1, a, D, j, wd, rfl, h1, hD, hw, fun H' sm => q _ _ ((R.grown sm).flat fun _ => .str wd)⟩
section
variable {P : Program} {w : World} {K : PySem.W.Frag} {mg : Str → Option Value} {base : Heap} {cB cG cP cR cT : Addr}
theorem sc__law_do : FnScope ["_law_what", "_law_row_here", "_law_start", "_law_length", "e", "_law_kept", "_law_answer"] ["_law_what", "_law_row_here", "_law_start", "_law_length"] (defScope s__law_do) := ⟨rfl, rfl, rfl, by decide +kernel, rfl, by decide +kernel, by decide +kernel⟩
theorem gs01 : GsOk 0 1 0 1 := by refine ⟨?_, ?_, ?_, ?_, ?_, ?_, ?_, ?_, ?_⟩ <;> decide
def Wd (cs : List Addr) (c : Addr) (wd : Str) : Prop := ∃ j : Nat, cs[j]? = some c ∧ words4[j]? = some wd
theorem vd__law_do0X (W : Where K mg "_law_do" s__law_do) (eB : mg "BeatError" = some (.ref cB)) (Ks : Kinds K cB [cG, cP, cR, cT]) (Dw : Def P w K mg base 1 "_law_word" ["_law_kept"] (sp__law_word K [cG, cP, cR, cT])) (D_countedX : PD P w K mg base 6 "counted" ["row", "start", "length"] (S_g3X cG cR)) (D_by_countX : PD P w K mg base 7 "by_count" ["row", "start", "length"] (S_g3X cG cR)) (D_by_timeX : PD P w K mg base 6 "by_time" ["row", "start", "length"] (S_g3X cG cR)) (D_sharperX : PD P w K mg base 7 "sharper" ["row", "start", "length"] (S_g3X cG cR)) : PD P w K mg base 8 "_law_do" ["_law_what", "_law_row_here", "_law_start", "_law_length"] (fun ds r => ∃ d1 d2 d3 c wd, ds = [.int 0, d1, d2, d3] ∧ (RefG cG cR d1 d2 d3 c) ∧ Wd [cG, cP, cR, cT] c wd ∧ r = okD (.str wd)) := by
  have nd := sc__law_do.nd
  refine PD.mk W sc__law_do (fun _ _ _ _ _ _ us hl => match us, hl with | [_, _, _, _], _ => rfl) fun f cdv A outer s H E ds r hr hS => ?_
  obtain ⟨d1, d2, d3, c, wd, rfl, hx, ⟨j, hj, hw⟩, rfl⟩ := hS
  show BS _ _ [.dat (.int 0), .dat d1, .dat d2, .dat d3, .no, .no, .no] _ _
  refine bs_cons (s1_set 5 nd ev_non ?_)
  refine bs_cons (s1_set 6 nd ev_non ?_)
  show BS _ _ [.dat (.int 0), .dat d1, .dat d2, .dat d3, .no, .dat .none, .dat .none] _ _
  have hmem := List.mem_of_getElem? hj
  obtain ⟨f0, _, m0, _⟩ := D_countedX.ex
  obtain ⟨f1, _, m1, _⟩ := D_by_countX.ex
  obtain ⟨f2, _, m2, _⟩ := D_by_timeX.ex
  obtain ⟨f3, _, m3, _⟩ := D_sharperX.ex
  refine bs_join (fun o => o = .nx [.no, .no, .no, .no, .no, .exc (.ref c), .no]) (s1_try (cls := .ref c) 4 (fun o => o = .xc (.ref c) [.dat (.int 0), .dat d1, .dat d2, .dat d3, .no, .dat .none, .dat .none]) (fun o => o = .nx [.no, .no, .no, .no, .no, .exc (.ref c), .no]) nd eB (fun pins W' => ?_) (fun C ρ' h => by cases h; rfl) (fun _ => Ks.catch_ c hmem) (fun pins x => ?_) (fun ρ' h => nomatch h) (fun s ρ' h => nomatch h) (fun ρ' h => nomatch h) (fun ρ' h => nomatch h) (fun ρ' h => by cases h; rfl) (fun s ρ' h => nomatch h) (fun ρ' h => nomatch h) (fun ρ' h => nomatch h) (fun C ρ' h => nomatch h)) ?_
  · exact bs_cons (s1_if (k := true) (et_cmp cmp_lt (ev_var 0 rfl) ev_int) (fun _ => bs_cons (s1_asgX (ex_pick D_countedX m0 (hr.mono (by decide)) (.cons m0 rfl rfl (.cons m1 rfl rfl (.cons m2 rfl rfl (.cons m3 rfl rfl .nil)))) (ci_var 0 rfl) rfl (by show 4 ≤ 40; decide) (ea_cons (ev_var 1 rfl) (ea_cons (ev_var 2 rfl) (ea_cons (ev_var 3 rfl) ea_nil star_nam) star_nam) star_nam) ⟨_, _, _, _, rfl, hx, rfl⟩) rfl)) (fun h => nomatch h))
  · exact bs_cons (s1_set 5 nd (ev_mvX 4 rfl) (bs_nil rfl))
  · rintro o rfl
    refine bs_no (et_isX 5 rfl (he := ev_non)) rfl ?_
    exact bs_ret (ev_word 5 j Dw (hr.mono (by decide)) rfl hj hw) rfl
theorem vd__law_do1X (W : Where K mg "_law_do" s__law_do) (eB : mg "BeatError" = some (.ref cB)) (Ks : Kinds K cB [cG, cP, cR, cT]) (Dw : Def P w K mg base 1 "_law_word" ["_law_kept"] (sp__law_word K [cG, cP, cR, cT])) (D_countedX : PD P w K mg base 6 "counted" ["row", "start", "length"] (S_g3X cG cR)) (D_by_countX : PD P w K mg base 7 "by_count" ["row", "start", "length"] (S_g3X cG cR)) (D_by_timeX : PD P w K mg base 6 "by_time" ["row", "start", "length"] (S_g3X cG cR)) (D_sharperX : PD P w K mg base 7 "sharper" ["row", "start", "length"] (S_g3X cG cR)) : PD P w K mg base 8 "_law_do" ["_law_what", "_law_row_here", "_law_start", "_law_length"] (fun ds r => ∃ d1 d2 d3 c wd, ds = [.int 1, d1, d2, d3] ∧ (RefG cG cR d1 d2 d3 c) ∧ Wd [cG, cP, cR, cT] c wd ∧ r = okD (.str wd)) := by
  have nd := sc__law_do.nd
  refine PD.mk W sc__law_do (fun _ _ _ _ _ _ us hl => match us, hl with | [_, _, _, _], _ => rfl) fun f cdv A outer s H E ds r hr hS => ?_
  obtain ⟨d1, d2, d3, c, wd, rfl, hx, ⟨j, hj, hw⟩, rfl⟩ := hS
  show BS _ _ [.dat (.int 1), .dat d1, .dat d2, .dat d3, .no, .no, .no] _ _
  refine bs_cons (s1_set 5 nd ev_non ?_)
  refine bs_cons (s1_set 6 nd ev_non ?_)
  show BS _ _ [.dat (.int 1), .dat d1, .dat d2, .dat d3, .no, .dat .none, .dat .none] _ _
  have hmem := List.mem_of_getElem? hj
  obtain ⟨f0, _, m0, _⟩ := D_countedX.ex
  obtain ⟨f1, _, m1, _⟩ := D_by_countX.ex
  obtain ⟨f2, _, m2, _⟩ := D_by_timeX.ex
  obtain ⟨f3, _, m3, _⟩ := D_sharperX.ex
  refine bs_join (fun o => o = .nx [.no, .no, .no, .no, .no, .exc (.ref c), .no]) (s1_try (cls := .ref c) 4 (fun o => o = .xc (.ref c) [.dat (.int 1), .dat d1, .dat d2, .dat d3, .no, .dat .none, .dat .none]) (fun o => o = .nx [.no, .no, .no, .no, .no, .exc (.ref c), .no]) nd eB (fun pins W' => ?_) (fun C ρ' h => by cases h; rfl) (fun _ => Ks.catch_ c hmem) (fun pins x => ?_) (fun ρ' h => nomatch h) (fun s ρ' h => nomatch h) (fun ρ' h => nomatch h) (fun ρ' h => nomatch h) (fun ρ' h => by cases h; rfl) (fun s ρ' h => nomatch h) (fun ρ' h => nomatch h) (fun ρ' h => nomatch h) (fun C ρ' h => nomatch h)) ?_
  · exact bs_cons (s1_if (k := true) (et_cmp cmp_lt (ev_var 0 rfl) ev_int) (fun _ => bs_cons (s1_asgX (ex_pick D_by_countX m1 (hr.mono (by decide)) (.cons m0 rfl rfl (.cons m1 rfl rfl (.cons m2 rfl rfl (.cons m3 rfl rfl .nil)))) (ci_var 0 rfl) rfl (by show 4 ≤ 40; decide) (ea_cons (ev_var 1 rfl) (ea_cons (ev_var 2 rfl) (ea_cons (ev_var 3 rfl) ea_nil star_nam) star_nam) star_nam) ⟨_, _, _, _, rfl, hx, rfl⟩) rfl)) (fun h => nomatch h))
  · exact bs_cons (s1_set 5 nd (ev_mvX 4 rfl) (bs_nil rfl))
  · rintro o rfl
    refine bs_no (et_isX 5 rfl (he := ev_non)) rfl ?_
    exact bs_ret (ev_word 5 j Dw (hr.mono (by decide)) rfl hj hw) rfl
theorem vd__law_do2X (W : Where K mg "_law_do" s__law_do) (eB : mg "BeatError" = some (.ref cB)) (Ks : Kinds K cB [cG, cP, cR, cT]) (Dw : Def P w K mg base 1 "_law_word" ["_law_kept"] (sp__law_word K [cG, cP, cR, cT])) (D_countedX : PD P w K mg base 6 "counted" ["row", "start", "length"] (S_g3X cG cR)) (D_by_countX : PD P w K mg base 7 "by_count" ["row", "start", "length"] (S_g3X cG cR)) (D_by_timeX : PD P w K mg base 6 "by_time" ["row", "start", "length"] (S_g3X cG cR)) (D_sharperX : PD P w K mg base 7 "sharper" ["row", "start", "length"] (S_g3X cG cR)) : PD P w K mg base 8 "_law_do" ["_law_what", "_law_row_here", "_law_start", "_law_length"] (fun ds r => ∃ d1 d2 d3 c wd, ds = [.int 2, d1, d2, d3] ∧ (RefG cG cR d1 d2 d3 c) ∧ Wd [cG, cP, cR, cT] c wd ∧ r = okD (.str wd)) := by
  have nd := sc__law_do.nd
  refine PD.mk W sc__law_do (fun _ _ _ _ _ _ us hl => match us, hl with | [_, _, _, _], _ => rfl) fun f cdv A outer s H E ds r hr hS => ?_
  obtain ⟨d1, d2, d3, c, wd, rfl, hx, ⟨j, hj, hw⟩, rfl⟩ := hS
  show BS _ _ [.dat (.int 2), .dat d1, .dat d2, .dat d3, .no, .no, .no] _ _
  refine bs_cons (s1_set 5 nd ev_non ?_)
  refine bs_cons (s1_set 6 nd ev_non ?_)
  show BS _ _ [.dat (.int 2), .dat d1, .dat d2, .dat d3, .no, .dat .none, .dat .none] _ _
  have hmem := List.mem_of_getElem? hj
  obtain ⟨f0, _, m0, _⟩ := D_countedX.ex
  obtain ⟨f1, _, m1, _⟩ := D_by_countX.ex
  obtain ⟨f2, _, m2, _⟩ := D_by_timeX.ex
  obtain ⟨f3, _, m3, _⟩ := D_sharperX.ex
  refine bs_join (fun o => o = .nx [.no, .no, .no, .no, .no, .exc (.ref c), .no]) (s1_try (cls := .ref c) 4 (fun o => o = .xc (.ref c) [.dat (.int 2), .dat d1, .dat d2, .dat d3, .no, .dat .none, .dat .none]) (fun o => o = .nx [.no, .no, .no, .no, .no, .exc (.ref c), .no]) nd eB (fun pins W' => ?_) (fun C ρ' h => by cases h; rfl) (fun _ => Ks.catch_ c hmem) (fun pins x => ?_) (fun ρ' h => nomatch h) (fun s ρ' h => nomatch h) (fun ρ' h => nomatch h) (fun ρ' h => nomatch h) (fun ρ' h => by cases h; rfl) (fun s ρ' h => nomatch h) (fun ρ' h => nomatch h) (fun ρ' h => nomatch h) (fun C ρ' h => nomatch h)) ?_
  · exact bs_cons (s1_if (k := true) (et_cmp cmp_lt (ev_var 0 rfl) ev_int) (fun _ => bs_cons (s1_asgX (ex_pick D_by_timeX m2 (hr.mono (by decide)) (.cons m0 rfl rfl (.cons m1 rfl rfl (.cons m2 rfl rfl (.cons m3 rfl rfl .nil)))) (ci_var 0 rfl) rfl (by show 4 ≤ 40; decide) (ea_cons (ev_var 1 rfl) (ea_cons (ev_var 2 rfl) (ea_cons (ev_var 3 rfl) ea_nil star_nam) star_nam) star_nam) ⟨_, _, _, _, rfl, hx, rfl⟩) rfl)) (fun h => nomatch h))
  · exact bs_cons (s1_set 5 nd (ev_mvX 4 rfl) (bs_nil rfl))
  · rintro o rfl
    refine bs_no (et_isX 5 rfl (he := ev_non)) rfl ?_
    exact bs_ret (ev_word 5 j Dw (hr.mono (by decide)) rfl hj hw) rfl
theorem vd__law_do3X (W : Where K mg "_law_do" s__law_do) (eB : mg "BeatError" = some (.ref cB)) (Ks : Kinds K cB [cG, cP, cR, cT]) (Dw : Def P w K mg base 1 "_law_word" ["_law_kept"] (sp__law_word K [cG, cP, cR, cT])) (D_countedX : PD P w K mg base 6 "counted" ["row", "start", "length"] (S_g3X cG cR)) (D_by_countX : PD P w K mg base 7 "by_count" ["row", "start", "length"] (S_g3X cG cR)) (D_by_timeX : PD P w K mg base 6 "by_time" ["row", "start", "length"] (S_g3X cG cR)) (D_sharperX : PD P w K mg base 7 "sharper" ["row", "start", "length"] (S_g3X cG cR)) : PD P w K mg base 8 "_law_do" ["_law_what", "_law_row_here", "_law_start", "_law_length"] (fun ds r => ∃ d1 d2 d3 c wd, ds = [.int 3, d1, d2, d3] ∧ (RefG cG cR d1 d2 d3 c) ∧ Wd [cG, cP, cR, cT] c wd ∧ r = okD (.str wd)) := by
  have nd := sc__law_do.nd
  refine PD.mk W sc__law_do (fun _ _ _ _ _ _ us hl => match us, hl with | [_, _, _, _], _ => rfl) fun f cdv A outer s H E ds r hr hS => ?_
  obtain ⟨d1, d2, d3, c, wd, rfl, hx, ⟨j, hj, hw⟩, rfl⟩ := hS
  show BS _ _ [.dat (.int 3), .dat d1, .dat d2, .dat d3, .no, .no, .no] _ _
  refine bs_cons (s1_set 5 nd ev_non ?_)
  refine bs_cons (s1_set 6 nd ev_non ?_)
  show BS _ _ [.dat (.int 3), .dat d1, .dat d2, .dat d3, .no, .dat .none, .dat .none] _ _
  have hmem := List.mem_of_getElem? hj
  obtain ⟨f0, _, m0, _⟩ := D_countedX.ex
  obtain ⟨f1, _, m1, _⟩ := D_by_countX.ex
  obtain ⟨f2, _, m2, _⟩ := D_by_timeX.ex
  obtain ⟨f3, _, m3, _⟩ := D_sharperX.ex
  refine bs_join (fun o => o = .nx [.no, .no, .no, .no, .no, .exc (.ref c), .no]) (s1_try (cls := .ref c) 4 (fun o => o = .xc (.ref c) [.dat (.int 3), .dat d1, .dat d2, .dat d3, .no, .dat .none, .dat .none]) (fun o => o = .nx [.no, .no, .no, .no, .no, .exc (.ref c), .no]) nd eB (fun pins W' => ?_) (fun C ρ' h => by cases h; rfl) (fun _ => Ks.catch_ c hmem) (fun pins x => ?_) (fun ρ' h => nomatch h) (fun s ρ' h => nomatch h) (fun ρ' h => nomatch h) (fun ρ' h => nomatch h) (fun ρ' h => by cases h; rfl) (fun s ρ' h => nomatch h) (fun ρ' h => nomatch h) (fun ρ' h => nomatch h) (fun C ρ' h => nomatch h)) ?_
  · exact bs_cons (s1_if (k := true) (et_cmp cmp_lt (ev_var 0 rfl) ev_int) (fun _ => bs_cons (s1_asgX (ex_pick D_sharperX m3 (hr.mono (by decide)) (.cons m0 rfl rfl (.cons m1 rfl rfl (.cons m2 rfl rfl (.cons m3 rfl rfl .nil)))) (ci_var 0 rfl) rfl (by show 4 ≤ 40; decide) (ea_cons (ev_var 1 rfl) (ea_cons (ev_var 2 rfl) (ea_cons (ev_var 3 rfl) ea_nil star_nam) star_nam) star_nam) ⟨_, _, _, _, rfl, hx, rfl⟩) rfl)) (fun h => nomatch h))
  · exact bs_cons (s1_set 5 nd (ev_mvX 4 rfl) (bs_nil rfl))
  · rintro o rfl
    refine bs_no (et_isX 5 rfl (he := ev_non)) rfl ?_
    exact bs_ret (ev_word 5 j Dw (hr.mono (by decide)) rfl hj hw) rfl
theorem vd__law_do4X (W : Where K mg "_law_do" s__law_do) (eB : mg "BeatError" = some (.ref cB)) (Ks : Kinds K cB [cG, cP, cR, cT]) (Dw : Def P w K mg base 1 "_law_word" ["_law_kept"] (sp__law_word K [cG, cP, cR, cT])) (D_in_gatesX : PD P w K mg base 6 "in_gates" ["row", "start", "length", "dead", "many"] (S_g5X cG cR)) (D_lostX : PD P w K mg base 7 "lost" ["row", "start", "length", "dead", "many"] (S_g5X cG cR)) : PD P w K mg base 8 "_law_do" ["_law_what", "_law_row_here", "_law_start", "_law_length"] (fun ds r => ∃ d1 d2 d3 c wd, ds = [.int 4, d1, d2, d3] ∧ (RefG cG cR d1 d2 d3 c) ∧ Wd [cG, cP, cR, cT] c wd ∧ r = okD (.str wd)) := by
  have nd := sc__law_do.nd
  refine PD.mk W sc__law_do (fun _ _ _ _ _ _ us hl => match us, hl with | [_, _, _, _], _ => rfl) fun f cdv A outer s H E ds r hr hS => ?_
  obtain ⟨d1, d2, d3, c, wd, rfl, hx, ⟨j, hj, hw⟩, rfl⟩ := hS
  show BS _ _ [.dat (.int 4), .dat d1, .dat d2, .dat d3, .no, .no, .no] _ _
  refine bs_cons (s1_set 5 nd ev_non ?_)
  refine bs_cons (s1_set 6 nd ev_non ?_)
  show BS _ _ [.dat (.int 4), .dat d1, .dat d2, .dat d3, .no, .dat .none, .dat .none] _ _
  have hmem := List.mem_of_getElem? hj
  obtain ⟨f0, _, m0, _⟩ := D_in_gatesX.ex
  obtain ⟨f1, _, m1, _⟩ := D_lostX.ex
  refine bs_join (fun o => o = .nx [.no, .no, .no, .no, .no, .exc (.ref c), .no]) (s1_try (cls := .ref c) 4 (fun o => o = .xc (.ref c) [.dat (.int 4), .dat d1, .dat d2, .dat d3, .no, .dat .none, .dat .none]) (fun o => o = .nx [.no, .no, .no, .no, .no, .exc (.ref c), .no]) nd eB (fun pins W' => ?_) (fun C ρ' h => by cases h; rfl) (fun _ => Ks.catch_ c hmem) (fun pins x => ?_) (fun ρ' h => nomatch h) (fun s ρ' h => nomatch h) (fun ρ' h => nomatch h) (fun ρ' h => nomatch h) (fun ρ' h => by cases h; rfl) (fun s ρ' h => nomatch h) (fun ρ' h => nomatch h) (fun ρ' h => nomatch h) (fun C ρ' h => nomatch h)) ?_
  · exact bs_cons (s1_if (k := false) (et_cmp cmp_lt (ev_var 0 rfl) ev_int) (fun h => nomatch h) (fun _ => bs_cons (s1_if (k := true) (et_cmp cmp_lt (ev_var 0 rfl) ev_int) (fun _ => bs_cons (s1_asgX (ex_pick D_in_gatesX m0 (hr.mono (by decide)) (.cons m0 rfl rfl (.cons m1 rfl rfl .nil)) (ci_sub (ci_var 0 rfl)) rfl (by show 2 ≤ 40; decide) (ea_cons (ev_var 1 rfl) (ea_cons (ev_var 2 rfl) (ea_cons (ev_var 3 rfl) (ea_cons ev_non (ea_cons ev_non ea_nil star_con) star_con) star_nam) star_nam) star_nam) ⟨_, _, _, _, _, _, rfl, hx, rfl⟩) rfl)) (fun h => nomatch h))))
  · exact bs_cons (s1_set 5 nd (ev_mvX 4 rfl) (bs_nil rfl))
  · rintro o rfl
    refine bs_no (et_isX 5 rfl (he := ev_non)) rfl ?_
    exact bs_ret (ev_word 5 j Dw (hr.mono (by decide)) rfl hj hw) rfl
theorem vd__law_do5X (W : Where K mg "_law_do" s__law_do) (eB : mg "BeatError" = some (.ref cB)) (Ks : Kinds K cB [cG, cP, cR, cT]) (Dw : Def P w K mg base 1 "_law_word" ["_law_kept"] (sp__law_word K [cG, cP, cR, cT])) (D_in_gatesX : PD P w K mg base 6 "in_gates" ["row", "start", "length", "dead", "many"] (S_g5X cG cR)) (D_lostX : PD P w K mg base 7 "lost" ["row", "start", "length", "dead", "many"] (S_g5X cG cR)) : PD P w K mg base 8 "_law_do" ["_law_what", "_law_row_here", "_law_start", "_law_length"] (fun ds r => ∃ d1 d2 d3 c wd, ds = [.int 5, d1, d2, d3] ∧ (RefG cG cR d1 d2 d3 c) ∧ Wd [cG, cP, cR, cT] c wd ∧ r = okD (.str wd)) := by
  have nd := sc__law_do.nd
  refine PD.mk W sc__law_do (fun _ _ _ _ _ _ us hl => match us, hl with | [_, _, _, _], _ => rfl) fun f cdv A outer s H E ds r hr hS => ?_
  obtain ⟨d1, d2, d3, c, wd, rfl, hx, ⟨j, hj, hw⟩, rfl⟩ := hS
  show BS _ _ [.dat (.int 5), .dat d1, .dat d2, .dat d3, .no, .no, .no] _ _
  refine bs_cons (s1_set 5 nd ev_non ?_)
  refine bs_cons (s1_set 6 nd ev_non ?_)
  show BS _ _ [.dat (.int 5), .dat d1, .dat d2, .dat d3, .no, .dat .none, .dat .none] _ _
  have hmem := List.mem_of_getElem? hj
  obtain ⟨f0, _, m0, _⟩ := D_in_gatesX.ex
  obtain ⟨f1, _, m1, _⟩ := D_lostX.ex
  refine bs_join (fun o => o = .nx [.no, .no, .no, .no, .no, .exc (.ref c), .no]) (s1_try (cls := .ref c) 4 (fun o => o = .xc (.ref c) [.dat (.int 5), .dat d1, .dat d2, .dat d3, .no, .dat .none, .dat .none]) (fun o => o = .nx [.no, .no, .no, .no, .no, .exc (.ref c), .no]) nd eB (fun pins W' => ?_) (fun C ρ' h => by cases h; rfl) (fun _ => Ks.catch_ c hmem) (fun pins x => ?_) (fun ρ' h => nomatch h) (fun s ρ' h => nomatch h) (fun ρ' h => nomatch h) (fun ρ' h => nomatch h) (fun ρ' h => by cases h; rfl) (fun s ρ' h => nomatch h) (fun ρ' h => nomatch h) (fun ρ' h => nomatch h) (fun C ρ' h => nomatch h)) ?_
  · exact bs_cons (s1_if (k := false) (et_cmp cmp_lt (ev_var 0 rfl) ev_int) (fun h => nomatch h) (fun _ => bs_cons (s1_if (k := true) (et_cmp cmp_lt (ev_var 0 rfl) ev_int) (fun _ => bs_cons (s1_asgX (ex_pick D_lostX m1 (hr.mono (by decide)) (.cons m0 rfl rfl (.cons m1 rfl rfl .nil)) (ci_sub (ci_var 0 rfl)) rfl (by show 2 ≤ 40; decide) (ea_cons (ev_var 1 rfl) (ea_cons (ev_var 2 rfl) (ea_cons (ev_var 3 rfl) (ea_cons ev_non (ea_cons ev_non ea_nil star_con) star_con) star_nam) star_nam) star_nam) ⟨_, _, _, _, _, _, rfl, hx, rfl⟩) rfl)) (fun h => nomatch h))))
  · exact bs_cons (s1_set 5 nd (ev_mvX 4 rfl) (bs_nil rfl))
  · rintro o rfl
    refine bs_no (et_isX 5 rfl (he := ev_non)) rfl ?_
    exact bs_ret (ev_word 5 j Dw (hr.mono (by decide)) rfl hj hw) rfl
theorem vd__law_do6X (W : Where K mg "_law_do" s__law_do) (eB : mg "BeatError" = some (.ref cB)) (Ks : Kinds K cB [cG, cP, cR, cT]) (Dw : Def P w K mg base 1 "_law_word" ["_law_kept"] (sp__law_word K [cG, cP, cR, cT])) (D_to_nextX : PD P w K mg base 6 "to_next" ["one", "other"] (S_r2X cR)) (D_longest_waitX : PD P w K mg base 7 "longest_wait" ["one", "other"] (S_r2X cR)) (D_betweenX : PD P w K mg base 6 "between" ["one", "other"] (S_r2X cR)) : PD P w K mg base 8 "_law_do" ["_law_what", "_law_row_here", "_law_start", "_law_length"] (fun ds r => ∃ d1 d2 d3 c wd, ds = [.int 6, d1, d2, d3] ∧ ((isRowD d2 = false ∨ ∃ q, d2 = tI q ∧ RowOk q ∧ isRowD d1 = false) ∧ c = cR) ∧ Wd [cG, cP, cR, cT] c wd ∧ r = okD (.str wd)) := by
  have nd := sc__law_do.nd
  refine PD.mk W sc__law_do (fun _ _ _ _ _ _ us hl => match us, hl with | [_, _, _, _], _ => rfl) fun f cdv A outer s H E ds r hr hS => ?_
  obtain ⟨d1, d2, d3, c, wd, rfl, ⟨hx, rfl⟩, ⟨j, hj, hw⟩, rfl⟩ := hS
  show BS _ _ [.dat (.int 6), .dat d1, .dat d2, .dat d3, .no, .no, .no] _ _
  refine bs_cons (s1_set 5 nd ev_non ?_)
  refine bs_cons (s1_set 6 nd ev_non ?_)
  show BS _ _ [.dat (.int 6), .dat d1, .dat d2, .dat d3, .no, .dat .none, .dat .none] _ _
  have hmem := List.mem_of_getElem? hj
  obtain ⟨f0, _, m0, _⟩ := D_to_nextX.ex
  obtain ⟨f1, _, m1, _⟩ := D_longest_waitX.ex
  obtain ⟨f2, _, m2, _⟩ := D_betweenX.ex
  refine bs_join (fun o => o = .nx [.no, .no, .no, .no, .no, .exc (.ref c), .no]) (s1_try (cls := .ref c) 4 (fun o => o = .xc (.ref c) [.dat (.int 6), .dat d1, .dat d2, .dat d3, .no, .dat .none, .dat .none]) (fun o => o = .nx [.no, .no, .no, .no, .no, .exc (.ref c), .no]) nd eB (fun pins W' => ?_) (fun C ρ' h => by cases h; rfl) (fun _ => Ks.catch_ c hmem) (fun pins x => ?_) (fun ρ' h => nomatch h) (fun s ρ' h => nomatch h) (fun ρ' h => nomatch h) (fun ρ' h => nomatch h) (fun ρ' h => by cases h; rfl) (fun s ρ' h => nomatch h) (fun ρ' h => nomatch h) (fun ρ' h => nomatch h) (fun C ρ' h => nomatch h)) ?_
  · exact bs_cons (s1_if (k := false) (et_cmp cmp_lt (ev_var 0 rfl) ev_int) (fun h => nomatch h) (fun _ => bs_cons (s1_if (k := false) (et_cmp cmp_lt (ev_var 0 rfl) ev_int) (fun h => nomatch h) (fun _ => bs_cons (s1_if (k := true) (et_cmp cmp_lt (ev_var 0 rfl) ev_int) (fun _ => bs_cons (s1_asgX (ex_pick D_to_nextX m0 (hr.mono (by decide)) (.cons m0 rfl rfl (.cons m1 rfl rfl (.cons m2 rfl rfl .nil))) (ci_sub (ci_var 0 rfl)) rfl (by show 3 ≤ 40; decide) (ea_cons (ev_var 2 rfl) (ea_cons (ev_var 1 rfl) ea_nil star_nam) star_nam) ⟨_, _, rfl, hx, rfl⟩) rfl)) (fun h => nomatch h))))))
  · exact bs_cons (s1_set 5 nd (ev_mvX 4 rfl) (bs_nil rfl))
  · rintro o rfl
    refine bs_no (et_isX 5 rfl (he := ev_non)) rfl ?_
    exact bs_ret (ev_word 5 j Dw (hr.mono (by decide)) rfl hj hw) rfl
theorem vd__law_do7X (W : Where K mg "_law_do" s__law_do) (eB : mg "BeatError" = some (.ref cB)) (Ks : Kinds K cB [cG, cP, cR, cT]) (Dw : Def P w K mg base 1 "_law_word" ["_law_kept"] (sp__law_word K [cG, cP, cR, cT])) (D_to_nextX : PD P w K mg base 6 "to_next" ["one", "other"] (S_r2X cR)) (D_longest_waitX : PD P w K mg base 7 "longest_wait" ["one", "other"] (S_r2X cR)) (D_betweenX : PD P w K mg base 6 "between" ["one", "other"] (S_r2X cR)) : PD P w K mg base 8 "_law_do" ["_law_what", "_law_row_here", "_law_start", "_law_length"] (fun ds r => ∃ d1 d2 d3 c wd, ds = [.int 7, d1, d2, d3] ∧ ((isRowD d2 = false ∨ ∃ q, d2 = tI q ∧ RowOk q ∧ isRowD d1 = false) ∧ c = cR) ∧ Wd [cG, cP, cR, cT] c wd ∧ r = okD (.str wd)) := by
  have nd := sc__law_do.nd
  refine PD.mk W sc__law_do (fun _ _ _ _ _ _ us hl => match us, hl with | [_, _, _, _], _ => rfl) fun f cdv A outer s H E ds r hr hS => ?_
  obtain ⟨d1, d2, d3, c, wd, rfl, ⟨hx, rfl⟩, ⟨j, hj, hw⟩, rfl⟩ := hS
  show BS _ _ [.dat (.int 7), .dat d1, .dat d2, .dat d3, .no, .no, .no] _ _
  refine bs_cons (s1_set 5 nd ev_non ?_)
  refine bs_cons (s1_set 6 nd ev_non ?_)
  show BS _ _ [.dat (.int 7), .dat d1, .dat d2, .dat d3, .no, .dat .none, .dat .none] _ _
  have hmem := List.mem_of_getElem? hj
  obtain ⟨f0, _, m0, _⟩ := D_to_nextX.ex
  obtain ⟨f1, _, m1, _⟩ := D_longest_waitX.ex
  obtain ⟨f2, _, m2, _⟩ := D_betweenX.ex
  refine bs_join (fun o => o = .nx [.no, .no, .no, .no, .no, .exc (.ref c), .no]) (s1_try (cls := .ref c) 4 (fun o => o = .xc (.ref c) [.dat (.int 7), .dat d1, .dat d2, .dat d3, .no, .dat .none, .dat .none]) (fun o => o = .nx [.no, .no, .no, .no, .no, .exc (.ref c), .no]) nd eB (fun pins W' => ?_) (fun C ρ' h => by cases h; rfl) (fun _ => Ks.catch_ c hmem) (fun pins x => ?_) (fun ρ' h => nomatch h) (fun s ρ' h => nomatch h) (fun ρ' h => nomatch h) (fun ρ' h => nomatch h) (fun ρ' h => by cases h; rfl) (fun s ρ' h => nomatch h) (fun ρ' h => nomatch h) (fun ρ' h => nomatch h) (fun C ρ' h => nomatch h)) ?_
  · exact bs_cons (s1_if (k := false) (et_cmp cmp_lt (ev_var 0 rfl) ev_int) (fun h => nomatch h) (fun _ => bs_cons (s1_if (k := false) (et_cmp cmp_lt (ev_var 0 rfl) ev_int) (fun h => nomatch h) (fun _ => bs_cons (s1_if (k := true) (et_cmp cmp_lt (ev_var 0 rfl) ev_int) (fun _ => bs_cons (s1_asgX (ex_pick D_longest_waitX m1 (hr.mono (by decide)) (.cons m0 rfl rfl (.cons m1 rfl rfl (.cons m2 rfl rfl .nil))) (ci_sub (ci_var 0 rfl)) rfl (by show 3 ≤ 40; decide) (ea_cons (ev_var 2 rfl) (ea_cons (ev_var 1 rfl) ea_nil star_nam) star_nam) ⟨_, _, rfl, hx, rfl⟩) rfl)) (fun h => nomatch h))))))
  · exact bs_cons (s1_set 5 nd (ev_mvX 4 rfl) (bs_nil rfl))
  · rintro o rfl
    refine bs_no (et_isX 5 rfl (he := ev_non)) rfl ?_
    exact bs_ret (ev_word 5 j Dw (hr.mono (by decide)) rfl hj hw) rfl
theorem vd__law_do8X (W : Where K mg "_law_do" s__law_do) (eB : mg "BeatError" = some (.ref cB)) (Ks : Kinds K cB [cG, cP, cR, cT]) (Dw : Def P w K mg base 1 "_law_word" ["_law_kept"] (sp__law_word K [cG, cP, cR, cT])) (D_to_nextX : PD P w K mg base 6 "to_next" ["one", "other"] (S_r2X cR)) (D_longest_waitX : PD P w K mg base 7 "longest_wait" ["one", "other"] (S_r2X cR)) (D_betweenX : PD P w K mg base 6 "between" ["one", "other"] (S_r2X cR)) : PD P w K mg base 8 "_law_do" ["_law_what", "_law_row_here", "_law_start", "_law_length"] (fun ds r => ∃ d1 d2 d3 c wd, ds = [.int 8, d1, d2, d3] ∧ ((isRowD d2 = false ∨ ∃ q, d2 = tI q ∧ RowOk q ∧ isRowD d1 = false) ∧ c = cR) ∧ Wd [cG, cP, cR, cT] c wd ∧ r = okD (.str wd)) := by
  have nd := sc__law_do.nd
  refine PD.mk W sc__law_do (fun _ _ _ _ _ _ us hl => match us, hl with | [_, _, _, _], _ => rfl) fun f cdv A outer s H E ds r hr hS => ?_
  obtain ⟨d1, d2, d3, c, wd, rfl, ⟨hx, rfl⟩, ⟨j, hj, hw⟩, rfl⟩ := hS
  show BS _ _ [.dat (.int 8), .dat d1, .dat d2, .dat d3, .no, .no, .no] _ _
  refine bs_cons (s1_set 5 nd ev_non ?_)
  refine bs_cons (s1_set 6 nd ev_non ?_)
  show BS _ _ [.dat (.int 8), .dat d1, .dat d2, .dat d3, .no, .dat .none, .dat .none] _ _
  have hmem := List.mem_of_getElem? hj
  obtain ⟨f0, _, m0, _⟩ := D_to_nextX.ex
  obtain ⟨f1, _, m1, _⟩ := D_longest_waitX.ex
  obtain ⟨f2, _, m2, _⟩ := D_betweenX.ex
  refine bs_join (fun o => o = .nx [.no, .no, .no, .no, .no, .exc (.ref c), .no]) (s1_try (cls := .ref c) 4 (fun o => o = .xc (.ref c) [.dat (.int 8), .dat d1, .dat d2, .dat d3, .no, .dat .none, .dat .none]) (fun o => o = .nx [.no, .no, .no, .no, .no, .exc (.ref c), .no]) nd eB (fun pins W' => ?_) (fun C ρ' h => by cases h; rfl) (fun _ => Ks.catch_ c hmem) (fun pins x => ?_) (fun ρ' h => nomatch h) (fun s ρ' h => nomatch h) (fun ρ' h => nomatch h) (fun ρ' h => nomatch h) (fun ρ' h => by cases h; rfl) (fun s ρ' h => nomatch h) (fun ρ' h => nomatch h) (fun ρ' h => nomatch h) (fun C ρ' h => nomatch h)) ?_
  · exact bs_cons (s1_if (k := false) (et_cmp cmp_lt (ev_var 0 rfl) ev_int) (fun h => nomatch h) (fun _ => bs_cons (s1_if (k := false) (et_cmp cmp_lt (ev_var 0 rfl) ev_int) (fun h => nomatch h) (fun _ => bs_cons (s1_if (k := true) (et_cmp cmp_lt (ev_var 0 rfl) ev_int) (fun _ => bs_cons (s1_asgX (ex_pick D_betweenX m2 (hr.mono (by decide)) (.cons m0 rfl rfl (.cons m1 rfl rfl (.cons m2 rfl rfl .nil))) (ci_sub (ci_var 0 rfl)) rfl (by show 3 ≤ 40; decide) (ea_cons (ev_var 2 rfl) (ea_cons (ev_var 1 rfl) ea_nil star_nam) star_nam) ⟨_, _, rfl, hx, rfl⟩) rfl)) (fun h => nomatch h))))))
  · exact bs_cons (s1_set 5 nd (ev_mvX 4 rfl) (bs_nil rfl))
  · rintro o rfl
    refine bs_no (et_isX 5 rfl (he := ev_non)) rfl ?_
    exact bs_ret (ev_word 5 j Dw (hr.mono (by decide)) rfl hj hw) rfl
theorem vd__law_do9X (W : Where K mg "_law_do" s__law_do) (eB : mg "BeatError" = some (.ref cB)) (Ks : Kinds K cB [cG, cP, cR, cT]) (Dw : Def P w K mg base 1 "_law_word" ["_law_kept"] (sp__law_word K [cG, cP, cR, cT])) (D_gapsX : PD P w K mg base 5 "gaps" ["row"] (S_rowX cR)) (D_boundsX : PD P w K mg base 5 "bounds" ["row"] (S_rowX cR)) (D_can_be_steadyX : PD P w K mg base 6 "can_be_steady" ["row"] (S_rowX cR)) (D_simplestX : PD P w K mg base 6 "simplest" ["row"] (S_rowX cR)) (D_phase_forX : PD P w K mg base 7 "phase_for" ["row"] (S_rowX cR)) : PD P w K mg base 8 "_law_do" ["_law_what", "_law_row_here", "_law_start", "_law_length"] (fun ds r => ∃ d1 d2 d3 c wd, ds = [.int 9, d1, d2, d3] ∧ (isRowD d1 = false ∧ c = cR) ∧ Wd [cG, cP, cR, cT] c wd ∧ r = okD (.str wd)) := by
  have nd := sc__law_do.nd
  refine PD.mk W sc__law_do (fun _ _ _ _ _ _ us hl => match us, hl with | [_, _, _, _], _ => rfl) fun f cdv A outer s H E ds r hr hS => ?_
  obtain ⟨d1, d2, d3, c, wd, rfl, ⟨hx, rfl⟩, ⟨j, hj, hw⟩, rfl⟩ := hS
  show BS _ _ [.dat (.int 9), .dat d1, .dat d2, .dat d3, .no, .no, .no] _ _
  refine bs_cons (s1_set 5 nd ev_non ?_)
  refine bs_cons (s1_set 6 nd ev_non ?_)
  show BS _ _ [.dat (.int 9), .dat d1, .dat d2, .dat d3, .no, .dat .none, .dat .none] _ _
  have hmem := List.mem_of_getElem? hj
  obtain ⟨f0, _, m0, _⟩ := D_gapsX.ex
  obtain ⟨f1, _, m1, _⟩ := D_boundsX.ex
  obtain ⟨f2, _, m2, _⟩ := D_can_be_steadyX.ex
  obtain ⟨f3, _, m3, _⟩ := D_simplestX.ex
  obtain ⟨f4, _, m4, _⟩ := D_phase_forX.ex
  refine bs_join (fun o => o = .nx [.no, .no, .no, .no, .no, .exc (.ref c), .no]) (s1_try (cls := .ref c) 4 (fun o => o = .xc (.ref c) [.dat (.int 9), .dat d1, .dat d2, .dat d3, .no, .dat .none, .dat .none]) (fun o => o = .nx [.no, .no, .no, .no, .no, .exc (.ref c), .no]) nd eB (fun pins W' => ?_) (fun C ρ' h => by cases h; rfl) (fun _ => Ks.catch_ c hmem) (fun pins x => ?_) (fun ρ' h => nomatch h) (fun s ρ' h => nomatch h) (fun ρ' h => nomatch h) (fun ρ' h => nomatch h) (fun ρ' h => by cases h; rfl) (fun s ρ' h => nomatch h) (fun ρ' h => nomatch h) (fun ρ' h => nomatch h) (fun C ρ' h => nomatch h)) ?_
  · exact bs_cons (s1_if (k := false) (et_cmp cmp_lt (ev_var 0 rfl) ev_int) (fun h => nomatch h) (fun _ => bs_cons (s1_if (k := false) (et_cmp cmp_lt (ev_var 0 rfl) ev_int) (fun h => nomatch h) (fun _ => bs_cons (s1_if (k := false) (et_cmp cmp_lt (ev_var 0 rfl) ev_int) (fun h => nomatch h) (fun _ => bs_cons (s1_if (k := true) (et_cmp cmp_lt (ev_var 0 rfl) ev_int) (fun _ => bs_cons (s1_asgX (ex_pick D_gapsX m0 (hr.mono (by decide)) (.cons m0 rfl rfl (.cons m1 rfl rfl (.cons m2 rfl rfl (.cons m3 rfl rfl (.cons m4 rfl rfl .nil))))) (ci_sub (ci_var 0 rfl)) rfl (by show 5 ≤ 40; decide) (ea_cons (ev_var 1 rfl) ea_nil star_nam) ⟨_, rfl, hx, rfl⟩) rfl)) (fun h => nomatch h))))))))
  · exact bs_cons (s1_set 5 nd (ev_mvX 4 rfl) (bs_nil rfl))
  · rintro o rfl
    refine bs_no (et_isX 5 rfl (he := ev_non)) rfl ?_
    exact bs_ret (ev_word 5 j Dw (hr.mono (by decide)) rfl hj hw) rfl
theorem vd__law_do10X (W : Where K mg "_law_do" s__law_do) (eB : mg "BeatError" = some (.ref cB)) (Ks : Kinds K cB [cG, cP, cR, cT]) (Dw : Def P w K mg base 1 "_law_word" ["_law_kept"] (sp__law_word K [cG, cP, cR, cT])) (D_gapsX : PD P w K mg base 5 "gaps" ["row"] (S_rowX cR)) (D_boundsX : PD P w K mg base 5 "bounds" ["row"] (S_rowX cR)) (D_can_be_steadyX : PD P w K mg base 6 "can_be_steady" ["row"] (S_rowX cR)) (D_simplestX : PD P w K mg base 6 "simplest" ["row"] (S_rowX cR)) (D_phase_forX : PD P w K mg base 7 "phase_for" ["row"] (S_rowX cR)) : PD P w K mg base 8 "_law_do" ["_law_what", "_law_row_here", "_law_start", "_law_length"] (fun ds r => ∃ d1 d2 d3 c wd, ds = [.int 10, d1, d2, d3] ∧ (isRowD d1 = false ∧ c = cR) ∧ Wd [cG, cP, cR, cT] c wd ∧ r = okD (.str wd)) := by
  have nd := sc__law_do.nd
  refine PD.mk W sc__law_do (fun _ _ _ _ _ _ us hl => match us, hl with | [_, _, _, _], _ => rfl) fun f cdv A outer s H E ds r hr hS => ?_
  obtain ⟨d1, d2, d3, c, wd, rfl, ⟨hx, rfl⟩, ⟨j, hj, hw⟩, rfl⟩ := hS
  show BS _ _ [.dat (.int 10), .dat d1, .dat d2, .dat d3, .no, .no, .no] _ _
  refine bs_cons (s1_set 5 nd ev_non ?_)
  refine bs_cons (s1_set 6 nd ev_non ?_)
  show BS _ _ [.dat (.int 10), .dat d1, .dat d2, .dat d3, .no, .dat .none, .dat .none] _ _
  have hmem := List.mem_of_getElem? hj
  obtain ⟨f0, _, m0, _⟩ := D_gapsX.ex
  obtain ⟨f1, _, m1, _⟩ := D_boundsX.ex
  obtain ⟨f2, _, m2, _⟩ := D_can_be_steadyX.ex
  obtain ⟨f3, _, m3, _⟩ := D_simplestX.ex
  obtain ⟨f4, _, m4, _⟩ := D_phase_forX.ex
  refine bs_join (fun o => o = .nx [.no, .no, .no, .no, .no, .exc (.ref c), .no]) (s1_try (cls := .ref c) 4 (fun o => o = .xc (.ref c) [.dat (.int 10), .dat d1, .dat d2, .dat d3, .no, .dat .none, .dat .none]) (fun o => o = .nx [.no, .no, .no, .no, .no, .exc (.ref c), .no]) nd eB (fun pins W' => ?_) (fun C ρ' h => by cases h; rfl) (fun _ => Ks.catch_ c hmem) (fun pins x => ?_) (fun ρ' h => nomatch h) (fun s ρ' h => nomatch h) (fun ρ' h => nomatch h) (fun ρ' h => nomatch h) (fun ρ' h => by cases h; rfl) (fun s ρ' h => nomatch h) (fun ρ' h => nomatch h) (fun ρ' h => nomatch h) (fun C ρ' h => nomatch h)) ?_
  · exact bs_cons (s1_if (k := false) (et_cmp cmp_lt (ev_var 0 rfl) ev_int) (fun h => nomatch h) (fun _ => bs_cons (s1_if (k := false) (et_cmp cmp_lt (ev_var 0 rfl) ev_int) (fun h => nomatch h) (fun _ => bs_cons (s1_if (k := false) (et_cmp cmp_lt (ev_var 0 rfl) ev_int) (fun h => nomatch h) (fun _ => bs_cons (s1_if (k := true) (et_cmp cmp_lt (ev_var 0 rfl) ev_int) (fun _ => bs_cons (s1_asgX (ex_pick D_boundsX m1 (hr.mono (by decide)) (.cons m0 rfl rfl (.cons m1 rfl rfl (.cons m2 rfl rfl (.cons m3 rfl rfl (.cons m4 rfl rfl .nil))))) (ci_sub (ci_var 0 rfl)) rfl (by show 5 ≤ 40; decide) (ea_cons (ev_var 1 rfl) ea_nil star_nam) ⟨_, rfl, hx, rfl⟩) rfl)) (fun h => nomatch h))))))))
  · exact bs_cons (s1_set 5 nd (ev_mvX 4 rfl) (bs_nil rfl))
  · rintro o rfl
    refine bs_no (et_isX 5 rfl (he := ev_non)) rfl ?_
    exact bs_ret (ev_word 5 j Dw (hr.mono (by decide)) rfl hj hw) rfl
theorem vd__law_do11X (W : Where K mg "_law_do" s__law_do) (eB : mg "BeatError" = some (.ref cB)) (Ks : Kinds K cB [cG, cP, cR, cT]) (Dw : Def P w K mg base 1 "_law_word" ["_law_kept"] (sp__law_word K [cG, cP, cR, cT])) (D_gapsX : PD P w K mg base 5 "gaps" ["row"] (S_rowX cR)) (D_boundsX : PD P w K mg base 5 "bounds" ["row"] (S_rowX cR)) (D_can_be_steadyX : PD P w K mg base 6 "can_be_steady" ["row"] (S_rowX cR)) (D_simplestX : PD P w K mg base 6 "simplest" ["row"] (S_rowX cR)) (D_phase_forX : PD P w K mg base 7 "phase_for" ["row"] (S_rowX cR)) : PD P w K mg base 8 "_law_do" ["_law_what", "_law_row_here", "_law_start", "_law_length"] (fun ds r => ∃ d1 d2 d3 c wd, ds = [.int 11, d1, d2, d3] ∧ (isRowD d1 = false ∧ c = cR) ∧ Wd [cG, cP, cR, cT] c wd ∧ r = okD (.str wd)) := by
  have nd := sc__law_do.nd
  refine PD.mk W sc__law_do (fun _ _ _ _ _ _ us hl => match us, hl with | [_, _, _, _], _ => rfl) fun f cdv A outer s H E ds r hr hS => ?_
  obtain ⟨d1, d2, d3, c, wd, rfl, ⟨hx, rfl⟩, ⟨j, hj, hw⟩, rfl⟩ := hS
  show BS _ _ [.dat (.int 11), .dat d1, .dat d2, .dat d3, .no, .no, .no] _ _
  refine bs_cons (s1_set 5 nd ev_non ?_)
  refine bs_cons (s1_set 6 nd ev_non ?_)
  show BS _ _ [.dat (.int 11), .dat d1, .dat d2, .dat d3, .no, .dat .none, .dat .none] _ _
  have hmem := List.mem_of_getElem? hj
  obtain ⟨f0, _, m0, _⟩ := D_gapsX.ex
  obtain ⟨f1, _, m1, _⟩ := D_boundsX.ex
  obtain ⟨f2, _, m2, _⟩ := D_can_be_steadyX.ex
  obtain ⟨f3, _, m3, _⟩ := D_simplestX.ex
  obtain ⟨f4, _, m4, _⟩ := D_phase_forX.ex
  refine bs_join (fun o => o = .nx [.no, .no, .no, .no, .no, .exc (.ref c), .no]) (s1_try (cls := .ref c) 4 (fun o => o = .xc (.ref c) [.dat (.int 11), .dat d1, .dat d2, .dat d3, .no, .dat .none, .dat .none]) (fun o => o = .nx [.no, .no, .no, .no, .no, .exc (.ref c), .no]) nd eB (fun pins W' => ?_) (fun C ρ' h => by cases h; rfl) (fun _ => Ks.catch_ c hmem) (fun pins x => ?_) (fun ρ' h => nomatch h) (fun s ρ' h => nomatch h) (fun ρ' h => nomatch h) (fun ρ' h => nomatch h) (fun ρ' h => by cases h; rfl) (fun s ρ' h => nomatch h) (fun ρ' h => nomatch h) (fun ρ' h => nomatch h) (fun C ρ' h => nomatch h)) ?_
  · exact bs_cons (s1_if (k := false) (et_cmp cmp_lt (ev_var 0 rfl) ev_int) (fun h => nomatch h) (fun _ => bs_cons (s1_if (k := false) (et_cmp cmp_lt (ev_var 0 rfl) ev_int) (fun h => nomatch h) (fun _ => bs_cons (s1_if (k := false) (et_cmp cmp_lt (ev_var 0 rfl) ev_int) (fun h => nomatch h) (fun _ => bs_cons (s1_if (k := true) (et_cmp cmp_lt (ev_var 0 rfl) ev_int) (fun _ => bs_cons (s1_asgX (ex_pick D_can_be_steadyX m2 (hr.mono (by decide)) (.cons m0 rfl rfl (.cons m1 rfl rfl (.cons m2 rfl rfl (.cons m3 rfl rfl (.cons m4 rfl rfl .nil))))) (ci_sub (ci_var 0 rfl)) rfl (by show 5 ≤ 40; decide) (ea_cons (ev_var 1 rfl) ea_nil star_nam) ⟨_, rfl, hx, rfl⟩) rfl)) (fun h => nomatch h))))))))
  · exact bs_cons (s1_set 5 nd (ev_mvX 4 rfl) (bs_nil rfl))
  · rintro o rfl
    refine bs_no (et_isX 5 rfl (he := ev_non)) rfl ?_
    exact bs_ret (ev_word 5 j Dw (hr.mono (by decide)) rfl hj hw) rfl
theorem vd__law_do12X (W : Where K mg "_law_do" s__law_do) (eB : mg "BeatError" = some (.ref cB)) (Ks : Kinds K cB [cG, cP, cR, cT]) (Dw : Def P w K mg base 1 "_law_word" ["_law_kept"] (sp__law_word K [cG, cP, cR, cT])) (D_gapsX : PD P w K mg base 5 "gaps" ["row"] (S_rowX cR)) (D_boundsX : PD P w K mg base 5 "bounds" ["row"] (S_rowX cR)) (D_can_be_steadyX : PD P w K mg base 6 "can_be_steady" ["row"] (S_rowX cR)) (D_simplestX : PD P w K mg base 6 "simplest" ["row"] (S_rowX cR)) (D_phase_forX : PD P w K mg base 7 "phase_for" ["row"] (S_rowX cR)) : PD P w K mg base 8 "_law_do" ["_law_what", "_law_row_here", "_law_start", "_law_length"] (fun ds r => ∃ d1 d2 d3 c wd, ds = [.int 12, d1, d2, d3] ∧ (isRowD d1 = false ∧ c = cR) ∧ Wd [cG, cP, cR, cT] c wd ∧ r = okD (.str wd)) := by
  have nd := sc__law_do.nd
  refine PD.mk W sc__law_do (fun _ _ _ _ _ _ us hl => match us, hl with | [_, _, _, _], _ => rfl) fun f cdv A outer s H E ds r hr hS => ?_
  obtain ⟨d1, d2, d3, c, wd, rfl, ⟨hx, rfl⟩, ⟨j, hj, hw⟩, rfl⟩ := hS
  show BS _ _ [.dat (.int 12), .dat d1, .dat d2, .dat d3, .no, .no, .no] _ _
  refine bs_cons (s1_set 5 nd ev_non ?_)
  refine bs_cons (s1_set 6 nd ev_non ?_)
  show BS _ _ [.dat (.int 12), .dat d1, .dat d2, .dat d3, .no, .dat .none, .dat .none] _ _
  have hmem := List.mem_of_getElem? hj
  obtain ⟨f0, _, m0, _⟩ := D_gapsX.ex
  obtain ⟨f1, _, m1, _⟩ := D_boundsX.ex
  obtain ⟨f2, _, m2, _⟩ := D_can_be_steadyX.ex
  obtain ⟨f3, _, m3, _⟩ := D_simplestX.ex
  obtain ⟨f4, _, m4, _⟩ := D_phase_forX.ex
  refine bs_join (fun o => o = .nx [.no, .no, .no, .no, .no, .exc (.ref c), .no]) (s1_try (cls := .ref c) 4 (fun o => o = .xc (.ref c) [.dat (.int 12), .dat d1, .dat d2, .dat d3, .no, .dat .none, .dat .none]) (fun o => o = .nx [.no, .no, .no, .no, .no, .exc (.ref c), .no]) nd eB (fun pins W' => ?_) (fun C ρ' h => by cases h; rfl) (fun _ => Ks.catch_ c hmem) (fun pins x => ?_) (fun ρ' h => nomatch h) (fun s ρ' h => nomatch h) (fun ρ' h => nomatch h) (fun ρ' h => nomatch h) (fun ρ' h => by cases h; rfl) (fun s ρ' h => nomatch h) (fun ρ' h => nomatch h) (fun ρ' h => nomatch h) (fun C ρ' h => nomatch h)) ?_
  · exact bs_cons (s1_if (k := false) (et_cmp cmp_lt (ev_var 0 rfl) ev_int) (fun h => nomatch h) (fun _ => bs_cons (s1_if (k := false) (et_cmp cmp_lt (ev_var 0 rfl) ev_int) (fun h => nomatch h) (fun _ => bs_cons (s1_if (k := false) (et_cmp cmp_lt (ev_var 0 rfl) ev_int) (fun h => nomatch h) (fun _ => bs_cons (s1_if (k := true) (et_cmp cmp_lt (ev_var 0 rfl) ev_int) (fun _ => bs_cons (s1_asgX (ex_pick D_simplestX m3 (hr.mono (by decide)) (.cons m0 rfl rfl (.cons m1 rfl rfl (.cons m2 rfl rfl (.cons m3 rfl rfl (.cons m4 rfl rfl .nil))))) (ci_sub (ci_var 0 rfl)) rfl (by show 5 ≤ 40; decide) (ea_cons (ev_var 1 rfl) ea_nil star_nam) ⟨_, rfl, hx, rfl⟩) rfl)) (fun h => nomatch h))))))))
  · exact bs_cons (s1_set 5 nd (ev_mvX 4 rfl) (bs_nil rfl))
  · rintro o rfl
    refine bs_no (et_isX 5 rfl (he := ev_non)) rfl ?_
    exact bs_ret (ev_word 5 j Dw (hr.mono (by decide)) rfl hj hw) rfl
theorem vd__law_do13X (W : Where K mg "_law_do" s__law_do) (eB : mg "BeatError" = some (.ref cB)) (Ks : Kinds K cB [cG, cP, cR, cT]) (Dw : Def P w K mg base 1 "_law_word" ["_law_kept"] (sp__law_word K [cG, cP, cR, cT])) (D_gapsX : PD P w K mg base 5 "gaps" ["row"] (S_rowX cR)) (D_boundsX : PD P w K mg base 5 "bounds" ["row"] (S_rowX cR)) (D_can_be_steadyX : PD P w K mg base 6 "can_be_steady" ["row"] (S_rowX cR)) (D_simplestX : PD P w K mg base 6 "simplest" ["row"] (S_rowX cR)) (D_phase_forX : PD P w K mg base 7 "phase_for" ["row"] (S_rowX cR)) : PD P w K mg base 8 "_law_do" ["_law_what", "_law_row_here", "_law_start", "_law_length"] (fun ds r => ∃ d1 d2 d3 c wd, ds = [.int 13, d1, d2, d3] ∧ (isRowD d1 = false ∧ c = cR) ∧ Wd [cG, cP, cR, cT] c wd ∧ r = okD (.str wd)) := by
  have nd := sc__law_do.nd
  refine PD.mk W sc__law_do (fun _ _ _ _ _ _ us hl => match us, hl with | [_, _, _, _], _ => rfl) fun f cdv A outer s H E ds r hr hS => ?_
  obtain ⟨d1, d2, d3, c, wd, rfl, ⟨hx, rfl⟩, ⟨j, hj, hw⟩, rfl⟩ := hS
  show BS _ _ [.dat (.int 13), .dat d1, .dat d2, .dat d3, .no, .no, .no] _ _
  refine bs_cons (s1_set 5 nd ev_non ?_)
  refine bs_cons (s1_set 6 nd ev_non ?_)
  show BS _ _ [.dat (.int 13), .dat d1, .dat d2, .dat d3, .no, .dat .none, .dat .none] _ _
  have hmem := List.mem_of_getElem? hj
  obtain ⟨f0, _, m0, _⟩ := D_gapsX.ex
  obtain ⟨f1, _, m1, _⟩ := D_boundsX.ex
  obtain ⟨f2, _, m2, _⟩ := D_can_be_steadyX.ex
  obtain ⟨f3, _, m3, _⟩ := D_simplestX.ex
  obtain ⟨f4, _, m4, _⟩ := D_phase_forX.ex
  refine bs_join (fun o => o = .nx [.no, .no, .no, .no, .no, .exc (.ref c), .no]) (s1_try (cls := .ref c) 4 (fun o => o = .xc (.ref c) [.dat (.int 13), .dat d1, .dat d2, .dat d3, .no, .dat .none, .dat .none]) (fun o => o = .nx [.no, .no, .no, .no, .no, .exc (.ref c), .no]) nd eB (fun pins W' => ?_) (fun C ρ' h => by cases h; rfl) (fun _ => Ks.catch_ c hmem) (fun pins x => ?_) (fun ρ' h => nomatch h) (fun s ρ' h => nomatch h) (fun ρ' h => nomatch h) (fun ρ' h => nomatch h) (fun ρ' h => by cases h; rfl) (fun s ρ' h => nomatch h) (fun ρ' h => nomatch h) (fun ρ' h => nomatch h) (fun C ρ' h => nomatch h)) ?_
  · exact bs_cons (s1_if (k := false) (et_cmp cmp_lt (ev_var 0 rfl) ev_int) (fun h => nomatch h) (fun _ => bs_cons (s1_if (k := false) (et_cmp cmp_lt (ev_var 0 rfl) ev_int) (fun h => nomatch h) (fun _ => bs_cons (s1_if (k := false) (et_cmp cmp_lt (ev_var 0 rfl) ev_int) (fun h => nomatch h) (fun _ => bs_cons (s1_if (k := true) (et_cmp cmp_lt (ev_var 0 rfl) ev_int) (fun _ => bs_cons (s1_asgX (ex_pick D_phase_forX m4 (hr.mono (by decide)) (.cons m0 rfl rfl (.cons m1 rfl rfl (.cons m2 rfl rfl (.cons m3 rfl rfl (.cons m4 rfl rfl .nil))))) (ci_sub (ci_var 0 rfl)) rfl (by show 5 ≤ 40; decide) (ea_cons (ev_var 1 rfl) ea_nil star_nam) ⟨_, rfl, hx, rfl⟩) rfl)) (fun h => nomatch h))))))))
  · exact bs_cons (s1_set 5 nd (ev_mvX 4 rfl) (bs_nil rfl))
  · rintro o rfl
    refine bs_no (et_isX 5 rfl (he := ev_non)) rfl ?_
    exact bs_ret (ev_word 5 j Dw (hr.mono (by decide)) rfl hj hw) rfl
theorem vd__law_do0 (W : Where K mg "_law_do" s__law_do) (eB : mg "BeatError" = some (.ref cB)) (Ks : Kinds K cB [cG, cP, cR, cT]) (D_countedX : PD P w K mg base 6 "counted" ["row", "start", "length"] (S_g3X cG cR)) (D_by_countX : PD P w K mg base 7 "by_count" ["row", "start", "length"] (S_g3X cG cR)) (D_by_timeX : PD P w K mg base 6 "by_time" ["row", "start", "length"] (S_g3X cG cR)) (D_sharperX : PD P w K mg base 7 "sharper" ["row", "start", "length"] (S_g3X cG cR)) (D_counted : PD P w K mg base 6 "counted" ["row", "start", "length"] S_counted) : PD P w K mg base 8 "_law_do" ["_law_what", "_law_row_here", "_law_start", "_law_length"] (fun ds r => ∃ (q : List Int) (s l : Int), ds = [.int 0, tI q, .int s, .int l] ∧ RowOk q ∧ 0 ≤ s ∧ s ≤ 9999 ∧ 1 ≤ l ∧ l ≤ 9999 ∧ r = okD (.int (inGate q s l).length)) := by
  have nd := sc__law_do.nd
  refine PD.mk W sc__law_do (fun _ _ _ _ _ _ us hl => match us, hl with | [_, _, _, _], _ => rfl) fun f cdv A outer s H E ds r hr hS => ?_
  obtain ⟨q, s, l, rfl, ok, s0, s1, l0, l1, rfl⟩ := hS
  show BS _ _ [.dat (.int 0), .dat (tI q), .dat (.int s), .dat (.int l), .no, .no, .no] _ _
  refine bs_cons (s1_set 5 nd ev_non ?_)
  refine bs_cons (s1_set 6 nd ev_non ?_)
  show BS _ _ [.dat (.int 0), .dat (tI q), .dat (.int s), .dat (.int l), .no, .dat .none, .dat .none] _ _
  obtain ⟨f0, _, m0, _⟩ := D_countedX.ex
  obtain ⟨f1, _, m1, _⟩ := D_by_countX.ex
  obtain ⟨f2, _, m2, _⟩ := D_by_timeX.ex
  obtain ⟨f3, _, m3, _⟩ := D_sharperX.ex
  refine bs_join (fun o => o = .nx [.dat (.int 0), .dat (tI q), .dat (.int s), .dat (.int l), .no, .dat .none, .dat (.int (inGate q s l).length)]) (s1_tryN (cls := .ref cB) 4 (fun o => o = .nx [.dat (.int 0), .dat (tI q), .dat (.int s), .dat (.int l), .no, .dat .none, .dat (.int (inGate q s l).length)]) (fun o => o = .nx [.no, .no, .no, .no, .no, .exc (.ref cB), .no]) nd eB (fun pins W' => ?_) (fun C ρ' h => nomatch h) (fun pins x => ?_) (fun ρ' h => h) (fun s ρ' h => nomatch h) (fun ρ' h => nomatch h) (fun ρ' h => nomatch h)) ?_
  · exact bs_cons (s1_if (k := true) (et_cmp cmp_lt (ev_var 0 rfl) ev_int) (fun _ => bs_cons (s1_set 6 nd (ev_pick D_counted m0 (hr.mono (by decide)) (.cons m0 rfl rfl (.cons m1 rfl rfl (.cons m2 rfl rfl (.cons m3 rfl rfl .nil)))) (ci_var 0 rfl) rfl (by show 4 ≤ 40; decide) (ea_cons (ev_var 1 rfl) (ea_cons (ev_var 2 rfl) (ea_cons (ev_var 3 rfl) ea_nil star_nam) star_nam) star_nam) ⟨_, _, _, rfl, ok, s0, s1, l0, l1, rfl⟩) (bs_nil (bs_nil rfl)))) (fun h => nomatch h))
  · exact bs_cons (s1_set 5 nd (ev_mvX 4 rfl) (bs_nil rfl))
  · rintro o rfl
    refine bs_yes (et_cmp cmp_isN (ev_var 5 rfl) ev_non) rfl ?_
    exact bs_ret (ev_var 6 rfl) rfl
theorem vd__law_do9 (W : Where K mg "_law_do" s__law_do) (eB : mg "BeatError" = some (.ref cB)) (Ks : Kinds K cB [cG, cP, cR, cT]) (D_gapsX : PD P w K mg base 5 "gaps" ["row"] (S_rowX cR)) (D_boundsX : PD P w K mg base 5 "bounds" ["row"] (S_rowX cR)) (D_can_be_steadyX : PD P w K mg base 6 "can_be_steady" ["row"] (S_rowX cR)) (D_simplestX : PD P w K mg base 6 "simplest" ["row"] (S_rowX cR)) (D_phase_forX : PD P w K mg base 7 "phase_for" ["row"] (S_rowX cR)) (D_gaps : PD P w K mg base 5 "gaps" ["row"] S_gaps) : PD P w K mg base 8 "_law_do" ["_law_what", "_law_row_here", "_law_start", "_law_length"] (fun ds r => ∃ (q : List Int) (d2 d3 : PyData), ds = [.int 9, tI q, d2, d3] ∧ RowOk q ∧ r = .ok (.lst ((gapsM q).map .int))) := by
  have nd := sc__law_do.nd
  refine PD.mk W sc__law_do (fun _ _ _ _ _ _ us hl => match us, hl with | [_, _, _, _], _ => rfl) fun f cdv A outer s H E ds r hr hS => ?_
  obtain ⟨q, d2, d3, rfl, ok, rfl⟩ := hS
  show BS _ _ [.dat (.int 9), .dat (tI q), .dat d2, .dat d3, .no, .no, .no] _ _
  refine bs_cons (s1_set 5 nd ev_non ?_)
  refine bs_cons (s1_set 6 nd ev_non ?_)
  show BS _ _ [.dat (.int 9), .dat (tI q), .dat d2, .dat d3, .no, .dat .none, .dat .none] _ _
  obtain ⟨f0, _, m0, _⟩ := D_gapsX.ex
  obtain ⟨f1, _, m1, _⟩ := D_boundsX.ex
  obtain ⟨f2, _, m2, _⟩ := D_can_be_steadyX.ex
  obtain ⟨f3, _, m3, _⟩ := D_simplestX.ex
  obtain ⟨f4, _, m4, _⟩ := D_phase_forX.ex
  refine bs_join (fun o => o = .nx [.dat (.int 9), .dat (tI q), .dat d2, .dat d3, .no, .dat .none, .lst ((gapsM q).map .int)]) (s1_tryN (cls := .ref cB) 4 (fun o => o = .nx [.dat (.int 9), .dat (tI q), .dat d2, .dat d3, .no, .dat .none, .lst ((gapsM q).map .int)]) (fun o => o = .nx [.no, .no, .no, .no, .no, .exc (.ref cB), .no]) nd eB (fun pins W' => ?_) (fun C ρ' h => nomatch h) (fun pins x => ?_) (fun ρ' h => h) (fun s ρ' h => nomatch h) (fun ρ' h => nomatch h) (fun ρ' h => nomatch h)) ?_
  · exact bs_cons (s1_if (k := false) (et_cmp cmp_lt (ev_var 0 rfl) ev_int) (fun h => nomatch h) (fun _ => bs_cons (s1_if (k := false) (et_cmp cmp_lt (ev_var 0 rfl) ev_int) (fun h => nomatch h) (fun _ => bs_cons (s1_if (k := false) (et_cmp cmp_lt (ev_var 0 rfl) ev_int) (fun h => nomatch h) (fun _ => bs_cons (s1_if (k := true) (et_cmp cmp_lt (ev_var 0 rfl) ev_int) (fun _ => bs_cons (s1_set 6 nd (ev_pick D_gaps m0 (hr.mono (by decide)) (.cons m0 rfl rfl (.cons m1 rfl rfl (.cons m2 rfl rfl (.cons m3 rfl rfl (.cons m4 rfl rfl .nil))))) (ci_sub (ci_var 0 rfl)) rfl (by show 5 ≤ 40; decide) (ea_cons (ev_var 1 rfl) ea_nil star_nam) ⟨_, rfl, ok, rfl⟩) (bs_nil (bs_nil (bs_nil (bs_nil (bs_nil rfl))))))) (fun h => nomatch h))))))))
  · exact bs_cons (s1_set 5 nd (ev_mvX 4 rfl) (bs_nil rfl))
  · rintro o rfl
    refine bs_yes (et_cmp cmp_isN (ev_var 5 rfl) ev_non) rfl ?_
    exact bs_ret (ev_mv 6 rfl) rfl
theorem vd__law_do14X (W : Where K mg "_law_do" s__law_do) (eB : mg "BeatError" = some (.ref cB)) (Ks : Kinds K cB [cG, cP, cR, cT]) (Dw : Def P w K mg base 1 "_law_word" ["_law_kept"] (sp__law_word K [cG, cP, cR, cT])) {C : Addr} (T : CF_Counter K mg C) (M_init : PM P w K mg base 6 C "__init__" ["self", "start", "length", "dead", "many"] SM_init) (M_goX : PM P w K mg base 6 C "go_on" ["self", "ticks", "row"] (SM_goX cG cR)) : PD P w K mg base 8 "_law_do" ["_law_what", "_law_row_here", "_law_start", "_law_length"] (fun ds r => ∃ d1 d2 d3 c wd, ds = [.int 14, d1, d2, d3] ∧ (isRowD d1 = false ∧ c = cR) ∧ Wd [cG, cP, cR, cT] c wd ∧ r = okD (.str wd)) := by
  have nd := sc__law_do.nd
  refine PD.mk W sc__law_do (fun _ _ _ _ _ _ us hl => match us, hl with | [_, _, _, _], _ => rfl) fun f cdv A outer s H E ds r hr hS => ?_
  obtain ⟨d1, d2, d3, c, wd, rfl, ⟨hx, rfl⟩, ⟨j, hj, hw⟩, rfl⟩ := hS
  show BS _ _ [.dat (.int 14), .dat d1, .dat d2, .dat d3, .no, .no, .no] _ _
  refine bs_cons (s1_set 5 nd ev_non ?_)
  refine bs_cons (s1_set 6 nd ev_non ?_)
  show BS _ _ [.dat (.int 14), .dat d1, .dat d2, .dat d3, .no, .dat .none, .dat .none] _ _
  have hmem := List.mem_of_getElem? hj
  refine bs_join (fun o => o = .nx [.no, .no, .no, .no, .no, .exc (.ref c), .no]) (s1_try (cls := .ref c) 4 (fun o => o = .xc (.ref c) [.dat (.int 14), .dat d1, .dat d2, .dat d3, .no, .dat .none, .dat .none]) (fun o => o = .nx [.no, .no, .no, .no, .no, .exc (.ref c), .no]) nd eB (fun pins W' => ?_) (fun C ρ' h => by cases h; rfl) (fun _ => Ks.catch_ c hmem) (fun pins x => ?_) (fun ρ' h => nomatch h) (fun s ρ' h => nomatch h) (fun ρ' h => nomatch h) (fun ρ' h => nomatch h) (fun ρ' h => by cases h; rfl) (fun s ρ' h => nomatch h) (fun ρ' h => nomatch h) (fun ρ' h => nomatch h) (fun C ρ' h => nomatch h)) ?_
  · exact bs_cons (s1_if (k := false) (et_cmp cmp_lt (ev_var 0 rfl) ev_int) (fun h => nomatch h) (fun _ => bs_cons (s1_if (k := false) (et_cmp cmp_lt (ev_var 0 rfl) ev_int) (fun h => nomatch h) (fun _ => bs_cons (s1_if (k := false) (et_cmp cmp_lt (ev_var 0 rfl) ev_int) (fun h => nomatch h) (fun _ => bs_cons (s1_if (k := false) (et_cmp cmp_lt (ev_var 0 rfl) ev_int) (fun h => nomatch h) (fun _ => bs_cons (s1_asgX (ex_onM M_goX T.cl (hr.mono (by decide)) (ev_make M_init T.at_ T.mks (hr.mono (by decide)) (ea_cons ev_int (ea_cons ev_int (ea_cons ev_int (ea_cons ev_int ea_nil star_con) star_con) star_con) star_con) ⟨0, 1, 0, 1, rfl, rfl, gs01, rfl, rfl⟩) (ea_cons ev_int (ea_cons (ev_var 1 rfl) ea_nil star_nam) star_con) ⟨_, _, _, _, _, _, _, rfl, rfl, .inl ⟨hx, rfl⟩, rfl, rfl⟩) rfl)))))))))
  · exact bs_cons (s1_set 5 nd (ev_mvX 4 rfl) (bs_nil rfl))
  · rintro o rfl
    refine bs_no (et_isX 5 rfl (he := ev_non)) rfl ?_
    exact bs_ret (ev_word 5 j Dw (hr.mono (by decide)) rfl hj hw) rfl
end
def oddB (d : PyData) : Bool := !withinD d 0 9999
theorem odd_none {xs : List PyData} (h : xs.all (fun d => withinD d 0 9999) = true) : xs.filter oddB = [] := List.filter_eq_nil_iff.mpr fun x hx => by
  have := List.all_eq_true.mp h x hx
  simp [oddB, this]
theorem odd_some {xs : List PyData} (h : xs.all (fun d => withinD d 0 9999) = false) : xs.filter oddB ≠ [] := fun z => by
  have h2 : xs.all (fun d => withinD d 0 9999) = true := List.all_eq_true.mpr fun x hx => by
    have := List.filter_eq_nil_iff.mp z x hx
    simpa [oddB] using this
  rw [h2] at h
  cases h
theorem rising_sort {ns : List Int} (hl : ns.length ≤ 40) (h : (ns.map PyData.int).all (fun d => withinD d 0 9999) = true) : decide (ns = sortD ns) = isRowD (.tuple (ns.map .int)) := by
  cases z : isRowD (.tuple (ns.map .int)) with
  | true =>
    have ok := row_isRowD z
    exact decide_eq_true (rise_ext ok.inc (sortD_rise ns) fun z => sortD_mem.symm)
  | false =>
    refine decide_eq_false fun e => ?_
    have ok : RowOk ns := ⟨hl, fun b hb => ?_, by rw [e]; exact sortD_rise ns⟩
    · rw [isRowD_of ok] at z
      cases z
    · have := List.all_eq_true.mp h (.int b) (List.mem_map.mpr ⟨b, hb, rfl⟩)
      simpa [withinD] using this
def plcs (n : Nat) : List PyData := .tuple [] :: (List.range n).map fun k : Nat => .tuple [.int (k : Int)]
def putD (q : List Int) (k : Nat) (new : PyData) : PyData := .tuple (cutD (q.map PyData.int) none (some (k : Int)) ++ [new] ++ cutD (q.map PyData.int) (some ((k : Int) + 1)) none)
def someD (h : PyData) : List PyData := [.int 0, .int 1, .int 7, .int 9999, .int 10000, .int (-1), .str "a", .bool true, .none, .str "1", .tuple [], .list [.int 0]] ++ [.tuple [.int 1, .int 2], .int 30, .int 31, .int 32, .int 33, .tuple [h], .tuple [h, h]]
def newA (ns : List Int) (at_ : Int) (q : List Int) : PyData := if pick ns (at_ + 1) 25 < 19 then (someD (tI q)).getD (pick ns (at_ + 1) 25).toNat .none else if q = [] then .int 7 else if pick ns (at_ + 1) 25 < 22 then tI (cutD q none (some (pick ns (at_ + 2) q.length)) ++ cutD q (some (pick ns (at_ + 2) q.length + 1)) none) else tI (cutD q none (some (pick ns (at_ + 2) q.length + 1)) ++ cutD q (some (pick ns (at_ + 2) q.length)) none)
def newB (ns : List Int) (at_ : Int) (b : Int) : PyData := if pick ns (at_ + 1) 25 < 19 then (someD (.int b)).getD (pick ns (at_ + 1) 25).toNat .none else .int (b + pick ns (at_ + 1) 25 - 22)
def spoilM (ns : List Int) (at_ : Int) (q : List Int) : PyData := if pick ns at_ (q.length + 1) = 0 then newA ns at_ q else putD q (pick ns at_ (q.length + 1) - 1).toNat (newB ns at_ (gat q (pick ns at_ (q.length + 1) - 1).toNat))
theorem atI_nat {α : Type} {xs : List α} {i : Int} {x : α} (h0 : 0 ≤ i) (h : xs[i.toNat]? = some x) : atI xs i = some x := by
  have := (List.getElem?_eq_some_iff.mp h).1
  unfold atI ixN
  rw [if_pos h0, if_pos (by omega)]
  exact h
theorem atI_any {xs : List PyData} {i : Int} (h0 : 0 ≤ i) (h1 : i < xs.length) : atI xs i = some (xs.getD i.toNat .none) := atI_nat h0 (by rw [List.getD_eq_getElem?_getD, List.getElem?_eq_getElem (by omega)]; rfl)
theorem plcs_len (n : Nat) : (plcs n).length = n + 1 := by simp [plcs]
theorem plcs_at {n k : Nat} (h : k < n) : (plcs n)[k + 1]? = some (.tuple [.int (k : Int)]) := by
  show ((List.range n).map fun k : Nat => PyData.tuple [.int (k : Int)])[k]? = _
  rw [List.getElem?_map, List.getElem?_range h]
  rfl
theorem cutD_lenD {α : Type} (xs : List α) (lo hi : Option Int) : (cutD xs lo hi).length ≤ xs.length := by
  unfold cutD
  rw [List.length_take, List.length_drop]
  omega
theorem cutD_inD {α : Type} {xs : List α} {lo hi : Option Int} {x : α} (h : x ∈ cutD xs lo hi) : x ∈ xs := List.mem_of_mem_drop (List.mem_of_mem_take h)
section
variable {P : Program} {w : World} {K : PySem.W.Frag} {mg : Str → Option Value} {base : Heap}
abbrev S_lisr : List PyData → Rs → Prop := fun ds r => ∃ d, ds = [d] ∧ (∀ xs, d = .tuple xs → SeqAt.shaped (.list (xs.filter oddB)) = true) ∧ r = okD (.bool (isRowD d))
theorem sc__law_is_row : FnScope ["_law_thing", "_law_one"] ["_law_thing"] (defScope s__law_is_row) := ⟨rfl, rfl, rfl, by decide +kernel, rfl, by decide +kernel, by decide +kernel⟩
theorem vd__law_is_row (W : Where K mg "_law_is_row" s__law_is_row) (B : Bt mg) : PD P w K mg base 1 "_law_is_row" ["_law_thing"] S_lisr := by
  have nd := sc__law_is_row.nd
  refine PD.mk W sc__law_is_row (fun _ _ _ _ _ _ us hl => match us, hl with | [_], _ => rfl) fun f cdv A outer s H E ds r hr hS => ?_
  obtain ⟨d, rfl, hsh, rfl⟩ := hS
  show BS _ _ [.dat d, .no] _ _
  cases d with
  | tuple xs =>
    have hs := hsh xs rfl
    by_cases h1 : (xs.length : Int) > 40
    · refine bs_yes (ew_or (et_not (et_val (ev_isD (c := "tuple") B.isinstance B.tuple (ev_var 0 rfl)))) fun _ => (ew_or1 (et_cmp cmp_gt (ev_callB fn_lenT B.len (ea_cons (ev_var 0 rfl) ea_nil star_nam)) ev_int))).et (by simp [isD, tyD]; omega) (bs_ret ev_bl ?_)
      show Ow.dat (.bool false) = _
      rw [show isRowD (.tuple xs) = false by simp [isRowD]; intro z; omega]
    · refine bs_no (ew_or (et_not (et_val (ev_isD (c := "tuple") B.isinstance B.tuple (ev_var 0 rfl)))) fun _ => (ew_or1 (et_cmp cmp_gt (ev_callB fn_lenT B.len (ea_cons (ev_var 0 rfl) ea_nil star_nam)) ev_int))).et (by simp [isD, tyD]; omega) ?_
      have hz : xs.length < sizeLine := fit40 (by omega)
      have hl : decide (xs.length ≤ 40) = true := decide_eq_true (by omega)
      cases h2 : xs.all (fun d => withinD d 0 9999) with
      | false =>
        refine bs_yes (et_cmp (cmp_neD hr.units (by rw [List.map_id']; exact hs) rfl) (ev_lcF (xs := xs) (g := fun x => x) (k := fun x => x) (f := oddB) [("_law_one", 1)] nd (ei_tup (by rw [List.map_id']; exact ev_var 0 rfl)) (blkOk_by (own := [("_law_one", 1)]) (N := ["_law_thing", "_law_one"]) (sc := defScope s__law_is_row) (by decide +kernel)) hz (fun _ _ _ _ _ x hx => (gt_name 1 nd)) (fun _ _ _ _ _ x hx => ?_) (fun _ _ _ _ _ x hx hf => (ev_var 1 rfl))).frz (ev_lst ea_nil (by show 0 ≤ sizeLine; decide)).frz) ?_ (bs_ret ev_bl ?_)
        · cases x with
          | int n => exact et_is (EW.et (ew_or (et_not (et_val (ev_isD (c := "int") B.isinstance B.int (ev_var 1 rfl)))) fun _ => (ew_or (et_val (ev_isD (c := "bool") B.isinstance B.bool (ev_var 1 rfl))) fun _ => (ew_or1 (et_not (et_chain cmp_le cmp_le ev_int (ev_var 1 rfl) ev_int)))))) (by simp [isD, tyD, oddB, withinD])
          | bool b => exact et_is (EW.et (ew_or (et_not (et_val (ev_isD (c := "int") B.isinstance B.int (ev_var 1 rfl)))) fun _ => (ew_or (k' := true) (et_val (ev_isD (c := "bool") B.isinstance B.bool (ev_var 1 rfl))) fun h => by simp [isD] at h))) (by simp [isD, oddB, withinD])
          | _ => exact et_is (EW.et (ew_or (k' := true) (et_not (et_val (ev_isD (c := "int") B.isinstance B.int (ev_var 1 rfl)))) fun h => by simp [isD, tyD] at h)) (by simp [oddB, withinD])
        · rw [List.map_id']
          have := odd_some h2
          cases z : xs.filter oddB with
          | nil => exact absurd z this
          | cons a l => rfl
        · show Ow.dat (.bool false) = _
          rw [show isRowD (.tuple xs) = false by simp only [isRowD, hl, h2, Bool.and_false, Bool.false_and]]
      | true =>
        refine bs_no (et_cmp (cmp_neD hr.units (by rw [List.map_id']; exact hs) rfl) (ev_lcF (xs := xs) (g := fun x => x) (k := fun x => x) (f := oddB) [("_law_one", 1)] nd (ei_tup (by rw [List.map_id']; exact ev_var 0 rfl)) (blkOk_by (own := [("_law_one", 1)]) (N := ["_law_thing", "_law_one"]) (sc := defScope s__law_is_row) (by decide +kernel)) hz (fun _ _ _ _ _ x hx => (gt_name 1 nd)) (fun _ _ _ _ _ x hx => ?_) (fun _ _ _ _ _ x hx hf => (ev_var 1 rfl))).frz (ev_lst ea_nil (by show 0 ≤ sizeLine; decide)).frz) ?_ ?_
        · cases x with
          | int n => exact et_is (EW.et (ew_or (et_not (et_val (ev_isD (c := "int") B.isinstance B.int (ev_var 1 rfl)))) fun _ => (ew_or (et_val (ev_isD (c := "bool") B.isinstance B.bool (ev_var 1 rfl))) fun _ => (ew_or1 (et_not (et_chain cmp_le cmp_le ev_int (ev_var 1 rfl) ev_int)))))) (by simp [isD, tyD, oddB, withinD])
          | bool b => exact et_is (EW.et (ew_or (et_not (et_val (ev_isD (c := "int") B.isinstance B.int (ev_var 1 rfl)))) fun _ => (ew_or (k' := true) (et_val (ev_isD (c := "bool") B.isinstance B.bool (ev_var 1 rfl))) fun h => by simp [isD] at h))) (by simp [isD, oddB, withinD])
          | _ => exact et_is (EW.et (ew_or (k' := true) (et_not (et_val (ev_isD (c := "int") B.isinstance B.int (ev_var 1 rfl)))) fun h => by simp [isD, tyD] at h)) (by simp [oddB, withinD])
        · rw [List.map_id', odd_none h2]
          rfl
        · obtain ⟨ns, rfl⟩ := ints_of_all h2
          rw [List.length_map] at hl
          have hl := of_decide_eq_true hl
          refine bs_ret (ev_cmp (cmp_eqD hr.units (shapedInts _) (shapedInts _)) (ev_callTy fn_listT B.list (ea_cons (ev_var 0 rfl) ea_nil star_nam)).frz (ev_sortsetT B.sorted B.set (ev_var 0 rfl) (by omega)).frz) ?_
          rw [eqvL_ints, rising_sort hl h2]
          rfl
  | _ => exact bs_yes (ew_or (k' := true) (et_not (et_val (ev_isD (c := "tuple") B.isinstance B.tuple (ev_var 0 rfl)))) fun h => by cases h).et rfl (bs_ret ev_bl rfl)
abbrev S_pl0 : List PyData → Rs → Prop := fun ds r => ∃ n : Int, ds = [.int n] ∧ r = .ok (.lst [.tuple []])
abbrev S_pl1 : List PyData → Rs → Prop := fun ds r => ∃ q : List Int, ds = [tI q] ∧ q.length ≤ 40 ∧ r = .ok (.lst (plcs q.length))
theorem sc__law_places : FnScope ["_law_thing", "_law_made", "_law_k", "_law_place"] ["_law_thing"] (defScope s__law_places) := ⟨rfl, rfl, rfl, by decide +kernel, rfl, by decide +kernel, by decide +kernel⟩
theorem vd__law_places0 (W : Where K mg "_law_places" s__law_places) (B : Bt mg) : PD P w K mg base 1 "_law_places" ["_law_thing"] S_pl0 := by
  have nd := sc__law_places.nd
  refine PD.mk W sc__law_places (fun _ _ _ _ _ _ us hl => match us, hl with | [_], _ => rfl) fun f cdv A outer s H E ds r hr hS => ?_
  obtain ⟨n, rfl, rfl⟩ := hS
  show BS _ _ [.dat (.int n), .no, .no, .no] _ _
  refine bs_cons (s1_set 1 nd (ev_lst (ea_cons (ev_tup ea_nil (by show 0 ≤ sizeLine; decide)) ea_nil star_tup) (by show 1 ≤ sizeLine; decide)) ?_)
  refine bs_no (et_val (ev_isD (c := "tuple") B.isinstance B.tuple (ev_var 0 rfl))) (by simp [isD, tyD]) ?_
  exact bs_ret (ev_mv 1 rfl) rfl
theorem vd__law_places1 (W : Where K mg "_law_places" s__law_places) (B : Bt mg) (D__law_places0 : PD P w K mg base 1 "_law_places" ["_law_thing"] S_pl0) : PD P w K mg base 2 "_law_places" ["_law_thing"] S_pl1 := by
  have nd := sc__law_places.nd
  refine PD.mk W sc__law_places (fun _ _ _ _ _ _ us hl => match us, hl with | [_], _ => rfl) fun f cdv A outer s H E ds r hr hS => ?_
  obtain ⟨q, rfl, hq, rfl⟩ := hS
  show BS _ _ [.dat (tI q), .no, .no, .no] _ _
  refine bs_cons (s1_set 1 nd (ev_lst (ea_cons (ev_tup ea_nil (by show 0 ≤ sizeLine; decide)) ea_nil star_tup) (by show 1 ≤ sizeLine; decide)) ?_)
  refine bs_yes (et_val (ev_isD (c := "tuple") B.isinstance B.tuple (ev_var 0 rfl))) (by simp [isD, tyD]) ?_
  have hlen : ((q.map PyData.int).length : Int) = q.length := by rw [List.length_map]
  refine bs_cons (s1_forT (fun i ρ => ∃ x2 : Ow, ρ = [.dat (tI q), .lst (plcs i), x2, .no]) [2] (ei_range1 B.range (ea_cons (ev_callB fn_lenT B.len (ea_cons (ev_var 0 rfl) ea_nil star_nam)) ea_nil star_call) (by omega) (by omega)).rng ⟨_, rfl⟩ (fun i x ρ hx hI => ?_) (fun ρ hI => ?_))
  · obtain ⟨x2, rfl⟩ := hI
    obtain ⟨hi, rfl⟩ := rng_at hx
    rw [hlen, Int.toNat_natCast] at hi
    refine ⟨_, (gt_name 2 nd), ?_⟩
    rw [Int.zero_add]
    refine bs_cons (s1_extend 1 rfl (ev_lcM (xs := [PyData.tuple []]) (g := fun x => x) (k := fun _ => .tuple [.int (i : Int)]) [("_law_place", 3)] nd (ei_list (ev_call D__law_places0 (hr.mono (by decide)) (ea_cons (ev_ixT' (ev_var 0 rfl) (ev_var 2 rfl) (atI_getD (by omega) (by omega))) ea_nil star_sub) ⟨_, rfl, rfl⟩).frz) (blkOk_by (own := [("_law_place", 3)]) (N := ["_law_thing", "_law_made", "_law_k", "_law_place"]) (sc := defScope s__law_places) (by decide +kernel)) (by decide) (fun _ _ _ _ _ x hx => (gt_name 3 nd)) (fun _ _ _ _ _ x hx => ?_)) ?_ (bs_nil ⟨.dat (.int (i : Int)), ?_⟩) star_lc)
    · obtain rfl := List.mem_singleton.mp hx
      exact ev_catT (xs := [.int (i : Int)]) (ys := []) (by show 1 + 0 ≤ sizeLine; decide) (ev_tup (ea_cons (ev_var 2 rfl) ea_nil star_nam) (by show 1 ≤ sizeLine; decide)) (ev_var 3 rfl)
    · show (plcs i).length + 1 ≤ sizeLine
      rw [plcs_len]
      exact Nat.le_of_lt (fit1000 (by omega))
    · rw [show plcs (i + 1) = plcs i ++ [.tuple [.int (i : Int)]] by unfold plcs; rw [List.range_succ, List.map_append]; rfl]
      rfl
  · obtain ⟨x2, rfl⟩ := hI
    rw [List.length_map, List.length_range, hlen, Int.toNat_natCast]
    exact bs_nil (bs_ret (ev_mv 1 rfl) rfl)
abbrev S_put0 : List PyData → Rs → Prop := fun ds r => ∃ d new, ds = [d, .tuple [], new] ∧ r = okD new
abbrev S_put1 : List PyData → Rs → Prop := fun ds r => ∃ (q : List Int) (k : Nat) (new : PyData), ds = [tI q, .tuple [.int (k : Int)], new] ∧ k < q.length ∧ q.length ≤ 40 ∧ r = okD (putD q k new)
theorem sc__law_put : FnScope ["_law_thing", "_law_place", "_law_new", "_law_k"] ["_law_thing", "_law_place", "_law_new"] (defScope s__law_put) := ⟨rfl, rfl, rfl, by decide +kernel, rfl, by decide +kernel, by decide +kernel⟩
theorem vd__law_put0 (W : Where K mg "_law_put" s__law_put) : PD P w K mg base 1 "_law_put" ["_law_thing", "_law_place", "_law_new"] S_put0 := by
  have nd := sc__law_put.nd
  refine PD.mk W sc__law_put (fun _ _ _ _ _ _ us hl => match us, hl with | [_, _, _], _ => rfl) fun f cdv A outer s H E ds r hr hS => ?_
  obtain ⟨d, new, rfl, rfl⟩ := hS
  show BS _ _ [.dat d, .dat (.tuple []), .dat new, .no] _ _
  exact bs_yes (et_cmp (cmp_eqD hr.units rfl rfl) (ev_var 1 rfl) (ev_tup ea_nil (by show 0 ≤ sizeLine; decide))) rfl (bs_ret (ev_var 2 rfl) rfl)
theorem vd__law_put1 (W : Where K mg "_law_put" s__law_put) (D__law_put0 : PD P w K mg base 1 "_law_put" ["_law_thing", "_law_place", "_law_new"] S_put0) : PD P w K mg base 2 "_law_put" ["_law_thing", "_law_place", "_law_new"] S_put1 := by
  have nd := sc__law_put.nd
  refine PD.mk W sc__law_put (fun _ _ _ _ _ _ us hl => match us, hl with | [_, _, _], _ => rfl) fun f cdv A outer s H E ds r hr hS => ?_
  obtain ⟨q, k, new, rfl, hk, hq, rfl⟩ := hS
  show BS _ _ [.dat (tI q), .dat (.tuple [.int (k : Int)]), .dat new, .no] _ _
  refine bs_no (et_cmp (cmp_eqD hr.units (shapedIntsT [(k : Int)]) rfl) (ev_var 1 rfl) (ev_tup ea_nil (by show 0 ≤ sizeLine; decide))) rfl ?_
  refine bs_cons (s1_set 3 nd (ev_ixT (ev_var 1 rfl) ev_int rfl) ?_)
  show BS _ _ [.dat (tI q), .dat (.tuple [.int (k : Int)]), .dat new, .dat (.int (k : Int))] _ _
  have c1 := cutD_lenD (q.map PyData.int) none (some (k : Int))
  have c2 := cutD_lenD (q.map PyData.int) (some ((k : Int) + 1)) none
  rw [List.length_map] at c1 c2
  refine bs_ret (ev_catT (by simp only [List.length_append, List.length_cons, List.length_nil]; exact Nat.le_of_lt (fit1000 (by omega))) (ev_catT (ys := [new]) (by simp only [List.length_cons, List.length_nil]; exact Nat.le_of_lt (fit1000 (by omega))) (ev_slT (ev_var 0 rfl) eo_no (eo_some (ev_var 3 rfl))) (ev_tup (ea_cons (ev_call D__law_put0 (hr.mono (by decide)) (ea_cons (ev_ixT' (ev_var 0 rfl) (ev_var 3 rfl) (atI_getD (by omega) (by omega))) (ea_cons (ev_isQ (d' := .tuple []) (ev_slT (xs := [.int (k : Int)]) (ev_var 1 rfl) (eo_some ev_int) eo_no) (by rw [cutD_1]; rfl)) (ea_cons (ev_var 2 rfl) ea_nil star_nam) star_sub) star_sub) ⟨_, _, rfl, rfl⟩) ea_nil star_call) (by show 1 ≤ sizeLine; decide))) (ev_slT (ev_var 0 rfl) (eo_some (ev_op bin_add (ev_var 3 rfl) ev_int)) eo_no)) rfl
abbrev S_sth : List PyData → Rs → Prop := fun ds r => ∃ (ns : List Int) (at_ : Int) (q : List Int), ds = [lI ns, .int at_, tI q] ∧ 0 ≤ at_ ∧ RowOk q ∧ r = okD (spoilM ns at_ q)
theorem sc__law_spoilt_thing : FnScope ["_law_script", "_law_at", "_law_thing", "_law_spots", "_law_place", "_law_here", "_law_k", "_law_some", "_law_way"] ["_law_script", "_law_at", "_law_thing"] (defScope s__law_spoilt_thing) := ⟨rfl, rfl, rfl, by decide +kernel, rfl, by decide +kernel, by decide +kernel⟩
theorem vd__law_spoilt_thing (W : Where K mg "_law_spoilt_thing" s__law_spoilt_thing) (B : Bt mg) (D__law_pick : PD P w K mg base 2 "_law_pick" ["_law_script", "_law_k", "_law_many"] S__law_pick) (D__law_places1 : PD P w K mg base 2 "_law_places" ["_law_thing"] S_pl1) (D__law_put0 : PD P w K mg base 1 "_law_put" ["_law_thing", "_law_place", "_law_new"] S_put0) (D__law_put1 : PD P w K mg base 2 "_law_put" ["_law_thing", "_law_place", "_law_new"] S_put1) : PD P w K mg base 3 "_law_spoilt_thing" ["_law_script", "_law_at", "_law_thing"] S_sth := by
  have nd := sc__law_spoilt_thing.nd
  refine PD.mk W sc__law_spoilt_thing (fun _ _ _ _ _ _ us hl => match us, hl with | [_, _, _], _ => rfl) fun f cdv A outer s H E ds r hr hS => ?_
  obtain ⟨ns, at_, q, rfl, ha, ok, rfl⟩ := hS
  have hq := ok.len
  have hlen : ((q.map PyData.int).length : Int) = q.length := by rw [List.length_map]
  have p0 := pick_lo ns at_ (m := (q.length : Int) + 1) (by omega)
  have p1 := pick_hi ns at_ (m := (q.length : Int) + 1) (by omega)
  have w0 := pick_lo ns (at_ + 1) (m := 25) (by decide)
  have w1 := pick_hi ns (at_ + 1) (m := 25) (by decide)
  show BS _ _ [.dat (lI ns), .dat (.int at_), .dat (tI q), .no, .no, .no, .no, .no, .no] _ _
  refine bs_cons (s1_set 3 nd (ev_call D__law_places1 (hr.mono (by decide)) (ea_cons (ev_var 2 rfl) ea_nil star_nam) ⟨q, rfl, hq, rfl⟩).frz ?_)
  have hpl : ((plcs q.length).length : Int) = (q.length : Int) + 1 := by rw [plcs_len]; rfl
  by_cases hA : pick ns at_ ((q.length : Int) + 1) = 0
  · refine bs_cons (s1_set 4 nd (ev_ixL (d := .tuple []) (ev_var 3 rfl) (ev_call D__law_pick (hr.mono (by decide)) (ea_cons (ev_var 0 rfl) (ea_cons (ev_var 1 rfl) (ea_cons (ev_callB fn_lenL B.len (ea_cons (ev_var 3 rfl) ea_nil star_nam)) ea_nil star_call) star_nam) star_nam) ⟨ns, _, _, rfl, by omega, by omega, rfl⟩) (by rw [hpl, hA]; exact atI_nat (by decide) rfl)) ?_)
    refine bs_cons (s1_set 5 nd (ev_var 2 rfl) ?_)
    show BS _ _ [.dat (lI ns), .dat (.int at_), .dat (tI q), .dat (.list (plcs q.length)), .dat (.tuple []), .dat (tI q), .no, .no, .no] _ _
    refine bs_cons (s1_forT (xs := ([] : List PyData)) (g := fun x => x) (fun i ρ => ρ = [.dat (lI ns), .dat (.int at_), .dat (tI q), .dat (.list (plcs q.length)), .dat (.tuple []), .dat (tI q), .no, .no, .no]) [6] (ei_tup (ev_var 4 rfl)) rfl (fun i x ρ hx hI => nomatch hx) (fun ρ hI => ?_))
    subst hI
    refine bs_cons (s1_set 7 nd (ev_lst (ea_cons ev_int (ea_cons ev_int (ea_cons ev_int (ea_cons ev_int (ea_cons ev_int (ea_cons (ev_neg ev_int) (ea_cons ev_str (ea_cons ev_bl (ea_cons ev_non (ea_cons ev_str (ea_cons (ev_tup ea_nil (by show 0 ≤ sizeLine; decide)) (ea_cons (ev_lst (ea_cons ev_int ea_nil star_con) (by show 1 ≤ sizeLine; decide)).frz ea_nil star_lst) star_tup) star_con) star_con) star_con) star_con) star_un) star_con) star_con) star_con) star_con) star_con) (by show 12 ≤ sizeLine; decide)) ?_)
    refine bs_cons (s1_set 7 nd (ev_cat (by show 12 + 7 ≤ sizeLine; decide) (ev_mv 7 rfl) (ev_lst (ea_cons (ev_tup (ea_cons ev_int (ea_cons ev_int ea_nil star_con) star_con) (by show 2 ≤ sizeLine; decide)) (ea_cons ev_int (ea_cons ev_int (ea_cons ev_int (ea_cons ev_int (ea_cons (ev_tup (ea_cons (ev_var 5 rfl) ea_nil star_nam) (by show 1 ≤ sizeLine; decide)) (ea_cons (ev_tup (ea_cons (ev_var 5 rfl) (ea_cons (ev_var 5 rfl) ea_nil star_nam) star_nam) (by show 2 ≤ sizeLine; decide)) ea_nil star_tup) star_tup) star_con) star_con) star_con) star_con) star_tup) (by show 7 ≤ sizeLine; decide))) ?_)
    refine bs_frz 7 rfl ?_
    refine bs_cons (s1_set 8 nd (ev_call D__law_pick (hr.mono (by decide)) (ea_cons (ev_var 0 rfl) (ea_cons (ev_op bin_add (ev_var 1 rfl) ev_int) (ea_cons ev_int ea_nil star_con) star_bin) star_nam) ⟨ns, _, _, rfl, by omega, by omega, rfl⟩) ?_)
    have e : spoilM ns at_ q = newA ns at_ q := if_pos hA
    rw [e]
    show BS _ _ [.dat (lI ns), .dat (.int at_), .dat (tI q), .dat (.list (plcs q.length)), .dat (.tuple []), .dat (tI q), .no, .dat (.list (someD (tI q))), .dat (.int (pick ns (at_ + 1) 25))] _ _
    by_cases hw : pick ns (at_ + 1) 25 < 19
    · have e : newA ns at_ q = (someD (tI q)).getD (pick ns (at_ + 1) 25).toNat .none := if_pos hw
      rw [e]
      exact bs_yes (et_cmp cmp_lt (ev_var 8 rfl) ev_int) (decide_eq_true hw) (bs_ret (ev_call D__law_put0 (hr.mono (by decide)) (ea_cons (ev_var 2 rfl) (ea_cons (ev_var 4 rfl) (ea_cons (ev_ixL (ev_var 7 rfl) (ev_var 8 rfl) (atI_any w0 (by show pick ns (at_ + 1) 25 < 19; exact hw))) ea_nil star_sub) star_nam) star_nam) ⟨_, _, rfl, rfl⟩) rfl)
    · refine bs_no (et_cmp cmp_lt (ev_var 8 rfl) ev_int) (decide_eq_false hw) ?_
      have e : newA ns at_ q = if q = [] then .int 7 else if pick ns (at_ + 1) 25 < 22 then tI (cutD q none (some (pick ns (at_ + 2) q.length)) ++ cutD q (some (pick ns (at_ + 2) q.length + 1)) none) else tI (cutD q none (some (pick ns (at_ + 2) q.length + 1)) ++ cutD q (some (pick ns (at_ + 2) q.length)) none) := if_neg hw
      rw [e]
      by_cases hz : q = []
      · rw [if_pos hz]
        refine bs_no (EW.et (ew_and (et_val (ev_isD (c := "tuple") B.isinstance B.tuple (ev_var 5 rfl))) fun _ => (ew_and1 (et_cmp (cmp_neD hr.units (shapedIntsT _) (shapedIntsT [])) (ev_var 5 rfl) (ev_tup ea_nil (by show 0 ≤ sizeLine; decide)))))) (by rw [hz]; decide) ?_
        exact bs_ret (ev_call D__law_put0 (hr.mono (by decide)) (ea_cons (ev_var 2 rfl) (ea_cons (ev_var 4 rfl) (ea_cons (ev_if (k := false) (et_is (k' := false) (et_val (ev_isD (c := "int") B.isinstance B.int (ev_var 5 rfl))) (by simp [isD, tyD])) (fun h => nomatch h) (fun _ => ev_int)) ea_nil star_if) star_nam) star_nam) ⟨_, _, rfl, rfl⟩) rfl
      · rw [if_neg hz]
        have hp : 0 < q.length := List.length_pos_iff.mpr hz
        have k0 := pick_lo ns (at_ + 2) (m := (q.length : Int)) (by omega)
        have k1 := pick_hi ns (at_ + 2) (m := (q.length : Int)) (by omega)
        refine bs_yes (EW.et (ew_and (et_val (ev_isD (c := "tuple") B.isinstance B.tuple (ev_var 5 rfl))) fun _ => (ew_and1 (et_cmp (cmp_neD hr.units (shapedIntsT _) (shapedIntsT [])) (ev_var 5 rfl) (ev_tup ea_nil (by show 0 ≤ sizeLine; decide)))))) (by rw [show PyData.eqv (.tuple (q.map .int)) (.tuple (([] : List Int).map .int)) = false by rw [eqvT_ints]; exact decide_eq_false hz]; rfl) ?_
        refine bs_cons (s1_set 6 nd (ev_call D__law_pick (hr.mono (by decide)) (ea_cons (ev_var 0 rfl) (ea_cons (ev_op bin_add (ev_var 1 rfl) ev_int) (ea_cons (ev_callB fn_lenT B.len (ea_cons (ev_var 5 rfl) ea_nil star_nam)) ea_nil star_call) star_bin) star_nam) ⟨ns, _, _, rfl, by omega, by omega, rfl⟩) ?_)
        rw [hlen]
        show BS _ _ [.dat (lI ns), .dat (.int at_), .dat (tI q), .dat (.list (plcs q.length)), .dat (.tuple []), .dat (tI q), .dat (.int (pick ns (at_ + 2) q.length)), .dat (.list (someD (tI q))), .dat (.int (pick ns (at_ + 1) 25))] _ _
        generalize pick ns (at_ + 2) q.length = kk at k0 k1
        have c1 := cutD_lenD q none (some kk)
        have c2 := cutD_lenD q (some (kk + 1)) none
        have c3 := cutD_lenD q none (some (kk + 1))
        have c4 := cutD_lenD q (some kk) none
        refine bs_ret (ev_call D__law_put0 (hr.mono (by decide)) (ea_cons (ev_var 2 rfl) (ea_cons (ev_var 4 rfl) (ea_cons (ev_ifD (et_cmp cmp_lt (ev_var 8 rfl) ev_int) (fun _ => ev_catTi (Nat.le_of_lt (fit1000 (by omega))) (ev_slT' (ev_var 5 rfl) eo_no (eo_some (ev_var 6 rfl))) (ev_slT' (ev_var 5 rfl) (eo_some (ev_op bin_add (ev_var 6 rfl) ev_int)) eo_no)) (fun _ => ev_catTi (Nat.le_of_lt (fit1000 (by omega))) (ev_slT' (ev_var 5 rfl) eo_no (eo_some (ev_op bin_add (ev_var 6 rfl) ev_int))) (ev_slT' (ev_var 5 rfl) (eo_some (ev_var 6 rfl)) eo_no))) ea_nil star_if) star_nam) star_nam) ⟨_, _, rfl, rfl⟩) ?_
        by_cases h22 : pick ns (at_ + 1) 25 < 22
        · rw [if_pos h22, if_pos (decide_eq_true h22)]
          rfl
        · rw [if_neg h22, if_neg (by simpa using h22)]
          rfl
  · obtain ⟨k, hk⟩ : ∃ k : Nat, pick ns at_ ((q.length : Int) + 1) = ((k + 1 : Nat) : Int) := ⟨(pick ns at_ ((q.length : Int) + 1) - 1).toNat, by omega⟩
    have hkq : k < q.length := by omega
    have e : spoilM ns at_ q = putD q k (newB ns at_ (gat q k)) := by
      unfold spoilM
      rw [if_neg hA, hk, show (((k + 1 : Nat) : Int) - 1).toNat = k by omega]
    rw [e]
    refine bs_cons (s1_set 4 nd (ev_ixL (d := .tuple [.int (k : Int)]) (ev_var 3 rfl) (ev_call D__law_pick (hr.mono (by decide)) (ea_cons (ev_var 0 rfl) (ea_cons (ev_var 1 rfl) (ea_cons (ev_callB fn_lenL B.len (ea_cons (ev_var 3 rfl) ea_nil star_nam)) ea_nil star_call) star_nam) star_nam) ⟨ns, _, _, rfl, by omega, by omega, rfl⟩) (by rw [hpl, hk]; exact atI_nat (by omega) (by rw [Int.toNat_natCast]; exact plcs_at hkq))) ?_)
    refine bs_cons (s1_set 5 nd (ev_var 2 rfl) ?_)
    show BS _ _ [.dat (lI ns), .dat (.int at_), .dat (tI q), .dat (.list (plcs q.length)), .dat (.tuple [.int (k : Int)]), .dat (tI q), .no, .no, .no] _ _
    refine bs_cons (s1_forT (xs := [(k : Int)]) (g := PyData.int) (fun i ρ => ∃ x6 : Ow, ρ = [.dat (lI ns), .dat (.int at_), .dat (tI q), .dat (.list (plcs q.length)), .dat (.tuple [.int (k : Int)]), .dat (if i = 0 then tI q else .int (gat q k)), x6, .no, .no]) [6] (ei_tup (ev_var 4 rfl)) ⟨_, rfl⟩ (fun i x ρ hx hI => ?_) (fun ρ hI => ?_))
    · obtain ⟨x6, rfl⟩ := hI
      have hi : i = 0 := by
        have := (List.getElem?_eq_some_iff.mp hx).1
        simpa using this
      subst hi
      cases hx
      refine ⟨_, (gt_name 6 nd), ?_⟩
      exact bs_cons (s1_set 5 nd (ev_ixT' (xs := q) (ev_var 5 rfl) (ev_var 6 rfl) (atI_getD (by omega) (by omega))) (bs_nil ⟨_, rfl⟩))
    obtain ⟨x6, rfl⟩ := hI
    show thn' _ _ _ _ (.nx [.dat (lI ns), .dat (.int at_), .dat (tI q), .dat (.list (plcs q.length)), .dat (.tuple [.int (k : Int)]), .dat (.int (gat q k)), x6, .no, .no])
    refine bs_cons (s1_set 7 nd (ev_lst (ea_cons ev_int (ea_cons ev_int (ea_cons ev_int (ea_cons ev_int (ea_cons ev_int (ea_cons (ev_neg ev_int) (ea_cons ev_str (ea_cons ev_bl (ea_cons ev_non (ea_cons ev_str (ea_cons (ev_tup ea_nil (by show 0 ≤ sizeLine; decide)) (ea_cons (ev_lst (ea_cons ev_int ea_nil star_con) (by show 1 ≤ sizeLine; decide)).frz ea_nil star_lst) star_tup) star_con) star_con) star_con) star_con) star_un) star_con) star_con) star_con) star_con) star_con) (by show 12 ≤ sizeLine; decide)) ?_)
    refine bs_cons (s1_set 7 nd (ev_cat (by show 12 + 7 ≤ sizeLine; decide) (ev_mv 7 rfl) (ev_lst (ea_cons (ev_tup (ea_cons ev_int (ea_cons ev_int ea_nil star_con) star_con) (by show 2 ≤ sizeLine; decide)) (ea_cons ev_int (ea_cons ev_int (ea_cons ev_int (ea_cons ev_int (ea_cons (ev_tup (ea_cons (ev_var 5 rfl) ea_nil star_nam) (by show 1 ≤ sizeLine; decide)) (ea_cons (ev_tup (ea_cons (ev_var 5 rfl) (ea_cons (ev_var 5 rfl) ea_nil star_nam) star_nam) (by show 2 ≤ sizeLine; decide)) ea_nil star_tup) star_tup) star_con) star_con) star_con) star_con) star_tup) (by show 7 ≤ sizeLine; decide))) ?_)
    refine bs_frz 7 rfl ?_
    refine bs_cons (s1_set 8 nd (ev_call D__law_pick (hr.mono (by decide)) (ea_cons (ev_var 0 rfl) (ea_cons (ev_op bin_add (ev_var 1 rfl) ev_int) (ea_cons ev_int ea_nil star_con) star_bin) star_nam) ⟨ns, _, _, rfl, by omega, by omega, rfl⟩) ?_)
    show BS _ _ [.dat (lI ns), .dat (.int at_), .dat (tI q), .dat (.list (plcs q.length)), .dat (.tuple [.int (k : Int)]), .dat (.int (gat q k)), x6, .dat (.list (someD (.int (gat q k)))), .dat (.int (pick ns (at_ + 1) 25))] _ _
    by_cases hw : pick ns (at_ + 1) 25 < 19
    · have e : newB ns at_ (gat q k) = (someD (.int (gat q k))).getD (pick ns (at_ + 1) 25).toNat .none := if_pos hw
      rw [e]
      exact bs_yes (et_cmp cmp_lt (ev_var 8 rfl) ev_int) (decide_eq_true hw) (bs_ret (ev_call D__law_put1 (hr.mono (by decide)) (ea_cons (ev_var 2 rfl) (ea_cons (ev_var 4 rfl) (ea_cons (ev_ixL (ev_var 7 rfl) (ev_var 8 rfl) (atI_any w0 (by show pick ns (at_ + 1) 25 < 19; exact hw))) ea_nil star_sub) star_nam) star_nam) ⟨q, k, _, rfl, hkq, hq, rfl⟩) rfl)
    · refine bs_no (et_cmp cmp_lt (ev_var 8 rfl) ev_int) (decide_eq_false hw) ?_
      have e : newB ns at_ (gat q k) = .int (gat q k + pick ns (at_ + 1) 25 - 22) := if_neg hw
      rw [e]
      refine bs_no (EW.et (ew_and (k' := true) (et_is (k' := false) (et_val (ev_isD (c := "tuple") B.isinstance B.tuple (ev_var 5 rfl))) (by simp [isD, tyD])) fun h => nomatch h)) rfl ?_
      exact bs_ret (ev_call D__law_put1 (hr.mono (by decide)) (ea_cons (ev_var 2 rfl) (ea_cons (ev_var 4 rfl) (ea_cons (ev_if (k := true) (et_is (k' := true) (et_val (ev_isD (c := "int") B.isinstance B.int (ev_var 5 rfl))) (by simp [isD, tyD])) (fun _ => (ev_op bin_sub (ev_op bin_add (ev_var 5 rfl) (ev_var 8 rfl)) ev_int)) (fun h => nomatch h)) ea_nil star_if) star_nam) star_nam) ⟨q, k, _, rfl, hkq, hq, rfl⟩) rfl
end
def gapX (q : List Int) : List Int := (List.range (q.length - 1)).map fun k : Nat => (1 : Int) + (k : Int)
theorem gapX_len (q : List Int) : (gapX q).length = q.length - 1 := by simp [gapX]
theorem gapX_mem {q : List Int} {x : Int} (h : x ∈ gapX q) : 1 ≤ x ∧ x < q.length := by
  obtain ⟨k, hk, rfl⟩ := List.mem_map.mp h
  have := List.mem_range.mp hk
  omega
theorem gapX_eq (q : List Int) : ((gapX q).filter fun _ => true).map (fun x : Int => PyData.int (q.getD x.toNat 0 - q.getD (x - 1).toNat 0)) = (gapsM q).map .int := by
  rw [List.filter_eq_self.mpr fun _ _ => rfl]
  unfold gapX gapsM
  rw [List.map_map, List.map_map]
  apply List.ext_getElem?
  intro i
  rw [List.getElem?_map, List.getElem?_map]
  by_cases h : i < q.length - 1
  · have h1 : i < q.length := by omega
    have h2 : i + 1 < q.length := by omega
    have z : (q.zip (q.drop 1))[i]? = some (q[i], q[i + 1]) := by
      rw [List.getElem?_zip_eq_some]
      constructor
      · rw [List.getElem?_eq_getElem h1]
      · rw [List.getElem?_drop, Nat.add_comm, List.getElem?_eq_getElem h2]
    rw [List.getElem?_range h, z]
    simp only [Option.map_some, Function.comp]
    rw [show ((1 : Int) + (i : Int)).toNat = i + 1 by omega, show ((1 : Int) + (i : Int) - 1).toNat = i by omega, List.getD_eq_getElem?_getD, List.getD_eq_getElem?_getD, List.getElem?_eq_getElem h1, List.getElem?_eq_getElem h2]
    rfl
  · rw [List.getElem?_eq_none (by simp; omega), List.getElem?_eq_none (by simp; omega)]
    rfl
theorem fromTo_0 (q : List Int) (s : Int) : fromTo q s (s + ((0 : Nat) : Int)) = [] := by
  unfold fromTo
  rw [List.filter_eq_nil_iff]
  intro x _
  simp <;> omega
theorem fromTo_step (q : List Int) (s : Int) (i : Nat) : ((fromTo q s (s + ((i + 1 : Nat) : Int))).length : Int) = ((fromTo q s (s + (i : Int))).length : Int) + ((q.count (s + (i : Int)) : Nat) : Int) := by
  unfold fromTo
  induction q with
  | nil => rfl
  | cons a r ih =>
    rw [List.filter_cons, List.filter_cons, List.count_cons]
    by_cases h3 : a = s + (i : Int)
    · subst h3
      rw [if_pos (show (decide (s ≤ s + (i : Int)) && decide (s + (i : Int) < s + ((i + 1 : Nat) : Int))) = true by rw [Bool.and_eq_true, decide_eq_true_iff, decide_eq_true_iff]; omega), if_neg (show ¬ (decide (s ≤ s + (i : Int)) && decide (s + (i : Int) < s + (i : Int))) = true by simp), if_pos (by simp)]
      rw [List.length_cons]
      omega
    · rw [if_neg (show ¬ (a == s + (i : Int)) = true by simpa using h3), show (decide (s ≤ a) && decide (a < s + ((i + 1 : Nat) : Int))) = (decide (s ≤ a) && decide (a < s + (i : Int))) by congr 1; exact decide_eq_decide.mpr ⟨fun _ => by omega, fun _ => by omega⟩]
      split
      · rw [List.length_cons, List.length_cons]
        omega
      · omega
theorem fromTo_add (q : List Int) {s a b : Int} (h1 : s ≤ a) (h2 : a ≤ b) : ((fromTo q s b).length : Int) = ((fromTo q s a).length : Int) + ((fromTo q a b).length : Int) := by
  unfold fromTo
  induction q with
  | nil => rfl
  | cons x r ih =>
    rw [List.filter_cons, List.filter_cons, List.filter_cons]
    by_cases g1 : s ≤ x <;> by_cases g2 : x < a <;> by_cases g3 : x < b <;> by_cases g4 : a ≤ x <;> simp [g1, g2, g3, g4] <;> omega
theorem parts_ok {q : List Int} {st ln ct : Int} {pts : List (Int × Int)} (s0 : 0 ≤ st) (s1 : st ≤ 300) (n0 : 1 ≤ ln) (n1 : ln ≤ 200) (c0 : 0 ≤ ct) (c1 : ct < ln) (h : pts = if 0 < ct then [(st, ct), (st + ct, ln - ct)] else [(st, ln)]) : (∀ p ∈ pts, 0 ≤ p.1 ∧ p.1 ≤ 9999 ∧ 1 ≤ p.2 ∧ p.2 ≤ 9999) ∧ (pts.map fun p : Int × Int => ((inGate q p.1 p.2).length : Int)).sum = ((inGate q st ln).length : Int) ∧ pts.length ≤ 2 := by
  by_cases hc : 0 < ct
  · rw [if_pos hc] at h
    subst h
    refine ⟨fun p hp => ?_, ?_, by simp⟩
    · simp at hp
      rcases hp with rfl | rfl
      · exact ⟨s0, by show st ≤ 9999; omega, by show 1 ≤ ct; omega, by show ct ≤ 9999; omega⟩
      · exact ⟨by show 0 ≤ st + ct; omega, by show st + ct ≤ 9999; omega, by show 1 ≤ ln - ct; omega, by show ln - ct ≤ 9999; omega⟩
    · have := fromTo_add q (s := st) (a := st + ct) (b := st + ln) (by omega) (by omega)
      show ((fromTo q st (st + ct)).length : Int) + (((fromTo q (st + ct) (st + ct + (ln - ct))).length : Int) + 0) = ((fromTo q st (st + ln)).length : Int)
      rw [show st + ct + (ln - ct) = st + ln by omega, this]
      omega
  · rw [if_neg hc] at h
    subst h
    refine ⟨fun p hp => ?_, ?_, by simp⟩
    · simp at hp
      subst hp
      exact ⟨s0, by show st ≤ 9999; omega, n0, by show ln ≤ 9999; omega⟩
    · show ((fromTo q st (st + ln)).length : Int) + 0 = _
      rw [Int.add_zero]
theorem up15 {x : Int} (h : x ∈ (List.range 15).map fun k : Nat => (0 : Int) + (k : Int)) : x = 0 ∨ x = 1 ∨ x = 2 ∨ x = 3 ∨ x = 4 ∨ x = 5 ∨ x = 6 ∨ x = 7 ∨ x = 8 ∨ x = 9 ∨ x = 10 ∨ x = 11 ∨ x = 12 ∨ x = 13 ∨ x = 14 := by
  obtain ⟨k, hk, rfl⟩ := List.mem_map.mp h
  have := List.mem_range.mp hk
  omega
theorem up6 {x : Int} (h : x ∈ (List.range 6).map fun k : Nat => (0 : Int) + (k : Int)) : x = 0 ∨ x = 1 ∨ x = 2 ∨ x = 3 ∨ x = 4 ∨ x = 5 := by
  obtain ⟨k, hk, rfl⟩ := List.mem_map.mp h
  have := List.mem_range.mp hk
  omega
def someL : List PyData := [.tuple [], .tuple ((List.range 40).map fun k : Nat => .int (k : Int)), .tuple [.int 0, .int 9999], .tuple ((List.range 41).map fun k : Nat => .int (k : Int)), .tuple [.int 1, .int 1], .tuple [.int 2, .int 1], .tuple [.int (-1)], .tuple [.int 10000], .list [.int 1], .tuple [.bool true], .none, .str "1"]
def oddP : List (PyData × PyData) := [(.int (-1), .int 1), (.int 10000, .int 1), (.int 0, .int 0), (.int 0, .int 10000), (.none, .int 1), (.int 0, .none), (.bool true, .int 1), (.int 0, .bool true), (.str "0", .int 1)]
theorem odd_no : ∀ p ∈ oddP, NoGateD p.1 p.2 := fun p hp => by
  simp only [oddP, List.mem_cons, List.not_mem_nil, or_false] at hp
  rcases hp with rfl | rfl | rfl | rfl | rfl | rfl | rfl | rfl | rfl
  all_goals first
    | exact .inl (by decide)
    | exact .inr ⟨⟨0, rfl, by decide, by decide⟩, by decide⟩
def smallD (d : PyData) : Bool := PyData.canLay0 d && decide (PyData.depth d ≤ 2)
theorem small_list : ∀ {xs : List PyData}, (∀ x ∈ xs, smallD x = true) → PyData.canLayAll0 xs = true ∧ PyData.depthAll xs ≤ 2
  | [], _ => ⟨rfl, by simp [PyData.depthAll]⟩
  | a :: l, h => by
    have h1 := h a (List.mem_cons_self ..)
    have ⟨i1, i2⟩ := small_list (xs := l) fun x hx => h x (List.mem_cons_of_mem _ hx)
    unfold smallD at h1
    rw [Bool.and_eq_true, decide_eq_true_iff] at h1
    constructor
    · simp [PyData.canLayAll0, h1.1, i1]
    · simp only [PyData.depthAll]
      omega
theorem small_shaped {xs : List PyData} (h : ∀ x ∈ xs, smallD x = true) : SeqAt.shaped (.list (xs.filter oddB)) = true := by
  obtain ⟨i1, i2⟩ := small_list (xs := xs.filter oddB) fun x hx => h x (List.mem_filter.mp hx).1
  simp [SeqAt.shaped, PyData.canLay0, PyData.depth, i1]
  omega
theorem small_row (q : List Int) : smallD (tI q) = true := by
  have h := shapedIntsT q
  have h2 : ∀ l : List Int, PyData.depthAll (l.map PyData.int) ≤ 1 := by
    intro l
    induction l with
    | nil => simp [PyData.depthAll]
    | cons a l ih => simp [PyData.depthAll, PyData.depth]; omega
  have := h2 q
  simp only [SeqAt.shaped, Bool.and_eq_true] at h
  unfold smallD
  rw [h.1, Bool.true_and]
  refine decide_eq_true ?_
  show PyData.depth (.tuple (q.map .int)) ≤ 2
  simp only [PyData.depth]
  omega
theorem some_small {n : Nat} (b : Int) : smallD ((someD (.int b)).getD n .none) = true := by
  have : ∀ x ∈ someD (.int b), smallD x = true := by
    intro x hx
    simp only [someD, List.cons_append, List.nil_append, List.mem_cons, List.not_mem_nil, or_false] at hx
    rcases hx with rfl | rfl | rfl | rfl | rfl | rfl | rfl | rfl | rfl | rfl | rfl | rfl | rfl | rfl | rfl | rfl | rfl | rfl | rfl <;> first | decide +kernel | simp [smallD, PyData.canLay0, PyData.canLayAll0, PyData.depth, PyData.depthAll]
  rw [List.getD_eq_getElem?_getD]
  cases h : (someD (.int b))[n]? with
  | none => rfl
  | some x => exact this x (List.mem_of_getElem? h)
theorem someA_small {n : Nat} (q : List Int) {xs : List PyData} (h : (someD (tI q)).getD n .none = .tuple xs) : ∀ x ∈ xs, smallD x = true := by
  rw [List.getD_eq_getElem?_getD] at h
  cases e : (someD (tI q))[n]? with
  | none => rw [e] at h; cases h
  | some d =>
    rw [e] at h
    have hd : d = .tuple xs := h
    have := List.mem_of_getElem? e
    rw [hd] at this
    simp only [someD, List.cons_append, List.nil_append, List.mem_cons, List.not_mem_nil, or_false, reduceCtorEq, false_or, PyData.tuple.injEq] at this
    have sr := small_row q
    rcases this with rfl | rfl | rfl | rfl <;> intro x hx <;> simp at hx
    · rcases hx with rfl | rfl <;> decide
    · rw [hx]; exact sr
    · rw [hx]; exact sr
theorem ints_small (q : List Int) : ∀ x ∈ q.map PyData.int, smallD x = true := fun x hx => by
  obtain ⟨b, _, rfl⟩ := List.mem_map.mp hx
  simp [smallD, PyData.canLay0, PyData.depth]
theorem spoil_shaped (ns : List Int) (at_ : Int) {q : List Int} (ok : RowOk q) : ∀ xs, spoilM ns at_ q = .tuple xs → SeqAt.shaped (.list (xs.filter oddB)) = true := by
  intro xs h
  refine small_shaped ?_
  unfold spoilM at h
  split at h
  · unfold newA at h
    split at h
    · exact someA_small q h
    · split at h
      · cases h
      · split at h
        · cases h
          exact ints_small _
        · cases h
          exact ints_small _
  · unfold putD at h
    cases h
    intro x hx
    rcases List.mem_append.mp hx with hx | hx
    · rcases List.mem_append.mp hx with hx | hx
      · exact ints_small q x (cutD_inD hx)
      · obtain rfl := List.mem_singleton.mp hx
        unfold newB
        split
        · exact some_small _
        · simp [smallD, PyData.canLay0, PyData.depth]
    · exact ints_small q x (cutD_inD hx)
section
variable {P : Program} {w : World} {K : PySem.W.Frag} {mg : Str → Option Value} {base : Heap}
theorem sc_law : FnScope ["_law_script", "_law_row_here", "_law_due", "_law_k", "_law_start", "_law_length", "_law_tick", "_law_cut", "_law_parts", "_law_here", "_law_ticks", "_law_thing", "_law_told", "_law_what", "_law_some", "_law_odd"] ["_law_script"] (defScope s_law) := ⟨rfl, rfl, rfl, by decide +kernel, rfl, by decide +kernel, by decide +kernel⟩
set_option maxHeartbeats 0 in
theorem law_body (w_is_whole : Where K mg "is_whole" s_is_whole) (w_is_within : Where K mg "is_within" s_is_within) (w_common_divisor : Where K mg "common_divisor" s_common_divisor) (w_fraction : Where K mg "fraction" s_fraction) (w_is_less : Where K mg "is_less" s_is_less) (w_lesser : Where K mg "lesser" s_lesser) (w_greater : Where K mg "greater" s_greater) (w_is_row : Where K mg "is_row" s_is_row) (w_check_row : Where K mg "check_row" s_check_row) (w_check_rows : Where K mg "check_rows" s_check_rows) (w_check_length : Where K mg "check_length" s_check_length) (w_check_gate : Where K mg "check_gate" s_check_gate) (w_beats_from : Where K mg "beats_from" s_beats_from) (w_beats_in : Where K mg "beats_in" s_beats_in) (w_counted : Where K mg "counted" s_counted) (w_gaps : Where K mg "gaps" s_gaps) (w_gates_end : Where K mg "gates_end" s_gates_end) (w_check_gates : Where K mg "check_gates" s_check_gates) (w_gate_starts : Where K mg "gate_starts" s_gate_starts) (w_in_gates : Where K mg "in_gates" s_in_gates) (w_lost : Where K mg "lost" s_lost) (w_check_step : Where K mg "check_step" s_check_step) (w_wait_for : Where K mg "wait_for" s_wait_for) (w_to_next : Where K mg "to_next" s_to_next) (w_longest_wait : Where K mg "longest_wait" s_longest_wait) (w_between : Where K mg "between" s_between) (w_bounds : Where K mg "bounds" s_bounds) (w_can_be_steady : Where K mg "can_be_steady" s_can_be_steady) (w_simplest_between : Where K mg "simplest_between" s_simplest_between) (w_simplest : Where K mg "simplest" s_simplest) (w_phase_for : Where K mg "phase_for" s_phase_for) (w_by_count : Where K mg "by_count" s_by_count) (w_by_time : Where K mg "by_time" s_by_time) (w_width : Where K mg "width" s_width) (w_sharper : Where K mg "sharper" s_sharper) (w__law_cell : Where K mg "_law_cell" s__law_cell) (w__law_pick : Where K mg "_law_pick" s__law_pick) (w__law_places : Where K mg "_law_places" s__law_places) (w__law_put : Where K mg "_law_put" s__law_put) (w__law_spoilt_thing : Where K mg "_law_spoilt_thing" s__law_spoilt_thing) (w__law_word : Where K mg "_law_word" s__law_word) (w__law_row : Where K mg "_law_row" s__law_row) (w__law_do : Where K mg "_law_do" s__law_do) (w__law_is_row : Where K mg "_law_is_row" s__law_is_row) (B : Bt mg) (c_MOST_BEATS : ∃ t, mg "MOST_BEATS" = some (.int 40 t)) (c_LAST_TICK : ∃ t, mg "LAST_TICK" = some (.int 9999 t)) (c_LONGEST_GATE : ∃ t, mg "LONGEST_GATE" = some (.int 9999 t)) (c_MOST_DEAD : ∃ t, mg "MOST_DEAD" = some (.int 9999 t)) (c_MOST_GATES : ∃ t, mg "MOST_GATES" = some (.int 20 t)) (c_LAST_TICK_OF_GATES : ∃ t, mg "LAST_TICK_OF_GATES" = some (.int 99999 t)) (c_MOST_TICKS : ∃ t, mg "MOST_TICKS" = some (.int 9999 t))  (cf_Counter : ∃ C, CF_Counter K mg C) (refs : ∃ cB cG cP cR cT, Refs4 K mg cB cG cP cR cT) : ∀ (f : Addr) (cdv : Value) (A : Around) (outer : List Env) (s : Shared) (H : Hp) (vs : List V) (Q : VK) (E : XK), Room 9 (A.deeper (PyProof.Rows.envOfC "law" (defScope s_law) s.heap.objs.size f cdv)) → spLaw K vs H Q E → ∃ t, PSs (cxOf CX0 P w K mg base ["_law_script", "_law_row_here", "_law_due", "_law_k", "_law_start", "_law_length", "_law_tick", "_law_cut", "_law_parts", "_law_here", "_law_ticks", "_law_thing", "_law_told", "_law_what", "_law_some", "_law_odd"] "law" (defScope s_law) f cdv A outer s H E).nox (defBody s_law) t ∧ t { nx := fun _ H' => Q .non H', rt := Q } (L2.start ["_law_script", "_law_row_here", "_law_due", "_law_k", "_law_start", "_law_length", "_law_tick", "_law_cut", "_law_parts", "_law_here", "_law_ticks", "_law_thing", "_law_told", "_law_what", "_law_some", "_law_odd"] vs) H := by
  intro f cdv A outer s H vs Q E hr h
  refine law_bs h fun ns hns => ?_
  show BS _ _ [.dat (lI ns), .no, .no, .no, .no, .no, .no, .no, .no, .no, .no, .no, .no, .no, .no, .no] _ _
  have nd := sc_law.nd
  have D_is_whole := vd_is_whole (P := P) (w := w) (base := base) w_is_whole B
  have D_is_within := vd_is_within (P := P) (w := w) (base := base) w_is_within D_is_whole
  have D_is_row := vd_is_row (P := P) (w := w) (base := base) w_is_row B c_MOST_BEATS c_LAST_TICK D_is_within
  have D_check_row := vd_check_row (P := P) (w := w) (base := base) w_check_row D_is_row
  have D_check_length := vd_check_length (P := P) (w := w) (base := base) w_check_length c_LONGEST_GATE D_is_within
  have D_check_gate := vd_check_gate (P := P) (w := w) (base := base) w_check_gate c_LAST_TICK D_is_within D_check_length
  have D_beats_from := vd_beats_from (P := P) (w := w) (base := base) w_beats_from 
  have D_beats_in := vd_beats_in (P := P) (w := w) (base := base) w_beats_in D_check_row D_check_gate D_beats_from
  have D_counted := vd_counted (P := P) (w := w) (base := base) w_counted B D_beats_in
  have D_gaps := vd_gaps (P := P) (w := w) (base := base) w_gaps B D_check_row
  have D_gates_end := vd_gates_end (P := P) (w := w) (base := base) w_gates_end 
  have D_check_gates := vd_check_gates (P := P) (w := w) (base := base) w_check_gates c_MOST_DEAD c_MOST_GATES c_LAST_TICK_OF_GATES D_is_within D_check_gate D_gates_end
  have D_gate_starts := vd_gate_starts (P := P) (w := w) (base := base) w_gate_starts B
  have D__law_cell := vd__law_cell (P := P) (w := w) (base := base) w__law_cell B
  have D__law_pick := vd__law_pick (P := P) (w := w) (base := base) w__law_pick D__law_cell
  have D__law_row := vd__law_row (P := P) (w := w) (base := base) w__law_row B D__law_pick
  have D__law_is_row := vd__law_is_row (P := P) (w := w) (base := base) w__law_is_row B
  obtain ⟨cB, cG, cP, cR, cT, R4⟩ := refs
  obtain ⟨C, TC⟩ := cf_Counter
  have Dw := def__law_word (P := P) (w := w) (base := base) w__law_word B R4.zV R4.eB R4.eG.at_ R4.eP.at_ R4.eR.at_ R4.eT.at_ R4.nd R4.kinds
  have D_check_rowX := vd_check_rowX (P := P) (w := w) (base := base) w_check_row R4.eR D_is_row
  have D_check_lengthX := vd_check_lengthX (P := P) (w := w) (base := base) w_check_length R4.eG c_LONGEST_GATE D_is_within
  have D_check_gateX := vd_check_gateX (P := P) (w := w) (base := base) w_check_gate R4.eG c_LAST_TICK D_is_within D_check_lengthX
  have D_check_gatesX := vd_check_gatesX (P := P) (w := w) (base := base) w_check_gates D_check_gateX
  have D_beats_inX := vd_beats_inX (P := P) (w := w) (base := base) w_beats_in D_check_row D_check_rowX D_check_gateX
  have D_countedX := vd_countedX (P := P) (w := w) (base := base) w_counted B D_beats_inX
  have D_by_countX := vd_by_countX (P := P) (w := w) (base := base) w_by_count D_countedX
  have D_by_timeX := vd_by_timeX (P := P) (w := w) (base := base) w_by_time D_beats_inX
  have D_sharperX := vd_sharperX (P := P) (w := w) (base := base) w_sharper D_by_timeX
  have D_in_gatesX := vd_in_gatesX (P := P) (w := w) (base := base) w_in_gates D_check_row D_check_rowX D_check_gatesX
  have D_lostX := vd_lostX (P := P) (w := w) (base := base) w_lost B D_in_gatesX
  have D_check_rowsX := vd_check_rowsX (P := P) (w := w) (base := base) w_check_rows D_check_row D_check_rowX
  have D_to_nextX := vd_to_nextX (P := P) (w := w) (base := base) w_to_next D_check_rowsX
  have D_longest_waitX := vd_longest_waitX (P := P) (w := w) (base := base) w_longest_wait D_to_nextX
  have D_betweenX := vd_betweenX (P := P) (w := w) (base := base) w_between D_check_rowsX
  have D_gapsX := vd_gapsX (P := P) (w := w) (base := base) w_gaps D_check_rowX
  have D_boundsX := vd_boundsX (P := P) (w := w) (base := base) w_bounds D_check_rowX
  have D_can_be_steadyX := vd_can_be_steadyX (P := P) (w := w) (base := base) w_can_be_steady D_boundsX
  have D_simplestX := vd_simplestX (P := P) (w := w) (base := base) w_simplest D_boundsX
  have D_phase_forX := vd_phase_forX (P := P) (w := w) (base := base) w_phase_for D_simplestX
  have D_check_stepX := vd_check_stepX (P := P) (w := w) (base := base) w_check_step B R4.eG R4.eR c_MOST_TICKS D_is_whole D_is_within D_check_row D_check_rowX
  have D_gate_starts := vd_gate_starts (P := P) (w := w) (base := base) w_gate_starts B
  have M_init := vm_Counter_init (P := P) (w := w) (base := base) TC D_check_gates D_gate_starts
  have M_goX := vm_Counter_go_onX (P := P) (w := w) (base := base) TC D_check_stepX
  have D_do0X := vd__law_do0X (P := P) (w := w) (base := base) w__law_do R4.eB R4.kinds Dw D_countedX D_by_countX D_by_timeX D_sharperX
  have D_do1X := vd__law_do1X (P := P) (w := w) (base := base) w__law_do R4.eB R4.kinds Dw D_countedX D_by_countX D_by_timeX D_sharperX
  have D_do2X := vd__law_do2X (P := P) (w := w) (base := base) w__law_do R4.eB R4.kinds Dw D_countedX D_by_countX D_by_timeX D_sharperX
  have D_do3X := vd__law_do3X (P := P) (w := w) (base := base) w__law_do R4.eB R4.kinds Dw D_countedX D_by_countX D_by_timeX D_sharperX
  have D_do4X := vd__law_do4X (P := P) (w := w) (base := base) w__law_do R4.eB R4.kinds Dw D_in_gatesX D_lostX
  have D_do5X := vd__law_do5X (P := P) (w := w) (base := base) w__law_do R4.eB R4.kinds Dw D_in_gatesX D_lostX
  have D_do6X := vd__law_do6X (P := P) (w := w) (base := base) w__law_do R4.eB R4.kinds Dw D_to_nextX D_longest_waitX D_betweenX
  have D_do7X := vd__law_do7X (P := P) (w := w) (base := base) w__law_do R4.eB R4.kinds Dw D_to_nextX D_longest_waitX D_betweenX
  have D_do8X := vd__law_do8X (P := P) (w := w) (base := base) w__law_do R4.eB R4.kinds Dw D_to_nextX D_longest_waitX D_betweenX
  have D_do9X := vd__law_do9X (P := P) (w := w) (base := base) w__law_do R4.eB R4.kinds Dw D_gapsX D_boundsX D_can_be_steadyX D_simplestX D_phase_forX
  have D_do10X := vd__law_do10X (P := P) (w := w) (base := base) w__law_do R4.eB R4.kinds Dw D_gapsX D_boundsX D_can_be_steadyX D_simplestX D_phase_forX
  have D_do11X := vd__law_do11X (P := P) (w := w) (base := base) w__law_do R4.eB R4.kinds Dw D_gapsX D_boundsX D_can_be_steadyX D_simplestX D_phase_forX
  have D_do12X := vd__law_do12X (P := P) (w := w) (base := base) w__law_do R4.eB R4.kinds Dw D_gapsX D_boundsX D_can_be_steadyX D_simplestX D_phase_forX
  have D_do13X := vd__law_do13X (P := P) (w := w) (base := base) w__law_do R4.eB R4.kinds Dw D_gapsX D_boundsX D_can_be_steadyX D_simplestX D_phase_forX
  have D_do14X := vd__law_do14X (P := P) (w := w) (base := base) w__law_do R4.eB R4.kinds Dw TC M_init M_goX
  have D_do0 := vd__law_do0 (P := P) (w := w) (base := base) w__law_do R4.eB R4.kinds D_countedX D_by_countX D_by_timeX D_sharperX D_counted
  have D_do9 := vd__law_do9 (P := P) (w := w) (base := base) w__law_do R4.eB R4.kinds D_gapsX D_boundsX D_can_be_steadyX D_simplestX D_phase_forX D_gaps
  have D_places0 := vd__law_places0 (P := P) (w := w) (base := base) w__law_places B
  have D_places1 := vd__law_places1 (P := P) (w := w) (base := base) w__law_places B D_places0
  have D_put0 := vd__law_put0 (P := P) (w := w) (base := base) w__law_put
  have D_put1 := vd__law_put1 (P := P) (w := w) (base := base) w__law_put D_put0
  have D__law_spoilt_thing := vd__law_spoilt_thing (P := P) (w := w) (base := base) w__law_spoilt_thing B D__law_pick D_places1 D_put0 D_put1
  have ok := rowM_ok ns 10 (most := 12) (by decide) (by decide)
  have hi := rowM_hi ns 10 (most := 12) (by decide)
  refine bs_cons (s1_set 1 nd (ev_call D__law_row (hr.mono (by decide)) (ea_cons (ev_var 0 rfl) (ea_cons ev_int (ea_cons ev_int ea_nil star_con) star_con) star_nam) ⟨ns, 10, 12, rfl, by decide, by decide, by decide, rfl⟩) ?_)
  generalize rowM ns 10 12 = q at ok hi
  have hq := ok.len
  have hlen : ((q.map PyData.int).length : Int) = q.length := by rw [List.length_map]
  show BS _ _ [.dat (lI ns), .dat (tI q), .no, .no, .no, .no, .no, .no, .no, .no, .no, .no, .no, .no, .no, .no] _ _
  refine bs_cons (s1_setLc 2 [("_law_k", 3)] nd (xs := gapX q) (g := PyData.int) (f := fun _ => true) (kk := fun x : Int => .int (q.getD x.toNat 0 - q.getD (x - 1).toNat 0)) (by
    rw [show gapX q = (List.range (((q.map PyData.int).length : Int) - 1).toNat).map fun k : Nat => (1 : Int) + (k : Int) by unfold gapX; rw [List.length_map]; congr 2; omega]
    exact (ei_range2 B.range (ea_cons ev_int (ea_cons (ev_callB fn_lenT B.len (ea_cons (ev_var 1 rfl) ea_nil star_nam)) ea_nil star_call) star_con) ⟨by omega, by omega, by omega, by omega⟩).rng) (blkOk_by (own := [("_law_k", 3)]) (N := ["_law_script", "_law_row_here", "_law_due", "_law_k", "_law_start", "_law_length", "_law_tick", "_law_cut", "_law_parts", "_law_here", "_law_ticks", "_law_thing", "_law_told", "_law_what", "_law_some", "_law_odd"]) (sc := defScope s_law) (by decide +kernel)) (by rw [gapX_len]; exact fit40 (by omega)) (fun _ _ _ _ _ x hx => (gt_name 3 nd)) (fun _ _ _ _ _ x hx => ets_nil) (fun _ _ _ _ _ x hx hf => ?_) ?_)
  · obtain ⟨x0, x1⟩ := gapX_mem hx
    exact ev_op bin_sub (ev_ixT' (ev_var 1 rfl) (ev_var 3 rfl) (atI_getD (by omega) (by omega))) (ev_ixT' (ev_var 1 rfl) (ev_op bin_sub (ev_var 3 rfl) ev_int) (atI_getD (by omega) (by omega)))
  have eg : ((gapX q).filter fun _ => true).map (fun x : Int => PyData.int (q.getD x.toNat 0 - q.getD (x - 1).toNat 0)) = (gapsM q).map .int := gapX_eq q
  refine bs_frz 2 rfl ?_
  rw [eg]
  show BS _ _ [.dat (lI ns), .dat (tI q), .dat (lI (gapsM q)), .no, .no, .no, .no, .no, .no, .no, .no, .no, .no, .no, .no, .no] _ _
  refine bs_no (EW.et (ew_or (et_is (k' := false) (et_cmp cmp_notB (ev_call D_is_row (hr.mono (by decide)) (ea_cons (ev_var 1 rfl) ea_nil star_nam) ⟨_, rfl, rfl⟩) ev_bl) (by rw [isRowD_of ok]; rfl)) fun _ => (ew_or1 (et_is (k' := false) (et_cmp (cmp_neD hr.units (shapedInts _) (shapedInts _)) (ev_call D_do9 (hr.mono (by decide)) (ea_cons ev_int (ea_cons (ev_var 1 rfl) (ea_cons ev_non (ea_cons ev_non ea_nil star_con) star_con) star_nam) star_con) ⟨q, _, _, rfl, ok, rfl⟩).frz (ev_var 2 rfl)) (by rw [eqvL_ints]; simp))))) rfl ?_
  refine bs_cons (s1_forT (xs := (List.range 4).map fun k : Nat => (0 : Int) + (k : Int)) (g := PyData.int) (fun i ρ => ∃ x2 x3 x4 x5 x6 x7 x8 x9 x10 : Ow, ρ = [.dat (lI ns), .dat (tI q), x2, x3, x4, x5, x6, x7, x8, x9, x10, .no, .no, .no, .no, .no]) [3] (ei_range1 B.range (ea_cons ev_int ea_nil star_con) (by omega) (by omega)).rng ⟨_, _, _, _, _, _, _, _, _, rfl⟩ (fun i x ρ hx hI => ?_) (fun ρ hI => ?_))
  · obtain ⟨x2, x3, x4, x5, x6, x7, x8, x9, x10, rfl⟩ := hI
    obtain ⟨hi4, hx0⟩ := rng_at hx
    have y0 : 0 ≤ x := by omega
    have y1 : x < 4 := by omega
    clear hx hx0 hi4
    refine ⟨_, (gt_name 3 nd), ?_⟩
    show BS _ _ [.dat (lI ns), .dat (tI q), x2, .dat (.int x), x4, x5, x6, x7, x8, x9, x10, .no, .no, .no, .no, .no] _ _
    obtain ⟨m1, hm1, m10, m11⟩ : ∃ m : Int, atI [PyData.int 40, .int 300] (x % 2) = some (.int m) ∧ 40 ≤ m ∧ m ≤ 300 := by
      have : x % 2 = 0 ∨ x % 2 = 1 := by omega
      rcases this with e | e
      · rw [e]; exact ⟨40, rfl, by decide, by decide⟩
      · rw [e]; exact ⟨300, rfl, by decide, by decide⟩
    obtain ⟨m2, hm2, m20, m21⟩ : ∃ m : Int, atI [PyData.int 5, .int 200] (x % 2) = some (.int m) ∧ 5 ≤ m ∧ m ≤ 200 := by
      have : x % 2 = 0 ∨ x % 2 = 1 := by omega
      rcases this with e | e
      · rw [e]; exact ⟨5, rfl, by decide, by decide⟩
      · rw [e]; exact ⟨200, rfl, by decide, by decide⟩
    have s0 := pick_lo ns (40 + 4 * x) (m := m1) (by omega)
    have s1 := pick_hi ns (40 + 4 * x) (m := m1) (by omega)
    have l0 := pick_lo ns (41 + 4 * x) (m := m2) (by omega)
    have l1 := pick_hi ns (41 + 4 * x) (m := m2) (by omega)
    refine bs_cons (s1_set 4 nd (ev_call D__law_pick (hr.mono (by decide)) (ea_cons (ev_var 0 rfl) (ea_cons (ev_op bin_add ev_int (ev_op (bin_mul (by first | exact .inl ⟨by omega, by omega⟩ | exact .inr ⟨by omega, by omega⟩)) ev_int (ev_var 3 rfl))) (ea_cons (ev_ixL (ev_lst (ea_cons ev_int (ea_cons ev_int ea_nil star_con) star_con) (by show 2 ≤ sizeLine; decide)).frz (ev_op (bin_mod (by omega)) (ev_var 3 rfl) ev_int) hm1) ea_nil star_sub) star_bin) star_nam) ⟨_, _, _, rfl, by omega, by omega, rfl⟩) ?_)
    refine bs_cons (s1_set 5 nd (ev_op bin_add ev_int (ev_call D__law_pick (hr.mono (by decide)) (ea_cons (ev_var 0 rfl) (ea_cons (ev_op bin_add ev_int (ev_op (bin_mul (by first | exact .inl ⟨by omega, by omega⟩ | exact .inr ⟨by omega, by omega⟩)) ev_int (ev_var 3 rfl))) (ea_cons (ev_ixL (ev_lst (ea_cons ev_int (ea_cons ev_int ea_nil star_con) star_con) (by show 2 ≤ sizeLine; decide)).frz (ev_op (bin_mod (by omega)) (ev_var 3 rfl) ev_int) hm2) ea_nil star_sub) star_bin) star_nam) ⟨_, _, _, rfl, by omega, by omega, rfl⟩)) ?_)
    generalize pick ns (40 + 4 * x) m1 = st at s0 s1
    generalize hln : 1 + pick ns (41 + 4 * x) m2 = ln
    have n0 : 1 ≤ ln := by omega
    have n1 : ln ≤ 200 := by omega
    refine bs_cons (s1_set 2 nd ev_int ?_)
    show BS _ _ [.dat (lI ns), .dat (tI q), .dat (.int 0), .dat (.int x), .dat (.int st), .dat (.int ln), x6, x7, x8, x9, x10, .no, .no, .no, .no, .no] _ _
    refine bs_cons (s1_forT (xs := (List.range (st + ln - st).toNat).map fun k : Nat => st + (k : Int)) (g := PyData.int) (fun i ρ => ∃ x6 : Ow, ρ = [.dat (lI ns), .dat (tI q), .dat (.int ((fromTo q st (st + (i : Int))).length : Nat)), .dat (.int x), .dat (.int st), .dat (.int ln), x6, x7, x8, x9, x10, .no, .no, .no, .no, .no]) [6] (ei_range2 B.range (ea_cons (ev_var 4 rfl) (ea_cons (ev_op bin_add (ev_var 4 rfl) (ev_var 5 rfl)) ea_nil star_bin) star_nam) ⟨by omega, by omega, by omega, by omega⟩).rng ⟨_, by rw [fromTo_0]; rfl⟩ (fun i y ρ hy hI => ?_) (fun ρ hI => ?_))
    · obtain ⟨x6, rfl⟩ := hI
      obtain ⟨_, hy0⟩ := rng_at hy
      refine ⟨_, (gt_name 6 nd), ?_⟩
      refine bs_cons (s1_set 2 nd (ev_op bin_add (ev_var 2 rfl) (ev_countT (ev_var 1 rfl) (ev_var 6 rfl) star_nam)) (bs_nil ⟨.dat (.int y), ?_⟩))
      rw [fromTo_step q st i, hy0]
      rfl
    obtain ⟨x6', rfl⟩ := hI
    have c0 := pick_lo ns (42 + 4 * x) (m := ln) (by omega)
    have c1 := pick_hi ns (42 + 4 * x) (m := ln) (by omega)
    have el : ((((List.range (st + ln - st).toNat).map fun k : Nat => st + (k : Int)).length : Nat) : Int) = ln := by rw [List.length_map, List.length_range]; omega
    rw [el]
    show BS _ _ [.dat (lI ns), .dat (tI q), .dat (.int ((inGate q st ln).length : Nat)), .dat (.int x), .dat (.int st), .dat (.int ln), x6', x7, x8, x9, x10, .no, .no, .no, .no, .no] _ _
    refine bs_cons (s1_set 7 nd (ev_call D__law_pick (hr.mono (by decide)) (ea_cons (ev_var 0 rfl) (ea_cons (ev_op bin_add ev_int (ev_op (bin_mul (by first | exact .inl ⟨by omega, by omega⟩ | exact .inr ⟨by omega, by omega⟩)) ev_int (ev_var 3 rfl))) (ea_cons (ev_var 5 rfl) ea_nil star_nam) star_bin) star_nam) ⟨_, _, _, rfl, by omega, by omega, rfl⟩) ?_)
    generalize pick ns (42 + 4 * x) ln = ct at c0 c1
    refine bs_no (et_cmp cmp_ne (ev_call D_do0 (hr.mono (by decide)) (ea_cons ev_int (ea_cons (ev_var 1 rfl) (ea_cons (ev_var 4 rfl) (ea_cons (ev_var 5 rfl) ea_nil star_nam) star_nam) star_nam) star_con) ⟨q, st, ln, rfl, ok, by omega, by omega, by omega, by omega, rfl⟩) (ev_var 2 rfl)) (by simp) ?_
    obtain ⟨pts, hpts⟩ : ∃ pts : List (Int × Int), pts = if 0 < ct then [(st, ct), (st + ct, ln - ct)] else [(st, ln)] := ⟨_, rfl⟩
    refine bs_cons (s1_set (ρ1 := [.dat (lI ns), .dat (tI q), .dat (.int ((inGate q st ln).length : Nat)), .dat (.int x), .dat (.int st), .dat (.int ln), x6', .dat (.int ct), x8, x9, x10, .no, .no, .no, .no, .no]) (s := .dat (.list (pts.map prI))) 8 nd ?_ ?_)
    · by_cases hc : 0 < ct
      · rw [if_pos hc] at hpts
        subst hpts
        exact ev_if (k := true) (et_is (et_cmp cmp_gt (ev_var 7 rfl) ev_int) (decide_eq_true hc)) (fun _ => (ev_lst (ea_cons (ev_tup (ea_cons (ev_var 4 rfl) (ea_cons (ev_var 7 rfl) ea_nil star_nam) star_nam) (by show 2 ≤ sizeLine; decide)) (ea_cons (ev_tup (ea_cons (ev_op bin_add (ev_var 4 rfl) (ev_var 7 rfl)) (ea_cons (ev_op bin_sub (ev_var 5 rfl) (ev_var 7 rfl)) ea_nil star_bin) star_bin) (by show 2 ≤ sizeLine; decide)) ea_nil star_tup) star_tup) (by show 2 ≤ sizeLine; decide)).frz) (fun h => nomatch h)
      · rw [if_neg hc] at hpts
        subst hpts
        exact ev_if (k := false) (et_is (et_cmp cmp_gt (ev_var 7 rfl) ev_int) (decide_eq_false hc)) (fun h => nomatch h) (fun _ => (ev_lst (ea_cons (ev_tup (ea_cons (ev_var 4 rfl) (ea_cons (ev_var 5 rfl) ea_nil star_nam) star_nam) (by show 2 ≤ sizeLine; decide)) ea_nil star_tup) (by show 1 ≤ sizeLine; decide)).frz)
    obtain ⟨hb, hs, hz⟩ := parts_ok (q := q) (st := st) (ln := ln) (ct := ct) s0 (by omega) n0 (by omega) c0 c1 hpts
    show BS _ _ [.dat (lI ns), .dat (tI q), .dat (.int ((inGate q st ln).length : Nat)), .dat (.int x), .dat (.int st), .dat (.int ln), x6', .dat (.int ct), .dat (.list (pts.map prI)), x9, x10, .no, .no, .no, .no, .no] _ _
    refine bs_no (et_cmp cmp_ne (ev_callB fn_sumL B.sum (ea_cons (ev_lcM (xs := pts) (g := prI) (k := fun p => .int ((fun p : Int × Int => ((inGate q p.1 p.2).length : Int)) p)) [("_law_here", 9), ("_law_ticks", 10)] nd (ei_list (ev_var 8 rfl)) (blkOk_by (own := [("_law_here", 9), ("_law_ticks", 10)]) (N := ["_law_script", "_law_row_here", "_law_due", "_law_k", "_law_start", "_law_length", "_law_tick", "_law_cut", "_law_parts", "_law_here", "_law_ticks", "_law_thing", "_law_told", "_law_what", "_law_some", "_law_odd"]) (sc := defScope s_law) (by decide +kernel)) (fit40 (by omega)) (fun _ _ _ _ _ p hp => (gt_tup (ds := [.int p.1, .int p.2]) rfl (gts_cons (gt_name 9 nd) (gts_cons (gt_name 10 nd) gts_nil)))) (fun _ _ _ _ _ p hp => (ev_call D_counted (hr.mono (by decide)) (ea_cons (ev_var 1 rfl) (ea_cons (ev_var 9 rfl) (ea_cons (ev_var 10 rfl) ea_nil star_nam) star_nam) star_nam) ⟨q, p.1, p.2, rfl, ok, (hb p hp).1, (hb p hp).2.1, (hb p hp).2.2.1, (hb p hp).2.2.2, rfl⟩))).ints.frz ea_nil star_lc)) (ev_var 2 rfl)) (by rw [hs]; simp) ?_
    exact bs_nil ⟨_, _, _, _, _, _, _, _, _, rfl⟩
  obtain ⟨x2, x3, x4, x5, x6, x7, x8, x9, x10, rfl⟩ := hI
  refine bs_cons (s1_forT (xs := (List.range 8).map fun k : Nat => (0 : Int) + (k : Int)) (g := PyData.int) (fun i ρ => ∃ x2 x3 x4 x5 x6 x7 x8 x9 x10 x11 x12 x13 : Ow, ρ = [.dat (lI ns), .dat (tI q), x2, x3, x4, x5, x6, x7, x8, x9, x10, x11, x12, x13, .no, .no]) [3] (ei_range1 B.range (ea_cons ev_int ea_nil star_con) (by omega) (by omega)).rng ⟨_, _, _, _, _, _, _, _, _, _, _, _, rfl⟩ (fun i x ρ hx hI => ?_) (fun ρ hI => ?_))
  · obtain ⟨x2, x3, x4, x5, x6, x7, x8, x9, x10, x11, x12, x13, rfl⟩ := hI
    obtain ⟨hi8, hx0⟩ := rng_at hx
    have y0 : 0 ≤ x := by omega
    have y1 : x < 8 := by omega
    clear hx hx0 hi8
    refine ⟨_, (gt_name 3 nd), ?_⟩
    show BS _ _ [.dat (lI ns), .dat (tI q), x2, .dat (.int x), x4, x5, x6, x7, x8, x9, x10, x11, x12, x13, .no, .no] _ _
    refine bs_cons (s1_set 11 nd (ev_call D__law_spoilt_thing (hr.mono (by decide)) (ea_cons (ev_var 0 rfl) (ea_cons (ev_op bin_add ev_int (ev_op (bin_mul (by first | exact .inl ⟨by omega, by omega⟩ | exact .inr ⟨by omega, by omega⟩)) ev_int (ev_var 3 rfl))) (ea_cons (ev_var 1 rfl) ea_nil star_nam) star_bin) star_nam) ⟨ns, _, q, rfl, by omega, ok, rfl⟩) ?_)
    have hsh := spoil_shaped ns (100 + 10 * x) ok
    generalize spoilM ns (100 + 10 * x) q = th at hsh
    refine bs_cons (s1_set 12 nd (ev_call D_is_row (hr.mono (by decide)) (ea_cons (ev_var 11 rfl) ea_nil star_nam) ⟨_, rfl, rfl⟩) ?_)
    show BS _ _ [.dat (lI ns), .dat (tI q), x2, .dat (.int x), x4, x5, x6, x7, x8, x9, x10, .dat th, .dat (.bool (isRowD th)), x13, .no, .no] _ _
    have ok0 : RowOk [] := ⟨by decide, by decide, by decide⟩
    refine bs_no (EW.et (ew_or (et_is (k' := false) (et_cmp cmp_neb (ev_var 12 rfl) (ev_call D__law_is_row (hr.mono (by decide)) (ea_cons (ev_var 11 rfl) ea_nil star_nam) ⟨_, rfl, hsh, rfl⟩)) (by simp)) fun _ => (ew_or1 (et_is (k' := false) (et_not (et_val (ev_isD (c := "bool") B.isinstance B.bool (ev_var 12 rfl)))) (by simp [isD]))))) rfl ?_
    refine bs_no (EW.et (ew_and (k' := false) (et_not (et_val (ev_var 12 rfl))) fun h => ?_)) (by simp) ?_
    · have hb : isRowD th = false := by simpa using h
      refine ew_and1 (et_is (k' := false) (et_cmp (cmp_neD hr.units (by decide +kernel) (by decide +kernel)) (ev_lcM (xs := (List.range 15).map fun k : Nat => (0 : Int) + (k : Int)) (g := PyData.int) (k := fun _ => .str "no row") [("_law_what", 13)] nd (ei_range1 B.range (ea_cons ev_int ea_nil star_con) (by omega) (by omega)).rng (blkOk_by (own := [("_law_what", 13)]) (N := ["_law_script", "_law_row_here", "_law_due", "_law_k", "_law_start", "_law_length", "_law_tick", "_law_cut", "_law_parts", "_law_here", "_law_ticks", "_law_thing", "_law_told", "_law_what", "_law_some", "_law_odd"]) (sc := defScope s_law) (by decide +kernel)) (by show 15 < sizeLine; decide) (fun _ _ _ _ _ x hx => (gt_name 13 nd)) (fun _ _ _ _ _ x hx => ?_)).frz (ev_rep1 ⟨by decide, by decide, by show 15 ≤ sizeLine; decide⟩ (ev_lst (ea_cons ev_str ea_nil star_con) (by show 1 ≤ sizeLine; decide)) ev_int).frz) (by decide +kernel))
      have hw := up15 hx
      rcases hw with rfl | rfl | rfl | rfl | rfl | rfl | rfl | rfl | rfl | rfl | rfl | rfl | rfl | rfl | rfl
      · exact ev_call D_do0X (hr.mono (by decide)) (ea_cons (ev_var 13 rfl) (ea_cons (ev_var 11 rfl) (ea_cons (ev_tup ea_nil (by show 0 ≤ sizeLine; decide)) (ea_cons ev_non ea_nil star_con) star_tup) star_nam) star_nam) ⟨th, .tuple [], .none, _, _, rfl, .inl ⟨hb, rfl⟩, ⟨2, rfl, rfl⟩, rfl⟩
      · exact ev_call D_do1X (hr.mono (by decide)) (ea_cons (ev_var 13 rfl) (ea_cons (ev_var 11 rfl) (ea_cons (ev_tup ea_nil (by show 0 ≤ sizeLine; decide)) (ea_cons ev_non ea_nil star_con) star_tup) star_nam) star_nam) ⟨th, .tuple [], .none, _, _, rfl, .inl ⟨hb, rfl⟩, ⟨2, rfl, rfl⟩, rfl⟩
      · exact ev_call D_do2X (hr.mono (by decide)) (ea_cons (ev_var 13 rfl) (ea_cons (ev_var 11 rfl) (ea_cons (ev_tup ea_nil (by show 0 ≤ sizeLine; decide)) (ea_cons ev_non ea_nil star_con) star_tup) star_nam) star_nam) ⟨th, .tuple [], .none, _, _, rfl, .inl ⟨hb, rfl⟩, ⟨2, rfl, rfl⟩, rfl⟩
      · exact ev_call D_do3X (hr.mono (by decide)) (ea_cons (ev_var 13 rfl) (ea_cons (ev_var 11 rfl) (ea_cons (ev_tup ea_nil (by show 0 ≤ sizeLine; decide)) (ea_cons ev_non ea_nil star_con) star_tup) star_nam) star_nam) ⟨th, .tuple [], .none, _, _, rfl, .inl ⟨hb, rfl⟩, ⟨2, rfl, rfl⟩, rfl⟩
      · exact ev_call D_do4X (hr.mono (by decide)) (ea_cons (ev_var 13 rfl) (ea_cons (ev_var 11 rfl) (ea_cons (ev_tup ea_nil (by show 0 ≤ sizeLine; decide)) (ea_cons ev_non ea_nil star_con) star_tup) star_nam) star_nam) ⟨th, .tuple [], .none, _, _, rfl, .inl ⟨hb, rfl⟩, ⟨2, rfl, rfl⟩, rfl⟩
      · exact ev_call D_do5X (hr.mono (by decide)) (ea_cons (ev_var 13 rfl) (ea_cons (ev_var 11 rfl) (ea_cons (ev_tup ea_nil (by show 0 ≤ sizeLine; decide)) (ea_cons ev_non ea_nil star_con) star_tup) star_nam) star_nam) ⟨th, .tuple [], .none, _, _, rfl, .inl ⟨hb, rfl⟩, ⟨2, rfl, rfl⟩, rfl⟩
      · exact ev_call D_do6X (hr.mono (by decide)) (ea_cons (ev_var 13 rfl) (ea_cons (ev_var 11 rfl) (ea_cons (ev_tup ea_nil (by show 0 ≤ sizeLine; decide)) (ea_cons ev_non ea_nil star_con) star_tup) star_nam) star_nam) ⟨th, .tuple [], .none, _, _, rfl, ⟨.inr ⟨[], rfl, ok0, hb⟩, rfl⟩, ⟨2, rfl, rfl⟩, rfl⟩
      · exact ev_call D_do7X (hr.mono (by decide)) (ea_cons (ev_var 13 rfl) (ea_cons (ev_var 11 rfl) (ea_cons (ev_tup ea_nil (by show 0 ≤ sizeLine; decide)) (ea_cons ev_non ea_nil star_con) star_tup) star_nam) star_nam) ⟨th, .tuple [], .none, _, _, rfl, ⟨.inr ⟨[], rfl, ok0, hb⟩, rfl⟩, ⟨2, rfl, rfl⟩, rfl⟩
      · exact ev_call D_do8X (hr.mono (by decide)) (ea_cons (ev_var 13 rfl) (ea_cons (ev_var 11 rfl) (ea_cons (ev_tup ea_nil (by show 0 ≤ sizeLine; decide)) (ea_cons ev_non ea_nil star_con) star_tup) star_nam) star_nam) ⟨th, .tuple [], .none, _, _, rfl, ⟨.inr ⟨[], rfl, ok0, hb⟩, rfl⟩, ⟨2, rfl, rfl⟩, rfl⟩
      · exact ev_call D_do9X (hr.mono (by decide)) (ea_cons (ev_var 13 rfl) (ea_cons (ev_var 11 rfl) (ea_cons (ev_tup ea_nil (by show 0 ≤ sizeLine; decide)) (ea_cons ev_non ea_nil star_con) star_tup) star_nam) star_nam) ⟨th, .tuple [], .none, _, _, rfl, ⟨hb, rfl⟩, ⟨2, rfl, rfl⟩, rfl⟩
      · exact ev_call D_do10X (hr.mono (by decide)) (ea_cons (ev_var 13 rfl) (ea_cons (ev_var 11 rfl) (ea_cons (ev_tup ea_nil (by show 0 ≤ sizeLine; decide)) (ea_cons ev_non ea_nil star_con) star_tup) star_nam) star_nam) ⟨th, .tuple [], .none, _, _, rfl, ⟨hb, rfl⟩, ⟨2, rfl, rfl⟩, rfl⟩
      · exact ev_call D_do11X (hr.mono (by decide)) (ea_cons (ev_var 13 rfl) (ea_cons (ev_var 11 rfl) (ea_cons (ev_tup ea_nil (by show 0 ≤ sizeLine; decide)) (ea_cons ev_non ea_nil star_con) star_tup) star_nam) star_nam) ⟨th, .tuple [], .none, _, _, rfl, ⟨hb, rfl⟩, ⟨2, rfl, rfl⟩, rfl⟩
      · exact ev_call D_do12X (hr.mono (by decide)) (ea_cons (ev_var 13 rfl) (ea_cons (ev_var 11 rfl) (ea_cons (ev_tup ea_nil (by show 0 ≤ sizeLine; decide)) (ea_cons ev_non ea_nil star_con) star_tup) star_nam) star_nam) ⟨th, .tuple [], .none, _, _, rfl, ⟨hb, rfl⟩, ⟨2, rfl, rfl⟩, rfl⟩
      · exact ev_call D_do13X (hr.mono (by decide)) (ea_cons (ev_var 13 rfl) (ea_cons (ev_var 11 rfl) (ea_cons (ev_tup ea_nil (by show 0 ≤ sizeLine; decide)) (ea_cons ev_non ea_nil star_con) star_tup) star_nam) star_nam) ⟨th, .tuple [], .none, _, _, rfl, ⟨hb, rfl⟩, ⟨2, rfl, rfl⟩, rfl⟩
      · exact ev_call D_do14X (hr.mono (by decide)) (ea_cons (ev_var 13 rfl) (ea_cons (ev_var 11 rfl) (ea_cons (ev_tup ea_nil (by show 0 ≤ sizeLine; decide)) (ea_cons ev_non ea_nil star_con) star_tup) star_nam) star_nam) ⟨th, .tuple [], .none, _, _, rfl, ⟨hb, rfl⟩, ⟨2, rfl, rfl⟩, rfl⟩
    refine bs_no (EW.et (ew_and (k' := false) (et_not (et_val (ev_var 12 rfl))) fun h => ?_)) (by simp) ?_
    · have hb : isRowD th = false := by simpa using h
      refine ew_and1 (et_is (k' := false) (et_cmp (cmp_neD hr.units (by decide +kernel) (by decide +kernel)) (ev_lcM (xs := [(6 : Int), 7, 8]) (g := PyData.int) (k := fun _ => .str "no row") [("_law_what", 13)] nd (ei_tup (ev_tup (ea_cons ev_int (ea_cons ev_int (ea_cons ev_int ea_nil star_con) star_con) star_con) (by show 3 ≤ sizeLine; decide))) (blkOk_by (own := [("_law_what", 13)]) (N := ["_law_script", "_law_row_here", "_law_due", "_law_k", "_law_start", "_law_length", "_law_tick", "_law_cut", "_law_parts", "_law_here", "_law_ticks", "_law_thing", "_law_told", "_law_what", "_law_some", "_law_odd"]) (sc := defScope s_law) (by decide +kernel)) (by show 3 < sizeLine; decide) (fun _ _ _ _ _ x hx => (gt_name 13 nd)) (fun _ _ _ _ _ x hx => ?_)).frz (ev_rep1 ⟨by decide, by decide, by show 3 ≤ sizeLine; decide⟩ (ev_lst (ea_cons ev_str ea_nil star_con) (by show 1 ≤ sizeLine; decide)) ev_int).frz) (by decide +kernel))
      have hw : x = 6 ∨ x = 7 ∨ x = 8 := by simpa using hx
      rcases hw with rfl | rfl | rfl
      · exact ev_call D_do6X (hr.mono (by decide)) (ea_cons (ev_var 13 rfl) (ea_cons (ev_tup ea_nil (by show 0 ≤ sizeLine; decide)) (ea_cons (ev_var 11 rfl) (ea_cons ev_non ea_nil star_con) star_nam) star_tup) star_nam) ⟨.tuple [], th, .none, _, _, rfl, ⟨.inl hb, rfl⟩, ⟨2, rfl, rfl⟩, rfl⟩
      · exact ev_call D_do7X (hr.mono (by decide)) (ea_cons (ev_var 13 rfl) (ea_cons (ev_tup ea_nil (by show 0 ≤ sizeLine; decide)) (ea_cons (ev_var 11 rfl) (ea_cons ev_non ea_nil star_con) star_nam) star_tup) star_nam) ⟨.tuple [], th, .none, _, _, rfl, ⟨.inl hb, rfl⟩, ⟨2, rfl, rfl⟩, rfl⟩
      · exact ev_call D_do8X (hr.mono (by decide)) (ea_cons (ev_var 13 rfl) (ea_cons (ev_tup ea_nil (by show 0 ≤ sizeLine; decide)) (ea_cons (ev_var 11 rfl) (ea_cons ev_non ea_nil star_con) star_nam) star_tup) star_nam) ⟨.tuple [], th, .none, _, _, rfl, ⟨.inl hb, rfl⟩, ⟨2, rfl, rfl⟩, rfl⟩
    exact bs_nil ⟨_, _, _, _, _, _, _, _, _, _, _, _, rfl⟩
  obtain ⟨x2, x3, x4, x5, x6, x7, x8, x9, x10, x11, x12, x13, rfl⟩ := hI
  refine bs_cons (s1_set 14 nd (ev_lst (ea_cons (ev_tup ea_nil (by show 0 ≤ sizeLine; decide)) (ea_cons (ev_tuprange B.tuple B.range (ea_cons ev_int ea_nil star_con) (by decide)) (ea_cons (ev_tup (ea_cons ev_int (ea_cons ev_int ea_nil star_con) star_con) (by show 2 ≤ sizeLine; decide)) (ea_cons (ev_tuprange B.tuple B.range (ea_cons ev_int ea_nil star_con) (by decide)) (ea_cons (ev_tup (ea_cons ev_int (ea_cons ev_int ea_nil star_con) star_con) (by show 2 ≤ sizeLine; decide)) (ea_cons (ev_tup (ea_cons ev_int (ea_cons ev_int ea_nil star_con) star_con) (by show 2 ≤ sizeLine; decide)) (ea_cons (ev_tup (ea_cons (ev_neg ev_int) ea_nil star_un) (by show 1 ≤ sizeLine; decide)) (ea_cons (ev_tup (ea_cons ev_int ea_nil star_con) (by show 1 ≤ sizeLine; decide)) (ea_cons (ev_lst (ea_cons ev_int ea_nil star_con) (by show 1 ≤ sizeLine; decide)).frz ea_nil star_lst) star_tup) star_tup) star_tup) star_tup) star_call) star_tup) star_call) star_tup) (by show 9 ≤ sizeLine; decide)) ?_)
  refine bs_cons (s1_extend 14 rfl (ev_lst (ea_cons (ev_tup (ea_cons ev_bl ea_nil star_con) (by show 1 ≤ sizeLine; decide)) (ea_cons ev_non (ea_cons ev_str ea_nil star_con) star_con) star_tup) (by show 3 ≤ sizeLine; decide)) (by show 9 + 3 ≤ sizeLine; decide) ?_ star_lst)
  refine bs_frz 14 rfl ?_
  show BS _ _ [.dat (lI ns), .dat (tI q), x2, x3, x4, x5, x6, x7, x8, x9, x10, x11, x12, x13, .dat (.list someL), .no] _ _
  refine bs_no (et_is (k' := false) (et_cmp (cmp_neD hr.units (by decide +kernel) (by decide +kernel)) (ev_lcM (xs := someL) (g := fun x => x) (k := fun x => .bool (isRowD x)) [("_law_thing", 11)] nd (ei_list (by rw [List.map_id']; exact ev_var 14 rfl)) (blkOk_by (own := [("_law_thing", 11)]) (N := ["_law_script", "_law_row_here", "_law_due", "_law_k", "_law_start", "_law_length", "_law_tick", "_law_cut", "_law_parts", "_law_here", "_law_ticks", "_law_thing", "_law_told", "_law_what", "_law_some", "_law_odd"]) (sc := defScope s_law) (by decide +kernel)) (by show 12 < sizeLine; decide) (fun _ _ _ _ _ x hx => (gt_name 11 nd)) (fun _ _ _ _ _ x hx => (ev_call D_is_row (hr.mono (by decide)) (ea_cons (ev_var 11 rfl) ea_nil star_nam) ⟨_, rfl, rfl⟩))).frz (ev_cat (by show 3 + 9 ≤ sizeLine; decide) (ev_rep1 ⟨by decide, by decide, by show 3 ≤ sizeLine; decide⟩ (ev_lst (ea_cons ev_bl ea_nil star_con) (by show 1 ≤ sizeLine; decide)) ev_int) (ev_rep1 ⟨by decide, by decide, by show 9 ≤ sizeLine; decide⟩ (ev_lst (ea_cons ev_bl ea_nil star_con) (by show 1 ≤ sizeLine; decide)) ev_int)).frz) (by decide +kernel)) rfl ?_
  refine bs_cons (s1_set 15 nd (ev_lst (ea_cons (ev_tup (ea_cons (ev_neg ev_int) (ea_cons ev_int ea_nil star_con) star_un) (by show 2 ≤ sizeLine; decide)) (ea_cons (ev_tup (ea_cons ev_int (ea_cons ev_int ea_nil star_con) star_con) (by show 2 ≤ sizeLine; decide)) (ea_cons (ev_tup (ea_cons ev_int (ea_cons ev_int ea_nil star_con) star_con) (by show 2 ≤ sizeLine; decide)) (ea_cons (ev_tup (ea_cons ev_int (ea_cons ev_int ea_nil star_con) star_con) (by show 2 ≤ sizeLine; decide)) (ea_cons (ev_tup (ea_cons ev_non (ea_cons ev_int ea_nil star_con) star_con) (by show 2 ≤ sizeLine; decide)) (ea_cons (ev_tup (ea_cons ev_int (ea_cons ev_non ea_nil star_con) star_con) (by show 2 ≤ sizeLine; decide)) (ea_cons (ev_tup (ea_cons ev_bl (ea_cons ev_int ea_nil star_con) star_con) (by show 2 ≤ sizeLine; decide)) (ea_cons (ev_tup (ea_cons ev_int (ea_cons ev_bl ea_nil star_con) star_con) (by show 2 ≤ sizeLine; decide)) (ea_cons (ev_tup (ea_cons ev_str (ea_cons ev_int ea_nil star_con) star_con) (by show 2 ≤ sizeLine; decide)) ea_nil star_tup) star_tup) star_tup) star_tup) star_tup) star_tup) star_tup) star_tup) star_tup) (by show 9 ≤ sizeLine; decide)).frz ?_)
  show BS _ _ [.dat (lI ns), .dat (tI q), x2, x3, x4, x5, x6, x7, x8, x9, x10, x11, x12, x13, .dat (.list someL), .dat (.list (oddP.map fun p => .tuple [p.1, p.2]))] _ _
  refine bs_cons (s1_forT (xs := oddP) (g := fun p => .tuple [p.1, p.2]) (fun i ρ => ∃ x4 x5 : Ow, ρ = [.dat (lI ns), .dat (tI q), x2, x3, x4, x5, x6, x7, x8, x9, x10, x11, x12, x13, .dat (.list someL), .dat (.list (oddP.map fun p => .tuple [p.1, p.2]))]) [4, 5] (ei_list (ev_var 15 rfl)) ⟨_, _, rfl⟩ (fun i p ρ hp hI => ?_) (fun ρ hI => ?_))
  · obtain ⟨x4, x5, rfl⟩ := hI
    have hno := odd_no p (List.mem_of_getElem? hp)
    refine ⟨_, (gt_tup (ds := [p.1, p.2]) rfl (gts_cons (gt_name 4 nd) (gts_cons (gt_name 5 nd) gts_nil))), ?_⟩
    refine bs_no (et_is (k' := false) (et_cmp (cmp_neD hr.units (by decide +kernel) (by decide +kernel)) (ev_lcM (xs := (List.range 6).map fun k : Nat => (0 : Int) + (k : Int)) (g := PyData.int) (k := fun _ => .str "no gate") [("_law_what", 13)] nd (ei_range1 B.range (ea_cons ev_int ea_nil star_con) (by omega) (by omega)).rng (blkOk_by (own := [("_law_what", 13)]) (N := ["_law_script", "_law_row_here", "_law_due", "_law_k", "_law_start", "_law_length", "_law_tick", "_law_cut", "_law_parts", "_law_here", "_law_ticks", "_law_thing", "_law_told", "_law_what", "_law_some", "_law_odd"]) (sc := defScope s_law) (by decide +kernel)) (by show 6 < sizeLine; decide) (fun _ _ _ _ _ x hx => (gt_name 13 nd)) (fun _ _ _ _ _ x hx => ?_)).frz (ev_rep1 ⟨by decide, by decide, by show 6 ≤ sizeLine; decide⟩ (ev_lst (ea_cons ev_str ea_nil star_con) (by show 1 ≤ sizeLine; decide)) ev_int).frz) (by decide +kernel)) rfl (bs_nil ⟨_, _, rfl⟩)
    · have hw := up6 hx
      rcases hw with rfl | rfl | rfl | rfl | rfl | rfl
      · exact ev_call D_do0X (hr.mono (by decide)) (ea_cons (ev_var 13 rfl) (ea_cons (ev_var 1 rfl) (ea_cons (ev_var 4 rfl) (ea_cons (ev_var 5 rfl) ea_nil star_nam) star_nam) star_nam) star_nam) ⟨tI q, p.1, p.2, _, _, rfl, .inr ⟨q, rfl, ok, hno, rfl⟩, ⟨0, rfl, rfl⟩, rfl⟩
      · exact ev_call D_do1X (hr.mono (by decide)) (ea_cons (ev_var 13 rfl) (ea_cons (ev_var 1 rfl) (ea_cons (ev_var 4 rfl) (ea_cons (ev_var 5 rfl) ea_nil star_nam) star_nam) star_nam) star_nam) ⟨tI q, p.1, p.2, _, _, rfl, .inr ⟨q, rfl, ok, hno, rfl⟩, ⟨0, rfl, rfl⟩, rfl⟩
      · exact ev_call D_do2X (hr.mono (by decide)) (ea_cons (ev_var 13 rfl) (ea_cons (ev_var 1 rfl) (ea_cons (ev_var 4 rfl) (ea_cons (ev_var 5 rfl) ea_nil star_nam) star_nam) star_nam) star_nam) ⟨tI q, p.1, p.2, _, _, rfl, .inr ⟨q, rfl, ok, hno, rfl⟩, ⟨0, rfl, rfl⟩, rfl⟩
      · exact ev_call D_do3X (hr.mono (by decide)) (ea_cons (ev_var 13 rfl) (ea_cons (ev_var 1 rfl) (ea_cons (ev_var 4 rfl) (ea_cons (ev_var 5 rfl) ea_nil star_nam) star_nam) star_nam) star_nam) ⟨tI q, p.1, p.2, _, _, rfl, .inr ⟨q, rfl, ok, hno, rfl⟩, ⟨0, rfl, rfl⟩, rfl⟩
      · exact ev_call D_do4X (hr.mono (by decide)) (ea_cons (ev_var 13 rfl) (ea_cons (ev_var 1 rfl) (ea_cons (ev_var 4 rfl) (ea_cons (ev_var 5 rfl) ea_nil star_nam) star_nam) star_nam) star_nam) ⟨tI q, p.1, p.2, _, _, rfl, .inr ⟨q, rfl, ok, hno, rfl⟩, ⟨0, rfl, rfl⟩, rfl⟩
      · exact ev_call D_do5X (hr.mono (by decide)) (ea_cons (ev_var 13 rfl) (ea_cons (ev_var 1 rfl) (ea_cons (ev_var 4 rfl) (ea_cons (ev_var 5 rfl) ea_nil star_nam) star_nam) star_nam) star_nam) ⟨tI q, p.1, p.2, _, _, rfl, .inr ⟨q, rfl, ok, hno, rfl⟩, ⟨0, rfl, rfl⟩, rfl⟩
  obtain ⟨x4', x5', rfl⟩ := hI
  have ok2 : RowOk [0, 9999] := ⟨by decide, by decide, by decide⟩
  have ok3 : RowOk [5, 6] := ⟨by decide, by decide, by decide⟩
  refine bs_ret (ev_cmp (cmp_eqD hr.units (shapedInts [_, _, _]) (shapedInts [_, _, _])) (ev_lst (ea_cons (ev_call D_counted (hr.mono (by decide)) (ea_cons (ev_var 1 rfl) (ea_cons ev_int (ea_cons ev_int ea_nil star_con) star_con) star_nam) ⟨q, 0, 9999, rfl, ok, by decide, by decide, by decide, by decide, rfl⟩) (ea_cons (ev_call D_counted (hr.mono (by decide)) (ea_cons (ev_tup (ea_cons ev_int (ea_cons ev_int ea_nil star_con) star_con) (by show 2 ≤ sizeLine; decide)) (ea_cons ev_int (ea_cons ev_int ea_nil star_con) star_con) star_tup) ⟨[0, 9999], 9999, 9999, rfl, ok2, by decide, by decide, by decide, by decide, rfl⟩) (ea_cons (ev_call D_counted (hr.mono (by decide)) (ea_cons (ev_tup (ea_cons ev_int (ea_cons ev_int ea_nil star_con) star_con) (by show 2 ≤ sizeLine; decide)) (ea_cons ev_int (ea_cons ev_int ea_nil star_con) star_con) star_tup) ⟨[5, 6], 6, 1, rfl, ok3, by decide, by decide, by decide, by decide, rfl⟩) ea_nil star_call) star_call) star_call) (by show 3 ≤ sizeLine; decide)).frz (ev_lst (ea_cons (ev_callB fn_lenT B.len (ea_cons (ev_var 1 rfl) ea_nil star_nam)) (ea_cons ev_int (ea_cons ev_int ea_nil star_con) star_con) star_call) (by show 3 ≤ sizeLine; decide)).frz) ?_
  have e1 : inGate q 0 9999 = q := by
    unfold inGate fromTo
    rw [List.filter_eq_self]
    intro x hx
    have := hi x hx
    have := ok.rng x hx
    rw [Bool.and_eq_true, decide_eq_true_iff, decide_eq_true_iff]
    omega
  rw [e1, show ((inGate [0, 9999] 9999 9999).length : Int) = 1 by decide, show ((inGate [5, 6] 6 1).length : Int) = 1 by decide]
  have e2 := eqvL_ints [(q.length : Int), 1, 1] [((q.map PyData.int).length : Int), 1, 1]
  rw [hlen] at e2
  show Ow.dat (.bool (PyData.eqv (.list ([(q.length : Int), 1, 1].map .int)) (.list ([((q.map PyData.int).length : Int), 1, 1].map .int)))) = _
  rw [hlen, e2]
  simp
end
end My
open PySem PySem.W PyProof.Rows
set_option maxRecDepth 100000 in
set_option maxHeartbeats 0 in
theorem PySem.Challenge.cw_gatebeats_k01_rows_holds : PySem.Challenge.rw_gatebeats_k01_rows.Holds := by
  w_on; o_law; k_head; (case hw => w_witness2)
  k_fill
  refine L2.law_walk (k := 10) (y := "_law_script") rfl rfl (by decide) (fun w h Y => PySem.W.kIn_of Y) ?F
  case F =>
    intro w mg fa h KX G hmg
    have B : My.Bt mg := by
      refine' ⟨L2.none_mk KX G ?_, L2.none_mk KX G ?_, L2.none_mk KX G ?_, L2.none_mk KX G ?_, L2.none_mk KX G ?_, L2.none_mk KX G ?_, L2.none_mk KX G ?_, L2.none_mk KX G ?_, L2.none_mk KX G ?_, L2.none_mk KX G ?_, L2.none_mk KX G ?_, L2.none_mk KX G ?_, L2.none_mk KX G ?_, L2.none_mk KX G ?_, L2.none_mk KX G ?_, L2.none_mk KX G ?_, L2.none_mk KX G ?_, L2.none_mk KX G ?_, L2.none_mk KX G ?_, L2.none_mk KX G ?_⟩
      all_goals k_is
    have c_MOST_BEATS : ∃ t, mg "MOST_BEATS" = some (.int 40 t) := by
      refine' L2.const_mk KX G ?a
      (case a => k_is)
    have c_LAST_TICK : ∃ t, mg "LAST_TICK" = some (.int 9999 t) := by
      refine' L2.const_mk KX G ?a
      (case a => k_is)
    have c_LONGEST_GATE : ∃ t, mg "LONGEST_GATE" = some (.int 9999 t) := by
      refine' L2.const_mk KX G ?a
      (case a => k_is)
    have c_MOST_DEAD : ∃ t, mg "MOST_DEAD" = some (.int 9999 t) := by
      refine' L2.const_mk KX G ?a
      (case a => k_is)
    have c_MOST_GATES : ∃ t, mg "MOST_GATES" = some (.int 20 t) := by
      refine' L2.const_mk KX G ?a
      (case a => k_is)
    have c_LAST_TICK_OF_GATES : ∃ t, mg "LAST_TICK_OF_GATES" = some (.int 99999 t) := by
      refine' L2.const_mk KX G ?a
      (case a => k_is)
    have c_MOST_TICKS : ∃ t, mg "MOST_TICKS" = some (.int 9999 t) := by
      refine' L2.const_mk KX G ?a
      (case a => k_is)
    have w_is_whole : L2.Where (L2.KOf KX) mg "is_whole" My.s_is_whole := by
      dsimp only [L2.KOf]
      refine' L2.where_mk KX G ?a ?l ?c ?k
      (case a => k_is); (case l => k_is); (case c => k_is); (case k => k_is)
    have w_is_within : L2.Where (L2.KOf KX) mg "is_within" My.s_is_within := by
      dsimp only [L2.KOf]
      refine' L2.where_mk KX G ?a ?l ?c ?k
      (case a => k_is); (case l => k_is); (case c => k_is); (case k => k_is)
    have w_common_divisor : L2.Where (L2.KOf KX) mg "common_divisor" My.s_common_divisor := by
      dsimp only [L2.KOf]
      refine' L2.where_mk KX G ?a ?l ?c ?k
      (case a => k_is); (case l => k_is); (case c => k_is); (case k => k_is)
    have w_fraction : L2.Where (L2.KOf KX) mg "fraction" My.s_fraction := by
      dsimp only [L2.KOf]
      refine' L2.where_mk KX G ?a ?l ?c ?k
      (case a => k_is); (case l => k_is); (case c => k_is); (case k => k_is)
    have w_is_less : L2.Where (L2.KOf KX) mg "is_less" My.s_is_less := by
      dsimp only [L2.KOf]
      refine' L2.where_mk KX G ?a ?l ?c ?k
      (case a => k_is); (case l => k_is); (case c => k_is); (case k => k_is)
    have w_lesser : L2.Where (L2.KOf KX) mg "lesser" My.s_lesser := by
      dsimp only [L2.KOf]
      refine' L2.where_mk KX G ?a ?l ?c ?k
      (case a => k_is); (case l => k_is); (case c => k_is); (case k => k_is)
    have w_greater : L2.Where (L2.KOf KX) mg "greater" My.s_greater := by
      dsimp only [L2.KOf]
      refine' L2.where_mk KX G ?a ?l ?c ?k
      (case a => k_is); (case l => k_is); (case c => k_is); (case k => k_is)
    have w_is_row : L2.Where (L2.KOf KX) mg "is_row" My.s_is_row := by
      dsimp only [L2.KOf]
      refine' L2.where_mk KX G ?a ?l ?c ?k
      (case a => k_is); (case l => k_is); (case c => k_is); (case k => k_is)
    have w_check_row : L2.Where (L2.KOf KX) mg "check_row" My.s_check_row := by
      dsimp only [L2.KOf]
      refine' L2.where_mk KX G ?a ?l ?c ?k
      (case a => k_is); (case l => k_is); (case c => k_is); (case k => k_is)
    have w_check_rows : L2.Where (L2.KOf KX) mg "check_rows" My.s_check_rows := by
      dsimp only [L2.KOf]
      refine' L2.where_mk KX G ?a ?l ?c ?k
      (case a => k_is); (case l => k_is); (case c => k_is); (case k => k_is)
    have w_check_length : L2.Where (L2.KOf KX) mg "check_length" My.s_check_length := by
      dsimp only [L2.KOf]
      refine' L2.where_mk KX G ?a ?l ?c ?k
      (case a => k_is); (case l => k_is); (case c => k_is); (case k => k_is)
    have w_check_gate : L2.Where (L2.KOf KX) mg "check_gate" My.s_check_gate := by
      dsimp only [L2.KOf]
      refine' L2.where_mk KX G ?a ?l ?c ?k
      (case a => k_is); (case l => k_is); (case c => k_is); (case k => k_is)
    have w_beats_from : L2.Where (L2.KOf KX) mg "beats_from" My.s_beats_from := by
      dsimp only [L2.KOf]
      refine' L2.where_mk KX G ?a ?l ?c ?k
      (case a => k_is); (case l => k_is); (case c => k_is); (case k => k_is)
    have w_beats_in : L2.Where (L2.KOf KX) mg "beats_in" My.s_beats_in := by
      dsimp only [L2.KOf]
      refine' L2.where_mk KX G ?a ?l ?c ?k
      (case a => k_is); (case l => k_is); (case c => k_is); (case k => k_is)
    have w_counted : L2.Where (L2.KOf KX) mg "counted" My.s_counted := by
      dsimp only [L2.KOf]
      refine' L2.where_mk KX G ?a ?l ?c ?k
      (case a => k_is); (case l => k_is); (case c => k_is); (case k => k_is)
    have w_gaps : L2.Where (L2.KOf KX) mg "gaps" My.s_gaps := by
      dsimp only [L2.KOf]
      refine' L2.where_mk KX G ?a ?l ?c ?k
      (case a => k_is); (case l => k_is); (case c => k_is); (case k => k_is)
    have w_gates_end : L2.Where (L2.KOf KX) mg "gates_end" My.s_gates_end := by
      dsimp only [L2.KOf]
      refine' L2.where_mk KX G ?a ?l ?c ?k
      (case a => k_is); (case l => k_is); (case c => k_is); (case k => k_is)
    have w_check_gates : L2.Where (L2.KOf KX) mg "check_gates" My.s_check_gates := by
      dsimp only [L2.KOf]
      refine' L2.where_mk KX G ?a ?l ?c ?k
      (case a => k_is); (case l => k_is); (case c => k_is); (case k => k_is)
    have w_gate_starts : L2.Where (L2.KOf KX) mg "gate_starts" My.s_gate_starts := by
      dsimp only [L2.KOf]
      refine' L2.where_mk KX G ?a ?l ?c ?k
      (case a => k_is); (case l => k_is); (case c => k_is); (case k => k_is)
    have w_in_gates : L2.Where (L2.KOf KX) mg "in_gates" My.s_in_gates := by
      dsimp only [L2.KOf]
      refine' L2.where_mk KX G ?a ?l ?c ?k
      (case a => k_is); (case l => k_is); (case c => k_is); (case k => k_is)
    have w_lost : L2.Where (L2.KOf KX) mg "lost" My.s_lost := by
      dsimp only [L2.KOf]
      refine' L2.where_mk KX G ?a ?l ?c ?k
      (case a => k_is); (case l => k_is); (case c => k_is); (case k => k_is)
    have w_check_step : L2.Where (L2.KOf KX) mg "check_step" My.s_check_step := by
      dsimp only [L2.KOf]
      refine' L2.where_mk KX G ?a ?l ?c ?k
      (case a => k_is); (case l => k_is); (case c => k_is); (case k => k_is)
    have w_wait_for : L2.Where (L2.KOf KX) mg "wait_for" My.s_wait_for := by
      dsimp only [L2.KOf]
      refine' L2.where_mk KX G ?a ?l ?c ?k
      (case a => k_is); (case l => k_is); (case c => k_is); (case k => k_is)
    have w_to_next : L2.Where (L2.KOf KX) mg "to_next" My.s_to_next := by
      dsimp only [L2.KOf]
      refine' L2.where_mk KX G ?a ?l ?c ?k
      (case a => k_is); (case l => k_is); (case c => k_is); (case k => k_is)
    have w_longest_wait : L2.Where (L2.KOf KX) mg "longest_wait" My.s_longest_wait := by
      dsimp only [L2.KOf]
      refine' L2.where_mk KX G ?a ?l ?c ?k
      (case a => k_is); (case l => k_is); (case c => k_is); (case k => k_is)
    have w_between : L2.Where (L2.KOf KX) mg "between" My.s_between := by
      dsimp only [L2.KOf]
      refine' L2.where_mk KX G ?a ?l ?c ?k
      (case a => k_is); (case l => k_is); (case c => k_is); (case k => k_is)
    have w_bounds : L2.Where (L2.KOf KX) mg "bounds" My.s_bounds := by
      dsimp only [L2.KOf]
      refine' L2.where_mk KX G ?a ?l ?c ?k
      (case a => k_is); (case l => k_is); (case c => k_is); (case k => k_is)
    have w_can_be_steady : L2.Where (L2.KOf KX) mg "can_be_steady" My.s_can_be_steady := by
      dsimp only [L2.KOf]
      refine' L2.where_mk KX G ?a ?l ?c ?k
      (case a => k_is); (case l => k_is); (case c => k_is); (case k => k_is)
    have w_simplest_between : L2.Where (L2.KOf KX) mg "simplest_between" My.s_simplest_between := by
      dsimp only [L2.KOf]
      refine' L2.where_mk KX G ?a ?l ?c ?k
      (case a => k_is); (case l => k_is); (case c => k_is); (case k => k_is)
    have w_simplest : L2.Where (L2.KOf KX) mg "simplest" My.s_simplest := by
      dsimp only [L2.KOf]
      refine' L2.where_mk KX G ?a ?l ?c ?k
      (case a => k_is); (case l => k_is); (case c => k_is); (case k => k_is)
    have w_phase_for : L2.Where (L2.KOf KX) mg "phase_for" My.s_phase_for := by
      dsimp only [L2.KOf]
      refine' L2.where_mk KX G ?a ?l ?c ?k
      (case a => k_is); (case l => k_is); (case c => k_is); (case k => k_is)
    have w_by_count : L2.Where (L2.KOf KX) mg "by_count" My.s_by_count := by
      dsimp only [L2.KOf]
      refine' L2.where_mk KX G ?a ?l ?c ?k
      (case a => k_is); (case l => k_is); (case c => k_is); (case k => k_is)
    have w_by_time : L2.Where (L2.KOf KX) mg "by_time" My.s_by_time := by
      dsimp only [L2.KOf]
      refine' L2.where_mk KX G ?a ?l ?c ?k
      (case a => k_is); (case l => k_is); (case c => k_is); (case k => k_is)
    have w_width : L2.Where (L2.KOf KX) mg "width" My.s_width := by
      dsimp only [L2.KOf]
      refine' L2.where_mk KX G ?a ?l ?c ?k
      (case a => k_is); (case l => k_is); (case c => k_is); (case k => k_is)
    have w_sharper : L2.Where (L2.KOf KX) mg "sharper" My.s_sharper := by
      dsimp only [L2.KOf]
      refine' L2.where_mk KX G ?a ?l ?c ?k
      (case a => k_is); (case l => k_is); (case c => k_is); (case k => k_is)
    have w__law_cell : L2.Where (L2.KOf KX) mg "_law_cell" My.s__law_cell := by
      dsimp only [L2.KOf]
      refine' L2.where_mk KX G ?a ?l ?c ?k
      (case a => k_is); (case l => k_is); (case c => k_is); (case k => k_is)
    have w__law_pick : L2.Where (L2.KOf KX) mg "_law_pick" My.s__law_pick := by
      dsimp only [L2.KOf]
      refine' L2.where_mk KX G ?a ?l ?c ?k
      (case a => k_is); (case l => k_is); (case c => k_is); (case k => k_is)
    have w__law_places : L2.Where (L2.KOf KX) mg "_law_places" My.s__law_places := by
      dsimp only [L2.KOf]
      refine' L2.where_mk KX G ?a ?l ?c ?k
      (case a => k_is); (case l => k_is); (case c => k_is); (case k => k_is)
    have w__law_put : L2.Where (L2.KOf KX) mg "_law_put" My.s__law_put := by
      dsimp only [L2.KOf]
      refine' L2.where_mk KX G ?a ?l ?c ?k
      (case a => k_is); (case l => k_is); (case c => k_is); (case k => k_is)
    have w__law_spoilt_thing : L2.Where (L2.KOf KX) mg "_law_spoilt_thing" My.s__law_spoilt_thing := by
      dsimp only [L2.KOf]
      refine' L2.where_mk KX G ?a ?l ?c ?k
      (case a => k_is); (case l => k_is); (case c => k_is); (case k => k_is)
    have w__law_word : L2.Where (L2.KOf KX) mg "_law_word" My.s__law_word := by
      dsimp only [L2.KOf]
      refine' L2.where_mk KX G ?a ?l ?c ?k
      (case a => k_is); (case l => k_is); (case c => k_is); (case k => k_is)
    have w__law_row : L2.Where (L2.KOf KX) mg "_law_row" My.s__law_row := by
      dsimp only [L2.KOf]
      refine' L2.where_mk KX G ?a ?l ?c ?k
      (case a => k_is); (case l => k_is); (case c => k_is); (case k => k_is)
    have w__law_do : L2.Where (L2.KOf KX) mg "_law_do" My.s__law_do := by
      dsimp only [L2.KOf]
      refine' L2.where_mk KX G ?a ?l ?c ?k
      (case a => k_is); (case l => k_is); (case c => k_is); (case k => k_is)
    have w__law_is_row : L2.Where (L2.KOf KX) mg "_law_is_row" My.s__law_is_row := by
      dsimp only [L2.KOf]
      refine' L2.where_mk KX G ?a ?l ?c ?k
      (case a => k_is); (case l => k_is); (case c => k_is); (case k => k_is)
    have w_law : L2.Where (L2.KOf KX) mg "law" My.s_law := by
      dsimp only [L2.KOf]
      refine' L2.where_mk KX G ?a ?l ?c ?k
      (case a => k_is); (case l => k_is); (case c => k_is); (case k => k_is)
    have cf_Counter : ∃ C, My.CF_Counter (L2.KOf KX) mg C := by
      dsimp only [L2.KOf]
      refine' My.cf_Counter_mk KX G ?aC ?pg ?hd ?po ?sa ?mk ?kc ?n_starts ?n_length ?n_counts ?n_gone ?a0 ?i0 ?l0 ?c0 ?k0 ?a1 ?i1 ?l1 ?c1 ?k1
      (case aC => k_is); (case pg => k_is); (case hd => k_is); (case po => k_is); (case sa => k_is); (case mk => k_is); (case kc => k_is); (case n_starts => k_is); (case n_length => k_is); (case n_counts => k_is); (case n_gone => k_is); (case a0 => k_is); (case i0 => k_is); (case l0 => k_is); (case c0 => k_is); (case k0 => k_is); (case a1 => k_is); (case i1 => k_is); (case l1 => k_is); (case c1 => k_is); (case k1 => k_is)
    have refs : ∃ cB cG cP cR cT, My.Refs4 (L2.KOf KX) mg cB cG cP cR cT := by
      dsimp only [L2.KOf]
      refine' My.refs4_mk KX G ?aV ?aB ?aG ?aP ?aR ?aT ?xG ?xP ?xR ?xT ?nd ?ks
      (case aV => k_is); (case aB => k_is); (case aG => k_is); (case aP => k_is); (case aR => k_is); (case aT => k_is)
      (case xG => k_exc); (case xP => k_exc); (case xR => k_exc); (case xT => k_exc)
      (case nd => decide)
      (case ks =>
        refine' My.kinds4_mk ?sp ?tk ?gaG ?gtG ?clG ?moG ?mbG ?csG ?kGG ?kGP ?kGR ?kGT ?beG ?veG ?exG ?gaP ?gtP ?clP ?moP ?mbP ?csP ?kPG ?kPP ?kPR ?kPT ?beP ?veP ?exP ?gaR ?gtR ?clR ?moR ?mbR ?csR ?kRG ?kRP ?kRR ?kRT ?beR ?veR ?exR ?gaT ?gtT ?clT ?moT ?mbT ?csT ?kTG ?kTP ?kTR ?kTT ?beT ?veT ?exT ?nd
        (case sp => k_is); (case tk => k_is); (case gaG => k_is); (case gtG => k_is); (case clG => k_is); (case moG => k_is); (case mbG => k_is); (case csG => k_is); (case kGG => kit_is); (case kGP => kit_is); (case kGR => kit_is); (case kGT => kit_is); (case beG => kit_is); (case veG => kit_is); (case exG => kts_exm); (case gaP => k_is); (case gtP => k_is); (case clP => k_is); (case moP => k_is); (case mbP => k_is); (case csP => k_is); (case kPG => kit_is); (case kPP => kit_is); (case kPR => kit_is); (case kPT => kit_is); (case beP => kit_is); (case veP => kit_is); (case exP => kts_exm); (case gaR => k_is); (case gtR => k_is); (case clR => k_is); (case moR => k_is); (case mbR => k_is); (case csR => k_is); (case kRG => kit_is); (case kRP => kit_is); (case kRR => kit_is); (case kRT => kit_is); (case beR => kit_is); (case veR => kit_is); (case exR => kts_exm); (case gaT => k_is); (case gtT => k_is); (case clT => k_is); (case moT => k_is); (case mbT => k_is); (case csT => k_is); (case kTG => kit_is); (case kTP => kit_is); (case kTR => kit_is); (case kTT => kit_is); (case beT => kit_is); (case veT => kit_is); (case exT => kts_exm)
        (case nd => decide))
    exact w_law.top hmg My.sc_law (fun _ _ _ _ _ _ us hl => match us, hl with | [_], _ => rfl) L2.spLaw_len fun base kb nb => My.law_body w_is_whole w_is_within w_common_divisor w_fraction w_is_less w_lesser w_greater w_is_row w_check_row w_check_rows w_check_length w_check_gate w_beats_from w_beats_in w_counted w_gaps w_gates_end w_check_gates w_gate_starts w_in_gates w_lost w_check_step w_wait_for w_to_next w_longest_wait w_between w_bounds w_can_be_steady w_simplest_between w_simplest w_phase_for w_by_count w_by_time w_width w_sharper w__law_cell w__law_pick w__law_places w__law_put w__law_spoilt_thing w__law_word w__law_row w__law_do w__law_is_row B c_MOST_BEATS c_LAST_TICK c_LONGEST_GATE c_MOST_DEAD c_MOST_GATES c_LAST_TICK_OF_GATES c_MOST_TICKS cf_Counter refs
