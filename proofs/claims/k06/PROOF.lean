import PyProof.Rows.All
import Wide.All
import OpenK.AllK
import Wide.FinOn
import Lean
import PyProof.EqAt
import PyProof.EqKinds
import PyProof.TupleCall
import PyProof.EnumMake
import PyProof.CallType
import PyProof.ZipIter
import PyProof.ListRange
import PyProof.WalkInts
import KE.KIntText
import PyProof.StrWalks
import PyProof.StrCalls2
import PyProof.StrBlock2
import PyProof.StrBlockI
import PyProof.SliceStr2
import PyProof.Rows.StrJoin2
import PyProof.StrLawsTight
import PyProof.Rows.StrItems
import PyProof.Rows.StrSplitAre
import PySem.Challenge.RW_cutrow_k06_written
set_option Elab.async false
set_option linter.all false
set_option maxRecDepth 100000
namespace L2
open PySem PySem.Spec PyProof.Rows
abbrev Key := Sum Int Str
def keyIs : Key → Value → Bool
  | .inl k, v => Value.isInt k v
  | .inr x, v => Value.isStrOf x v
def keyH (w : World) : Key → Int
  | .inl k => hashInt k
  | .inr x => hashStr w x
theorem keyIs_shape : ∀ {k : Key} {v : Value}, keyIs k v = true → (∃ i t, k = Sum.inl i ∧ v = Value.int i t) ∨ (∃ x t, k = Sum.inr x ∧ v = Value.str x t)
  | .inl i, v, h => by
    obtain ⟨t, e⟩ := Value.isInt_shape (k := i) (v := v) h
    exact .inl ⟨i, t, rfl, e⟩
  | .inr x, v, h => by
    obtain ⟨t, e⟩ := Value.isStrOf_shape (x := x) (v := v) h
    exact .inr ⟨x, t, rfl, e⟩
theorem key_ll (a b : Int) : decide ((Sum.inl a : Key) = Sum.inl b) = (a == b) := by
  by_cases e : a = b
  · subst e; simp
  · have h : ¬ (Sum.inl a : Key) = Sum.inl b := fun q => e (Sum.inl.inj q)
    rw [decide_eq_false h]
    exact (beq_eq_false_iff_ne.mpr e).symm
theorem key_rr (a b : Str) : decide ((Sum.inr a : Key) = Sum.inr b) = decide (a = b) := by
  by_cases e : a = b
  · subst e; simp
  · have h : ¬ (Sum.inr a : Key) = Sum.inr b := fun q => e (Sum.inr.inj q)
    rw [decide_eq_false h, decide_eq_false e]
theorem key_lr (a : Int) (b : Str) : decide ((Sum.inl a : Key) = Sum.inr b) = false := decide_eq_false (fun q => nomatch q)
theorem key_rl (a : Str) (b : Int) : decide ((Sum.inr a : Key) = Sum.inl b) = false := decide_eq_false (fun q => nomatch q)
def mixKind (prog : Program) (w : World) : PySem.KeyKind prog w Key where
  is := keyIs
  hash := keyH w
  inj := fun v a b ha hb => by
    rcases keyIs_shape ha with ⟨i, t, rfl, rfl⟩ | ⟨x, t, rfl, rfl⟩
    · rcases keyIs_shape hb with ⟨j, u, rfl, e⟩ | ⟨y, u, rfl, e⟩
      · injection e with e1 _; rw [e1]
      · exact nomatch e
    · rcases keyIs_shape hb with ⟨j, u, rfl, e⟩ | ⟨y, u, rfl, e⟩
      · exact nomatch e
      · injection e with e1 _; rw [e1]
  byValue := fun k v h => by
    rcases keyIs_shape h with ⟨i, t, rfl, rfl⟩ | ⟨x, t, rfl, rfl⟩ <;> rfl
  pyHash := fun hv h => by
    rcases keyIs_shape hv with ⟨i, t, rfl, rfl⟩ | ⟨x, t, rfl, rfl⟩
    · exact wpAny_pyHash_int h
    · exact wpAny_pyHash_str h
  eqBool := fun hu hv h => by
    rcases keyIs_shape hu with ⟨i, t, rfl, rfl⟩ | ⟨x, t, rfl, rfl⟩
    · rcases keyIs_shape hv with ⟨j, u, rfl, rfl⟩ | ⟨y, u, rfl, rfl⟩
      · rw [key_ll] at h; exact wpAny_eqBool_int h
      · rw [key_lr] at h; exact SeqAt.EqAt.int_str i t y u _ _ _ _ h
    · rcases keyIs_shape hv with ⟨j, u, rfl, rfl⟩ | ⟨y, u, rfl, rfl⟩
      · rw [key_rl] at h; exact SeqAt.EqAt.str_int x t j u _ _ _ _ h
      · rw [key_rr] at h; exact wpAny_eqBool_str h
  «strs» := fun k x t v h => by
    rcases keyIs_shape h with ⟨i, u, rfl, e⟩ | ⟨y, u, rfl, e⟩
    · exact nomatch e
    · injection e with e1 _
      subst e1
      cases v <;> rfl
end L2
namespace L2
open PySem PySem.Spec PyProof.Rows
inductive V where
  | non | bl (b : Bool) | int (i : Int) | str (x : Str) | byt (b : Array UInt8) | flt (b : UInt64) | ref (a : Addr) | ty (n : String)
  deriving DecidableEq
def RelV : V → Value → Prop
  | .non, u => u = Value.none
  | .bl b, u => u = Value.bool b
  | .int i, u => ∃ t, u = Value.int i t
  | .str x, u => ∃ t, u = Value.str x t
  | .byt b, u => ∃ t, u = Value.bytes b t
  | .flt b, u => ∃ t, u = Value.float b t
  | .ref a, u => u = Value.ref a
  | .ty n, u => u = Value.type n
abbrev Vals : List V → List Value → Prop := Paired RelV
theorem Vals.length {xs : List V} {us : List Value} (r : Vals xs us) : xs.length = us.length := Paired.length r
theorem Vals.get : ∀ {xs : List V} {us : List Value} {i : Nat} {x : V}, Vals xs us → xs[i]? = some x → ∃ u, us[i]? = some u ∧ RelV x u
  | _, _, _, _, .nil, e => by simp at e
  | _, _, 0, _, .cons r _, e => by simp at e; subst e; exact ⟨_, rfl, r⟩
  | _, _, i + 1, x, .cons _ t, e => by
    obtain ⟨u, h1, h2⟩ := Vals.get (i := i) (x := x) t (by simpa using e)
    exact ⟨u, by simpa using h1, h2⟩
theorem Vals.append : ∀ {xs ys : List V} {us ws : List Value}, Vals xs us → Vals ys ws → Vals (xs ++ ys) (us ++ ws)
  | _, _, _, _, .nil, s => s
  | _, _, _, _, .cons r t, s => .cons r (Vals.append t s)
theorem Vals.take : ∀ {xs : List V} {us : List Value} (n : Nat), Vals xs us → Vals (xs.take n) (us.take n)
  | _, _, 0, _ => .nil
  | _, _, _ + 1, .nil => .nil
  | _, _, n + 1, .cons r t => .cons r (Vals.take n t)
theorem Vals.drop : ∀ {xs : List V} {us : List Value} (n : Nat), Vals xs us → Vals (xs.drop n) (us.drop n)
  | _, _, 0, r => r
  | _, _, _ + 1, .nil => .nil
  | _, _, n + 1, .cons _ t => Vals.drop n t
def RelO : Option V → Option Value → Prop
  | some v, some u => RelV v u
  | none, none => True
  | _, _ => False
def KV {κ : Type} : List (κ × V) → List (κ × Value) → Prop := Paired fun (p : κ × V) (q : κ × Value) => p.1 = q.1 ∧ RelV p.2 q.2
def kV : Key → V
  | .inl i => .int i
  | .inr x => .str x
inductive HO where
  /-- a list -/
  | lst (xs : List V)
  /-- a tuple (never changes) -/
  | tup (xs : List V)
  /-- a dict whose keys are ints and texts; one whose keys are tuples of ints and texts (the empty one is both) -/
  | dK (kvs : List (Key × V)) | dT (kvs : List (List Key × V))
  /-- a set of ints: its members, its size -/
  | set (S : Int → Bool) (n : Nat)
  /-- an instance of the class at C, its dict at dx, its attributes -/
  | ins (C dx : Addr) (fs : List (Str × V))
  /-- the dict of the instance at x -/
  | own (x : Addr)
  /-- the dict of an exception -/
  | xd (fs : List (Str × V))
  /-- a bound method, f of x -/
  | met (f x : Addr)
  /-- a range object lo, lo + 1, .. below hi -/
  | rng (lo hi : Int)
  /-- a thing that is known to the object (the script; a dict while a loop walks it): read, never written while it is so -/
  | frz (o : Obj) (u : HO)
  /-- a code object's table -/
  | tbl (ps : Array Value)
  /-- any other thing, by what is true of its one object (a def of one's own: SetO a S n := HO.ext fun h => ..) -/
  | ext (φ : Heap → Prop)
abbrev Hp := Addr → Option HO
def upd (H : Hp) (a : Addr) (o : HO) : Hp := fun b => if b = a then some o else H b
theorem upd_same {H : Hp} {a : Addr} {o : HO} : upd H a o a = some o := by unfold upd; rw [if_pos rfl]
theorem upd_ne {H : Hp} {a b : Addr} {o : HO} (h : b ≠ a) : upd H a o b = H b := by unfold upd; rw [if_neg h]
theorem upd_upd {H : Hp} {a : Addr} {o u : HO} : upd (upd H a o) a u = upd H a u := by
  funext b; unfold upd; split <;> rfl
theorem ne_of_none {H : Hp} {a b : Addr} {o : HO} (h : H a = some o) (h' : H b = none) : a ≠ b := by
  intro e; subst e; rw [h] at h'; cases h'
section
variable (P : Program) (w : World)
def ObjOk (H : Hp) (h : Heap) (a : Addr) : HO → Prop
  | .lst xs => xs.length ≤ sizeLine ∧ ∃ (its : List Value) (n : Nat), Vals xs its ∧ h.get? a = some { cls := .type "list", data := .seq its.toArray n }
  | .tup xs => xs.length ≤ sizeLine ∧ ∃ its : List Value, Vals xs its ∧ IsTup h a its.toArray
  | .dK kvs => kvs.length ≤ sizeLine ∧ (a == sysModules) = false ∧ ∃ vs, KV kvs vs ∧ h.DictOf (mixKind P w) a vs
  | .dT kvs => kvs.length ≤ sizeLine ∧ (a == sysModules) = false ∧ ∃ xs : List (List Key × Addr × Value),
      Paired (fun (p : List Key × V) (q : List Key × Addr × Value) => p.1 = q.1 ∧ H q.2.1 = some (.tup (p.1.map kV)) ∧ RelV p.2 q.2.2) kvs xs ∧
      ∃ o es ep, h.get? a = some o ∧ o.ExactDict ∧ o.data = .dict es ep ∧ es.toList = xs.map (entryOfKey (tupleKind (mixKind P w))) ∧ (xs.map (·.1)).Nodup
  | .set S n => h.SetOf (intKind P w) a S n
  | .ins C dx fs => H dx = some (.own a) ∧ fs.length ≤ 1000 ∧ dx ≠ a ∧ h.get? a = some (PySem.W.instObj C dx) ∧
      ∃ mA, h.Ns1 dx mA ∧ (∀ f, RelO (fs.lookup f) (mA f)) ∧ PySem.Within mA (fs.map (·.1))
  | .own _ => ∃ o, h.get? a = some o
  | .xd fs => ∃ mA, h.Ns1 a mA ∧ ∀ f, RelO (fs.lookup f) (mA f)
  | .rng lo hi => ∃ t u v, h.get? a = some { cls := .type "range", data := .fields #[.int lo t, .int hi u, .int 1 v] }
  | .frz o u => h.get? a = some o ∧ ObjOk H h a u
  | .tbl ps => h.get? a = some { cls := .none, data := .fields ps }
  | .met f x => h.get? a = some (PySem.W.methodObj (.ref f) (.ref x))
  | .ext φ => φ h ∧ (∃ o, h.get? a = some o) ∧ ∀ h1 h2 : Heap, φ h1 → (∀ o, h1.get? a = some o → h2.get? a = some o) → φ h2
def HOk (H : Hp) (h : Heap) : Prop := ∀ a o, H a = some o → ObjOk P w H h a o
end
section
variable {P : Program} {w : World} {H H' : Hp} {h h' : Heap} {a : Addr} {o : HO}
theorem ObjOk.lt (x : ObjOk P w H h a o) : a < h.objs.size := by
  cases o with
  | lst xs => obtain ⟨_, _, _, _, e⟩ := x; exact Heap.lt_size e
  | tup xs => obtain ⟨_, _, _, p⟩ := x; exact p.lt
  | dK kvs => obtain ⟨_, _, _, _, o, _, _, e, _⟩ := x; exact Heap.lt_size e
  | dT kvs => obtain ⟨_, _, _, _, o, _, _, e, _⟩ := x; exact Heap.lt_size e
  | set S n => obtain ⟨o, _, _, _, e, _⟩ := x; exact Heap.lt_size e
  | ins C dx fs => obtain ⟨_, _, _, e, _⟩ := x; exact Heap.lt_size e
  | own y => obtain ⟨_, e⟩ := x; exact Heap.lt_size e
  | xd fs => obtain ⟨_, ⟨_, _, _, e, _⟩, _⟩ := x; exact Heap.lt_size e
  | rng lo hi => obtain ⟨_, _, _, e⟩ := x; exact Heap.lt_size e
  | frz ob u => obtain ⟨e, _⟩ := x; exact Heap.lt_size e
  | tbl ps => exact Heap.lt_size (show h.get? a = some _ from x)
  | met f y => exact Heap.lt_size (show h.get? a = some _ from x)
  | ext φ => obtain ⟨_, ⟨_, e⟩, _⟩ := x; exact Heap.lt_size e
theorem Paired.mapP {α β : Type} {F G : α → β → Prop} : ∀ {l₁ : List α} {l₂ : List β}, Paired F l₁ l₂ → (∀ a b, F a b → G a b) → Paired G l₁ l₂
  | _, _, .nil, _ => .nil
  | _, _, .cons r t, f => .cons (f _ _ r) (Paired.mapP t f)
theorem ObjOk.stay (x : ObjOk P w H h a o) (k : ∀ b u, (b = a ∨ H b = some (.own a)) → h.get? b = some u → h'.get? b = some u)
    (ho : ∀ b, H b = some (.own a) → H' b = some (.own a)) (ht : ∀ b xs, H b = some (.tup xs) → H' b = some (.tup xs)) : ObjOk P w H' h' a o := by
  induction o with
  | lst xs => obtain ⟨z, its, n, r, e⟩ := x; exact ⟨z, its, n, r, k _ _ (.inl rfl) e⟩
  | tup xs => obtain ⟨z, its, r, ob, e, c⟩ := x; exact ⟨z, its, r, ob, k _ _ (.inl rfl) e, c⟩
  | dK kvs => obtain ⟨z, y, vs, r, ob, es, ep, e, c⟩ := x; exact ⟨z, y, vs, r, ob, es, ep, k _ _ (.inl rfl) e, c⟩
  | dT kvs =>
    obtain ⟨z, y, xs, r, ob, es, ep, e, c⟩ := x
    exact ⟨z, y, xs, Paired.mapP r fun p q z => ⟨z.1, ht _ _ z.2.1, z.2.2⟩, ob, es, ep, k _ _ (.inl rfl) e, c⟩
  | set S n => obtain ⟨ob, es, ep, t, e, c⟩ := x; exact ⟨ob, es, ep, t, k _ _ (.inl rfl) e, c⟩
  | ins C dx fs =>
    obtain ⟨d, z, ne, e, mA, ⟨od, es, ep, e2, c⟩, r⟩ := x
    exact ⟨ho _ d, z, ne, k _ _ (.inl rfl) e, mA, ⟨od, es, ep, k _ _ (.inr d) e2, c⟩, r⟩
  | own y => obtain ⟨ob, e⟩ := x; exact ⟨ob, k _ _ (.inl rfl) e⟩
  | xd fs => obtain ⟨mA, ⟨od, es, ep, e, c⟩, r⟩ := x; exact ⟨mA, ⟨od, es, ep, k _ _ (.inl rfl) e, c⟩, r⟩
  | rng lo hi => obtain ⟨t, u, v, e⟩ := x; exact ⟨t, u, v, k _ _ (.inl rfl) e⟩
  | frz ob u ih => obtain ⟨e, q⟩ := x; exact ⟨k _ _ (.inl rfl) e, ih q⟩
  | tbl ps =>
    have e : h.get? a = some { cls := .none, data := .fields ps } := x
    show h'.get? a = some { cls := .none, data := .fields ps }
    exact k a _ (.inl rfl) e
  | met f y =>
    have e : h.get? a = some (PySem.W.methodObj (.ref f) (.ref y)) := x
    show h'.get? a = some (PySem.W.methodObj (.ref f) (.ref y))
    exact k a _ (.inl rfl) e
  | ext φ => obtain ⟨p, ⟨o, e⟩, st⟩ := x; exact ⟨st _ _ p fun o q => k _ _ (.inl rfl) q, ⟨o, k _ _ (.inl rfl) e⟩, st⟩
theorem HOk.lt (x : HOk P w H h) (e : H a = some o) : a < h.objs.size := (x a o e).lt
theorem HOk.fresh (x : HOk P w H h) (e : h.objs.size ≤ a) : H a = none := by
  cases q : H a with
  | none => rfl
  | some u => exact absurd (Nat.lt_of_lt_of_le (x.lt q) e) (Nat.lt_irrefl _)
theorem HOk.kept (x : HOk P w H h) (k : ∀ b u, h.get? b = some u → h'.get? b = some u) : HOk P w H h' := fun a o e =>
  (x a o e).stay (fun b u _ q => k b u q) (fun _ q => q) fun _ _ q => q
theorem HOk.laid (x : HOk P w H h) (k : ∀ b u, h.get? b = some u → h'.get? b = some u) (hp : h.objs.size ≤ a) (new : ObjOk P w (upd H a o) h' a o) : HOk P w (upd H a o) h' := fun b u e => by
  have hn := x.fresh hp
  by_cases hb : b = a
  · subst hb; rw [upd_same] at e; cases e; exact new
  · rw [upd_ne hb] at e
    exact (x b u e).stay (fun c v _ q => k c v q) (fun c q => by rw [upd_ne (ne_of_none q hn)]; exact q) fun c xs q => by rw [upd_ne (ne_of_none q hn)]; exact q
end
def Rd (H : Hp) (a : Addr) (u : HO) : Prop := H a = some u ∨ ∃ o, H a = some (.frz o u)
theorem Rd.ok {P : Program} {w : World} {H : Hp} {h : Heap} {a : Addr} {u : HO} (r : Rd H a u) (x : HOk P w H h) : ObjOk P w H h a u := by
  rcases r with r | ⟨o, r⟩
  · exact x a u r
  · obtain ⟨_, q⟩ := x a _ r
    exact q
def Mut : Option HO → Prop
  | some (.lst _) => True
  | some (.dK _) => True
  | some (.dT _) => True
  | some (.set _ _) => True
  | some (.ins _ _ _) => True
  | some (.ext _) => True
  | _ => False
section
variable {P : Program} {w : World} {H : Hp} {h h' : Heap} {x e : Addr} {o' : HO}
theorem HOk.write (ok : HOk P w H h) (mu : Mut (H x)) (he : e = x ∨ H e = some (.own x)) (k : ∀ b u, b ≠ e → h.get? b = some u → h'.get? b = some u) (heo : ∃ u, h'.get? e = some u)
    (new : ObjOk P w (upd H x o') h' x o') : HOk P w (upd H x o') h' := fun b u q => by
  have nown : ∀ c y, H c = some (.own y) → c ≠ x := fun c y r z => by subst z; rw [r] at mu; exact mu
  have ntup : ∀ c xs, H c = some (.tup xs) → c ≠ x := fun c xs r z => by subst z; rw [r] at mu; exact mu
  by_cases hb : b = x
  · subst hb; rw [upd_same] at q; cases q; exact new
  · rw [upd_ne hb] at q
    by_cases hbe : b = e
    · have q' : H b = some (.own x) := by
        rcases he with z | z
        · exact absurd (hbe.trans z) hb
        · rw [hbe]; exact z
      rw [q] at q'; cases q'
      obtain ⟨v, hv⟩ := heo
      exact ⟨v, by rw [hbe]; exact hv⟩
    · refine (ok b u q).stay (fun c v hc r => k c v ?_ r) (fun c r => by rw [upd_ne (nown c b r)]; exact r) fun c xs r => by rw [upd_ne (ntup c xs r)]; exact r
      rcases hc with rfl | hc
      · exact hbe
      · rintro rfl
        rcases he with z | z
        · exact nown c b hc z
        · rw [hc] at z; cases z; exact hb rfl
end
structure Un (fs ex : List Addr) (H H' : Hp) (h h' : Heap) : Prop where
  keep : ∀ b o, h.get? b = some o → H b = none → b ∉ fs → b ∉ ex → h'.get? b = some o
  slot : ∀ b o, h.get? b = some o → H b = none → b ∈ fs → b ∉ ex → ∃ sl, h'.get? b = some { o with slots := sl }
  free : ∀ b o, h.get? b = some o → H b = none → b ∉ ex → H' b = none
  there : ∀ b o, h.get? b = some o → b ∉ ex → ∃ o', h'.get? b = some o'
  tups : ∀ b xs, H b = some (.tup xs) → H' b = some (.tup xs)
  frzs : ∀ b o u, H b = some (.frz o u) → H' b = some (.frz o u)
  tbls : ∀ b ps, H b = some (.tbl ps) → ∃ more, H' b = some (.tbl (ps ++ more))
section
variable {fs fs' ex ex' : List Addr} {H H1 H2 : Hp} {h h1 h2 h' : Heap} {a x e : Addr} {o : HO}
theorem Un.any (u : Un fs ex H H1 h h1) {b : Addr} {ob : Obj} (q : h.get? b = some ob) (n : H b = none) (hx : b ∉ ex) : ∃ sl, h1.get? b = some { ob with slots := sl } := by
  by_cases hb : b ∈ fs
  · exact u.slot b ob q n hb hx
  · exact ⟨ob.slots, u.keep b ob q n hb hx⟩
theorem Un.kept (k : ∀ b u, h.get? b = some u → h'.get? b = some u) : Un fs ex H H h h' :=
  ⟨fun b ob q _ _ _ => k b ob q, fun b ob q _ _ _ => ⟨ob.slots, k b ob q⟩, fun _ _ _ n _ => n, fun b ob q _ => ⟨ob, k b ob q⟩, fun _ _ q => q, fun _ _ _ q => q, fun _ ps q => ⟨#[], by rw [q]; simp⟩⟩
theorem Un.refl : Un fs ex H H h h := Un.kept fun _ _ q => q
theorem Un.laid (k : ∀ b u, h.get? b = some u → h'.get? b = some u) (hp : h.objs.size ≤ a) (hn : H a = none) : Un fs ex H (upd H a o) h h' where
  keep := fun b u q _ _ _ => k b u q
  slot := fun b u q _ _ _ => ⟨u.slots, k b u q⟩
  free := fun b u q n _ => by rw [upd_ne (Nat.ne_of_lt (Nat.lt_of_lt_of_le (Heap.lt_size q) hp))]; exact n
  there := fun b u q _ => ⟨u, k b u q⟩
  tups := fun b xs q => by rw [upd_ne (ne_of_none q hn)]; exact q
  frzs := fun b u xs q => by rw [upd_ne (ne_of_none q hn)]; exact q
  tbls := fun b ps q => ⟨#[], by rw [upd_ne (ne_of_none q hn), q]; simp⟩
theorem Un.write (mu : Mut (H x)) (he : e = x ∨ H e = some (.own x)) (k : ∀ b u, b ≠ e → h.get? b = some u → h'.get? b = some u) (heo : ∃ u, h'.get? e = some u) : Un fs ex H (upd H x o) h h' := by
  have hx : ∀ b, H b = none → b ≠ x := fun b n z => by subst z; rw [n] at mu; exact mu
  have hb : ∀ b, H b = none → b ≠ e := fun b n z => by
    subst z
    rcases he with r | r
    · exact hx b n r
    · rw [n] at r; cases r
  have hm : ∀ b u, H b = some u → ¬ Mut (some u) → b ≠ x := fun b u q nm z => by subst z; rw [q] at mu; exact nm mu
  refine ⟨fun b u q n _ _ => k b u (hb b n) q, fun b u q n _ _ => ⟨u.slots, k b u (hb b n) q⟩, fun b u q n _ => by rw [upd_ne (hx b n)]; exact n, fun b u q _ => ?_,
    fun b xs q => by rw [upd_ne (hm b _ q fun z => z)]; exact q, fun b u xs q => by rw [upd_ne (hm b _ q fun z => z)]; exact q, fun b ps q => ⟨#[], by rw [upd_ne (hm b _ q fun z => z), q]; simp⟩⟩
  by_cases hbe : b = e
  · subst hbe; exact heo
  · exact ⟨u, k b u hbe q⟩
end
def trk (h : Heap) (H : Hp) : List Addr := (List.range h.objs.size).filter fun a => (H a).isSome
def hidT (h : Heap) (H : Hp) : Heap := PySem.W.hideAll h (trk h H)
theorem hidT_size (h : Heap) (H : Hp) : (hidT h H).objs.size = h.objs.size := PySem.W.hideAll_size _ _
theorem hidT_get {h : Heap} {H : Hp} {b : Addr} {o : Obj} (e : h.get? b = some o) (n : H b = none) : (hidT h H).get? b = some o :=
  PySem.W.hideAll_get _ e fun hm => by
    have q : (H b).isSome = true := (List.mem_filter.mp hm).2
    rw [n] at q; simp at q
theorem of_hidT {h : Heap} {H : Hp} {b : Addr} {o : Obj} (e : (hidT h H).get? b = some o) : h.get? b = some o ∧ H b = none := by
  have e' : h.get? b = some o := PySem.W.of_hideAll (trk h H) e
  refine ⟨e', ?_⟩
  cases q : H b with
  | none => rfl
  | some x =>
    have hm : b ∈ trk h H := List.mem_filter.mpr ⟨List.mem_range.mpr (Heap.lt_size e'), by simp [q]⟩
    have z : (hidT h H).get? b = none := PySem.W.hideAll_none (trk h H) hm
    rw [z] at e; cases e
def allNews (g h : Heap) (L : Addr) : List (Addr × Obj) := (List.range h.objs.size).filterMap fun a => if a = L ∨ (g.get? a).isSome = true then none else (h.get? a).map fun o => (a, o)
def rest (g h : Heap) (L d : Addr) : List (Addr × Obj) := (allNews g h L).filter fun p => decide (p.1 ≠ d)
end L2
namespace L2
open PySem PySem.Spec PyProof.Rows
structure Mod (K : PySem.W.Frag) (mg : Str → Option Value) (base : Heap) : Prop where
  kin : K.In base
  glob : base.Ns mainGlobals mg
  blt : ∃ mb, base.Ns builtinsNs mb ∧ ∀ x : Str, x ≠ "__name__" → mb x = bootBuiltins x
  nolimit : base.NoLimit
structure Cx where
  prog : Program
  w : World
  K : PySem.W.Frag
  mg : Str → Option Value
  base : Heap
  A : Around
  N : List Str
  s₀ : Shared
  H₀ : Hp
  env : Env
  outer : List Env
  stack : List Env
  ex : List Addr
  fn : Str → Bool
  calm : Bool
  pn : List (Addr × Obj)
  xe : Value → Shared → Prop
def frs (l : List Env) : List Addr := l.filterMap (·.frame)
abbrev Cx.fs (X : Cx) : List Addr := frs X.outer
def Vis (sc : Scope) (x : Str) : Prop := sc.names.lookup x = some .local ∨ sc.names.lookup x = some .cell ∨ sc.names.lookup x = some .free
def Loc (sc : Scope) (x : Str) : Prop := sc.names.lookup x = some .local ∨ sc.names.lookup x = some .cell
def Look (env : Env) (h : Heap) (m : Str → Option Value) (x : Str) (u : Value) : Prop :=
  (env.kindOf x = some .local ∧ m x = some u) ∨ ((env.kindOf x = some .cell ∨ env.kindOf x = some .free) ∧ ∃ c, env.cells.lookup x = some c ∧ h.IsCell c (some u))
structure Cx.Ok (X : Cx) : Prop where
  mod : Mod X.K X.mg X.base
  kind : X.env.scope.kind = .function
  glob : X.env.globals = mainGlobals
  blt : X.env.builtins = builtinsNs
  above : X.s₀.heap.objs.size ≤ X.env.locals
  inj : ∀ x y c, X.env.cells.lookup x = some c → X.env.cells.lookup y = some c → x = y
  has : ∀ x, (X.env.kindOf x = some .cell ∨ X.env.kindOf x = some .free) → ∃ c, X.env.cells.lookup x = some c
  cab : ∀ x c, X.fn x = true → X.env.cells.lookup x = some c → X.s₀.heap.objs.size ≤ c
  hd : X.calm = true → X.A.handled = none
  frames : X.A.frames = some X.stack
  stk : X.stack = X.outer ∨ (X.stack = X.env :: X.outer ∧ X.env.frame = some X.env.locals)
  exf : ∀ b ∈ X.ex, b ≠ X.env.locals ∧ ∀ x c, X.env.cells.lookup x = some c → c ≠ b
  bs : ∀ b o, X.base.get? b = some o → X.s₀.heap.get? b = some o ∧ X.H₀ b = none
  bsz : X.base.objs.size ≤ X.s₀.heap.objs.size
  noex : ∀ b o, X.base.get? b = some o → b ∉ X.ex
  exfs : ∀ b ∈ X.ex, b ∉ X.fs
  funs : X.s₀.heap.FunFrames X.base X.outer
  frf : ∀ b ∈ X.fs, X.H₀ b = none
structure Inv (X : Cx) (pins : List (Addr × Obj)) (σ : List (Option V)) (H : Hp) (s : Shared) : Prop where
  ok : X.Ok
  os : s.os = X.s₀.os
  bare : AllBare s.gens
  base : Un X.fs X.ex X.H₀ H X.s₀.heap s.heap
  loc : ∃ m, s.heap.Ns X.env.locals m ∧ ∀ (i : Nat) (x : Str) (v : V), X.N[i]? = some x → σ[i]? = some (some v) → Vis X.env.scope x → ∃ u, RelV v u ∧ Look X.env s.heap m x u
  cell : ∀ x c, X.env.cells.lookup x = some c → ∃ v, s.heap.IsCell c v
  free : H X.env.locals = none
  freeC : ∀ x c, X.env.cells.lookup x = some c → H c = none
  pin : ∀ p ∈ X.pn ++ pins, s.heap.get? p.1 = some p.2 ∧ H p.1 = none ∧ p.1 ≠ X.env.locals ∧ p.1 ∉ X.fs ∧ ∀ v, p.2.data ≠ .cell v
  hok : HOk X.prog X.w H s.heap
  len : σ.length = X.N.length
section
variable {X : Cx} {pins : List (Addr × Obj)} {σ : List (Option V)} {H H' : Hp} {s : Shared} {h' : Heap}
theorem Cx.Ok.nofr (ok : X.Ok) {b : Addr} {o : Obj} (e : X.base.get? b = some o) : b ∉ X.fs := fun hb => by
  have := (ok.funs.mem hb).1
  rw [e] at this; cases this
theorem Inv.bs (I : Inv X pins σ H s) : ∀ b o, X.base.get? b = some o → s.heap.get? b = some o ∧ H b = none := fun b o e =>
  ⟨I.base.keep b o (I.ok.bs b o e).1 (I.ok.bs b o e).2 (I.ok.nofr e) (I.ok.noex b o e), I.base.free b o (I.ok.bs b o e).1 (I.ok.bs b o e).2 (I.ok.noex b o e)⟩
theorem Inv.bk (I : Inv X pins σ H s) : ∀ b o, X.base.get? b = some o → s.heap.get? b = some o := fun b o e => (I.bs b o e).1
theorem Inv.mod (I : Inv X pins σ H s) : Mod X.K X.mg X.base := I.ok.mod
theorem Inv.kIn (I : Inv X pins σ H s) : X.K.In s.heap := I.ok.mod.kin.keeps I.bk
theorem Inv.lt (I : Inv X pins σ H s) : X.env.locals < s.heap.objs.size := let ⟨_, hn, _⟩ := I.loc; hn.lt
theorem Inv.sz (I : Inv X pins σ H s) : X.s₀.heap.objs.size ≤ s.heap.objs.size := Nat.le_trans I.ok.above (Nat.le_of_lt I.lt)
theorem Inv.nofs (I : Inv X pins σ H s) {a : Addr} (h : s.heap.objs.size ≤ a) : a ∉ X.fs := fun hb => by
  obtain ⟨_, o, ho, _⟩ := I.ok.funs.mem hb
  exact absurd (Nat.lt_of_lt_of_le (Heap.lt_size ho) (Nat.le_trans I.sz h)) (Nat.lt_irrefl _)
theorem Inv.cne (I : Inv X pins σ H s) : ∀ x c, X.env.cells.lookup x = some c → c ≠ X.env.locals := fun x c e z => by
  obtain ⟨v, o, ho, hd⟩ := I.cell x c e
  obtain ⟨m, ⟨o', es, ep, ho', hd', _⟩, _⟩ := I.loc
  rw [z, ho'] at ho; cases ho; rw [hd'] at hd; cases hd
theorem Inv.funs (I : Inv X pins σ H s) : s.heap.FunFrames X.base X.outer := by
  have all : ∀ (l : List Env), (∀ b ∈ frs l, b ∈ X.fs) → X.s₀.heap.FunFrames X.base l → s.heap.FunFrames X.base l := by
    intro l
    induction l with
    | nil => intro _ _; trivial
    | cons env r ih =>
      intro hs hl
      obtain ⟨hk, ⟨L, o, hf, hn, ho, hd⟩, hr⟩ := hl
      have hL : L ∈ X.fs := hs L (by unfold frs; rw [List.filterMap_cons, hf]; exact List.mem_cons_self)
      obtain ⟨sl, e⟩ := I.base.slot L o ho (I.ok.frf L hL) hL fun z => I.ok.exfs L z hL
      exact ⟨hk, ⟨L, _, hf, hn, e, hd⟩, ih (fun b hb => hs b (by unfold frs; rw [List.filterMap_cons, hf]; exact List.mem_cons_of_mem _ hb)) hr⟩
  exact all X.outer (fun _ hb => hb) I.ok.funs
theorem Inv.stack (I : Inv X pins σ H s) : s.heap.FunFrames X.base X.stack := by
  rcases I.ok.stk with e | ⟨e, hf⟩
  · rw [e]; exact I.funs
  · rw [e]
    obtain ⟨m, hn, _⟩ := I.loc
    refine .cons (by rw [I.ok.kind]; decide) hf hn ?_ I.funs
    exact Heap.get?_none_of_le (Nat.le_trans I.ok.bsz I.ok.above)
theorem Inv.stkSub (I : Inv X pins σ H s) : ∀ b ∈ frs X.stack, b ∈ X.env.locals :: X.fs := fun b hb => by
  rcases I.ok.stk with e | ⟨e, hf⟩
  · rw [e] at hb; exact List.mem_cons_of_mem _ hb
  · rw [e] at hb
    unfold frs at hb
    rw [List.filterMap_cons, hf] at hb
    exact hb
theorem Inv.stkFree (I : Inv X pins σ H s) : ∀ b ∈ frs X.stack, H b = none := fun b hb => by
  rcases List.mem_cons.mp (I.stkSub b hb) with e | hb
  · rw [e]; exact I.free
  · obtain ⟨_, o, ho, _⟩ := I.ok.funs.mem hb
    exact I.base.free b o ho (I.ok.frf b hb) fun z => I.ok.exfs b z hb
theorem Inv.step {g' : Array GenState} {t' : Nat} {d' : Drawn} {ch : List Addr} (I : Inv X pins σ H s)
    (hch : ∀ b ∈ ch, (b ∈ X.ex ∨ X.s₀.heap.objs.size ≤ b) ∧ b ≠ X.env.locals ∧ (∀ x c, X.env.cells.lookup x = some c → c ≠ b) ∧ ∀ p ∈ X.pn ++ pins, p.1 ≠ b)
    (keep : ∀ b o, b ≠ X.env.locals → b ∉ X.fs → b ∉ ch → s.heap.get? b = some o → H b = none → h'.get? b = some o)
    (slot : ∀ b o, b ≠ X.env.locals → b ∈ X.fs → b ∉ ch → s.heap.get? b = some o → H b = none → ∃ sl, h'.get? b = some { o with slots := sl }) (free : ∀ b o, b ∉ ch → s.heap.get? b = some o → H b = none → H' b = none)
    (there : ∀ b o, b ∉ ch → s.heap.get? b = some o → ∃ o', h'.get? b = some o')
    (tups : ∀ b xs, H b = some (.tup xs) → H' b = some (.tup xs)) (frzs : ∀ b o u, H b = some (.frz o u) → H' b = some (.frz o u)) (tbls : ∀ b ps, H b = some (.tbl ps) → ∃ more, H' b = some (.tbl (ps ++ more)))
    (ns : ∀ m, s.heap.Ns X.env.locals m → h'.Ns X.env.locals m) (hok : HOk X.prog X.w H' h') (hg : AllBare g') :
    Inv X pins σ H' { s with heap := h', gens := g', drawn := d', toks := t' } := by
  have neL : ∀ b o, X.s₀.heap.get? b = some o → b ≠ X.env.locals := fun b o e => Nat.ne_of_lt (Nat.lt_of_lt_of_le (Heap.lt_size e) I.ok.above)
  have neC : ∀ b o, X.s₀.heap.get? b = some o → b ∉ X.ex → b ∉ ch := fun b o e hx hb => by
    rcases (hch b hb).1 with z | z
    · exact hx z
    · exact absurd (Nat.lt_of_lt_of_le (Heap.lt_size e) z) (Nat.lt_irrefl _)
  have cellK : ∀ x c, X.env.cells.lookup x = some c → ∀ v, s.heap.IsCell c v → h'.IsCell c v := fun x c e v ⟨o, ho, hd⟩ => by
    have nch : c ∉ ch := fun z => (hch c z).2.2.1 x c e rfl
    by_cases hc : c ∈ X.fs
    · obtain ⟨sl, q⟩ := slot c o (I.cne x c e) hc nch ho (I.freeC x c e)
      exact ⟨_, q, hd⟩
    · exact ⟨o, keep c o (I.cne x c e) hc nch ho (I.freeC x c e), hd⟩
  refine ⟨I.ok, I.os, hg, ⟨fun b o e n hb hx => ?_, fun b o e n hb hx => ?_, fun b o e n hx => ?_, fun b o e hx => ?_, fun b xs e => tups b xs (I.base.tups b xs e), fun b o xs e => frzs b o xs (I.base.frzs b o xs e), fun b ps e => ?_⟩, ?_, fun x c e => ?_, ?_, fun x c e => ?_, fun p hp => ?_, hok, I.len⟩
  · exact keep b o (neL b o e) hb (neC b o e hx) (I.base.keep b o e n hb hx) (I.base.free b o e n hx)
  · obtain ⟨sl, e1⟩ := I.base.slot b o e n hb hx
    obtain ⟨sl', e2⟩ := slot b _ (neL b o e) hb (neC b o e hx) e1 (I.base.free b o e n hx)
    exact ⟨sl', e2⟩
  · obtain ⟨o', e1⟩ := I.base.there b o e hx
    exact free b o' (neC b o e hx) e1 (I.base.free b o e n hx)
  · obtain ⟨o', e1⟩ := I.base.there b o e hx
    exact there b o' (neC b o e hx) e1
  · obtain ⟨m1, e1⟩ := I.base.tbls b ps e
    obtain ⟨m2, e2⟩ := tbls b _ e1
    exact ⟨m1 ++ m2, by rw [e2, Array.append_assoc]⟩
  · obtain ⟨m, hn, hl⟩ := I.loc
    refine ⟨m, ns m hn, fun i x v e1 e2 e3 => ?_⟩
    obtain ⟨u, r, l⟩ := hl i x v e1 e2 e3
    refine ⟨u, r, ?_⟩
    rcases l with l | ⟨k, c, e, z⟩
    · exact .inl l
    · exact .inr ⟨k, c, e, cellK x c e _ z⟩
  · obtain ⟨v, z⟩ := I.cell x c e
    exact ⟨v, cellK x c e v z⟩
  · obtain ⟨m, ⟨o, _, _, ho, _⟩, _⟩ := I.loc
    exact free _ o (fun z => (hch _ z).2.1 rfl) ho I.free
  · obtain ⟨v, o, ho, hd⟩ := I.cell x c e
    exact free c o (fun z => (hch c z).2.2.1 x c e rfl) ho (I.freeC x c e)
  · obtain ⟨e, n, ne, nf, d⟩ := I.pin p hp
    have nch : p.1 ∉ ch := fun z => (hch p.1 z).2.2.2 p hp rfl
    exact ⟨keep p.1 p.2 ne nf nch e n, free p.1 p.2 nch e n, ne, nf, d⟩
theorem Inv.un {t' : Nat} (I : Inv X pins σ H s) (u : Un X.fs [] H H' s.heap h') (hok : HOk X.prog X.w H' h') : Inv X pins σ H' { s with heap := h', toks := t' } := by
  obtain ⟨m, ⟨o, es, ep, ho, r⟩, _⟩ := id I.loc
  obtain ⟨sl, hL⟩ := u.any ho I.free (by simp)
  exact I.step (g' := s.gens) (d' := s.drawn) (ch := []) (fun _ z => nomatch z) (fun b o _ hb _ e n => u.keep b o e n hb (by simp)) (fun b o _ hb _ e n => u.slot b o e n hb (by simp)) (fun b o _ e n => u.free b o e n (by simp)) (fun b o _ e => u.there b o e (by simp)) u.tups u.frzs u.tbls (fun m' hm => by
    obtain ⟨o', es', ep', ho', r'⟩ := hm
    rw [ho] at ho'; cases ho'
    exact ⟨_, es', ep', hL, r'⟩) hok I.bare
theorem Inv.call {g' : Array GenState} {t' : Nat} {d' : Drawn} {ch : List Addr} (I : Inv X pins σ H s) (u : Un (frs X.stack) ch H H' s.heap h') (hok : HOk X.prog X.w H' h') (hg : AllBare g')
    (hch : ∀ b ∈ ch, (b ∈ X.ex ∨ X.s₀.heap.objs.size ≤ b) ∧ b ≠ X.env.locals ∧ (∀ x c, X.env.cells.lookup x = some c → c ≠ b) ∧ ∀ p ∈ X.pn ++ pins, p.1 ≠ b) :
    Inv X pins σ H' { s with heap := h', gens := g', drawn := d', toks := t' } := by
  obtain ⟨m, ⟨o, es, ep, ho, r⟩, _⟩ := id I.loc
  obtain ⟨sl, hL⟩ := u.any ho I.free fun z => (hch _ z).2.1 rfl
  exact I.step (ch := ch) hch (fun b o hL hb hc e n => u.keep b o e n (fun z => (List.mem_cons.mp (I.stkSub b z)).elim hL hb) hc) (fun b o _ _ hc e n => u.any e n hc) (fun b o hc e n => u.free b o e n hc) (fun b o hc e => u.there b o e hc) u.tups u.frzs u.tbls (fun m' hm => by
    obtain ⟨o', es', ep', ho', r'⟩ := hm
    rw [ho] at ho'; cases ho'
    exact ⟨_, es', ep', hL, r'⟩) hok hg
theorem Inv.turned {t' : Nat} {it : Addr} (I : Inv X pins σ H s) (k : ∀ b o, b ≠ it → s.heap.get? b = some o → h'.get? b = some o) (hn : H it = none) (hL : it ≠ X.env.locals)
    (h1 : it ∈ X.ex ∨ X.s₀.heap.objs.size ≤ it) (h2 : ∀ x c, X.env.cells.lookup x = some c → c ≠ it) (h3 : ∀ p ∈ X.pn ++ pins, p.1 ≠ it) : Inv X pins σ H { s with heap := h', toks := t' } := by
  have nit : ∀ b u, H b = some u → b ≠ it := fun b u e z => by rw [z, hn] at e; cases e
  refine I.step (g' := s.gens) (d' := s.drawn) (ch := [it]) (fun b hb => ?_) (fun b o _ _ hc e _ => k b o (fun z => hc (by simp [z])) e) (fun b o _ _ hc e _ => ⟨o.slots, k b o (fun z => hc (by simp [z])) e⟩) (fun _ _ _ _ n => n)
    (fun b o hc e => ⟨o, k b o (fun z => hc (by simp [z])) e⟩) (fun _ _ e => e) (fun _ _ _ e => e) (fun b ps e => ⟨#[], by rw [e]; simp⟩) (fun m hm => ?_) (fun b u e => ?_) I.bare
  · have e : b = it := by simpa using hb
    subst e
    exact ⟨h1, hL, h2, h3⟩
  · obtain ⟨o, es, ep, ho, r⟩ := hm
    exact ⟨o, es, ep, k _ o (Ne.symm hL) ho, r⟩
  · refine (I.hok b u e).stay (fun c v hc q => k c v ?_ q) (fun _ q => q) fun _ _ q => q
    rcases hc with z | z
    · rw [z]; exact nit b u e
    · exact nit c _ z
theorem Inv.tok (I : Inv X pins σ H s) (t : Nat) : Inv X pins σ H { s with toks := t } := I.un (h' := s.heap) (t' := t) Un.refl I.hok
theorem Inv.kept {t' : Nat} (I : Inv X pins σ H s) (k : ∀ b u, s.heap.get? b = some u → h'.get? b = some u) : Inv X pins σ H { s with heap := h', toks := t' } := I.un (Un.kept k) (I.hok.kept k)
theorem Inv.laid {a : Addr} {o : HO} {t' : Nat} (I : Inv X pins σ H s) (k : ∀ b u, s.heap.get? b = some u → h'.get? b = some u) (hp : s.heap.objs.size ≤ a) (new : ObjOk X.prog X.w (upd H a o) h' a o) :
    Inv X pins σ (upd H a o) { s with heap := h', toks := t' } := I.un (Un.laid k hp (I.hok.fresh hp)) (I.hok.laid k hp new)
theorem Inv.write {x e : Addr} {o : HO} {t' : Nat} (I : Inv X pins σ H s) (mu : Mut (H x)) (he : e = x ∨ H e = some (.own x)) (k : ∀ b u, b ≠ e → s.heap.get? b = some u → h'.get? b = some u) (heo : ∃ u, h'.get? e = some u)
    (new : ObjOk X.prog X.w (upd H x o) h' x o) : Inv X pins σ (upd H x o) { s with heap := h', toks := t' } := I.un (Un.write mu he k heo) (I.hok.write mu he k heo new)
theorem Inv.pins_of {pins' : List (Addr × Obj)} (I : Inv X pins σ H s) (h : ∀ p ∈ pins', s.heap.get? p.1 = some p.2 ∧ H p.1 = none ∧ p.1 ≠ X.env.locals ∧ p.1 ∉ X.fs ∧ ∀ v, p.2.data ≠ .cell v) : Inv X pins' σ H s :=
  ⟨I.ok, I.os, I.bare, I.base, I.loc, I.cell, I.free, I.freeC, fun p hp => (List.mem_append.mp hp).elim (fun z => I.pin p (List.mem_append_left _ z)) (h p), I.hok, I.len⟩
theorem nodup_ix {N : List Str} (hN : N.Nodup) {i j : Nat} {x : Str} (a : N[i]? = some x) (b : N[j]? = some x) : i = j := by
  obtain ⟨h1, e1⟩ := List.getElem?_eq_some_iff.mp a
  obtain ⟨h2, e2⟩ := List.getElem?_eq_some_iff.mp b
  exact (List.getElem_inj hN).mp (e1.trans e2.symm)
theorem store_ok2 {M : Model} {A : Around} {E : Value → Shared → Prop} {i : Nat} {x : Str} {v : V} {u : Value} {Q : Unit → Shared → Prop} (I : Inv X pins σ H s) (hN : X.N.Nodup) (hi : X.N[i]? = some x) (hx : Loc X.env.scope x) (r : RelV v u)
    (h : ∀ s', Inv X pins (σ.set i (some v)) H s' → (∃ a, Heap.SameBut a s.heap s'.heap ∧ (a = X.env.locals ∨ X.env.cells.lookup x = some a)) → Q () s') (hf : X.fn x = true ∨ X.env.scope.names.lookup x = some .local := by first | exact .inl rfl | exact .inr rfl | assumption) : wpAny M A (storeName X.env x u) Q E s := by
  obtain ⟨m, hn, hl⟩ := id I.loc
  have hcls : (X.env.scope.kind == .class || (X.env.scope.kind == .module && X.env.locals != X.env.globals)) = false := by rw [I.ok.kind]; rfl
  have hiσ : i < σ.length := by rw [I.len]; exact (List.getElem?_eq_some_iff.mp hi).1
  have cne := I.cne
  have tracked : ∀ {a : Addr} {h' : Heap}, (∃ o, s.heap.get? a = some o ∧ H a = none) → Heap.SameBut a s.heap h' → HOk X.prog X.w H h' := fun {a h'} ha hs b ob e => by
    obtain ⟨_, _, hfree⟩ := ha
    refine (I.hok b ob e).stay (fun c w' hc q => (hs.2 c ?_).trans q) (fun _ q => q) fun _ _ q => q
    rintro rfl
    rcases hc with rfl | hc
    · rw [hfree] at e; cases e
    · rw [hfree] at hc; cases hc
  rcases hx with hk | hk
  · refine wpAny_storeName_local hk hn (fun h' hn' hs => ?_) hcls
    obtain ⟨oL, _, _, hoL, _⟩ := id hn
    refine h _ ⟨I.ok, I.os, I.bare, ⟨fun b o e n hb hx => ?_, fun b o e n hb hx => ?_, I.base.free, fun b o e hx => ?_, I.base.tups, I.base.frzs, I.base.tbls⟩, ⟨_, hn', fun j y v' e1 e2 e3 => ?_⟩, fun y c e => ?_, I.free, I.freeC, fun p hp => ?_, tracked ⟨oL, hoL, I.free⟩ hs, by simpa using I.len⟩ ⟨_, hs, .inl rfl⟩
    · exact (hs.2 b (Nat.ne_of_lt (Nat.lt_of_lt_of_le (Heap.lt_size e) I.ok.above))).trans (I.base.keep b o e n hb hx)
    · obtain ⟨sl, e1⟩ := I.base.slot b o e n hb hx
      exact ⟨sl, (hs.2 b (Nat.ne_of_lt (Nat.lt_of_lt_of_le (Heap.lt_size e) I.ok.above))).trans e1⟩
    · obtain ⟨o', e1⟩ := I.base.there b o e hx
      exact ⟨o', (hs.2 b (Nat.ne_of_lt (Nat.lt_of_lt_of_le (Heap.lt_size e) I.ok.above))).trans e1⟩
    · by_cases hj : j = i
      · subst hj
        rw [hi] at e1; cases e1
        rw [List.getElem?_set_self hiσ] at e2
        cases e2
        exact ⟨u, r, .inl ⟨hk, by simp⟩⟩
      · rw [List.getElem?_set_ne (Ne.symm hj)] at e2
        obtain ⟨u', r', q⟩ := hl j y v' e1 e2 e3
        refine ⟨u', r', ?_⟩
        rcases q with ⟨k, e⟩ | ⟨k, c, e, z⟩
        · refine .inl ⟨k, ?_⟩
          have : y ≠ x := fun e => hj (nodup_ix hN e1 (e ▸ hi))
          simp [this, e]
        · exact .inr ⟨k, c, e, z.sameBut hs (cne y c e)⟩
    · obtain ⟨w', z⟩ := I.cell y c e
      exact ⟨w', z.sameBut hs (cne y c e)⟩
    · obtain ⟨e, n, ne, nf, d⟩ := I.pin p hp
      exact ⟨(hs.2 p.1 ne).trans e, n, ne, nf, d⟩
  · have hfn : X.fn x = true := by
      rcases hf with z | z
      · exact z
      · rw [z] at hk; cases hk
    obtain ⟨c, hc⟩ := I.ok.has x (.inl hk)
    obtain ⟨w', z⟩ := I.cell x c hc
    refine wpAny_storeName_cell I.ok.kind hk hc z (fun h' hc' hs => ?_)
    obtain ⟨oc, hoc, hocd⟩ := id z
    refine h { s with heap := h' } ⟨I.ok, I.os, I.bare, ⟨fun b o e n hb hx => ?_, fun b o e n hb hx => ?_, I.base.free, fun b o e hx => ?_, I.base.tups, I.base.frzs, I.base.tbls⟩, ⟨m, hn.sameBut hs (Ne.symm (cne x c hc)), fun j y v' e1 e2 e3 => ?_⟩, fun y c' e => ?_, I.free, I.freeC, fun p hp => ?_, tracked ⟨oc, hoc, I.freeC x c hc⟩ hs, by simpa using I.len⟩ ⟨c, hs, .inr hc⟩
    · exact (hs.2 b (Nat.ne_of_lt (Nat.lt_of_lt_of_le (Heap.lt_size e) (I.ok.cab x c hfn hc)))).trans (I.base.keep b o e n hb hx)
    · obtain ⟨sl, e1⟩ := I.base.slot b o e n hb hx
      exact ⟨sl, (hs.2 b (Nat.ne_of_lt (Nat.lt_of_lt_of_le (Heap.lt_size e) (I.ok.cab x c hfn hc)))).trans e1⟩
    · obtain ⟨o', e1⟩ := I.base.there b o e hx
      exact ⟨o', (hs.2 b (Nat.ne_of_lt (Nat.lt_of_lt_of_le (Heap.lt_size e) (I.ok.cab x c hfn hc)))).trans e1⟩
    · by_cases hj : j = i
      · subst hj
        rw [hi] at e1; cases e1
        rw [List.getElem?_set_self hiσ] at e2
        cases e2
        exact ⟨u, r, .inr ⟨.inl hk, c, hc, hc'⟩⟩
      · rw [List.getElem?_set_ne (Ne.symm hj)] at e2
        obtain ⟨u', r', q⟩ := hl j y v' e1 e2 e3
        refine ⟨u', r', ?_⟩
        rcases q with q | ⟨k, c', e, z'⟩
        · exact .inl q
        · refine .inr ⟨k, c', e, z'.sameBut hs ?_⟩
          rintro rfl
          exact hj (nodup_ix hN e1 (I.ok.inj _ _ _ e hc ▸ hi))
    · by_cases hcc : c' = c
      · subst hcc; exact ⟨_, hc'⟩
      · obtain ⟨w2, z2⟩ := I.cell y c' e
        exact ⟨w2, z2.sameBut hs hcc⟩
    · obtain ⟨e, n, ne, nf, d⟩ := I.pin p hp
      refine ⟨(hs.2 p.1 ?_).trans e, n, ne, nf, d⟩
      intro q
      rw [q, hoc] at e
      have q' : oc = p.2 := Option.some.inj e
      exact d w' (by rw [← q']; exact hocd)
theorem store_ok {M : Model} {A : Around} {E : Value → Shared → Prop} {i : Nat} {x : Str} {v : V} {u : Value} {Q : Unit → Shared → Prop} (I : Inv X pins σ H s) (hN : X.N.Nodup) (hi : X.N[i]? = some x) (hx : Loc X.env.scope x) (r : RelV v u)
    (h : ∀ s', Inv X pins (σ.set i (some v)) H s' → Q () s') (hf : X.fn x = true ∨ X.env.scope.names.lookup x = some .local := by first | exact .inl rfl | exact .inr rfl | assumption) : wpAny M A (storeName X.env x u) Q E s :=
  store_ok2 I hN hi hx r (fun s' I' _ => h s' I') hf
theorem Inv.call' {s' : Shared} {ch : List Addr} (I : Inv X pins σ H s) (ho : s'.os = s.os) (u : Un (frs X.stack) ch H H' s.heap s'.heap) (hok : HOk X.prog X.w H' s'.heap) (hg : AllBare s'.gens)
    (hch : ∀ b ∈ ch, (b ∈ X.ex ∨ X.s₀.heap.objs.size ≤ b) ∧ b ≠ X.env.locals ∧ (∀ x c, X.env.cells.lookup x = some c → c ≠ b) ∧ ∀ p ∈ X.pn ++ pins, p.1 ≠ b) : Inv X pins σ H' s' := by
  obtain ⟨h', g', d', t', o'⟩ := s'
  have e : o' = s.os := ho
  subst e
  exact I.call (g' := g') (t' := t') (d' := d') u hok hg hch
end
abbrev XK := Value → Option Addr → Hp → Prop
abbrev St := List (Option V)
abbrev VK := V → Hp → Prop
abbrev TE := St → Hp → VK → Prop
abbrev TT := St → Hp → (Bool → Hp → Prop) → Prop
abbrev TA := St → Hp → (List V → Hp → Prop) → Prop
structure Ends where
  nx : St → Hp → Prop
  rt : VK
  bk : St → Hp → Prop := fun _ _ => False
  ct : St → Hp → Prop := fun _ _ => False
abbrev TS := Ends → St → Hp → Prop
def EP (X : Cx) (pins : List (Addr × Obj)) (σ : St) (Q : VK) (u : Value) (s' : Shared) : Prop := ∃ v H', Inv X pins σ H' s' ∧ RelV v u ∧ Q v H'
def TP (X : Cx) (pins : List (Addr × Obj)) (σ : St) (Q : Bool → Hp → Prop) (b : Bool) (s' : Shared) : Prop := ∃ H', Inv X pins σ H' s' ∧ Q b H'
def AP (X : Cx) (pins : List (Addr × Obj)) (σ : St) (Q : List V → Hp → Prop) (us : List Value) (s' : Shared) : Prop := ∃ vs H', Inv X pins σ H' s' ∧ Vals vs us ∧ Q vs H'
def SP (X : Cx) (pins : List (Addr × Obj)) (D : Ends) (f : Flow) (s' : Shared) : Prop :=
  match f with
  | .next => ∃ σ' H', Inv X pins σ' H' s' ∧ D.nx σ' H'
  | .brk => ∃ σ' H', Inv X pins σ' H' s' ∧ D.bk σ' H'
  | .cont => ∃ σ' H', Inv X pins σ' H' s' ∧ D.ct σ' H'
  | .ret u => ∃ v σ' H', Inv X pins σ' H' s' ∧ RelV v u ∧ D.rt v H'
def PE (X : Cx) (e : Expr) (t : TE) : Prop :=
  ∀ (pins : List (Addr × Obj)) (s : Shared) (σ : St) (H : Hp) (Q : VK), Inv X pins σ H s → t σ H Q → wpAny (model X.prog X.w) X.A (eval e X.env) (EP X pins σ Q) X.xe s
def PT (X : Cx) (e : Expr) (t : TT) : Prop :=
  ∀ (pins : List (Addr × Obj)) (s : Shared) (σ : St) (H : Hp) (Q : Bool → Hp → Prop), Inv X pins σ H s → t σ H Q → wpAny (model X.prog X.w) X.A (isTrue e X.env (eval e X.env)) (TP X pins σ Q) X.xe s
def PW (X : Cx) (e : Expr) (t : TT) : Prop :=
  ∀ (whole : Sem Value) (pins : List (Addr × Obj)) (s : Shared) (σ : St) (H : Hp) (Q : Bool → Hp → Prop), Inv X pins σ H s → t σ H Q → wpAny (model X.prog X.w) X.A (isTrue e X.env whole) (TP X pins σ Q) X.xe s
theorem PW.pt {X : Cx} {e : Expr} {t : TT} (h : PW X e t) : PT X e t := h _
def PA (X : Cx) (es : List Expr) (t : TA) : Prop :=
  ∀ (pos : Pos) (pins : List (Addr × Obj)) (s : Shared) (σ : St) (H : Hp) (Q : List V → Hp → Prop), Inv X pins σ H s → t σ H Q → wpAny (model X.prog X.w) X.A (spliced (backTo pos (starEach es X.env))) (AP X pins σ Q) X.xe s
def PS (X : Cx) (st : Stmt) (t : TS) : Prop :=
  ∀ (pins : List (Addr × Obj)) (s : Shared) (σ : St) (H : Hp) (D : Ends), Inv X pins σ H s → t D σ H → wpAny (model X.prog X.w) X.A (exec st X.env) (SP X pins D) X.xe s
def PSs (X : Cx) (st : List Stmt) (t : TS) : Prop :=
  ∀ (pins : List (Addr × Obj)) (s : Shared) (σ : St) (H : Hp) (D : Ends), Inv X pins σ H s → t D σ H → wpAny (model X.prog X.w) X.A (execs st X.env) (SP X pins D) X.xe s
theorem thn {α : Type} {t : Sem α} {Q Q' : α → Shared → Prop} {M : Model} {A : Around} {E : Value → Shared → Prop} {s : Shared} (h : wpAny M A t Q E s) (hQ : ∀ a s, Q a s → Q' a s) : wpAny M A t Q' E s := wpAny_mono h hQ fun _ _ x => x
end L2
namespace L2
open PySem PySem.Spec PyProof.Rows
section
variable {X : Cx}
def tVar (i : Nat) : TE := fun σ H Q => ∃ v, σ[i]? = some (some v) ∧ Q v H
def tC (v : V) : TE := fun _ H Q => Q v H
theorem pe_var {i : Nat} {x : Str} {pos : Pos} (hN : X.N[i]? = some x) (hv : Vis X.env.scope x) (hd : (x == ("__debug__" : Str)) = false := by decide) (hcd : (x == ("__classdict__" : Str)) = false := by decide) : PE X (.Name x pos) (tVar i) := by
  intro pins s σ H Q I h
  obtain ⟨v, e, h⟩ := h
  obtain ⟨m, hn, hl⟩ := I.loc
  obtain ⟨u, r, l⟩ := hl i x v hN e hv
  have fin : EP X pins σ Q u s := ⟨v, H, I, r, h⟩
  rcases l with ⟨hk, hm⟩ | ⟨hk, c, hc, hcell⟩
  · exact wpAny_Name (wpAny_loadName_local I.ok.kind hk hn hm fin) hd
  · rcases hk with hk | hk
    · exact wpAny_Name (wpAny_loadName_cell I.ok.kind hk hc hcell fin) hd
    · exact wpAny_Name (wpAny_loadName_free I.ok.kind hk hc hcell fin hcd) hd
theorem pe_int {i j pos} : PE X (.Constant (.int i) j pos) (tC (.int i)) := fun _ _ _ H _ I h => wpAny_Constant_int ⟨.int i, H, I.tok _, ⟨_, rfl⟩, h⟩
theorem pe_bl {b j pos} : PE X (.Constant (.bool b) j pos) (tC (.bl b)) := fun _ _ _ H _ I h => Constant_bool ⟨.bl b, H, I, rfl, h⟩
theorem pe_non {j pos} : PE X (.Constant .none j pos) (tC .non) := fun _ _ _ H _ I h => Constant_none ⟨.non, H, I, rfl, h⟩
theorem pe_str {x j pos} : PE X (.Constant (.str x) j pos) (tC (.str x)) := fun _ _ _ H _ I h => Calls.Constant_str ⟨.str x, H, I.tok _, ⟨_, rfl⟩, h⟩
def Gl (X : Cx) (x : Str) : Prop := X.env.kindOf x = some .globalImplicit
theorem ld_glob {E : Value → Shared → Prop} {pins : List (Addr × Obj)} {s : Shared} {σ : St} {H : Hp} {x : Str} {u : Value} {pos : Pos} {Q : Value → Shared → Prop} (I : Inv X pins σ H s) (hg : Gl X x) (hm : X.mg x = some u) (h : Q u s)
    (hd : (x == ("__debug__" : Str)) = false := by decide) : wpAny (model X.prog X.w) X.A (eval (.Name x pos) X.env) Q E s :=
  Calls.Name_function_global I.ok.kind hg (Calls.loadGlobal_global (by rw [I.ok.glob]; exact I.mod.glob.keeps I.bk) hm h) hd
theorem ld_blt {E : Value → Shared → Prop} {pins : List (Addr × Obj)} {s : Shared} {σ : St} {H : Hp} {x : Str} {u : Value} {pos : Pos} {Q : Value → Shared → Prop} (I : Inv X pins σ H s) (hg : Gl X x) (hm : X.mg x = none) (hv : bootBuiltins x = some u) (h : Q u s)
    (hn : x ≠ "__name__" := by decide) (hd : (x == ("__debug__" : Str)) = false := by decide) : wpAny (model X.prog X.w) X.A (eval (.Name x pos) X.env) Q E s := by
  obtain ⟨mb, h1, h2⟩ := I.mod.blt
  exact Calls.Name_function_global I.ok.kind hg (Calls.loadGlobal_builtin (by rw [I.ok.glob]; exact I.mod.glob.keeps I.bk) hm (by rw [I.ok.blt]; exact h1.keeps I.bk) ((h2 x hn).trans hv) h) hd
theorem pe_glob {x : Str} {v : V} {u : Value} {pos : Pos} (hg : Gl X x) (hm : X.mg x = some u) (r : RelV v u) (hd : (x == ("__debug__" : Str)) = false := by decide) : PE X (.Name x pos) (tC v) :=
  fun _ _ _ H _ I h => ld_glob I hg hm ⟨v, H, I, r, h⟩ hd
theorem pe_bltn {x : Str} {v : V} {u : Value} {pos : Pos} (hg : Gl X x) (hm : X.mg x = none) (hv : bootBuiltins x = some u) (r : RelV v u) (hn : x ≠ "__name__" := by decide) (hd : (x == ("__debug__" : Str)) = false := by decide) : PE X (.Name x pos) (tC v) :=
  fun _ _ _ H _ I h => ld_blt I hg hm hv ⟨v, H, I, r, h⟩ hn hd
variable {a b : Expr} {ta tb : TE} {pos : Pos}
def PC (X : Cx) (op : CmpOp) (a b : Expr) (t : TE) : Prop :=
  ∀ (pins : List (Addr × Obj)) (s : Shared) (σ : St) (H : Hp) (Q : VK), Inv X pins σ H s → t σ H Q →
    wpAny (model X.prog X.w) X.A (eval a X.env) (fun v s₁ => wpAny (model X.prog X.w) X.A (eval b X.env) (fun u s₂ => wpAny (model X.prog X.w) X.A (compareOp op v u) (EP X pins σ Q) X.xe s₂) X.xe s₁) X.xe s
def tB (t : TE) : TT := fun σ H Q => t σ H fun x H1 => ∃ c, x = .bl c ∧ Q c H1
theorem pt_val {e : Expr} {t : TE} (h : PE X e t) (he : ∀ whole, isTrue e X.env whole = (do let v ← whole; standAt e.pos; holding [v] (truthy v)) := by intro _; rfl) : PT X e (tB t) := by
  intro pins s σ H Q I hw
  refine isTrue_plain (thn (h pins s σ H _ I hw) fun v s1 ⟨x, H1, I1, r1, q1⟩ => ?_) (he _)
  obtain ⟨d, rfl, q⟩ := q1
  cases r1
  exact wpAny_truthy_bool ⟨H1, I1, q⟩
variable {tA tB' : TT} {rest : List Expr}
def tAnd (t u : TT) : TT := fun σ H Q => t σ H fun c H1 => if c = true then u σ H1 Q else Q false H1
def tOr (t u : TT) : TT := fun σ H Q => t σ H fun c H1 => if c = true then Q true H1 else u σ H1 Q
def tNot (t : TT) : TT := fun σ H Q => t σ H fun c H1 => Q (!c) H1
theorem pw_and1 (ha : PT X a tA) : PW X (.BoolOp .And [a] pos) tA := by
  intro wh pins s σ H Q I h
  refine isTrue_and (thn (ha pins s σ H Q I h) fun c s1 e => ?_)
  cases c with
  | true => exact isTrue_and_nil e
  | false => exact e
theorem pw_or1 (ha : PT X a tA) : PW X (.BoolOp .Or [a] pos) tA := by
  intro wh pins s σ H Q I h
  refine isTrue_or (thn (ha pins s σ H Q I h) fun c s1 e => ?_)
  cases c with
  | false => exact isTrue_or_nil e
  | true => exact e
theorem pw_and (ha : PT X a tA) (hb : PW X (.BoolOp .And (b :: rest) pos) tB') : PW X (.BoolOp .And (a :: b :: rest) pos) (tAnd tA tB') := by
  intro wh pins s σ H Q I h
  refine isTrue_and (thn (ha pins s σ H _ I h) fun c s1 ⟨H1, I1, q1⟩ => ?_)
  cases c with
  | true => exact hb wh pins s1 σ H1 Q I1 q1
  | false => exact ⟨H1, I1, q1⟩
theorem pw_or (ha : PT X a tA) (hb : PW X (.BoolOp .Or (b :: rest) pos) tB') : PW X (.BoolOp .Or (a :: b :: rest) pos) (tOr tA tB') := by
  intro wh pins s σ H Q I h
  refine isTrue_or (thn (ha pins s σ H _ I h) fun c s1 ⟨H1, I1, q1⟩ => ?_)
  cases c with
  | true => exact ⟨H1, I1, q1⟩
  | false => exact hb wh pins s1 σ H1 Q I1 q1
theorem pt_not (ha : PT X a tA) : PT X (.UnaryOp .Not a pos) (tNot tA) := by
  intro pins s σ H Q I h
  exact isTrue_not (ha pins s σ H (fun c H1 => Q (!c) H1) I h)
def tAndV (ta tb : TE) : TE := fun σ H Q => ta σ H fun x H1 => ∃ c, x = .bl c ∧ if c = true then tb σ H1 Q else Q (.bl false) H1
def tNotV (ta : TE) : TE := fun σ H Q => ta σ H fun x H1 => ∃ c, x = .bl c ∧ Q (.bl (!c)) H1
theorem pe_one {op} {t : TE} (h : PE X a t) : PE X (.BoolOp op [a] pos) t := fun pins s σ H Q I hw => BoolOp_one (h pins s σ H Q I hw)
theorem pe_and (ha : PE X a ta) (hb : PE X (.BoolOp .And (b :: rest) pos) tb) : PE X (.BoolOp .And (a :: b :: rest) pos) (tAndV ta tb) := by
  intro pins s σ H Q I h
  refine BoolOp_and (thn (ha pins s σ H _ I h) fun v s1 ⟨x, H1, I1, r1, q1⟩ => ?_)
  obtain ⟨c, rfl, q1⟩ := q1
  cases r1
  refine wpAny_truthy_bool ?_
  cases c with
  | true => exact hb pins s1 σ H1 Q I1 q1
  | false => exact ⟨.bl false, H1, I1, rfl, q1⟩
theorem pe_not (ha : PE X a ta) : PE X (.UnaryOp .Not a pos) (tNotV ta) := by
  intro pins s σ H Q I h
  refine UnaryOp_ (thn (ha pins s σ H _ I h) fun v s1 ⟨x, H1, I1, r1, q1⟩ => ?_)
  obtain ⟨c, rfl, q1⟩ := q1
  cases r1
  exact not_of (wpAny_truthy_bool ⟨.bl (!c), H1, I1, rfl, q1⟩)
def tIf (t : TT) (ta tb : TE) : TE := fun σ H Q => t σ H fun c H1 => if c = true then ta σ H1 Q else tb σ H1 Q
theorem pe_ifExp {c : Expr} (hc : PT X c tA) (ha : PE X a ta) (hb : PE X b tb) : PE X (.IfExp c a b pos) (tIf tA ta tb) := by
  intro pins s σ H Q I h
  refine wpAny_IfExp (thn (hc pins s σ H _ I h) fun d s1 ⟨H1, I1, q1⟩ => ?_)
  cases d with
  | true => exact ha pins s1 σ H1 Q I1 q1
  | false => exact hb pins s1 σ H1 Q I1 q1
end
end L2
namespace L2
open PySem PySem.Spec PyProof.Rows
def SqL (K : PySem.W.Frag) (H : Hp) (a : Addr) (xs : List V) : Prop :=
  Rd H a (.lst xs) ∨
    ∃ (o : Obj) (its : Array Value) (n : Nat), K.lookup a = some o ∧ o.cls = .type "list" ∧ o.dict = none ∧ o.data = .seq its n ∧ its.size ≤ sizeLine ∧ Vals xs its.toList
def SqT (K : PySem.W.Frag) (H : Hp) (a : Addr) (xs : List V) : Prop :=
  Rd H a (.tup xs) ∨
    ∃ (o : Obj) (its : Array Value) (n : Nat), K.lookup a = some o ∧ o.cls = .type "tuple" ∧ o.data = .seq its n ∧ its.size ≤ sizeLine ∧ Vals xs its.toList
def absV : Value → Option V
  | .none => some .non
  | .bool b => some (.bl b)
  | .int i _ => some (.int i)
  | .str x _ => some (.str x)
  | .bytes b _ => some (.byt b)
  | .float b _ => some (.flt b)
  | .ref a => some (.ref a)
  | .type n => some (.ty n)
  | _ => none
theorem RelV.abs {x : V} {u : Value} (r : RelV x u) : absV u = some x := by
  cases x with
  | non => cases r; rfl
  | bl _ => cases r; rfl
  | int _ => obtain ⟨t, rfl⟩ := r; rfl
  | str _ => obtain ⟨t, rfl⟩ := r; rfl
  | byt _ => obtain ⟨t, rfl⟩ := r; rfl
  | flt _ => obtain ⟨t, rfl⟩ := r; rfl
  | ref _ => cases r; rfl
  | ty _ => cases r; rfl
theorem RelV.inj {x y : V} {u : Value} (r : RelV x u) (q : RelV y u) : x = y := Option.some.inj (r.abs.symm.trans q.abs)
theorem Vals.inj : ∀ {xs ys : List V} {us : List Value}, Vals xs us → Vals ys us → xs = ys
  | _, _, _, .nil, .nil => rfl
  | _, _, _, .cons r t, .cons r' t' => by rw [r.inj r', Vals.inj t t']
section
variable {X : Cx} {pins : List (Addr × Obj)} {σ : St} {H : Hp} {s : Shared} {a : Addr} {xs ys : List V}
theorem SqL.of {K : PySem.W.Frag} (h : H a = some (.lst xs)) : SqL K H a xs := .inl (.inl h)
theorem SqT.of {K : PySem.W.Frag} (h : H a = some (.tup xs)) : SqT K H a xs := .inl (.inl h)
theorem Inv.list (I : Inv X pins σ H s) (h : SqL X.K H a xs) : ∃ its : List Value, Vals xs its ∧ PlainL s.heap a its.toArray ∧ xs.length ≤ sizeLine := by
  rcases h with h | ⟨o, its, n, hk, hc, hd, hs, hz, r⟩
  · obtain ⟨z, its, n, r, e⟩ := h.ok I.hok
    exact ⟨its, r, ⟨_, n, e, rfl, rfl, rfl⟩, z⟩
  · refine ⟨its.toList, r, ⟨o, n, I.kIn a o hk, hc, hd, by simpa using hs⟩, ?_⟩
    have e := r.length
    simp only [Array.length_toList] at e
    omega
theorem Inv.tuple (I : Inv X pins σ H s) (h : SqT X.K H a xs) : ∃ its : List Value, Vals xs its ∧ IsTup s.heap a its.toArray ∧ xs.length ≤ sizeLine := by
  rcases h with h | ⟨o, its, n, hk, hc, hs, hz, r⟩
  · obtain ⟨z, its, r, p⟩ := h.ok I.hok
    exact ⟨its, r, p, z⟩
  · refine ⟨its.toList, r, ⟨o, I.kIn a o hk, hc, n, by simpa using hs⟩, ?_⟩
    have e := r.length
    simp only [Array.length_toList] at e
    omega
theorem Inv.list_inj (I : Inv X pins σ H s) (h : SqL X.K H a xs) (h' : SqL X.K H a ys) : xs = ys := by
  obtain ⟨its, r, ⟨o, n, e, _, _, d⟩, _⟩ := I.list h
  obtain ⟨its', r', ⟨o', n', e', _, _, d'⟩, _⟩ := I.list h'
  rw [e] at e'; cases e'
  rw [d] at d'
  injection d' with d1 _
  have : its = its' := by simpa using congrArg Array.toList d1
  subst this
  exact r.inj r'
end
abbrev Cx.wish (X : Cx) (E : Value → Shared → Prop) : Cx := { X with xe := E }
abbrev Cx.nox (X : Cx) : Cx := X.wish fun _ _ => False
theorem Cx.Ok.wish {X : Cx} (ok : X.Ok) (E : Value → Shared → Prop) : (X.wish E).Ok :=
  ⟨ok.mod, ok.kind, ok.glob, ok.blt, ok.above, ok.inj, ok.has, ok.cab, ok.hd, ok.frames, ok.stk, ok.exf, ok.bs, ok.bsz, ok.noex, ok.exfs, ok.funs, ok.frf⟩
theorem Cx.Ok.unwish {X : Cx} {E : Value → Shared → Prop} (ok : (X.wish E).Ok) : X.Ok :=
  ⟨ok.mod, ok.kind, ok.glob, ok.blt, ok.above, ok.inj, ok.has, ok.cab, ok.hd, ok.frames, ok.stk, ok.exf, ok.bs, ok.bsz, ok.noex, ok.exfs, ok.funs, ok.frf⟩
section
variable {X : Cx} {pins : List (Addr × Obj)} {σ : St} {H : Hp} {s : Shared} {E : Value → Shared → Prop}
theorem Inv.wish (I : Inv X pins σ H s) (E : Value → Shared → Prop) : Inv (X.wish E) pins σ H s := ⟨I.ok.wish E, I.os, I.bare, I.base, I.loc, I.cell, I.free, I.freeC, I.pin, I.hok, I.len⟩
theorem Inv.unwish (I : Inv (X.wish E) pins σ H s) : Inv X pins σ H s := ⟨I.ok.unwish, I.os, I.bare, I.base, I.loc, I.cell, I.free, I.freeC, I.pin, I.hok, I.len⟩
theorem SP.unwish {D : Ends} {f : Flow} {s' : Shared} (h : SP (X.wish E) pins D f s') : SP X pins D f s' := by
  cases f with
  | next => obtain ⟨σ', H', I, q⟩ := h; exact ⟨σ', H', I.unwish, q⟩
  | brk => obtain ⟨σ', H', I, q⟩ := h; exact ⟨σ', H', I.unwish, q⟩
  | cont => obtain ⟨σ', H', I, q⟩ := h; exact ⟨σ', H', I.unwish, q⟩
  | ret u => obtain ⟨v, σ', H', I, r, q⟩ := h; exact ⟨v, σ', H', I.unwish, r, q⟩
theorem PSs.nox {st : List Stmt} {t : TS} (h : PSs X.nox st t) : PSs X st t := fun pins s σ H D I hw =>
  wpAny_mono (h pins s σ H D (I.wish _) hw) (fun _ _ q => q.unwish) fun _ _ z => False.elim z
end
section
variable {X : Cx} {st : Stmt} {rest : List Stmt} {t u : TS} {e : Expr} {te : TE} {pos : Pos}
def tNext : TS := fun D σ H => D.nx σ H
def tSeq (t u : TS) : TS := fun D σ H => t { D with nx := u D } σ H
theorem pss_nil : PSs X [] tNext := fun _ _ σ H _ I h => wpAny_execs_nil ⟨σ, H, I, h⟩
theorem pss_cons (h1 : PS X st t) (h2 : PSs X rest u) : PSs X (st :: rest) (tSeq t u) := by
  intro pins s σ H D I h
  refine wpAny_execs_cons (thn (h1 pins s σ H { D with nx := u D } I h) fun f s1 q => ?_)
  cases f with
  | next =>
    obtain ⟨σ', H', I', q⟩ := q
    exact h2 pins s1 σ' H' D I' q
  | ret v => exact q
  | brk => exact q
  | cont => exact q
theorem pss_one (h1 : PS X st t) : PSs X [st] t := by
  intro pins s σ H D I h
  refine wpAny_execs_cons (thn (h1 pins s σ H D I h) fun f s1 q => ?_)
  cases f with
  | next => exact wpAny_execs_nil q
  | ret v => exact q
  | brk => exact q
  | cont => exact q
theorem Inv.quiet {pins : List (Addr × Obj)} {σ : St} {H : Hp} {s : Shared} (I : Inv X pins σ H s) : interactive X.env = false := by simp [interactive, I.ok.kind]
def tDrop (te : TE) : TS := fun D σ H => te σ H fun _ H1 => D.nx σ H1
theorem ps_expr (he : PE X e te) (hs : swapsWith e none pos.line X.env = pure false := by rfl) : PS X (.Expr e pos) (tDrop te) := by
  intro pins s σ H D I h
  exact wpAny_Expr_any (thn (he pins s σ H _ I h) fun v s1 ⟨x, H1, I1, r1, q1⟩ => ⟨σ, H1, I1, q1⟩) I.quiet hs
def tRet (te : TE) : TS := fun D σ H => te σ H D.rt
theorem ps_ret (he : PE X e te) : PS X (.Return (some e) pos) (tRet te) := by
  intro pins s σ H D I h
  exact wpAny_Return_some (thn (he pins s σ H _ I h) fun v s1 ⟨x, H1, I1, r1, q1⟩ => ⟨x, σ, H1, I1, r1, q1⟩)
def tIfS (c : TT) (t u : TS) : TS := fun D σ H => c σ H fun b H1 => if b = true then t D σ H1 else u D σ H1
theorem ps_if {c : Expr} {a b : List Stmt} {tc : TT} (hc : PT X c tc) (ha : PSs X a t) (hb : PSs X b u) : PS X (.If c a b pos) (tIfS tc t u) := by
  intro pins s σ H D I h
  refine wpAny_If (thn (hc pins s σ H _ I h) fun d s1 ⟨H1, I1, q1⟩ => ?_)
  cases d with
  | true => exact ha pins s1 σ H1 D I1 q1
  | false => exact hb pins s1 σ H1 D I1 q1
def tNever : TS := fun _ _ _ => False
theorem ps_never : PS X st tNever := fun _ _ _ _ _ _ h => h.elim
end
abbrev TG := V → St → Hp → (St → Hp → Prop) → Prop
abbrev TGs := List V → St → Hp → (St → Hp → Prop) → Prop
def PG (X : Cx) (target : Expr) (t : TG) : Prop :=
  ∀ (pins : List (Addr × Obj)) (s : Shared) (σ : St) (H : Hp) (v : V) (u : Value) (Q : St → Hp → Prop), Inv X pins σ H s → RelV v u → t v σ H Q →
    wpAny (model X.prog X.w) X.A (assign target X.env u) (fun _ s' => ∃ σ' H', Inv X pins σ' H' s' ∧ Q σ' H') X.xe s
def PGs (X : Cx) (ts : List Expr) (t : TGs) : Prop :=
  ∀ (pins : List (Addr × Obj)) (s : Shared) (σ : St) (H : Hp) (vs : List V) (us : List Value) (Q : St → Hp → Prop), Inv X pins σ H s → Vals vs us → t vs σ H Q →
    wpAny (model X.prog X.w) X.A (assignInOrder ((assignEach ts X.env).map (·.2)) us) (fun _ s' => ∃ σ' H', Inv X pins σ' H' s' ∧ Q σ' H') X.xe s
section
variable {X : Cx} {pos : Pos}
def gName (i : Nat) : TG := fun v σ H Q => Q (σ.set i (some v)) H
theorem pg_name {i : Nat} {x : Str} (hN : X.N.Nodup) (hi : X.N[i]? = some x) (hx : Loc X.env.scope x) (hf : X.fn x = true ∨ X.env.scope.names.lookup x = some .local := by first | exact .inl rfl | exact .inr rfl | assumption) : PG X (.Name x pos) (gName i) := by
  intro pins s σ H v u Q I r h
  exact wpAny_assign_Name (store_ok I hN hi hx r (fun s' I' => ⟨_, H, I', h⟩) hf)
def tAsg (te : TE) (g : TG) : TS := fun D σ H => te σ H fun x H1 => g x σ H1 D.nx
theorem ps_set {i : Nat} {x : Str} {e : Expr} {te : TE} {pos' : Pos} (hN : X.N.Nodup) (hi : X.N[i]? = some x) (hx : Loc X.env.scope x) (he : PE X e te) (hs : swapsWith e (some (.Name x pos')) pos.line X.env = pure false := by rfl) (hf : X.fn x = true ∨ X.env.scope.names.lookup x = some .local := by first | exact .inl rfl | exact .inr rfl | assumption) :
    PS X (.Assign [.Name x pos'] e pos) (tAsg te (gName i)) := by
  intro pins s σ H D I h
  refine wpAny_Assign_Name (thn (he pins s σ H _ I h) fun v s1 ⟨y, H1, I1, r1, q1⟩ => ?_) hs
  exact store_ok I1 hN hi hx r1 (fun s2 I2 => ⟨_, H1, I2, q1⟩) hf
def tPar (i j : Nat) (ta : TA) : TS := fun D σ H => ta σ H fun vs H1 => ∃ v w, vs = [v, w] ∧ D.nx ((σ.set i (some v)).set j (some w)) H1
theorem ps_par {i j : Nat} {x y : Str} {a b : Expr} {ta : TA} {px py pt : Pos} {kt k2 pt2} (hc : X.calm = true) (hN : X.N.Nodup) (hi : X.N[i]? = some x) (hj : X.N[j]? = some y) (hij : i ≠ j)
    (hx : X.env.scope.names.lookup x = some .local) (hy : X.env.scope.names.lookup y = some .local) (ha : PA X [a, b] ta)
    (hw : swappedStores [.Tuple [.Name x px, .Name y py] kt pt] (.Tuple [a, b] k2 pt2) X.env = pure (some [x, y]))
    (hs : swapsWithSole [.Tuple [.Name x px, .Name y py] kt pt] (.Tuple [a, b] k2 pt2) pos.line X.env = pure false := by rfl) :
    PS X (.Assign [.Tuple [.Name x px, .Name y py] kt pt] (.Tuple [a, b] k2 pt2) pos) (tPar i j ta) := by
  intro pins s σ H D I h
  rw [exec_Assign_arm]
  refine wpAny_bind (wpAny_standAt ?_)
  rw [hs]
  refine wpAny_bind (wpAny_pure ?_)
  rw [if_neg (by decide)]
  refine wpAny_bind (Tuple_ (thn (ha _ pins s σ H _ I h) fun us s1 ⟨vs, H1, I1, r1, q1⟩ => ?_))
  obtain ⟨v, w, e1, q1⟩ := q1
  subst e1
  obtain ⟨u1, u2, rfl, rv, rw'⟩ : ∃ u1 u2, us = [u1, u2] ∧ RelV v u1 ∧ RelV w u2 := by
    cases r1 with
    | cons p q =>
      cases q with
      | cons p' q' =>
        cases q'
        exact ⟨_, _, rfl, p, p'⟩
  refine wpAny_newObj_type ?_ (by show 2 ≤ sizeLine; decide)
  have I2 : Inv X pins σ H1 { s1 with heap := s1.heap.push { cls := .type "tuple", data := .seq [u1, u2].toArray } } := I1.kept (t' := s1.toks) fun b o e => Heap.get?_push_of_some _ e
  rw [hw]
  refine wpAny_bind (wpAny_pure ?_)
  show wpAny (model X.prog X.w) X.A (do rule "assign.swapped-stores"; let items ← unpackItems (.ref s1.heap.objs.size) 2 none; assignInOrder [fun v => bindName X.env y v, fun v => bindName X.env x v] items.reverse; pure Flow.next) _ _ _
  refine wpAny_bind (wpAny_rule (wpAny_bind (unpackItems_tuple (items := #[u1, u2]) (I.ok.hd hc) (IsTup.new s1.heap _) fun h' hx' => ?_)))
  have I3 := I2.kept (h' := h') (t' := s1.toks) fun b o e => hx' b o (Nat.ne_of_lt (Heap.lt_size e)) e
  show wpAny _ _ (assignInOrder [fun v => bindName X.env y v, fun v => bindName X.env x v] [u2, u1] >>= fun _ => pure Flow.next) _ _ _
  refine wpAny_bind (assignInOrder_cons (wpAny_bindName (store_ok I3 hN hj (.inl hy) rw' (fun s2 I4 => ?_) (.inr hy))))
  refine assignInOrder_cons (wpAny_bindName (store_ok I4 hN hi (.inl hx) rv (fun s3 I5 => assignInOrder_nil (wpAny_pure ?_)) (.inr hx)))
  rw [List.set_comm _ _ (Ne.symm hij)] at I5
  exact ⟨_, H1, I5, q1⟩
end
section
variable {X : Cx} {pos : Pos}
end
structure It where
  go : Nat → Hp → Prop
  yld : Nat → Hp → V → Hp → Prop
  stop : Nat → Hp → Prop
def FpOk (X : Cx) (pins : List (Addr × Obj)) (H : Hp) (b : Addr) : Prop :=
  H b = none ∧ b ≠ X.env.locals ∧ b ∉ X.fs ∧ (b ∈ X.ex ∨ X.s₀.heap.objs.size ≤ b) ∧ (∀ x c, X.env.cells.lookup x = some c → c ≠ b) ∧ ∀ p ∈ X.pn ++ pins, p.1 ≠ b
theorem Inv.fpOk {X : Cx} {pins : List (Addr × Obj)} {σ : St} {H H' : Hp} {s : Shared} {b : Addr} (I : Inv X pins σ H s) (hb : s.heap.objs.size ≤ b) (hn : H' b = none) : FpOk X pins H' b := by
  refine ⟨hn, Nat.ne_of_gt (Nat.lt_of_lt_of_le I.lt hb), I.nofs hb, .inr (Nat.le_trans I.sz hb), fun x c e z => ?_, fun p hp z => ?_⟩
  · obtain ⟨v, q⟩ := I.cell x c e
    exact absurd (Nat.lt_of_lt_of_le q.lt (by rw [z]; exact hb)) (Nat.lt_irrefl _)
  · exact absurd (Nat.lt_of_lt_of_le (Heap.lt_size (I.pin p hp).1) (by rw [z]; exact hb)) (Nat.lt_irrefl _)
structure Turn (P : Program) (w : World) (K : PySem.W.Frag) (tg : Expr) (J : It) (fp : List Addr) (it : Addr) (tn : Nat → Heap → Prop) : Prop where
  mem : it ∈ fp
  obj : ∀ i h, tn i h → ∀ b ∈ fp, ∃ o, h.get? b = some o ∧ ∀ v, o.data ≠ .cell v
  keep : ∀ i h h', tn i h → (∀ b ∈ fp, ∀ o, h.get? b = some o → h'.get? b = some o) → tn i h'
  item : ∀ (X : Cx), X.prog = P → X.w = w → X.K = K → X.calm = true → ∀ (i : Nat) (pins : List (Addr × Obj)) (s : Shared) (σ : St) (H : Hp) (E : Value → Shared → Prop), Inv X pins σ H s → (∀ b ∈ fp, FpOk X pins H b) → tn i s.heap → J.go i H →
    wpAny (model P w) X.A (pyNext (.ref it)) (fun r s1 => ∃ u, r = some u ∧
      wpAny (model P w) X.A (letOwnedTupleGo tg (.ref it) u) (fun _ s2 => ∃ x H', Inv X pins σ H' s2 ∧ RelV x u ∧ J.yld i H x H' ∧ tn (i + 1) s2.heap ∧ ∀ b ∈ fp, H' b = none) E s1) E s
  done : ∀ (X : Cx), X.prog = P → X.w = w → X.K = K → X.calm = true → ∀ (i : Nat) (pins : List (Addr × Obj)) (s : Shared) (σ : St) (H : Hp) (E : Value → Shared → Prop), Inv X pins σ H s → (∀ b ∈ fp, FpOk X pins H b) → tn i s.heap → J.stop i H →
    wpAny (model P w) X.A (pyNext (.ref it)) (fun r s1 => r = none ∧ Inv X pins σ H s1) E s
  self : ∀ (A : Around) (i : Nat) (s : Shared) (Q : Value → Shared → Prop) (E : Value → Shared → Prop), tn i s.heap → Q (.ref it) s → wpAny (model P w) A (pyIter (.ref it)) Q E s
abbrev TI := St → Hp → (It → Hp → Prop) → Prop
def PIE (X : Cx) (pins : List (Addr × Obj)) (σ : St) (tg : Expr) (R : It → Hp → Prop) (itv : Value) (s2 : Shared) : Prop :=
  ∃ (it : Addr) (fp : List Addr) (tn : Nat → Heap → Prop) (J : It) (H' : Hp), itv = .ref it ∧ Inv X pins σ H' s2 ∧ Turn X.prog X.w X.K tg J fp it tn ∧ tn 0 s2.heap ∧ (∀ b ∈ fp, FpOk X pins H' b) ∧ R J H'
def PI (X : Cx) (tg iter : Expr) (wi : TI) : Prop :=
  ∀ (pins : List (Addr × Obj)) (s : Shared) (σ : St) (H : Hp) (R : It → Hp → Prop), Inv X pins σ H s → wi σ H R →
    wpAny (model X.prog X.w) X.A (eval iter X.env) (fun v s1 => wpAny (model X.prog X.w) X.A (pyIter v) (PIE X pins σ tg R) X.xe s1) X.xe s
theorem go_of {M : Model} {A : Around} {E : Value → Shared → Prop} {s : Shared} {tg : Expr} {it : Addr} {u : Value} {o : Obj} {n : String} {vs : Array Value} {Q : Unit → Shared → Prop} (ho : s.heap.get? it = some o) (hc : o.cls = .type n) (hd : o.data = .fields vs)
    (hn : ["enumerate", "zip", "dict_itemiterator", "dict_reverseitemiterator", "odict_iterator", "itertools.zip_longest", "itertools.pairwise"].contains n = false) (hQ : Q () s) : wpAny M A (letOwnedTupleGo tg (.ref it) u) Q E s := by
  unfold letOwnedTupleGo
  cases tg <;> first
    | exact wpAny_pure hQ
    | (cases u <;> first
        | exact wpAny_pure hQ
        | (refine wpAny_bind (wpAny_load ho ?_)
           rw [hc, hd]
           show wpAny M A (if (["enumerate", "zip", "dict_itemiterator", "dict_reverseitemiterator", "odict_iterator", "itertools.zip_longest", "itertools.pairwise"].contains n && vs[0]? == some (rawInt _)) = true then _ else _) Q E s
           rw [if_neg (by intro h; rw [hn, Bool.false_and] at h; cases h)]
           exact wpAny_pure hQ))
def Itl (K : PySem.W.Frag) (a : Addr) : It :=
  ⟨fun i H => ∃ xs x, SqL K H a xs ∧ xs[i]? = some x, fun i H x H' => H' = H ∧ ∀ xs, SqL K H a xs → xs[i]? = some x, fun i H => ∃ xs, SqL K H a xs ∧ xs.length ≤ i⟩
def Itr (lo : Int) (n : Nat) : It := ⟨fun i _ => i < n, fun i H x H' => H' = H ∧ x = .int (lo + i), fun i _ => n ≤ i⟩
theorem turn_list {P : Program} {w : World} {K : PySem.W.Frag} {tg : Expr} (a it : Addr) : Turn P w K tg (Itl K a) [it] it (fun i h => h.IsListIter it a i) where
  mem := by simp
  obj := fun i h st b hb => by
    have e : b = it := by simpa using hb
    subst e
    obtain ⟨o, e, c, d⟩ := st
    exact ⟨o, e, fun v z => by rw [d] at z; cases z⟩
  keep := fun i h h' st k => st.at fun o e => k it (by simp) o e
  item := by
    intro X hP hw hK hc i pins s σ H E I hf st hg
    subst hP hw hK
    obtain ⟨xs, x, hq, hx⟩ := hg
    obtain ⟨its, rv, p, hz⟩ := I.list hq
    obtain ⟨u, hu, ru⟩ := rv.get hx
    obtain ⟨f0, f1, f2, f3, f4, f5⟩ := hf it (by simp)
    refine wpAny_pyNext_list_item st p.isList (x := u) (by simpa using hu) fun h' st' sb => ?_
    have I1 : Inv X pins σ H { s with heap := h' } := I.turned (t' := s.toks) (fun b o hb e => (sb.2 b hb).trans e) f0 f1 f3 f4 f5
    obtain ⟨o, e, c, d⟩ := id st'
    exact ⟨u, rfl, go_of (s := { s with heap := h' }) e c d (by decide) ⟨x, H, I1, ru, ⟨rfl, fun ys hy => by rw [I.list_inj hy hq]; exact hx⟩, st', fun b hb => (hf b hb).1⟩⟩
  done := by
    intro X hP hw hK hc i pins s σ H E I hf st hg
    subst hP hw hK
    obtain ⟨xs, hq, hx⟩ := hg
    obtain ⟨its, rv, p, hz⟩ := I.list hq
    obtain ⟨f0, f1, f2, f3, f4, f5⟩ := hf it (by simp)
    have hl := rv.length
    exact wpAny_pyNext_list_end (I.ok.hd hc) st p.isList (by simp; omega) fun h' eb => ⟨rfl, I.turned (t' := s.toks) (fun b o hb e => eb b o hb e) f0 f1 f3 f4 f5⟩
  self := fun _ _ _ _ _ st h => wpAny_pyIter_listiter st h
theorem turn_range {P : Program} {w : World} {K : PySem.W.Frag} {tg : Expr} (it : Addr) (lo : Int) (n : Nat) : Turn P w K tg (Itr lo n) [it] it (fun i h => IsRangeIter h it (lo + (i : Nat) * 1) ((n : Int) - (i : Nat)) 1) where
  mem := by simp
  obj := fun i h st b hb => by
    have e : b = it := by simpa using hb
    subst e
    exact ⟨_, st, fun v z => by
      have z' : Data.fields _ = Data.cell v := z
      cases z'⟩
  keep := fun i h h' st k => k it (by simp) _ st
  item := by
    intro X hP hw hK hc i pins s σ H E I hf st hg
    subst hP hw hK
    obtain ⟨f0, f1, f2, f3, f4, f5⟩ := hf it (by simp)
    have W := Walks.range (prog := X.prog) (w := X.w) (I.ok.hd hc) it lo 1 n
    refine W.item i s _ _ hg st fun v h' tk hv st' kk => ?_
    obtain ⟨t, rfl⟩ := hv
    have I1 : Inv X pins σ H { s with heap := h', toks := tk } := I.turned (fun b o hb e => kk b o (by simpa using hb) e) f0 f1 f3 f4 f5
    refine ⟨_, rfl, go_of (s := { s with heap := h', toks := tk }) (n := "range_iterator") st' rfl rfl (by decide) ⟨.int (lo + i), H, I1, ⟨t, ?_⟩, ⟨rfl, rfl⟩, st', fun b hb => (hf b hb).1⟩⟩
    rw [Int.mul_one]
  done := by
    intro X hP hw hK hc i pins s σ H E I hf st hg
    subst hP hw hK
    obtain ⟨f0, f1, f2, f3, f4, f5⟩ := hf it (by simp)
    exact wpAny_pyNext_range_end (I.ok.hd hc) st (by have : n ≤ i := hg; omega) fun h' eb => ⟨rfl, I.turned (t' := s.toks) (fun b o hb e => eb b o hb e) f0 f1 f3 f4 f5⟩
  self := fun _ _ _ _ _ st h => wpAny_pyIter_rangeiter st h
end L2
namespace L2
open PySem PySem.Spec PyProof.Rows
section
variable {X : Cx} {tg : Expr}
def iList (K : PySem.W.Frag) (tl : TE) : TI := fun σ H R => tl σ H fun x H1 => ∃ a, x = .ref a ∧ (∃ xs, SqL K H1 a xs) ∧ R (Itl K a) H1
theorem pi_list {l : Expr} {tl : TE} (hl : PE X l tl) : PI X tg l (iList X.K tl) := by
  intro pins s σ H R I h
  refine thn (hl pins s σ H _ I h) fun v s1 ⟨x, H1, I1, r1, q1⟩ => ?_
  obtain ⟨a, e, ⟨xs, hq⟩, q⟩ := q1
  subst e
  cases r1
  obtain ⟨its, rv, p, hz⟩ := I1.list hq
  refine wpAny_pyIter_list p.isList ?_
  refine ⟨s1.heap.objs.size, [s1.heap.objs.size], _, _, H1, rfl, I1.kept (t' := s1.toks) fun b o e => Heap.get?_push_of_some _ e, turn_list a _, ⟨_, Heap.get?_push_size _ rfl, rfl, rfl⟩, fun b hb => ?_, q⟩
  have e : b = s1.heap.objs.size := by simpa using hb
  subst e
  exact I1.fpOk (Nat.le_refl _) (I1.hok.fresh (Nat.le_refl _))
theorem range_it {pins : List (Addr × Obj)} {σ : St} {H : Hp} {s : Shared} {R : It → Hp → Prop} {E : Value → Shared → Prop} {lo hi : Int} {t u v : Tok} {tk : Nat} (I : Inv X pins σ H s) (h1 : -(2 ^ 62) ≤ lo) (h2 : lo < 2 ^ 62) (h3 : -(2 ^ 62) ≤ hi) (h4 : hi < 2 ^ 62)
    (q : R (Itr lo (hi - lo).toNat) H) : wpAny (model X.prog X.w) X.A (pyIter (.ref s.heap.objs.size)) (PIE X pins σ tg R) E { s with heap := s.heap.push { cls := .type "range", data := .fields #[.int lo t, .int hi u, .int 1 v] }, toks := tk } := by
  refine wpAny_pyIter_range (IsRange.new ..) (small_one h1 h2 h3 h4) ?_
  have I1 : Inv X pins σ H { s with heap := s.heap.push { cls := .type "range", data := .fields #[.int lo t, .int hi u, .int 1 v] }, toks := tk } := I.kept fun b o e => Heap.get?_push_of_some _ e
  refine ⟨(s.heap.push { cls := .type "range", data := .fields #[.int lo t, .int hi u, .int 1 v] }).objs.size, [(s.heap.push { cls := .type "range", data := .fields #[.int lo t, .int hi u, .int 1 v] }).objs.size], _, _, H, rfl,
    I1.kept (t' := tk) fun b o e => Heap.get?_push_of_some _ e, turn_range _ lo (hi - lo).toNat, ?_, fun b hb => ?_, q⟩
  · have e1 : lo + ((0 : Nat) : Int) * 1 = lo := by simp
    have e2 : (((hi - lo).toNat : Nat) : Int) - ((0 : Nat) : Int) = Builtin.Range.rangeSize lo hi 1 := by rw [rangeSize_one]; split <;> omega
    show IsRangeIter _ _ (lo + ((0 : Nat) : Int) * 1) ((((hi - lo).toNat : Nat) : Int) - ((0 : Nat) : Int)) 1
    rw [e1, e2]
    exact Heap.get?_push_size _ rfl
  · have e : b = (s.heap.push { cls := .type "range", data := .fields #[.int lo t, .int hi u, .int 1 v] }).objs.size := by simpa using hb
    subst e
    exact I1.fpOk (Nat.le_refl _) (I1.hok.fresh (Nat.le_refl _))
def iRng1 (ta : TA) : TI := fun σ H R => ta σ H fun vs H1 => ∃ j : Int, vs = [.int j] ∧ -(2 ^ 62) ≤ j ∧ j < 2 ^ 62 ∧ R (Itr 0 j.toNat) H1
def iRng2 (ta : TA) : TI := fun σ H R => ta σ H fun vs H1 => ∃ i j : Int, vs = [.int i, .int j] ∧ (-(2 ^ 62) ≤ i ∧ i < 2 ^ 62 ∧ -(2 ^ 62) ≤ j ∧ j < 2 ^ 62) ∧ R (Itr i (j - i).toNat) H1
theorem pi_range1 {a : Expr} {ta : TA} {p pos : Pos} (hg : Gl X "range") (hm : X.mg "range" = none) (ha : PA X [a] ta) (hs : starEach [a] X.env = [(false, eval a X.env)] := by rfl) : PI X tg (.Call (.Name "range" p) [a] [] pos) (iRng1 ta) := by
  intro pins s σ H R I h
  refine Call_ (ld_blt I hg hm boot_range (PyProof.Rows.callWith_type1 (thn (ha pos pins s σ H _ I h) fun us s1 ⟨vs, H1, I1, r1, q1⟩ => ?_) hs rfl))
  obtain ⟨j, e, q1, q2, q⟩ := q1
  subst e
  cases r1 with
  | cons r rr =>
    cases rr
    obtain ⟨t, rfl⟩ := r
    exact call_range_1 (range_it I1 (by omega) (by omega) q1 q2 (by simpa using q))
theorem pi_range2 {a b : Expr} {ta : TA} {p pos : Pos} (hg : Gl X "range") (hm : X.mg "range" = none) (ha : PA X [a, b] ta) (hs : starEach [a, b] X.env = [(false, eval a X.env), (false, eval b X.env)] := by rfl) (hs2 : starEach [b] X.env = [(false, eval b X.env)] := by rfl) :
    PI X tg (.Call (.Name "range" p) [a, b] [] pos) (iRng2 ta) := by
  intro pins s σ H R I h
  refine Call_ (ld_blt I hg hm boot_range (PyProof.Rows.callWith_type1 (thn (ha pos pins s σ H _ I h) fun us s1 ⟨vs, H1, I1, r1, q1⟩ => ?_) (by rw [hs, hs2]) (by rw [hs2]; rfl)))
  obtain ⟨i, j, e, ⟨q1, q2, q3, q4⟩, q⟩ := q1
  subst e
  cases r1 with
  | cons r rr =>
    cases rr with
    | cons r' rr =>
      cases rr
      obtain ⟨t, rfl⟩ := r
      obtain ⟨t', rfl⟩ := r'
      exact call_range_2 (range_it I1 q1 q2 q3 q4 q)
def tFor (wi : TI) (g : TG) (tb : TS) : TS := fun D σ H => wi σ H fun J H1 => ∃ W : Nat → Nat → St → Hp → Prop, (∃ m, W 0 m σ H1) ∧ ∀ i m σ H, W i m σ H →
  (J.stop i H ∧ D.nx σ H) ∨ (J.go i H ∧ ∃ N : St → Hp → Prop, (∀ σ' H', N σ' H' → ∃ m', m' < m ∧ W (i + 1) m' σ' H') ∧ ∀ x H', J.yld i H x H' → g x σ H' fun σ2 H2 => tb { D with nx := N, ct := N, bk := D.nx } σ2 H2)
def pinsAt (fp : List Addr) (h : Heap) : List (Addr × Obj) := fp.filterMap fun b => (h.get? b).map fun o => (b, o)
theorem mem_pinsAt {fp : List Addr} {h : Heap} {b : Addr} {o : Obj} (hb : b ∈ fp) (e : h.get? b = some o) : (b, o) ∈ pinsAt fp h := List.mem_filterMap.mpr ⟨b, hb, by rw [e]; rfl⟩
theorem of_pinsAt {fp : List Addr} {h : Heap} {p : Addr × Obj} (hp : p ∈ pinsAt fp h) : p.1 ∈ fp ∧ h.get? p.1 = some p.2 := by
  obtain ⟨b, hb, e⟩ := List.mem_filterMap.mp hp
  cases q : h.get? b with
  | none => rw [q] at e; cases e
  | some o =>
    rw [q] at e
    have e' : (b, o) = p := Option.some.inj e
    subst e'
    exact ⟨hb, q⟩
theorem Inv.pinned {pins : List (Addr × Obj)} {σ : St} {H : Hp} {s : Shared} {fp : List Addr} (I : Inv X pins σ H s) (hf : ∀ b ∈ fp, FpOk X pins H b) (ho : ∀ b ∈ fp, ∃ o, s.heap.get? b = some o ∧ ∀ v, o.data ≠ .cell v) : Inv X (pins ++ pinsAt fp s.heap) σ H s :=
  I.pins_of fun p hp => (List.mem_append.mp hp).elim (fun z => I.pin p (List.mem_append_right _ z)) fun z => by
    obtain ⟨hb, e⟩ := of_pinsAt z
    obtain ⟨f0, f1, f2, _⟩ := hf p.1 hb
    obtain ⟨o, e', d⟩ := ho p.1 hb
    rw [e] at e'; cases e'
    exact ⟨e, f0, f1, f2, d⟩
theorem Inv.unpinned {pins pl : List (Addr × Obj)} {σ : St} {H : Hp} {s : Shared} (I : Inv X (pins ++ pl) σ H s) : Inv X pins σ H s := I.pins_of fun p hp => I.pin p (List.mem_append_right _ (List.mem_append_left _ hp))
theorem ps_for {iter : Expr} {body : List Stmt} {wi : TI} {g : TG} {tb : TS} {pos : Pos} (hp : PassesOwn (model X.prog X.w) X.A X.env X.xe) (hc : X.calm = true) (hi : PI X tg iter wi) (hg : PG X tg g) (hb : PSs X body tb)
    (hs : ∀ x, foldedSetIterable iter X.env x = pure x := by intro _; rfl) : PS X (.For tg iter body [] pos) (tFor wi g tb) := by
  intro pins s σ H D I h
  refine wpAny_For (thn (hi pins s σ H _ I h) fun v s1 h1 => thn h1 fun itv s2 h2 => ?_) hs
  obtain ⟨it, fp, tn, J, H2, e, I2, T, st2, f2, W, ⟨m0, w0⟩, turn⟩ := h2
  subst e
  -- what stays true of the iterator's objects through the loop
  have stat : ∀ {H' : Hp}, (∀ b ∈ fp, H' b = none) → ∀ b ∈ fp, FpOk X pins H' b := fun hn b hb => ⟨hn b hb, (f2 b hb).2⟩
  refine codeAny_forLoop_any (fun n s' => ∃ i σ' H', Inv X pins σ' H' s' ∧ tn i s'.heap ∧ (∀ b ∈ fp, H' b = none) ∧ W i n σ' H') ?_ m0 ⟨0, σ, H2, I2, st2, fun b hb => (f2 b hb).1, w0⟩
  rintro n s3 ⟨i, σ3, H3, I3, st3, fr3, w3⟩
  rcases turn i n σ3 H3 w3 with ⟨stop, qn⟩ | ⟨go, N, hN, step⟩
  · refine wpAny_passesOwn hp (thn (T.done X rfl rfl rfl hc i pins s3 σ3 H3 X.xe I3 (stat fr3) st3 stop) fun r s4 ⟨hr, I4⟩ => ?_)
    subst hr
    exact wpAny_execs_nil ⟨σ3, H3, I4, qn⟩
  · refine wpAny_passesOwn hp (thn (T.item X rfl rfl rfl hc i pins s3 σ3 H3 X.xe I3 (stat fr3) st3 go) fun r s4 ⟨u, hr, h4⟩ => ?_)
    subst hr
    refine wpAny_passesOwn hp (thn h4 fun _ s5 ⟨x, H5, I5, r5, y5, st5, fr5⟩ => ?_)
    have I5' := I5.pinned (stat fr5) (T.obj _ _ st5)
    refine wpAny_passesOwn hp (thn (hg _ s5 σ3 H5 x u _ I5' r5 (step x H5 y5)) fun _ s6 ⟨σ6, H6, I6, q6⟩ => ?_)
    refine wpAny_passesOwn hp (thn (hb _ s6 σ6 H6 _ I6 q6) fun f s7 q7 => ?_)
    have again : ∀ {σ7 : St} {H7 : Hp}, Inv X (pins ++ pinsAt fp s5.heap) σ7 H7 s7 → N σ7 H7 → ∃ m, m < n ∧ ∃ i σ' H', Inv X pins σ' H' s7 ∧ tn i s7.heap ∧ (∀ b ∈ fp, H' b = none) ∧ W i m σ' H' := fun {σ7 H7} I7 n7 => by
      obtain ⟨m', hm, w7⟩ := hN σ7 H7 n7
      refine ⟨m', hm, i + 1, σ7, H7, I7.unpinned, T.keep _ _ _ st5 fun b hb o e => (I7.pin (b, o) (List.mem_append_right _ (List.mem_append_right _ (mem_pinsAt hb e)))).1, fun b hb => ?_, w7⟩
      obtain ⟨o, e, d⟩ := T.obj _ _ st5 b hb
      exact (I7.pin (b, o) (List.mem_append_right _ (List.mem_append_right _ (mem_pinsAt hb e)))).2.1
    cases f with
    | next => obtain ⟨σ7, H7, I7, n7⟩ := q7; exact again I7 n7
    | cont => obtain ⟨σ7, H7, I7, n7⟩ := q7; exact again I7 n7
    | brk => obtain ⟨σ7, H7, I7, q7⟩ := q7; exact ⟨σ7, H7, I7.unpinned, q7⟩
    | ret v => obtain ⟨x7, σ7, H7, I7, r7, q7⟩ := q7; exact ⟨x7, σ7, H7, I7.unpinned, r7, q7⟩
end
theorem for_list {K : PySem.W.Frag} {a : Addr} {xs : List V} {g : TG} {tb : TS} {D : Ends} {σ : St} {H : Hp} (Pv : Nat → St → Hp → Prop) (h0 : Pv 0 σ H) (hl : ∀ i σ H, i ≤ xs.length → Pv i σ H → SqL K H a xs)
    (hs : ∀ i x σ H, xs[i]? = some x → Pv i σ H → g x σ H fun σ2 H2 => tb { D with nx := Pv (i + 1), ct := Pv (i + 1), bk := D.nx } σ2 H2) (hd : ∀ σ H, Pv xs.length σ H → D.nx σ H) :
    ∃ W : Nat → Nat → St → Hp → Prop, (∃ m, W 0 m σ H) ∧ ∀ i m σ H, W i m σ H →
      ((Itl K a).stop i H ∧ D.nx σ H) ∨ ((Itl K a).go i H ∧ ∃ N : St → Hp → Prop, (∀ σ' H', N σ' H' → ∃ m', m' < m ∧ W (i + 1) m' σ' H') ∧ ∀ x H', (Itl K a).yld i H x H' → g x σ H' fun σ2 H2 => tb { D with nx := N, ct := N, bk := D.nx } σ2 H2) := by
  refine ⟨fun i m σ H => m = xs.length - i ∧ i ≤ xs.length ∧ Pv i σ H, ⟨xs.length, by simp, Nat.zero_le _, h0⟩, ?_⟩
  rintro i m σ H ⟨rfl, hi, p⟩
  have q := hl i σ H hi p
  by_cases hlt : i < xs.length
  · refine .inr ⟨⟨xs, xs[i], q, by simp [hlt]⟩, Pv (i + 1), fun σ' H' p' => ⟨xs.length - (i + 1), by omega, rfl, hlt, p'⟩, fun x H' y => ?_⟩
    obtain ⟨e, y⟩ := y
    subst e
    exact hs i x σ _ (y xs q) p
  · have e : i = xs.length := by omega
    subst e
    exact .inl ⟨⟨xs, q, Nat.le_refl _⟩, hd σ H p⟩
theorem for_range {lo : Int} {n : Nat} {g : TG} {tb : TS} {D : Ends} {σ : St} {H : Hp} (Pv : Nat → St → Hp → Prop) (h0 : Pv 0 σ H)
    (hs : ∀ i σ H, i < n → Pv i σ H → g (.int (lo + i)) σ H fun σ2 H2 => tb { D with nx := Pv (i + 1), ct := Pv (i + 1), bk := D.nx } σ2 H2) (hd : ∀ σ H, Pv n σ H → D.nx σ H) :
    ∃ W : Nat → Nat → St → Hp → Prop, (∃ m, W 0 m σ H) ∧ ∀ i m σ H, W i m σ H →
      ((Itr lo n).stop i H ∧ D.nx σ H) ∨ ((Itr lo n).go i H ∧ ∃ N : St → Hp → Prop, (∀ σ' H', N σ' H' → ∃ m', m' < m ∧ W (i + 1) m' σ' H') ∧ ∀ x H', (Itr lo n).yld i H x H' → g x σ H' fun σ2 H2 => tb { D with nx := N, ct := N, bk := D.nx } σ2 H2) := by
  refine ⟨fun i m σ H => m = n - i ∧ i ≤ n ∧ Pv i σ H, ⟨n, by simp, Nat.zero_le _, h0⟩, ?_⟩
  rintro i m σ H ⟨rfl, hi, p⟩
  by_cases hlt : i < n
  · refine .inr ⟨hlt, Pv (i + 1), fun σ' H' p' => ⟨n - (i + 1), by omega, rfl, hlt, p'⟩, fun x H' y => ?_⟩
    obtain ⟨e, y⟩ := y
    subst e y
    exact hs i σ _ hlt p
  · have e : i = n := by omega
    subst e
    exact .inl ⟨Nat.le_refl _, hd σ H p⟩
end L2
namespace L2
open PySem PySem.Spec PyProof.Rows
abbrev R2 := V → V → Hp → VK → Prop
def OpR (X : Cx) (f : Value → Value → Sem Value) (r : R2) : Prop :=
  ∀ (pins : List (Addr × Obj)) (s : Shared) (σ : St) (H : Hp) (x y : V) (v u : Value) (Q : VK), Inv X pins σ H s → RelV x v → RelV y u → r x y H Q →
    wpAny (model X.prog X.w) X.A (f v u) (EP X pins σ Q) X.xe s
def UnR (X : Cx) (f : Value → Sem Value) (r : V → Hp → VK → Prop) : Prop :=
  ∀ (pins : List (Addr × Obj)) (s : Shared) (σ : St) (H : Hp) (x : V) (v : Value) (Q : VK), Inv X pins σ H s → RelV x v → r x H Q →
    wpAny (model X.prog X.w) X.A (f v) (EP X pins σ Q) X.xe s
def CallR (X : Cx) (f : Value) (r : List V → Hp → VK → Prop) : Prop :=
  ∀ (pins : List (Addr × Obj)) (s : Shared) (σ : St) (H : Hp) (xs : List V) (us : List Value) (Q : VK), Inv X pins σ H s → Vals xs us → r xs H Q →
    wpAny (model X.prog X.w) X.A (call f us) (EP X pins σ Q) X.xe s
def tOp (r : R2) (ta tb : TE) : TE := fun σ H Q => ta σ H fun x H1 => tb σ H1 fun y H2 => r x y H2 Q
def tUn (r : V → Hp → VK → Prop) (ta : TE) : TE := fun σ H Q => ta σ H fun x H1 => r x H1 Q
def rI (C : Int → Int → Prop) (g : Int → Int → V) : R2 := fun x y H Q => ∃ i j, x = .int i ∧ y = .int j ∧ C i j ∧ Q (g i j) H
def rI0 (g : Int → Int → V) : R2 := fun x y H Q => ∃ i j, x = .int i ∧ y = .int j ∧ Q (g i j) H
def rU (g : Int → V) : V → Hp → VK → Prop := fun x H Q => ∃ i, x = .int i ∧ Q (g i) H
section
variable {X : Cx} {a b c : Expr} {ta tb tc : TE} {pos : Pos}
theorem binT (ha : PE X a ta) (hb : PE X b tb) {pins : List (Addr × Obj)} {s : Shared} {σ : St} {H : Hp} {R : V → V → Hp → Prop} (I : Inv X pins σ H s)
    (h : ta σ H fun x H1 => tb σ H1 fun y H2 => R x y H2) {Q : Value → Shared → Prop} {f : Value → Value → Sem Value}
    (hf : ∀ v u s2 x y H2, Inv X pins σ H2 s2 → RelV x v → RelV y u → R x y H2 → wpAny (model X.prog X.w) X.A (f v u) Q X.xe s2) :
    wpAny (model X.prog X.w) X.A (eval a X.env) (fun v s₁ => wpAny (model X.prog X.w) X.A (eval b X.env) (fun u s₂ => wpAny (model X.prog X.w) X.A (f v u) Q X.xe s₂) X.xe s₁) X.xe s := by
  refine thn (ha pins s σ H _ I h) fun v s1 ⟨x, H1, I1, r1, q1⟩ => ?_
  refine thn (hb pins s1 σ H1 _ I1 q1) fun u s2 ⟨y, H2, I2, r2, q2⟩ => ?_
  exact hf v u s2 x y H2 I2 r1 r2 q2
theorem pe_op {op : Operator} {r : R2} (ho : OpR X (binaryOp op) r) (ha : PE X a ta) (hb : PE X b tb) : PE X (.BinOp a op b pos) (tOp r ta tb) := by
  intro pins s σ H Q I h
  exact wpAny_BinOp (binT ha hb I h fun v u s2 x y H2 I2 rx ry q => ho pins s2 σ H2 x y v u Q I2 rx ry q)
theorem pe_un {op : UnaryOp} {r : V → Hp → VK → Prop} (ho : UnR X (unaryOp op) r) (ha : PE X a ta) : PE X (.UnaryOp op a pos) (tUn r ta) := by
  intro pins s σ H Q I h
  exact UnaryOp_ (thn (ha pins s σ H _ I h) fun v s1 ⟨x, H1, I1, r1, q1⟩ => ho pins s1 σ H1 x v Q I1 r1 q1)
theorem opI {f : Value → Value → Sem Value} {C : Int → Int → Prop} {g : Int → Int → Int}
    (rule : ∀ (i j : Int) (t u : Tok) (s : Shared) (Q : Value → Shared → Prop) (E : Value → Shared → Prop), C i j → Q (.int (g i j) s.toks) { s with toks := s.toks + 1 } → wpAny (model X.prog X.w) X.A (f (.int i t) (.int j u)) Q E s) :
    OpR X f (rI C fun i j => .int (g i j)) := by
  intro pins s σ H x y v u Q I rx ry h
  obtain ⟨i, j, rfl, rfl, hc, q⟩ := h
  obtain ⟨t, rfl⟩ := rx
  obtain ⟨t', rfl⟩ := ry
  exact rule i j t t' s _ _ hc ⟨.int (g i j), H, I.tok _, ⟨_, rfl⟩, q⟩
theorem opI0 {f : Value → Value → Sem Value} {g : Int → Int → Int}
    (rule : ∀ (i j : Int) (t u : Tok) (s : Shared) (Q : Value → Shared → Prop) (E : Value → Shared → Prop), Q (.int (g i j) s.toks) { s with toks := s.toks + 1 } → wpAny (model X.prog X.w) X.A (f (.int i t) (.int j u)) Q E s) :
    OpR X f (rI0 fun i j => .int (g i j)) := by
  intro pins s σ H x y v u Q I rx ry h
  obtain ⟨i, j, rfl, rfl, q⟩ := h
  obtain ⟨t, rfl⟩ := rx
  obtain ⟨t', rfl⟩ := ry
  exact rule i j t t' s _ _ ⟨.int (g i j), H, I.tok _, ⟨_, rfl⟩, q⟩
theorem opB0 {f : Value → Value → Sem Value} {g : Int → Int → Bool}
    (rule : ∀ (i j : Int) (t u : Tok) (s : Shared) (Q : Value → Shared → Prop) (E : Value → Shared → Prop), Q (.bool (g i j)) s → wpAny (model X.prog X.w) X.A (f (.int i t) (.int j u)) Q E s) :
    OpR X f (rI0 fun i j => .bl (g i j)) := by
  intro pins s σ H x y v u Q I rx ry h
  obtain ⟨i, j, rfl, rfl, q⟩ := h
  obtain ⟨t, rfl⟩ := rx
  obtain ⟨t', rfl⟩ := ry
  exact rule i j t t' s _ _ ⟨.bl (g i j), H, I, rfl, q⟩
def CDiv (i j : Int) : Prop := 0 < j ∧ j < 1073741824
def CMul (i j : Int) : Prop := (-(2 ^ 64) < i ∧ i < 2 ^ 64) ∨ (-(2 ^ 64) < j ∧ j < 2 ^ 64)
theorem CMul.ok {i j : Int} (h : CMul i j) : IntMulOk i j := by
  rcases h with ⟨h1, h2⟩ | ⟨h1, h2⟩
  · exact .of_left (intBits_le_64 h1 h2)
  · exact .of_right (intBits_le_64 h1 h2)
theorem op_add : OpR X (binaryOp .Add) (rI0 fun i j => .int (i + j)) := opI0 fun _ _ _ _ _ _ _ q => add_int q
theorem op_mul : OpR X (binaryOp .Mult) (rI CMul fun i j => .int (i * j)) := opI fun _ _ _ _ _ _ _ hc q => mul_int q hc.ok
theorem op_fdiv : OpR X (binaryOp .FloorDiv) (rI CDiv fun i j => .int (i / j)) := opI fun i j _ _ _ _ _ hc q => by
  have h1 : (0 : Int) < j := hc.1
  have h2 : j < 1073741824 := hc.2
  exact floordiv_int (by omega) (by rw [Int.fdiv_eq_ediv_of_nonneg i (by omega)]; exact q) (.inl (PyProof.noPylong_small (by omega)))
theorem op_mod : OpR X (binaryOp .Mod) (rI (fun _ j => 0 < j) fun i j => .int (i % j)) := opI fun i j _ _ _ _ _ hc q => by
  have h1 : (0 : Int) < j := hc
  exact mod_int' (by omega) (by rw [Int.fmod_eq_emod_of_nonneg i (by omega)]; exact q)
theorem unI {f : Value → Sem Value} {g : Int → Int}
    (rule : ∀ (i : Int) (t : Tok) (s : Shared) (Q : Value → Shared → Prop) (E : Value → Shared → Prop), Q (.int (g i) s.toks) { s with toks := s.toks + 1 } → wpAny (model X.prog X.w) X.A (f (.int i t)) Q E s) :
    UnR X f (rU fun i => .int (g i)) := by
  intro pins s σ H x v Q I rx h
  obtain ⟨i, rfl, q⟩ := h
  obtain ⟨t, rfl⟩ := rx
  exact rule i t s _ _ ⟨.int (g i), H, I.tok _, ⟨_, rfl⟩, q⟩
theorem un_neg : UnR X (unaryOp .USub) (rU fun i => .int (-i)) := unI fun _ _ _ _ _ q => neg_int q
end
def scal : V → V → Bool
  | .non, .non => true | .non, .int _ => true | .int _, .non => true | .non, .bl _ => true | .bl _, .non => true | .non, .str _ => true | .str _, .non => true
  | .int _, .int _ => true | .bl _, .bl _ => true | .str _, .str _ => true | .byt _, .byt _ => true
  | .int _, .str _ => true | .str _, .int _ => true | .bl _, .str _ => true | .str _, .bl _ => true
  | _, _ => false
def rEq : R2 := fun x y H Q => scal x y = true ∧ Q (.bl (decide (x = y))) H
def rNe : R2 := fun x y H Q => scal x y = true ∧ Q (.bl (!decide (x = y))) H
theorem dec_int {i j : Int} : decide (V.int i = V.int j) = (i == j) := by
  rw [Bool.eq_iff_iff]
  simp
theorem dec_bl {i j : Bool} : decide (V.bl i = V.bl j) = (i == j) := by
  rw [Bool.eq_iff_iff]
  simp
theorem dec_str {i j : Str} : decide (V.str i = V.str j) = (i == j) := by
  rw [Bool.eq_iff_iff]
  simp
theorem dec_byt {i j : Array UInt8} : decide (V.byt i = V.byt j) = (i.toList == j.toList) := by
  rw [Bool.eq_iff_iff]
  cases i
  cases j
  simp
section
variable {X : Cx} {a b c : Expr} {ta tb tc : TE} {pos : Pos}
theorem fin_bl {pins : List (Addr × Obj)} {σ : St} {H : Hp} {s : Shared} {Q : VK} {k k' : Bool} (I : Inv X pins σ H s) (q : Q (.bl k) H) (e : k = k') : EP X pins σ Q (.bool k') s := by
  subst e
  exact ⟨.bl k, H, I, rfl, q⟩
theorem op_eq : OpR X (compareOp .Eq) rEq := by
  intro pins s σ H x y v u Q I rx ry h
  obtain ⟨hs, q⟩ := h
  cases x with
  | non =>
    cases rx
    cases y with
    | non => cases ry; exact PySem.EqNone.eq_none_none (fin_bl I q (by simp))
    | bl j => cases ry; exact PySem.EqNone.eq_none_bool (fin_bl I q (by simp))
    | int j => obtain ⟨t', rfl⟩ := ry; exact PySem.EqNone.eq_none_int (fin_bl I q (by simp))
    | str j => obtain ⟨t', rfl⟩ := ry; exact PySem.EqNone.eq_none_str (fin_bl I q (by simp))
    | _ => exact absurd (show false = true from hs) Bool.false_ne_true
  | bl i =>
    cases rx
    cases y with
    | non => cases ry; exact PySem.EqNone.eq_bool_none (fin_bl I q (by simp))
    | bl j => cases ry; exact eq_bool (fin_bl I q dec_bl)
    | str j => obtain ⟨t', rfl⟩ := ry; exact PySem.EqMixed.eq_bool_str (fin_bl I q (by simp))
    | _ => exact absurd (show false = true from hs) Bool.false_ne_true
  | int i =>
    obtain ⟨t, rfl⟩ := rx
    cases y with
    | non => cases ry; exact PySem.EqNone.eq_int_none (fin_bl I q (by simp))
    | int j => obtain ⟨t', rfl⟩ := ry; exact eq_int (fin_bl I q dec_int)
    | str j => obtain ⟨t', rfl⟩ := ry; exact PySem.EqMixed.eq_int_str (fin_bl I q (by simp))
    | _ => exact absurd (show false = true from hs) Bool.false_ne_true
  | str i =>
    obtain ⟨t, rfl⟩ := rx
    cases y with
    | non => cases ry; exact PySem.EqNone.eq_str_none (fin_bl I q (by simp))
    | bl j => cases ry; exact PySem.EqMixed.eq_str_bool (fin_bl I q (by simp))
    | int j => obtain ⟨t', rfl⟩ := ry; exact PySem.EqMixed.eq_str_int (fin_bl I q (by simp))
    | str j => obtain ⟨t', rfl⟩ := ry; exact eq_str (fin_bl I q dec_str)
    | _ => exact absurd (show false = true from hs) Bool.false_ne_true
  | byt i =>
    obtain ⟨t, rfl⟩ := rx
    cases y with
    | byt j => obtain ⟨t', rfl⟩ := ry; exact PySem.W.eq_bytes (fin_bl I q dec_byt)
    | _ => exact absurd (show false = true from hs) Bool.false_ne_true
  | _ => cases y <;> exact absurd (show false = true from hs) Bool.false_ne_true
theorem op_ne : OpR X (compareOp .NotEq) rNe := by
  intro pins s σ H x y v u Q I rx ry h
  obtain ⟨hs, q⟩ := h
  cases x with
  | non =>
    cases rx
    cases y with
    | non => cases ry; exact PySem.EqNone.ne_none_none (fin_bl I q (by simp))
    | bl j => cases ry; exact PySem.EqNone.ne_none_bool (fin_bl I q (by simp))
    | int j => obtain ⟨t', rfl⟩ := ry; exact PySem.EqNone.ne_none_int (fin_bl I q (by simp))
    | str j => obtain ⟨t', rfl⟩ := ry; exact PySem.EqNone.ne_none_str (fin_bl I q (by simp))
    | _ => exact absurd (show false = true from hs) Bool.false_ne_true
  | bl i =>
    cases rx
    cases y with
    | non => cases ry; exact PySem.EqNone.ne_bool_none (fin_bl I q (by simp))
    | bl j => cases ry; exact ne_bool (fin_bl I q (congrArg not dec_bl))
    | str j => obtain ⟨t', rfl⟩ := ry; exact PySem.EqMixed.ne_bool_str (fin_bl I q (by simp))
    | _ => exact absurd (show false = true from hs) Bool.false_ne_true
  | int i =>
    obtain ⟨t, rfl⟩ := rx
    cases y with
    | non => cases ry; exact PySem.EqNone.ne_int_none (fin_bl I q (by simp))
    | int j => obtain ⟨t', rfl⟩ := ry; exact ne_int (fin_bl I q (congrArg not dec_int))
    | str j => obtain ⟨t', rfl⟩ := ry; exact PySem.EqMixed.ne_int_str (fin_bl I q (by simp))
    | _ => exact absurd (show false = true from hs) Bool.false_ne_true
  | str i =>
    obtain ⟨t, rfl⟩ := rx
    cases y with
    | non => cases ry; exact PySem.EqNone.ne_str_none (fin_bl I q (by simp))
    | bl j => cases ry; exact PySem.EqMixed.ne_str_bool (fin_bl I q (by simp))
    | int j => obtain ⟨t', rfl⟩ := ry; exact PySem.EqMixed.ne_str_int (fin_bl I q (by simp))
    | str j => obtain ⟨t', rfl⟩ := ry; exact ne_str (fin_bl I q (congrArg not dec_str))
    | _ => exact absurd (show false = true from hs) Bool.false_ne_true
  | byt i =>
    obtain ⟨t, rfl⟩ := rx
    cases y with
    | byt j => obtain ⟨t', rfl⟩ := ry; exact PySem.W.ne_bytes (fin_bl I q (congrArg not dec_byt))
    | _ => exact absurd (show false = true from hs) Bool.false_ne_true
  | _ => cases y <;> exact absurd (show false = true from hs) Bool.false_ne_true
theorem op_lt : OpR X (compareOp .Lt) (rI0 fun i j => .bl (decide (i < j))) := opB0 fun _ _ _ _ _ _ _ q => lt_int q
theorem op_le : OpR X (compareOp .LtE) (rI0 fun i j => .bl (decide (i ≤ j))) := opB0 fun _ _ _ _ _ _ _ q => le_int q
theorem op_gt : OpR X (compareOp .Gt) (rI0 fun i j => .bl (decide (j < i))) := opB0 fun _ _ _ _ _ _ _ q => gt_int q
theorem op_ge : OpR X (compareOp .GtE) (rI0 fun i j => .bl (decide (j ≤ i))) := opB0 fun _ _ _ _ _ _ _ q => ge_int q
theorem op_isN : OpR X (compareOp .Is) (fun x y H Q => y = .non ∧ Q (.bl (decide (x = .non))) H) := by
  intro pins s σ H x y v u Q I rx ry h
  obtain ⟨rfl, q⟩ := h
  cases ry
  refine is_none_gen (fin_bl I q ?_)
  cases x <;> first
    | (cases rx; rfl)
    | (obtain ⟨t, rfl⟩ := rx; rfl)
theorem nomark (b : Expr) {op : CmpOp} (h : op ≠ .In := by decide) (h2 : op ≠ .NotIn := by decide) : behindInMarks op b = false := by
  have e1 : (op == CmpOp.In) = false := by cases op <;> first | rfl | exact absurd rfl h
  have e2 : (op == CmpOp.NotIn) = false := by cases op <;> first | rfl | exact absurd rfl h2
  cases b <;> simp [behindInMarks, e1, e2]
theorem pe_cmpR {op : CmpOp} {r : R2} (ho : OpR X (compareOp op) r) (ha : PE X a ta) (hb : PE X b tb) (hm : behindInMarks op b = false) : PE X (.Compare a [op] [b] pos) (tOp r ta tb) := by
  intro pins s σ H Q I h
  exact wpAny_Compare1 (binT ha hb I h fun v u s2 x y H2 I2 rx ry q => ho pins s2 σ H2 x y v u Q I2 rx ry q) hm
def tTest (t : TE) : TT := fun σ H Q => t σ H fun x H' => ∃ k, x = .bl k ∧ Q k H'
theorem pt_cmpR {op : CmpOp} {r : R2} (ho : OpR X (compareOp op) r) (ha : PE X a ta) (hb : PE X b tb) (hm : behindInMarks op b = false) : PT X (.Compare a [op] [b] pos) (tTest (tOp r ta tb)) := by
  intro pins s σ H Q I h
  refine wpAny_isTrue_Compare1 (thn (ha pins s σ H _ I h) fun v s1 ⟨x, H1, I1, r1, q1⟩ => thn (hb pins s1 σ H1 _ I1 q1) fun u s2 ⟨y, H2, I2, r2, q2⟩ =>
    thn (ho pins s2 σ H2 x y v u _ I2 r1 r2 q2) fun c s3 ⟨z, H3, I3, r3, k, e, q3⟩ => ?_) hm
  subst e
  cases r3
  exact wpAny_truthy_bool ⟨H3, I3, q3⟩
theorem line63 : (sizeLine : Nat) < 2 ^ 63 := by rw [sizeLine_eq]; decide
theorem op_add_str : OpR X (binaryOp .Add) (fun x y H Q => ∃ i j, x = .str i ∧ y = .str j ∧ i.length + j.length ≤ sizeLine ∧ Q (.str (i ++ j)) H) := by
  intro pins s σ H x y v u Q I rx ry h
  obtain ⟨i, j, rfl, rfl, hz, q⟩ := h
  obtain ⟨t, rfl⟩ := rx
  obtain ⟨t', rfl⟩ := ry
  exact add_str (fun t' tk => ⟨.str (i ++ j), H, I.tok _, ⟨_, rfl⟩, q⟩) hz
theorem vals1 {x : V} {us : List Value} (r : Vals [x] us) : ∃ u, us = [u] ∧ RelV x u := by
  cases r with
  | cons r1 r2 => cases r2; exact ⟨_, rfl, r1⟩
theorem vals2 {x y : V} {us : List Value} (r : Vals [x, y] us) : ∃ u w', us = [u, w'] ∧ RelV x u ∧ RelV y w' := by
  cases r with
  | cons r1 r2 =>
    cases r2 with
    | cons r3 r4 => cases r4; exact ⟨_, _, rfl, r1, r3⟩
theorem call_str_int : CallR X (.type "str") (fun xs H Q => ∃ i, xs = [.int i] ∧ i.natAbs.log2 < 1920 ∧ Q (.str (toString i)) H) := by
  intro pins s σ H xs us Q I r h
  obtain ⟨i, rfl, hz, q⟩ := h
  obtain ⟨u, rfl, t, rfl⟩ := vals1 r
  exact PySem.P.str_of_int hz ⟨.str _, H, I.tok _, ⟨_, rfl⟩, q⟩
end
end L2
namespace L2
open PySem PySem.Spec PyProof.Rows
structure ObjM (h : Heap) (x dx C : Addr) (mA : Str → Option Value) : Prop where
  obj : h.get? x = some (PySem.W.instObj C dx)
  ns : h.Ns1 dx mA
  ne : dx ≠ x
theorem lookIn_ns {h : Heap} {dx : Addr} {mA : Str → Option Value} (n : h.Ns1 dx mA) : ∃ od, h.get? dx = some od ∧ ∀ name, PySem.W.lookIn name od = some (mA name) := by
  obtain ⟨o, es, ep, ho, hd, hk, _, hm⟩ := n
  refine ⟨o, ho, fun name => ?_⟩
  have e := hm name
  unfold nsFind findBy at e
  rw [← Array.find?_toList] at e
  unfold PySem.W.lookIn
  rw [hd]
  dsimp only
  split
  · rename_i y q
    rw [q] at e
    exact congrArg some e
  · rename_i q
    rw [q] at e
    have a : es.toList.any (·.refKey) = false := by
      rw [List.any_eq_false]
      intro y hy
      obtain ⟨z, t, hkey⟩ := hk y (Array.mem_toList_iff.mp hy)
      simp [DictEntry.refKey, hkey]
    have a' : ¬ es.toList.any (·.refKey) = true := by rw [a]; exact Bool.false_ne_true
    rw [if_neg a']
    exact congrArg some e
theorem ObjM.look {h : Heap} {x dx C : Addr} {mA : Str → Option Value} (I : ObjM h x dx C mA) : ∃ od, PySem.W.InstAt h x (PySem.W.instObj C dx) C (some od) ∧ ∀ name, PySem.W.lookIn name od = some (mA name) :=
  let ⟨od, ho, hl⟩ := lookIn_ns I.ns
  ⟨od, ⟨I.obj, rfl, rfl, ho⟩, hl⟩
section
variable {prog : Program} {w : World} {A : Around} {E : Value → Shared → Prop} {s : Shared} {K : PySem.W.Frag} {x dx C f : Addr} {mA : Str → Option Value} {name : Str} {v : Value}
end
section
variable {P : Program} {w : World} {H H' : Hp} {h h' : Heap} {a C dx : Addr} {fs fs' : List (Str × V)}
theorem ins_get (hok : HOk P w H h) (e : H a = some (.ins C dx fs)) : ∃ mA, ObjM h a dx C mA ∧ (∀ f, RelO (fs.lookup f) (mA f)) ∧ PySem.Within mA (fs.map (·.1)) ∧ fs.length ≤ 1000 ∧ H dx = some (.own a) := by
  obtain ⟨d, z, ne, ob, mA, n, r, q⟩ := (show ObjOk P w H h a (.ins C dx fs) from hok a _ e)
  exact ⟨mA, ⟨ob, n, ne⟩, r, q, z, d⟩
end
structure Cls (K : PySem.W.Frag) (C : Addr) : Prop where
  pg : PySem.W.plainGet K C Str.empty = true
  hd : PySem.W.hasDictIn K C = true
  po : PySem.W.plainOver K C = true
  sa : PySem.W.findIn K (.ref C) "__setattr__" = some (some (.builtin "object.__setattr__"))
theorem Cls.get {K : PySem.W.Frag} {C : Addr} (c : Cls K C) (f : Str) : PySem.W.plainGet K C f = true := c.pg
structure Con (K : PySem.W.Frag) (C : Addr) (f : Str) (v : V) (u : Value) : Prop where
  at_ : PySem.W.findIn K (.ref C) f = some (some u)
  rel : RelV v u
  get : PySem.W.specialIn K u "__get__" = some none
  cp : PySem.W.copiedNames.contains f = false
structure Meth (K : PySem.W.Frag) (C : Addr) (m : Str) (f : Addr) : Prop where
  at_ : PySem.W.findIn K (.ref C) m = some (some (.ref f))
  fn : PySem.W.isFn K (.ref f) = true
  kp : PySem.W.keepIn K (.ref f) = true
section
variable {X : Cx} {pins : List (Addr × Obj)} {σ : St} {H : Hp} {s : Shared} {a C dx : Addr} {fs : List (Str × V)} {f : Str} {v : V} {A : Around} {E : Value → Shared → Prop}
end
section
variable {X : Cx} {o e value : Expr} {f : Str} {pos pos' tpos : Pos} {ta tv : TE}
end
section
variable {X : Cx} {pins : List (Addr × Obj)} {σ : St} {H : Hp} {s : Shared} {A : Around} {E : Value → Shared → Prop} {Q : Value → Shared → Prop} {c : Value} {b : Bool}
inductive TyOf (K : PySem.W.Frag) (H : Hp) : V → Value → Prop where
  | non : TyOf K H .non (.type "NoneType")
  | bl (x : Bool) : TyOf K H (.bl x) (.type "bool")
  | int (i : Int) : TyOf K H (.int i) (.type "int")
  | str (x : Str) : TyOf K H (.str x) (.type "str")
  | flt (x : UInt64) : TyOf K H (.flt x) (.type "float")
  | lst {a : Addr} {xs : List V} (e : H a = some (.lst xs)) : TyOf K H (.ref a) (.type "list")
  | frz {a : Addr} {o : Obj} {xs : List V} (e : H a = some (.frz o (.lst xs))) : TyOf K H (.ref a) (.type "list")
  | tup {a : Addr} {xs : List V} (e : H a = some (.tup xs)) : TyOf K H (.ref a) (.type "tuple")
  | dK {a : Addr} {kvs : List (Key × V)} (e : H a = some (.dK kvs)) : TyOf K H (.ref a) (.type "dict")
  | dT {a : Addr} {kvs : List (List Key × V)} (e : H a = some (.dT kvs)) : TyOf K H (.ref a) (.type "dict")
  | ins {a C dx : Addr} {fs : List (Str × V)} (e : H a = some (.ins C dx fs)) (cl : Cls K C) (ha : PySem.W.findIn K (.ref C) "__class__" = some (some (.builtin "object.__class__")))
      (hn : PySem.W.specialIn K (.builtin "object.__class__") "__get__" = some (some (.builtin "getset_descriptor.__get__"))) (htk : PySem.W.takesIn K (.builtin "object.__class__") = some true)
      (hm : PySem.W.mroIn K C (.type "object") = some true) : TyOf K H (.ref a) (.ref C)
theorem isinst_ok {x : V} {u t : Value} (I : Inv X pins σ H s) (rx : RelV x u) (ty : TyOf X.K H x t) (e : PySem.W.kitOne X.K t c = some b) (h : ∀ tk, Q (.bool b) { s with toks := tk }) :
    wpAny (model X.prog X.w) A (call (.builtin "isinstance") [u, c]) Q E s := by
  cases ty with
  | non => cases (show u = Value.none from rx); exact PySem.W.kia_one PySem.W.kitx_none I.kIn True.intro e (fun z => nomatch z) h
  | bl y => cases (show u = Value.bool y from rx); exact PySem.W.kia_one PySem.W.kitx_bool I.kIn True.intro e (fun z => nomatch z) h
  | int i => obtain ⟨t, q⟩ := (show ∃ t, u = Value.int i t from rx); cases q; exact PySem.W.kia_one PySem.W.kitx_int I.kIn True.intro e (fun z => nomatch z) h
  | str y => obtain ⟨t, q⟩ := (show ∃ t, u = Value.str y t from rx); cases q; exact PySem.W.kia_one PySem.W.kitx_str I.kIn True.intro e (fun z => nomatch z) h
  | flt y => obtain ⟨t, q⟩ := (show ∃ t, u = Value.float y t from rx); cases q; exact PySem.W.kia_one PySem.W.kitx_float I.kIn True.intro e (fun z => nomatch z) h
  | @lst a xs ea =>
    cases (show u = Value.ref a from rx)
    obtain ⟨_, _, n, _, h1⟩ := (show ObjOk X.prog X.w H s.heap a (.lst xs) from I.hok a _ ea)
    exact PySem.W.kia_one PySem.W.kitx_list I.kIn ⟨_, h1, rfl⟩ e (fun z => nomatch z) h
  | @frz a ob xs ea =>
    cases (show u = Value.ref a from rx)
    obtain ⟨_, _, _, n, _, h1⟩ := (show ObjOk X.prog X.w H s.heap a (.frz ob (.lst xs)) from I.hok a _ ea)
    exact PySem.W.kia_one PySem.W.kitx_list I.kIn ⟨_, h1, rfl⟩ e (fun z => nomatch z) h
  | @tup a xs ea =>
    cases (show u = Value.ref a from rx)
    obtain ⟨_, _, _, p⟩ := (show ObjOk X.prog X.w H s.heap a (.tup xs) from I.hok a _ ea)
    obtain ⟨o, h1, h2, _⟩ := p
    exact PySem.W.kia_one PySem.W.kitx_tuple I.kIn ⟨o, h1, h2⟩ e (fun z => nomatch z) h
  | @dK a kvs ea =>
    cases (show u = Value.ref a from rx)
    obtain ⟨_, _, vs, _, p⟩ := (show ObjOk X.prog X.w H s.heap a (.dK kvs) from I.hok a _ ea)
    obtain ⟨o, es, ep, h1, h2, _⟩ := p
    exact PySem.W.kia_one PySem.W.kitx_dict I.kIn ⟨o, h1, h2.1⟩ e (fun z => nomatch z) h
  | @dT a kvs ea =>
    cases (show u = Value.ref a from rx)
    obtain ⟨_, _, xs, _, o, es, ep, h1, h2, _⟩ := (show ObjOk X.prog X.w H s.heap a (.dT kvs) from I.hok a _ ea)
    exact PySem.W.kia_one PySem.W.kitx_dict I.kIn ⟨o, h1, h2.1⟩ e (fun z => nomatch z) h
  | @ins a C dx fs ea cl ha hn htk hm =>
    cases (show u = Value.ref a from rx)
    obtain ⟨mA, O, _⟩ := ins_get I.hok ea
    obtain ⟨od, J, _⟩ := O.look
    exact PySem.W.kia_one (PySem.W.kitx_own (cl.get _) cl.hd ha hn htk hm) I.kIn J e (fun z => nomatch z) h
end
end L2
namespace L2
open PySem PySem.Spec PyProof.Rows
structure Room (k : Nat) (A : Around) : Prop where
  hd : A.handled = none
  dp : A.depth + 3 * k + 5 < recursionLimit
  un : A.units + 16 * k + 200 < cLine
theorem Room.mono {j k : Nat} {A : Around} (r : Room k A) (h : j ≤ k) : Room j A := ⟨r.hd, by have := r.dp; omega, by have := r.un; omega⟩
theorem Room.deeper {k : Nat} {A : Around} (r : Room (k + 1) A) (env : Env) : Room k (A.deeper env) :=
  ⟨r.hd, by have := r.dp; show A.depth + 1 + 3 * k + 5 < _; omega, by have := r.un; show A.units + 3 + 16 * k + 200 < _; omega⟩
theorem Room.depth {k : Nat} {A : Around} (r : Room k A) : A.depth < recursionLimit := by have := r.dp; omega
theorem Room.units0 {k : Nat} {A : Around} (r : Room k A) : A.units < cLine := by have := r.un; omega
def tNil : TA := fun _ H Q => Q [] H
def tCons (ta : TE) (tr : TA) : TA := fun σ H Q => ta σ H fun x H1 => tr σ H1 fun xs H2 => Q (x :: xs) H2
section
variable {X : Cx} {e : Expr} {es : List Expr} {te : TE} {t : TA} {pos : Pos}
theorem pa_nil : PA X [] tNil := fun _ _ _ _ H Q I h => Calls.spliced_nil ⟨[], H, I, .nil, h⟩
theorem pa_cons (ha : PE X e te) (hr : PA X es t) (hs : starEach (e :: es) X.env = (false, eval e X.env) :: starEach es X.env := by rfl) : PA X (e :: es) (tCons te t) := by
  intro pos pins s σ H Q I h
  rw [hs]
  show wpAny _ _ (spliced ((false, eval e X.env) :: backTo pos (starEach es X.env))) _ _ s
  refine Calls.spliced_cons (thn (ha pins s σ H _ I h) fun u s1 ⟨x, H1, I1, r1, q1⟩ => ?_)
  exact thn (hr pos pins s1 σ H1 _ I1 q1) fun us s2 ⟨xs, H2, I2, r2, q2⟩ => ⟨x :: xs, H2, I2, .cons r1 r2, q2⟩
def tTup (t : TA) : TE := fun σ H Q => t σ H fun xs H1 => xs.length ≤ sizeLine ∧ ∀ p, H1 p = none → Q (.ref p) (upd H1 p (.tup xs))
def tLst (t : TA) : TE := fun σ H Q => t σ H fun xs H1 => xs.length ≤ sizeLine ∧ ∀ p, H1 p = none → Q (.ref p) (upd H1 p (.lst xs))
theorem pe_tup {x1} (h : PA X es t) : PE X (.Tuple es x1 pos) (tTup t) := by
  intro pins s σ H Q I hq
  refine wpAny_Tuple_spliced (thn (h pos pins s σ H _ I hq) fun us s1 ⟨xs, H1, I1, r, z, q⟩ => ⟨by rw [← r.length]; exact z, ?_⟩)
  have hf : H1 s1.heap.objs.size = none := I1.hok.fresh (Nat.le_refl _)
  refine ⟨.ref s1.heap.objs.size, upd H1 s1.heap.objs.size (.tup xs), I1.laid (t' := s1.toks) (fun b u e => Heap.get?_push_of_some _ e) (Nat.le_refl _) ?_, rfl, q _ hf⟩
  exact ⟨z, us, r, ⟨_, Heap.get?_push_size _ rfl, rfl, _, rfl⟩⟩
theorem pe_lst (h : PA X es t) : PE X (.List es pos) (tLst t) := by
  intro pins s σ H Q I hq
  refine wpAny_List_spliced (thn (h pos pins s σ H _ I hq) fun us s1 ⟨xs, H1, I1, r, z, q⟩ => ⟨by rw [← r.length]; exact z, ?_⟩)
  have hf : H1 s1.heap.objs.size = none := I1.hok.fresh (Nat.le_refl _)
  refine ⟨.ref s1.heap.objs.size, upd H1 s1.heap.objs.size (.lst xs), I1.laid (t' := s1.toks) (fun b u e => Heap.get?_push_of_some _ e) (Nat.le_refl _) ?_, rfl, q _ hf⟩
  exact ⟨z, us, 0, r, Heap.get?_push_size _ rfl⟩
end
abbrev Sp := List V → Hp → VK → XK → Prop
abbrev CXT := List Env → Hp → Shared → XK → Value → Shared → Prop
structure Env0 (P : Program) (w : World) (K : PySem.W.Frag) (mg : Str → Option Value) (base : Heap) (A : Around) (outer : List Env) (s : Shared) (H : Hp) : Prop where
  frames : A.frames = some outer
  mod : Mod K mg base
  bs : ∀ b o, base.get? b = some o → s.heap.get? b = some o ∧ H b = none
  bsz : base.objs.size ≤ s.heap.objs.size
  funs : s.heap.FunFrames base outer
  frf : ∀ b ∈ frs outer, H b = none
  hok : HOk P w H s.heap
  bare : AllBare s.gens
def CE (outer : List Env) (P : Program) (w : World) (H : Hp) (s : Shared) (Q : VK) (u : Value) (s' : Shared) : Prop :=
  ∃ v H', s'.os = s.os ∧ AllBare s'.gens ∧ Un (frs outer) [] H H' s.heap s'.heap ∧ HOk P w H' s'.heap ∧ RelV v u ∧ Q v H'
def CR (CX : CXT) (outer : List Env) (P : Program) (w : World) (H : Hp) (s : Shared) (Q : VK) (E : XK) (r : Result) (s' : Shared) : Prop :=
  match r with
  | .ok (.ret u) => CE outer P w H s Q u s'
  | .ok _ => False
  | .error e => CX outer H s E e s'
structure FnOk (P : Program) (w : World) (K : PySem.W.Frag) (mg : Str → Option Value) (base : Heap) (CX : CXT) (k : Nat) (f : Addr) (fd : FuncData) (ps : List Str) (sp : Sp) : Prop where
  len : ∀ vs H Q E, sp vs H Q E → vs.length = ps.length
  run : ∀ (A : Around) (outer : List Env) (s : Shared) (H : Hp) (args : Args) (us : List Value) (vs : List V) (Q : VK) (E : XK), Room k A → Env0 P w K mg base A outer s H → BindsTo s fd args (ps.zip us) → Vals vs us → sp vs H Q E →
    codeAny (model P w) A (.call (.ref f) args) (CR CX outer P w H s Q E) s
section
variable {X : Cx} {pins : List (Addr × Obj)} {σ : St} {H : Hp} {s s' : Shared}
theorem Inv.env0 (I : Inv X pins σ H s) : Env0 X.prog X.w X.K X.mg X.base X.A X.stack s H :=
  ⟨I.ok.frames, I.ok.mod, I.bs, Nat.le_trans I.ok.bsz I.sz, I.stack, I.stkFree, I.hok, I.bare⟩
theorem Inv.after {Q : VK} {u : Value} (I : Inv X pins σ H s) (h : CE X.stack X.prog X.w H s Q u s') : EP X pins σ Q u s' := by
  obtain ⟨v, H', os, bare, un, hok, r, q⟩ := h
  obtain ⟨hh, g, d, t, os'⟩ := s'
  obtain rfl : os' = s.os := os
  exact ⟨v, H', I.call (h' := hh) (g' := g) (d' := d) (t' := t) (ch := []) un hok bare (fun b z => absurd z (by simp)), r, q⟩
end
def tCall (sp : Sp) (dvs : List V) (E : XK) (t : TA) : TE := fun σ H Q => t σ H fun vs H1 => sp (vs ++ dvs) H1 Q E
def Binds (K : PySem.W.Frag) (fd : FuncData) (ps : List Str) (ds : List Value) : Prop :=
  ∀ (s : Shared) (us : List Value), K.In s.heap → (us ++ ds).length = ps.length → BindsTo s fd ⟨us, []⟩ (ps.zip (us ++ ds))
theorem Binds.all {K : PySem.W.Frag} {fd : FuncData} {ps : List Str} (h : ∀ us : List Value, us.length = ps.length → bindArgs fd ⟨us, []⟩ = pure (ps.zip us)) : Binds K fd ps [] := fun s us _ hl => by
  rw [List.append_nil] at hl ⊢
  exact .of_eq (h us hl)
def Passes (CX : CXT) (X : Cx) (E : XK) : Prop := ∀ (pins : List (Addr × Obj)) (σ : St) (H : Hp) (s : Shared) (e : Value) (s' : Shared), Inv X pins σ H s → CX X.stack H s E e s' → X.xe e s'
section
variable {X : Cx} {CX : CXT} {k : Nat} {f C : Addr} {fd : FuncData} {ps : List Str} {sp : Sp} {dvs : List V} {ds : List Value} {E : XK} {x m : Str} {p pos apos : Pos} {e o : Expr} {es : List Expr} {ta : TE} {t : TA}
theorem run_fn {pins : List (Addr × Obj)} {σ : St} {H : Hp} {s : Shared} {Q : VK} {us : List Value} {vs : List V} (F : FnOk X.prog X.w X.K X.mg X.base CX k f fd ps sp) (hr : Room k X.A) (hb : Binds X.K fd ps ds) (hd : Vals dvs ds) (hx : Passes CX X E)
    (I : Inv X pins σ H s) (r : Vals vs us) (h : sp (vs ++ dvs) H Q E) : wpAny (model X.prog X.w) X.A (call (.ref f) us) (EP X pins σ Q) X.xe s := by
  have r2 : Vals (vs ++ dvs) (us ++ ds) := r.append hd
  have hl : (us ++ ds).length = ps.length := by rw [← r2.length]; exact F.len _ _ _ _ h
  refine wpAny_call (codeAny_mono (F.run X.A X.stack s H ⟨us, []⟩ (us ++ ds) (vs ++ dvs) Q E hr I.env0 (hb s us I.kIn hl) r2 h) fun r s' hq => ?_)
  cases r with
  | error e => exact hx pins σ H s e s' I hq
  | ok fl =>
    cases fl with
    | ret u => exact I.after hq
    | next => exact False.elim hq
    | brk => exact False.elim hq
    | cont => exact False.elim hq
theorem pe_call (F : FnOk X.prog X.w X.K X.mg X.base CX k f fd ps sp) (hr : Room k X.A) (hg : Gl X x) (hm : X.mg x = some (.ref f)) (hk : PySem.W.keepIn X.K (.ref f) = true) (hb : Binds X.K fd ps ds) (hd : Vals dvs ds) (hx : Passes CX X E)
    (ha : PA X (e :: es) t) (hdb : (x == ("__debug__" : Str)) = false := by decide) (he : starEach (e :: es) X.env = (false, eval e X.env) :: starEach es X.env := by rfl) (hpl : (backTo pos (starEach es X.env)).any (·.1) = false := by rfl) :
    PE X (.Call (.Name x p) (e :: es) [] pos) (tCall sp dvs E t) := by
  intro pins s σ H Q I h
  refine wpAny_Call_Name_kw (ld_glob I hg hm ?_ hdb)
  refine PySem.W.callWith_K (h₀ := X.base) I.ok.mod.kin hk (thn (ha pos pins s σ H _ I h) fun us s1 ⟨vs, H1, I1, r, q⟩ => ⟨I1.kIn, ?_⟩) he hpl
  exact run_fn F hr hb hd hx I1 r q
theorem pe_call0 (F : FnOk X.prog X.w X.K X.mg X.base CX k f fd ps sp) (hr : Room k X.A) (hg : Gl X x) (hm : X.mg x = some (.ref f)) (hk : PySem.W.keepIn X.K (.ref f) = true) (hb : Binds X.K fd ps ds) (hd : Vals dvs ds) (hx : Passes CX X E)
    (hdb : (x == ("__debug__" : Str)) = false := by decide) : PE X (.Call (.Name x p) [] [] pos) (tCall sp dvs E tNil) := by
  intro pins s σ H Q I h
  refine wpAny_Call_Name_kw (ld_glob I hg hm ?_ hdb)
  exact PySem.W.callWith_K0 I.kIn hk (run_fn (us := []) F hr hb hd hx I .nil h)
structure Mk (K : PySem.W.Frag) (C f : Addr) : Prop where
  makes : PySem.W.makesIn K C = true
  init : PySem.W.findIn K (.ref C) "__init__" = some (some (.ref f))
  fn : PySem.W.isFn K (.ref f) = true
  kp : PySem.W.keepIn K (.ref C) = true
end
section
variable {X : Cx} {CX : CXT} {k : Nat} {f C : Addr} {fd : FuncData} {ps ks : List Str} {sp : Sp} {E : XK} {x m : Str} {p pos apos kpos : Pos} {e o : Expr} {es : List Expr} {kws : List Keyword} {te ta : TE} {t tk : TA} {nm : Option Str}
structure KBinds (K : PySem.W.Frag) (fd : FuncData) (ps ks : List Str) (g : List Value → List Value → List Value) (gV : List V → List V → List V) : Prop where
  to : ∀ (s : Shared) (us ws : List Value), K.In s.heap → (g us ws).length = ps.length → BindsTo s fd ⟨us, ks.zip ws⟩ (ps.zip (g us ws))
  rel : ∀ {vs : List V} {us : List Value} {zs : List V} {ws : List Value}, Vals vs us → Vals zs ws → Vals (gV vs zs) (g us ws)
variable {g : List Value → List Value → List Value} {gV : List V → List V → List V}
end
structure FnScope (N P : List Str) (sc : Scope) : Prop where
  kind : sc.kind = .function
  co : sc.isCoroutine = false
  gen : sc.isGenerator = false
  nd : N.Nodup
  pre : N.take P.length = P
  par : ∀ x ∈ P, sc.names.lookup x = some .local ∨ sc.names.lookup x = some .cell
  nofree : ∀ y ∈ sc.names, y.2 ≠ .free
theorem bindL_out {kindOf : Str → Option NameKind} {x : Str} : ∀ {binds : List (Str × Value)} {m : Str → Option Value}, (∀ v, (x, v) ∉ binds) → bindL kindOf binds m x = m x
  | [], _, _ => rfl
  | (n, v) :: r, m, h => by
    unfold bindL
    rw [bindL_out fun w hw => h w (List.mem_cons_of_mem _ hw)]
    split
    · have : x ≠ n := by rintro rfl; exact h v List.mem_cons_self
      simp [this]
    · rfl
theorem bindC_out {kindOf : Str → Option NameKind} {x : Str} : ∀ {binds : List (Str × Value)} {m : Str → Option Value}, (∀ v, (x, v) ∉ binds) → bindC kindOf binds m x = m x
  | [], _, _ => rfl
  | (n, v) :: r, m, h => by
    unfold bindC
    rw [bindC_out fun w hw => h w (List.mem_cons_of_mem _ hw)]
    split
    · rfl
    · have : x ≠ n := by rintro rfl; exact h v List.mem_cons_self
      simp [this]
theorem bindL_get {kindOf : Str → Option NameKind} {x : Str} {v : Value} : ∀ {P : List Str} {vs : List Value} {i : Nat} {m : Str → Option Value}, P.Nodup → P[i]? = some x → vs[i]? = some v → kindOf x = some .local →
    bindL kindOf (P.zip vs) m x = some v
  | [], _, _, _, _, h, _, _ => by simp at h
  | _ :: _, [], _, _, _, _, h, _ => by simp at h
  | p :: P, w :: vs, 0, m, nd, h1, h2, hk => by
    simp at h1 h2; subst h1; subst h2
    show bindL kindOf ((p, w) :: P.zip vs) m p = _
    unfold bindL
    rw [bindL_out fun v hv => (List.nodup_cons.mp nd).1 (List.of_mem_zip hv).1, if_pos hk]
    simp
  | p :: P, w :: vs, i + 1, m, nd, h1, h2, hk => by
    show bindL kindOf ((p, w) :: P.zip vs) m x = _
    unfold bindL
    exact bindL_get (i := i) (List.nodup_cons.mp nd).2 (by simpa using h1) (by simpa using h2) hk
theorem bindC_get {kindOf : Str → Option NameKind} {x : Str} {v : Value} : ∀ {P : List Str} {vs : List Value} {i : Nat} {m : Str → Option Value}, P.Nodup → P[i]? = some x → vs[i]? = some v → kindOf x ≠ some .local →
    bindC kindOf (P.zip vs) m x = some v
  | [], _, _, _, _, h, _, _ => by simp at h
  | _ :: _, [], _, _, _, _, h, _ => by simp at h
  | p :: P, w :: vs, 0, m, nd, h1, h2, hk => by
    simp at h1 h2; subst h1; subst h2
    show bindC kindOf ((p, w) :: P.zip vs) m p = _
    unfold bindC
    rw [bindC_out fun v hv => (List.nodup_cons.mp nd).1 (List.of_mem_zip hv).1, if_neg hk]
    simp
  | p :: P, w :: vs, i + 1, m, nd, h1, h2, hk => by
    show bindC kindOf ((p, w) :: P.zip vs) m x = _
    unfold bindC
    exact bindC_get (i := i) (List.nodup_cons.mp nd).2 (by simpa using h1) (by simpa using h2) hk
def start (N : List Str) (vs : List V) : St := vs.map some ++ List.replicate (N.length - vs.length) none
def cxOf (CX : CXT) (P : Program) (w : World) (K : PySem.W.Frag) (mg : Str → Option Value) (base : Heap) (N : List Str) (qual : Str) (scope : Scope) (f : Addr) (cd : Value) (A : Around) (outer : List Env) (s : Shared) (H : Hp) (E : XK) : Cx where
  prog := P
  w := w
  K := K
  mg := mg
  base := base
  A := A.deeper (envOfC qual scope s.heap.objs.size f cd)
  N := N
  s₀ := s
  H₀ := H
  env := envOfC qual scope s.heap.objs.size f cd
  outer := outer
  stack := envOfC qual scope s.heap.objs.size f cd :: outer
  ex := []
  calm := true
  fn := fun _ => true
  pn := []
  xe := fun e s' => wpAny (model P w) (A.deeper (envOfC qual scope s.heap.objs.size f cd)) (leaving (envOfC qual scope s.heap.objs.size f cd) e) (fun _ s'' => CX outer H s E e s'') (fun e' s'' => CX outer H s E e' s'') s'
theorem cell_has {sc : Scope} {n : Nat} {x : Str} (h : sc.names.lookup x = some .cell) : ∃ c, (cellsFrom n sc.names []).lookup x = some c := by
  have q := PySem.W.cellsFrom_some sc.names n [] (.inl h)
  exact Option.isSome_iff_exists.mp q
theorem inv_start {CX : CXT} {P : Program} {w : World} {K : PySem.W.Frag} {mg : Str → Option Value} {base : Heap} {N ps : List Str} {qual : Str} {scope : Scope} {f : Addr} {cd : Value} {A : Around} {outer : List Env} {s s1 : Shared} {H : Hp} {E : XK} {us : List Value} {vs : List V}
    (S : FnScope N ps scope) (hd : A.handled = none) (e0 : Env0 P w K mg base A outer s H) (hl : vs.length = ps.length) (r : Vals vs us)
    (x : InCallC s s.heap.objs.size (bindL (envOfC qual scope s.heap.objs.size f cd).kindOf (ps.zip us) fun _ => none) (cellsFrom (s.heap.objs.size + 1) scope.names []) (bindC (envOfC qual scope s.heap.objs.size f cd).kindOf (ps.zip us) fun _ => none) s1) :
    Inv (cxOf CX P w K mg base N qual scope f cd A outer s H E) [] (start N vs) H s1 := by
  have hpl : ps.length ≤ N.length := by have := congrArg List.length S.pre; rw [List.length_take] at this; omega
  obtain ⟨h1, tk, rfl, hk⟩ := x.done
  have noA : ∀ b : Addr, b ∉ (cxOf CX P w K mg base N qual scope f cd A outer s H E).ex := fun b z => absurd (show b ∈ ([] : List Addr) from z) (by simp)
  refine ⟨⟨e0.mod, S.kind, rfl, rfl, Nat.le_refl _, fun y z c h1 h2 => ?_, fun y hy => ?_, fun y c _ h => ?_, fun _ => hd, Around.frames_deeper e0.frames, .inr ⟨rfl, rfl⟩, fun b z => absurd z (noA b), e0.bs, e0.bsz, fun b _ _ => noA b, fun b z => absurd z (noA b), e0.funs, e0.frf⟩,
    rfl, e0.bare, Un.kept hk, ⟨_, x.toInCall.ns, fun i y v h1 h2 h3 => ?_⟩, fun y c h => ⟨_, x.cell y c h⟩, e0.hok.fresh (Nat.le_refl _), fun y c h => ?_, fun p hp => absurd (show p ∈ ([] : List (Addr × Obj)) from hp) (by simp), e0.hok.kept hk, ?_⟩
  · exact name_of_addr x.apart (PySem.mem_of_lookup h1) (PySem.mem_of_lookup h2)
  · have hy : scope.names.lookup y = some .cell ∨ scope.names.lookup y = some .free := hy
    rcases hy with hy | hy
    · exact cell_has hy
    · exact absurd rfl (S.nofree _ (PySem.mem_of_lookup hy))
  · exact Nat.le_of_lt (x.above y c (PySem.mem_of_lookup h))
  · have hi : i < vs.length := by
      unfold start at h2
      by_cases hi : i < vs.length
      · exact hi
      · rw [List.getElem?_append_right (by simpa using hi)] at h2
        rw [List.getElem?_replicate] at h2
        split at h2 <;> cases h2
    have ha : vs[i]? = some v := by
      unfold start at h2
      rw [List.getElem?_append_left (by simpa using hi), List.getElem?_map] at h2
      cases e : vs[i]? with
      | none => rw [e] at h2; cases h2
      | some a => rw [e] at h2; cases h2; rfl
    obtain ⟨u, hu, rv⟩ := r.get ha
    have hp : ps[i]? = some y := by
      rw [← S.pre, List.getElem?_take_of_lt (by omega)]; exact h1
    have ndP : ps.Nodup := by rw [← S.pre]; exact S.nd.sublist (List.take_sublist _ _)
    refine ⟨u, rv, ?_⟩
    rcases S.par y (List.mem_of_getElem? hp) with k | k
    · exact .inl ⟨k, bindL_get ndP hp hu k⟩
    · obtain ⟨c, e⟩ := cell_has (n := s.heap.objs.size + 1) k
      refine .inr ⟨.inl k, c, e, ?_⟩
      have q := x.cell y c e
      rw [bindC_get ndP hp hu (by show scope.names.lookup y ≠ _; rw [k]; decide)] at q
      exact q
  · exact e0.hok.fresh (Nat.le_of_lt (x.above y c (PySem.mem_of_lookup h)))
  · unfold start
    show _ = N.length
    rw [List.length_append, List.length_map, List.length_replicate]
    omega
theorem fn_of {CX : CXT} {P : Program} {w : World} {K : PySem.W.Frag} {mg : Str → Option Value} {base : Heap} {k : Nat} {f : Addr} {name qual : Str} {params : Arguments} {body : List Stmt} {scope : Scope} {dV kV doc pm cdv ct oc : Value} {an od : Option Addr}
    {osl : Array (Option Value)} {N ps : List Str} {sp : Sp} (lk : K.lookup f = some ⟨oc, od, .func (PySem.W.fnOf name qual params body scope dV kV doc pm an cdv ct), osl⟩) (hcd : PySem.W.codeIn K cdv qual = true) (S : FnScope N ps scope)
    (len : ∀ vs H Q E, sp vs H Q E → vs.length = ps.length)
    (hbody : ∀ (A : Around) (outer : List Env) (s : Shared) (H : Hp) (vs : List V) (Q : VK) (E : XK), Room k (A.deeper (envOfC qual scope s.heap.objs.size f cdv)) → sp vs H Q E →
      ∃ t, PSs (cxOf CX P w K mg base N qual scope f cdv A outer s H E) body t ∧ t { nx := fun _ H' => Q .non H', rt := Q } (start N vs) H) :
    FnOk P w K mg base CX (k + 1) f (PySem.W.fnOf name qual params body scope dV kV doc pm an cdv ct) ps sp := by
  refine ⟨len, fun A outer s H args us vs Q E hr e0 hb r hsp => ?_⟩
  have hl := len _ _ _ _ hsp
  have KX : K.In s.heap := e0.mod.kin.keeps fun b o e => (e0.bs b o e).1
  have lim : s.heap.NoLimit := e0.mod.nolimit.keeps fun b o e => (e0.bs b o e).1
  have hkind : ∀ y ∈ ps.zip us, scope.names.lookup y.1 = some .local ∨ (scope.names.lookup y.1 = some .cell ∧ ((cellsFrom (s.heap.objs.size + 1) scope.names []).lookup y.1).isSome = true) := fun ⟨n, v⟩ hy => by
    rcases S.par n (List.of_mem_zip hy).1 with q | q
    · exact .inl q
    · exact .inr ⟨q, PySem.W.cellsFrom_some _ _ _ (.inl q)⟩
  refine codeAny_call_function hr.depth (KX _ _ lk) rfl S.co S.gen rfl (PySem.W.codeRec_of KX hcd) (hb _ _ _ _ ?_)
  refine wpAny_newFunctionEnv_cells S.kind hkind fun env he s1 x => ?_
  subst he
  refine ⟨lim.keeps x.toInCall.keep, codeAny_func ?_⟩
  obtain ⟨t, ht, hq⟩ := hbody A outer s H vs Q E (hr.deeper _) hsp
  have I : Inv (cxOf CX P w K mg base N qual scope f cdv A outer s H E) [] (start N vs) H s1 := inv_start S hr.hd e0 hl r x
  refine wpAny_mono (ht [] s1 (start N vs) H _ I hq) (fun fl s' hs => ?_) fun e s' hs => hs
  have fin : ∀ {σ' : St} {H' : Hp} {v : V} {u : Value}, Inv (cxOf CX P w K mg base N qual scope f cdv A outer s H E) [] σ' H' s' → RelV v u → Q v H' → CE outer P w H s Q u s' :=
    fun {σ' H' v u} J rv q => ⟨v, H', J.os, J.bare, J.base, J.hok, rv, q⟩
  cases fl with
  | ret u =>
    obtain ⟨v, σ', H', J, rv, q⟩ := hs
    exact fin J rv q
  | next =>
    obtain ⟨σ', H', J, q⟩ := hs
    exact fin (v := V.non) (u := Value.none) J rfl q
  | brk =>
    obtain ⟨_, _, _, q⟩ := hs
    exact False.elim q
  | cont =>
    obtain ⟨_, _, _, q⟩ := hs
    exact False.elim q
end L2
namespace L2
open PySem PySem.Spec PyProof.Rows
section
variable {X : Cx} {x : Str} {p pos : Pos} {e : Expr} {es : List Expr} {t : TA} {id T : String} {r : List V → Hp → VK → Prop}
def tCB (r : List V → Hp → VK → Prop) (t : TA) : TE := fun σ H Q => t σ H fun vs H1 => r vs H1 Q
theorem pe_callB (hc : CallR X (.builtin id) r) (hg : Gl X x) (hm : X.mg x = none) (hv : bootBuiltins x = some (.builtin id)) (ha : PA X (e :: es) t) (hn : x ≠ "__name__" := by decide) (hdb : (x == ("__debug__" : Str)) = false := by decide)
    (he : starEach (e :: es) X.env = (false, eval e X.env) :: starEach es X.env := by rfl) (hpl : (backTo pos (starEach es X.env)).any (·.1) = false := by rfl) : PE X (.Call (.Name x p) (e :: es) [] pos) (tCB r t) := by
  intro pins s σ H Q I h
  refine wpAny_Call_Name_kw (ld_blt I hg hm hv ?_ hn hdb)
  exact PyProof.Rows.callWith_builtin1 (thn (ha pos pins s σ H _ I h) fun us s1 ⟨vs, H1, I1, r1, q1⟩ => hc pins s1 σ H1 vs us Q I1 r1 q1) he hpl
theorem pe_callTy (hc : CallR X (.type T) r) (hg : Gl X x) (hm : X.mg x = none) (hv : bootBuiltins x = some (.type T)) (ha : PA X (e :: es) t) (hn : x ≠ "__name__" := by decide) (hdb : (x == ("__debug__" : Str)) = false := by decide)
    (he : starEach (e :: es) X.env = (false, eval e X.env) :: starEach es X.env := by rfl) (hpl : (backTo pos (starEach es X.env)).any (·.1) = false := by rfl) : PE X (.Call (.Name x p) (e :: es) [] pos) (tCB r t) := by
  intro pins s σ H Q I h
  refine wpAny_Call_Name_kw (ld_blt I hg hm hv ?_ hn hdb)
  exact PyProof.Rows.callWith_type1 (thn (ha pos pins s σ H _ I h) fun us s1 ⟨vs, H1, I1, r1, q1⟩ => hc pins s1 σ H1 vs us Q I1 r1 q1) he hpl
end
end L2
namespace HT
open PySem PyProof.Rows
section
open PySem.SeqAt
open PySem.AutoSeq1 (wpAny_loadPart')
open PySem.MeetsSeq PySem.MeetsSeq2 PySem.MeetsSeq3
end
section
variable {prog : Program} {w : World} {A : Around} {E : Value → Shared → Prop} {s : Shared}
def sIx (n d : Nat) : Option Int → Nat
  | none => d
  | some v => if v < 0 then (v + (n : Int)).toNat else min v.toNat n
theorem sIx_nat (n d k : Nat) : sIx n d (some (k : Int)) = min k n := by
  show (if (k : Int) < 0 then ((k : Int) + (n : Int)).toNat else min (k : Int).toNat n) = min k n
  rw [if_neg (by omega), Int.toNat_natCast]
end
end HT
namespace L2
open PySem PySem.Spec PyProof.Rows
abbrev TO := St → Hp → (Option Int → Hp → Prop) → Prop
def PO (X : Cx) (e : Option Expr) (t : TO) : Prop :=
  ∀ (pins : List (Addr × Obj)) (s : Shared) (σ : St) (H : Hp) (Q : Option Int → Hp → Prop), Inv X pins σ H s → t σ H Q →
    wpAny (model X.prog X.w) X.A (evalPart e X.env) (fun u s' => ∃ o H', Inv X pins σ H' s' ∧ IsPart u o ∧ Q o H') X.xe s
def tNoPart : TO := fun _ H Q => Q none H
def tPart (t : TE) : TO := fun σ H Q => t σ H fun x H1 => ∃ i, x = .int i ∧ Q (some i) H1
section
variable {X : Cx} {e : Expr} {te : TE} {lo hi : Option Expr} {tl th : TO} {pos p2 : Pos}
theorem po_none : PO X none tNoPart := by
  intro pins s σ H Q I h
  rw [evalPart_none]
  exact wpAny_pure ⟨none, H, I, .none, h⟩
theorem po_some (h : PE X e te) : PO X (some e) (tPart te) := by
  intro pins s σ H Q I hw
  rw [evalPart_some]
  refine thn (h pins s σ H _ I hw) fun u s1 ⟨x, H1, I1, r1, q1⟩ => ?_
  obtain ⟨i, rfl, q⟩ := q1
  obtain ⟨t, rfl⟩ := r1
  exact ⟨some i, H1, I1, .int i t, q⟩
def SlR (X : Cx) (r : V → Option Int → Option Int → Hp → VK → Prop) : Prop :=
  ∀ (pins : List (Addr × Obj)) (s : Shared) (σ : St) (H : Hp) (x : V) (v vl vu : Value) (lo hi : Option Int) (sl : Addr) (Q : VK), Inv X pins σ H s → RelV x v → s.heap.IsSliceOf sl vl vu .none → IsPart vl lo → IsPart vu hi → r x lo hi H Q →
    ∃ T id, typeLookup (.type T) "__getitem__" = pure (some (.builtin id)) ∧ s.TypeIs v T ∧ wpAny (model X.prog X.w) X.A (getItem v (.ref sl)) (EP X pins σ Q) X.xe s
def tSl (r : V → Option Int → Option Int → Hp → VK → Prop) (te : TE) (tl th : TO) : TE := fun σ H Q => te σ H fun x H1 => tl σ H1 fun l H2 => th σ H2 fun u H3 => r x l u H3 Q
theorem pe_slice {r : V → Option Int → Option Int → Hp → VK → Prop} (hr : SlR X r) (he : PE X e te) (hl : PO X lo tl) (hu : PO X hi th) : PE X (.Subscript e (.Slice lo hi none p2) pos) (tSl r te tl th) := by
  intro pins s σ H Q I h
  refine Subscript_ (thn (he pins s σ H _ I h) fun v s1 ⟨x, H1, I1, r1, q1⟩ => ?_)
  refine wpAny_Slice (thn (hl pins s1 σ H1 _ I1 q1) fun vl s2 ⟨l, H2, I2, pl, q2⟩ => thn (hu pins s2 σ H2 _ I2 q2) fun vu s3 ⟨u, H3, I3, pu, q3⟩ => ?_)
  rw [evalPart_none]
  refine wpAny_pure ?_
  have I4 : Inv X pins σ H3 { s3 with heap := s3.heap.push { cls := .type "slice", data := .fields #[vl, vu, .none] } } := I3.kept (t' := s3.toks) fun b ob q => Heap.get?_push_of_some _ q
  obtain ⟨T, id, hT, ht, hg⟩ := hr pins { s3 with heap := s3.heap.push { cls := .type "slice", data := .fields #[vl, vu, .none] } } σ H3 x v vl vu l u s3.heap.objs.size Q I4 r1 (Heap.IsSliceOf.new ..) pl pu q3
  show wpAny (model X.prog X.w) X.A (subscriptTail e (.Slice lo hi none p2) v (.ref s3.heap.objs.size)) (EP X pins σ Q) X.xe { s3 with heap := s3.heap.push { cls := .type "slice", data := .fields #[vl, vu, .none] } }
  exact tail_any (ops := [.ref s3.heap.objs.size, v]) ht hT hg (by with_unfolding_all rfl)
def cutV (xs : List V) (lo hi : Option Int) : List V := (xs.drop (HT.sIx xs.length 0 lo)).take (HT.sIx xs.length xs.length hi - HT.sIx xs.length 0 lo)
theorem cutV_length (xs : List V) (lo hi : Option Int) : (cutV xs lo hi).length ≤ xs.length := by
  unfold cutV
  rw [List.length_take, List.length_drop]
  omega
end
end L2
namespace L2
open PySem PySem.Spec PyProof.Rows
def ixN (n : Nat) (i : Int) : Option Nat := if 0 ≤ i then (if i < n then some i.toNat else none) else if -(n : Int) ≤ i then some (i + n).toNat else none
def atI {α : Type} (xs : List α) (i : Int) : Option α := (ixN xs.length i).bind fun j => xs[j]?
theorem ixN_seq {n : Nat} {i : Int} {j : Nat} (h : ixN n i = some j) : seqIndex? i n = some j ∧ j < n ∧ -(n : Int) ≤ i ∧ i < n := by
  unfold ixN at h
  by_cases h0 : 0 ≤ i
  · rw [if_pos h0] at h
    by_cases h1 : i < n
    · rw [if_pos h1] at h
      have e : i.toNat = j := Option.some.inj h
      exact ⟨by rw [seqIndex_of h0 h1, e], by omega, by omega, h1⟩
    · rw [if_neg h1] at h; cases h
  · rw [if_neg h0] at h
    by_cases h1 : -(n : Int) ≤ i
    · rw [if_pos h1] at h
      have e : (i + n).toNat = j := Option.some.inj h
      exact ⟨by rw [seqIndex_neg (by omega) h1, e], by omega, h1, by omega⟩
    · rw [if_neg h1] at h; cases h
theorem atI_get {α : Type} {xs : List α} {i : Int} {v : α} (h : atI xs i = some v) : ∃ j, seqIndex? i xs.length = some j ∧ xs[j]? = some v ∧ j < xs.length ∧ -(xs.length : Int) ≤ i ∧ i < xs.length := by
  unfold atI at h
  cases e : ixN xs.length i with
  | none => rw [e] at h; cases h
  | some j =>
    rw [e] at h
    obtain ⟨h1, h2, h3, h4⟩ := ixN_seq e
    exact ⟨j, h1, h, h2, h3, h4⟩
theorem atI_nat {α : Type} {xs : List α} {j : Nat} {v : α} (h : xs[j]? = some v) : atI xs (j : Int) = some v := by
  have hj : j < xs.length := (List.getElem?_eq_some_iff.mp h).1
  have e : ixN xs.length (j : Int) = some j := by
    unfold ixN
    rw [if_pos (by omega), if_pos (by omega)]; simp
  unfold atI; rw [e]; exact h
theorem atI_last {α : Type} (xs : List α) (v : α) : atI (xs ++ [v]) (-1) = some v := by
  have hl : (xs ++ [v]).length = xs.length + 1 := by simp
  have e : ixN (xs ++ [v]).length (-1) = some xs.length := by
    unfold ixN
    rw [hl, if_neg (by decide), if_pos (by omega)]
    congr 1
    omega
  unfold atI
  rw [e]
  show (xs ++ [v])[xs.length]? = some v
  simp
def PlainIx (b : Expr) : Prop := ∀ o i, subscripted b false o i = operate [o, i] (getItem o i)
def IxR (X : Cx) (r : R2) : Prop :=
  ∀ (value slice : Expr) (pins : List (Addr × Obj)) (s : Shared) (σ : St) (H : Hp) (x y : V) (v u : Value) (Q : VK), Inv X pins σ H s → RelV x v → RelV y u → r x y H Q →
    subscripted slice false v u = operate [v, u] (getItem v u) → wpAny (model X.prog X.w) X.A (subscriptTail value slice v u) (EP X pins σ Q) X.xe s
def MtR (X : Cx) (id : String) (r : V → List V → Hp → VK → Prop) : Prop :=
  ∀ (pins : List (Addr × Obj)) (s : Shared) (σ : St) (H : Hp) (x : V) (xs : List V) (v : Value) (us : List Value) (Q : VK), Inv X pins σ H s → RelV x v → Vals xs us → r x xs H Q →
    wpAny (model X.prog X.w) X.A (call (.builtin id) (v :: us)) (EP X pins σ Q) X.xe s
section
variable {X : Cx} {a b : Expr} {ta tb : TE} {pos : Pos}
theorem pe_ix {r : R2} (hr : IxR X r) (ha : PE X a ta) (hb : PE X b tb) (hs : PlainIx b) : PE X (.Subscript a b pos) (tOp r ta tb) := by
  intro pins s σ H Q I h
  exact Subscript_ (binT ha hb I h fun v u s2 x y H2 I2 rx ry q => hr a b pins s2 σ H2 x y v u Q I2 rx ry q (hs _ _))
def rIxL (K : PySem.W.Frag) : R2 := fun x y H Q => ∃ p xs i v, x = .ref p ∧ y = .int i ∧ SqL K H p xs ∧ atI xs i = some v ∧ Q v H
def rIxT (K : PySem.W.Frag) : R2 := fun x y H Q => ∃ p xs i v, x = .ref p ∧ y = .int i ∧ SqT K H p xs ∧ atI xs i = some v ∧ Q v H
def rIxS : R2 := fun x y H Q => ∃ z i c, x = .str z ∧ y = .int i ∧ z.length ≤ sizeLine ∧ atI z.cps.toList i = some c ∧ Q (.str ⟨#[c]⟩) H
theorem ix_list : IxR X (rIxL X.K) := by
  intro value slice pins s σ H x y v u Q I rx ry h hs
  obtain ⟨p, xs, i, z, rfl, rfl, hq, he, q⟩ := h
  cases rx
  obtain ⟨t, rfl⟩ := ry
  obtain ⟨its, r, pl, hz⟩ := I.list hq
  obtain ⟨j, h1, h2, h3, h4, h5⟩ := atI_get he
  obtain ⟨w, ew, rw'⟩ := r.get h2
  have hl := r.length
  have hn := line63
  have fin : EP X pins σ Q w s := ⟨z, H, I, rw', q⟩
  by_cases h0 : 0 ≤ i
  · have hj : i.toNat = j := by
      rw [seqIndex_of h0 h5] at h1
      exact Option.some.inj h1
    exact item_listR pl.isList h0 (by omega) (by rw [hj]; simpa using ew) fin hs
  · have hj : (i + (its.toArray.size : Int)).toNat = j := by
      rw [seqIndex_neg (by omega) h4] at h1
      rw [List.size_toArray, ← hl]
      exact Option.some.inj h1
    exact subscriptTail_builtinR (x := w) pl.isList.typeIs slot_list_getitem.lookup
      (wpAny_getItem_list_neg (Q := fun r s' => r = w ∧ EP X pins σ Q r s') pl.isList (by omega) (by rw [List.size_toArray] <;> omega) (by omega) (by rw [hj]; simpa using ew) ⟨rfl, fin⟩) hs
theorem ix_tup : IxR X (rIxT X.K) := by
  intro value slice pins s σ H x y v u Q I rx ry h hs
  obtain ⟨p, xs, i, z, rfl, rfl, hq, he, q⟩ := h
  cases rx
  obtain ⟨t, rfl⟩ := ry
  obtain ⟨its, r, pl, hz⟩ := I.tuple hq
  obtain ⟨j, h1, h2, h3, h4, h5⟩ := atI_get he
  obtain ⟨w, ew, rw'⟩ := r.get h2
  have hl := r.length
  have hn := line63
  have fin : EP X pins σ Q w s := ⟨z, H, I, rw', q⟩
  exact subscriptTail_builtinR (x := w) pl.typeIs slot_tuple_getitem.lookup
    (getItem_tuple (j := j) (Q := fun r s' => r = w ∧ EP X pins σ Q r s') pl (by omega) (by omega) (by rw [List.size_toArray, ← hl]; exact h1) (by simpa using ew) ⟨rfl, fin⟩) hs
theorem ix_str : IxR X rIxS := by
  intro value slice pins s σ H x y v u Q I rx ry h hs
  obtain ⟨z, i, c, rfl, rfl, hz, he, q⟩ := h
  obtain ⟨t, rfl⟩ := rx
  obtain ⟨t', rfl⟩ := ry
  obtain ⟨j, h1, h2, h3, h4, h5⟩ := atI_get he
  have hl : z.cps.toList.length = z.length := by simp [Str.length]
  rw [hl] at h1 h4 h5
  have hn := line63
  exact tail_any (typeIs_str s z t) slot_str_getitem.lookup (getItem_str (c := c) (by
    have e1 : decide (i < -(2 ^ 63 : Int)) = false := decide_eq_false (by omega)
    have e2 : decide (i ≥ 2 ^ 63) = false := decide_eq_false (by omega)
    rw [e1, e2, Bool.or_false]) (by rw [h1]; simpa using h2) ⟨.str ⟨#[c]⟩, H, I.tok _, ⟨_, rfl⟩, q⟩) hs
theorem slice_bounds (lo hi : Option Int) (n : Nat) : (sliceBounds lo hi none n).1 = ((HT.sIx n 0 lo : Nat) : Int) ∧ (sliceBounds lo hi none n).2.1 = ((HT.sIx n n hi : Nat) : Int) ∧ (sliceBounds lo hi none n).2.2 = 1 := by
  refine ⟨?_, ?_, rfl⟩
  · cases lo with
    | none => simp [sliceBounds, HT.sIx]
    | some i =>
      simp only [sliceBounds, HT.sIx, Option.getD_none, show (1 : Int) > 0 by decide, if_true]
      by_cases h : i < 0
      · simp only [h, if_true] <;> omega
      · simp only [h, if_false] <;> omega
  · cases hi with
    | none => simp [sliceBounds, HT.sIx]
    | some i =>
      simp only [sliceBounds, HT.sIx, Option.getD_none, show (1 : Int) > 0 by decide, if_true]
      by_cases h : i < 0
      · simp only [h, if_true] <;> omega
      · simp only [h, if_false] <;> omega
theorem slicePick_cut (its : List Value) (lo hi : Option Int) : slicePick its.toArray lo hi none = ((its.drop (HT.sIx its.length 0 lo)).take (HT.sIx its.length its.length hi - HT.sIx its.length 0 lo)).toArray := by
  obtain ⟨h1, h2, h3⟩ := slice_bounds lo hi its.toArray.size
  unfold slicePick
  rw [h1, h2, h3]
  simp only [sliceRange_one, pick_run, List.size_toArray] <;> rfl
def rSlL (K : PySem.W.Frag) : V → Option Int → Option Int → Hp → VK → Prop := fun x lo hi H Q => ∃ a xs, x = .ref a ∧ SqL K H a xs ∧ ∀ p, H p = none → Q (.ref p) (upd H p (.lst (cutV xs lo hi)))
theorem sl_list : SlR X (rSlL X.K) := by
  intro pins s σ H x v vl vu lo hi sl Q I rx hs pl pu h
  obtain ⟨a, xs, rfl, hx, q⟩ := h
  cases rx
  obtain ⟨its, r, ht, hz⟩ := I.list hx
  have hlen := r.length
  refine ⟨"list", _, slot_list_getitem.lookup, ht.isList.typeIs, ?_⟩
  refine wpAny_getItem_list_slice ht.isList hs pl pu .none (by simp) ?_ (by rw [List.size_toArray] <;> omega)
  rw [slicePick_cut, ← hlen]
  refine ⟨.ref s.heap.objs.size, _, I.laid (t' := s.toks) (o := .lst (cutV xs lo hi)) (fun b ob q => Heap.get?_push_of_some _ q) (Nat.le_refl _) ?_, rfl, q _ (I.hok.fresh (Nat.le_refl _))⟩
  exact ⟨Nat.le_trans (cutV_length xs lo hi) hz, _, 0, (r.drop (HT.sIx xs.length 0 lo)).take (HT.sIx xs.length xs.length hi - HT.sIx xs.length 0 lo), Heap.get?_push_size _ rfl⟩
def flatV : V → Bool
  | .non => true
  | .bl _ => true
  | .int _ => true
  | .str _ => true
  | _ => false
def eqV : V → V → Bool
  | .non, .non => true
  | .bl a, .bl b => a == b
  | .bl a, .int b => (if a then 1 else 0) == b
  | .int a, .bl b => a == (if b then 1 else 0)
  | .int a, .int b => a == b
  | .str a, .str b => a == b
  | _, _ => false
theorem eqAt_V {A : Around} {s : Shared} {y x : V} {u v : Value} (ry : RelV y u) (rx : RelV x v) (fy : flatV y = true) (fx : flatV x = true) : SeqAt.EqAt A s u v (eqV y x) := by
  cases y with
  | non =>
    cases ry
    cases x with
    | non => cases rx; exact SeqAt.EqAt.same _
    | bl b => cases rx; exact SeqAt.EqAt.none_bool b
    | int b => obtain ⟨t, rfl⟩ := rx; exact SeqAt.EqAt.none_int b t
    | str b => obtain ⟨t, rfl⟩ := rx; exact SeqAt.EqAt.none_str b t
    | _ => exact absurd (show false = true from fx) Bool.false_ne_true
  | bl a =>
    cases ry
    cases x with
    | non => cases rx; exact SeqAt.EqAt.bool_none a
    | bl b => cases rx; exact SeqAt.EqAt.bool_bool a b
    | int b => obtain ⟨t, rfl⟩ := rx; exact SeqAt.EqAt.bool_int a b t
    | str b => obtain ⟨t, rfl⟩ := rx; exact SeqAt.EqAt.bool_str a b t
    | _ => exact absurd (show false = true from fx) Bool.false_ne_true
  | int a =>
    obtain ⟨t', rfl⟩ := ry
    cases x with
    | non => cases rx; exact SeqAt.EqAt.int_none a t'
    | bl b => cases rx; exact SeqAt.EqAt.int_bool a t' b
    | int b => obtain ⟨t, rfl⟩ := rx; exact SeqAt.EqAt.int_int a t' b t
    | str b => obtain ⟨t, rfl⟩ := rx; exact SeqAt.EqAt.int_str a t' b t
    | _ => exact absurd (show false = true from fx) Bool.false_ne_true
  | str a =>
    obtain ⟨t', rfl⟩ := ry
    cases x with
    | non => cases rx; exact SeqAt.EqAt.str_none a t'
    | bl b => cases rx; exact SeqAt.EqAt.str_bool a t' b
    | int b => obtain ⟨t, rfl⟩ := rx; exact SeqAt.EqAt.str_int a t' b t
    | str b => obtain ⟨t, rfl⟩ := rx; exact SeqAt.EqAt.str_str a t' b t
    | _ => exact absurd (show false = true from fx) Bool.false_ne_true
  | _ => exact absurd (show false = true from fy) Bool.false_ne_true
def eqU (x : V) (u : Value) : Bool := match u with
  | .none => eqV .non x
  | .bool b => eqV (.bl b) x
  | .int i _ => eqV (.int i) x
  | .str z _ => eqV (.str z) x
  | _ => false
theorem eqU_of {x y : V} {u : Value} (r : RelV y u) (f : flatV y = true) : eqU x u = eqV y x := by
  cases y with
  | non => cases r; rfl
  | bl b => cases r; rfl
  | int i => obtain ⟨t, rfl⟩ := r; rfl
  | str z => obtain ⟨t, rfl⟩ := r; rfl
  | _ => exact absurd (show false = true from f) Bool.false_ne_true
theorem any_eqU {x : V} : ∀ {xs : List V} {us : List Value}, Vals xs us → xs.all flatV = true → us.any (eqU x) = xs.any fun y => eqV y x
  | _, _, .nil, _ => rfl
  | y :: xs, u :: us, .cons r t, f => by
    rw [List.all_cons, Bool.and_eq_true] at f
    rw [List.any_cons, List.any_cons, eqU_of r f.1, any_eqU t f.2]
theorem mem_eqAt {A : Around} {s : Shared} {x : V} {v : Value} (rx : RelV x v) (fx : flatV x = true) : ∀ {xs : List V} {us : List Value}, Vals xs us → xs.all flatV = true → ∀ u ∈ us, SeqAt.EqAt A s u v (eqU x u)
  | _, _, .nil, _ => fun u hu => by cases hu
  | y :: xs, u :: us, .cons r t, f => fun u' hu => by
    rw [List.all_cons, Bool.and_eq_true] at f
    rcases List.mem_cons.mp hu with rfl | hu
    · rw [eqU_of r f.1]; exact eqAt_V r rx f.1 fx
    · exact mem_eqAt rx fx t f.2 u' hu
def inV (x : V) (xs : List V) : Bool := xs.any fun y => eqV y x
def rIn (K : PySem.W.Frag) (neg : Bool) : R2 := fun x y H Q => ∃ p xs, y = .ref p ∧ (SqL K H p xs ∨ SqT K H p xs) ∧ flatV x = true ∧ xs.all flatV = true ∧ Q (.bl (if neg then !inV x xs else inV x xs)) H
theorem op_in_seq : OpR X (compareOp .In) (rIn X.K false) := by
  intro pins s σ H x y v u Q I rx ry h
  obtain ⟨p, xs, rfl, hq, fx, fs, q⟩ := h
  cases ry
  rcases hq with hq | hq
  · obtain ⟨its, r, pl, hz⟩ := I.list hq
    refine SeqAt.in_listAt (eqU x) pl.isList (fun w hw => mem_eqAt rx fx r fs w (by simpa using hw)) ⟨.bl _, H, I, rfl, ?_⟩
    rw [show its.toArray.any (eqU x) = its.any (eqU x) by simp, any_eqU r fs]
    exact q
  · obtain ⟨its, r, pl, hz⟩ := I.tuple hq
    refine SeqAt.in_tupleAt (eqU x) pl (fun w hw => mem_eqAt rx fx r fs w (by simpa using hw)) ⟨.bl _, H, I, rfl, ?_⟩
    rw [show its.toArray.any (eqU x) = its.any (eqU x) by simp, any_eqU r fs]
    exact q
theorem op_notIn_str : OpR X (compareOp .NotIn) (fun x y H Q => ∃ i j, x = .str i ∧ y = .str j ∧ Q (.bl (!(!(Builtin.Str.occurrences j i 0 j.length 1).isEmpty))) H) := by
  intro pins s σ H x y v u Q I rx ry h
  obtain ⟨i, j, rfl, rfl, q⟩ := h
  obtain ⟨t, rfl⟩ := rx
  obtain ⟨t', rfl⟩ := ry
  exact notIn_str ⟨.bl _, H, I, rfl, q⟩
theorem call_len_seq : CallR X (.builtin "len") (fun xs H Q => ∃ p ys, xs = [.ref p] ∧ (SqL X.K H p ys ∨ SqT X.K H p ys) ∧ Q (.int ys.length) H) := by
  intro pins s σ H xs us Q I r h
  obtain ⟨p, ys, rfl, hq, q⟩ := h
  obtain ⟨u, rfl, rx⟩ := vals1 r
  cases rx
  have hn := line63
  rcases hq with hq | hq
  · obtain ⟨its, r', pl, hz⟩ := I.list hq
    have hlen := r'.length
    exact Calls.call_len_list pl.isList (by simp only [List.size_toArray] <;> omega) ⟨.int ys.length, H, I.tok _, ⟨s.toks + 1, by rw [List.size_toArray, hlen]⟩, q⟩
  · obtain ⟨its, r', pl, hz⟩ := I.tuple hq
    have hlen := r'.length
    exact len_tuple pl (by simp only [List.size_toArray] <;> omega) ⟨.int ys.length, H, I.tok _, ⟨s.toks + 1, by rw [List.size_toArray, hlen]⟩, q⟩
theorem call_len_str : CallR X (.builtin "len") (fun xs H Q => ∃ z, xs = [.str z] ∧ z.length ≤ sizeLine ∧ Q (.int z.length) H) := by
  intro pins s σ H xs us Q I r h
  obtain ⟨z, rfl, hz, q⟩ := h
  obtain ⟨u, rfl, t, rfl⟩ := vals1 r
  have hn := line63
  exact len_str (by omega) ⟨.int z.length, H, I.tok _, ⟨_, rfl⟩, q⟩
theorem call_list_of : CallR X (.type "list") (fun xs H Q => ∃ p ys, xs = [.ref p] ∧ (SqL X.K H p ys ∨ SqT X.K H p ys) ∧ ∀ l, H l = none → Q (.ref l) (upd H l (.lst ys))) := by
  intro pins s σ H xs us Q I r h
  obtain ⟨p, ys, rfl, hq, q⟩ := h
  obtain ⟨u, rfl, rx⟩ := vals1 r
  cases rx
  have fin : ∀ (its : List Value), Vals ys its → ys.length ≤ sizeLine → ∀ (h' : Heap) (c' : Nat), (∀ b o', s.heap.get? b = some o' → h'.get? b = some o') →
      h'.get? s.heap.objs.size = some { cls := .type "list", dict := none, data := .seq its.toArray c', slots := #[] } → EP X pins σ Q (.ref s.heap.objs.size) { s with heap := h' } := fun its r' hz h' c' kp e =>
    ⟨.ref s.heap.objs.size, _, I.laid (t' := s.toks) kp (Nat.le_refl _) (show ObjOk X.prog X.w _ h' _ (.lst ys) from ⟨hz, its, c', r', e⟩), rfl, q _ (I.hok.fresh (Nat.le_refl _))⟩
  rcases hq with hq | hq
  · obtain ⟨its, r', pl, hz⟩ := I.list hq
    have hlen := r'.length
    obtain ⟨o, ho, hc, n, hd⟩ := pl.isList
    exact call_list_seq p (.inl rfl) ho hc hd (fun h' c' kp e => fin its r' hz h' c' kp e) (by simp only [List.size_toArray] <;> omega)
  · obtain ⟨its, r', pl, hz⟩ := I.tuple hq
    have hlen := r'.length
    obtain ⟨o, ho, hc, n, hd⟩ := pl
    exact call_list_seq p (.inr rfl) ho hc hd (fun h' c' kp e => fin its r' hz h' c' kp e) (by simp only [List.size_toArray] <;> omega)
def tyV (K : PySem.W.Frag) (T : String) (x : V) (H : Hp) : Prop := match x with
  | .str _ => T = "str"
  | .int _ => T = "int"
  | .ref p => (T = "list" ∧ ∃ xs, SqL K H p xs) ∨ (T = "tuple" ∧ ∃ o, K.lookup p = some o ∧ o.cls = .type "tuple" ∧ o.dict = none) ∨
      (T = "dict" ∧ ((∃ kvs, H p = some (.dK kvs)) ∨ ∃ kvs, H p = some (.dT kvs))) ∨ (T = "set" ∧ ∃ S n, H p = some (.set S n))
  | _ => False
theorem tyV_is {pins : List (Addr × Obj)} {σ : St} {H : Hp} {s : Shared} {T : String} {x : V} {v : Value} (I : Inv X pins σ H s) (r : RelV x v) (ty : tyV X.K T x H) :
    s.TypeIs v T ∧ ∀ a, v = .ref a → ∃ ob, s.heap.get? a = some ob ∧ ob.dict = none := by
  cases x with
  | str z =>
    obtain ⟨t, rfl⟩ := r
    cases (show T = "str" from ty)
    exact ⟨typeIs_str s z t, fun _ e => nomatch e⟩
  | int i =>
    obtain ⟨t, rfl⟩ := r
    cases (show T = "int" from ty)
    exact ⟨typeIs_int s i t, fun _ e => nomatch e⟩
  | ref p =>
    cases r
    rcases ty with ⟨rfl, xs, hq⟩ | ⟨rfl, o, hk, hc, hd⟩ | ⟨rfl, hk⟩ | ⟨rfl, S, n, hk⟩
    · obtain ⟨its, _, pl, _⟩ := I.list hq
      refine ⟨pl.isList.typeIs, fun a e => ?_⟩
      cases e
      obtain ⟨o, n, e, c, hd, _⟩ := pl
      exact ⟨o, e, hd⟩
    · refine ⟨⟨o, I.kIn p o hk, hc⟩, fun a e => ?_⟩
      cases e
      exact ⟨o, I.kIn _ o hk, hd⟩
    · have z : ∃ o, s.heap.get? p = some o ∧ o.ExactDict := by
        rcases hk with ⟨kvs, hk⟩ | ⟨kvs, hk⟩
        · obtain ⟨_, _, _, _, o, _, _, e, ex, _⟩ := I.hok p _ hk
          exact ⟨o, e, ex⟩
        · obtain ⟨_, _, _, _, o, _, _, e, ex, _⟩ := I.hok p _ hk
          exact ⟨o, e, ex⟩
      obtain ⟨o, e, ex⟩ := z
      refine ⟨⟨o, e, ex.1⟩, fun a e2 => ?_⟩
      cases e2
      exact ⟨o, e, ex.2.1⟩
    · obtain ⟨o, _, _, _, e, ex, _⟩ := I.hok p _ hk
      refine ⟨⟨o, e, ex.1⟩, fun a e2 => ?_⟩
      cases e2
      exact ⟨o, e, ex.2.1⟩
  | _ => exact False.elim ty
def tBM (K : PySem.W.Frag) (T : String) (r : V → List V → Hp → VK → Prop) (to : TE) (t : TA) : TE := fun σ H Q => to σ H fun x H1 => tyV K T x H1 ∧ t σ H1 fun xs H2 => r x xs H2 Q
variable {o e : Expr} {es : List Expr} {to : TE} {t : TA} {name : Str} {apos cpos : Pos} {T id : String} {r : V → List V → Hp → VK → Prop}
theorem pe_bm (pa : PlainAttrs T) (slot : Slot T name id) (hty : typeOf (.builtin id) = pure (.type "method_descriptor")) (hm : MtR X id r) (ho : PE X o to) (ha : PA X (e :: es) t)
    (hbase : attributeBase o name X.env (eval o X.env) = eval o X.env := by rfl)
    (hfew : ((backTo cpos (starEach (e :: es) X.env)).all (fun x => !x.1) && (backToKw cpos (keywordEach [] X.env)).all (fun x => x.1.isSome)
      && decide ((e :: es).length + ([] : List Keyword).length + (if ([] : List Keyword).isEmpty then 0 else 1) < 30)) = true := by rfl)
    (hline : (apos.endLine == cpos.line) = true := by rfl) (hs : starEach (e :: es) X.env = (false, eval e X.env) :: starEach es X.env := by rfl) (hplain : (backTo cpos (starEach es X.env)).any (·.1) = false := by rfl) :
    PE X (.Call (.Attribute o name apos) (e :: es) [] cpos) (tBM X.K T r to t) := by
  intro pins s σ H Q I h
  refine wpAny_Call_method_late hbase hfew hline rfl (thn (ho pins s σ H _ I h) fun v s1 ⟨x, H1, I1, r1, ty, q1⟩ => ?_)
  obtain ⟨h1, h2⟩ := tyV_is I1 r1 ty
  refine ⟨T, id, pa, slot, hty, h1, h2, ?_⟩
  have hA := ha cpos pins s1 σ H1 _ I1 q1
  rw [hs] at hA ⊢
  refine Calls.callWith_builtin (by show (false || (backTo cpos (starEach es X.env)).any (·.1)) = false; rw [hplain] <;> rfl) (Calls.evalArgs_plain ?_)
  exact thn hA fun us s2 ⟨vs, H2, I2, r2, q2⟩ => hm pins s2 σ H2 x vs v us Q I2 r1 r2 q2
end
end L2
namespace L2
open PySem PySem.Spec PyProof.Rows
def MtM (X : Cx) (id : String) (r : V → List V → Hp → VK → Prop) : Prop :=
  ∀ (pins : List (Addr × Obj)) (s : Shared) (σ : St) (H : Hp) (x : V) (xs : List V) (v : Value) (us : List Value) (Q : VK), Inv X pins σ H s → RelV x v → Vals xs us → r x xs H Q →
    wpAny (model X.prog X.w) X.A (call (.builtin id) (v :: us)) (EP X pins σ Q) X.xe s
theorem Vals.one : ∀ {x : V} {us : List Value}, Vals [x] us → ∃ u, us = [u] ∧ RelV x u
  | _, _, .cons r .nil => ⟨_, rfl, r⟩
theorem Vals.two : ∀ {x y : V} {us : List Value}, Vals [x, y] us → ∃ u v, us = [u, v] ∧ RelV x u ∧ RelV y v
  | _, _, _, .cons r (.cons q .nil) => ⟨_, _, rfl, r, q⟩
theorem Vals.zero : ∀ {us : List Value}, Vals [] us → us = []
  | _, .nil => rfl
section
variable {X : Cx} {pins : List (Addr × Obj)} {σ : St} {H : Hp} {s : Shared} {l b : Addr} {xs ys zs : List V}
theorem Inv.lset {its its' : List Value} {n : Nat} {f : Array Value → Array Value} {t' : Nat} (I : Inv X pins σ H s) (hH : H l = some (.lst xs))
    (e : s.heap.get? l = some { cls := .type "list", data := .seq its.toArray n }) (hf : f its.toArray = its'.toArray) (hv : Vals ys its') (hz : ys.length ≤ sizeLine) :
    Inv X pins σ (upd H l (.lst ys)) { s with heap := s.heap.update l (Obj.mapSeq f), toks := t' } := by
  have q := PySem.IsL.update e f
  rw [hf] at q
  refine I.write (x := l) (e := l) (by rw [hH]; exact trivial) (.inl rfl) (fun b' u hb hu => (Heap.get?_update_other s.heap (Obj.mapSeq f) (Ne.symm hb)).trans hu) ⟨_, q⟩ ?_
  exact ⟨hz, its', _, hv, q⟩
theorem Inv.lnew {its : List Value} {t' : Nat} (I : Inv X pins σ H s) (hv : Vals ys its) (hz : ys.length ≤ sizeLine) :
    Inv X pins σ (upd H s.heap.objs.size (.lst ys)) { s with heap := s.heap.push { cls := .type "list", data := .seq its.toArray }, toks := t' } :=
  I.laid (fun _ _ q => Heap.get?_push_of_some _ q) (Nat.le_refl _) ⟨hz, its, 0, hv, Heap.get?_push_size _ rfl⟩
theorem Inv.fresh (I : Inv X pins σ H s) : H s.heap.objs.size = none := I.hok.fresh (Nat.le_refl _)
theorem Inv.lstM (I : Inv X pins σ H s) (hH : H l = some (.lst xs)) : xs.length ≤ sizeLine ∧ ∃ (its : List Value) (n : Nat), Vals xs its ∧ xs.length = its.length ∧ s.heap.get? l = some { cls := .type "list", data := .seq its.toArray n } := by
  obtain ⟨z, its, n, r, e⟩ := I.hok l _ hH
  exact ⟨z, its, n, r, r.length, e⟩
theorem notLongL {n : Nat} (h : n ≤ sizeLine) : Builtin.List.listTooLong n = false := by
  unfold Builtin.List.listTooLong
  exact decide_eq_false (by omega)
end
section
variable {X : Cx}
def rAppend : V → List V → Hp → VK → Prop := fun x vs H Q => ∃ l xs y, x = .ref l ∧ vs = [y] ∧ H l = some (.lst xs) ∧ xs.length < sizeLine ∧ Q .non (upd H l (.lst (xs ++ [y])))
theorem mt_append : MtM X "list.append" rAppend := by
  intro pins s σ H x vs v us Q I rx rv h
  obtain ⟨l, xs, y, rfl, rfl, hH, hz, q⟩ := h
  cases rx
  obtain ⟨u, rfl, ru⟩ := rv.one
  obtain ⟨z, its, n, r, hl, e⟩ := I.lstM hH
  refine call_meets F.slot_list_append ⟨_, e, rfl⟩ F.entry_list_append (F.args_list_append_2 _ _) (PySem.list_append l its.toArray n u (by rw [List.size_toArray]; omega)) ⟨e, ?_⟩
  refine ⟨.non, _, I.lset (its' := its ++ [u]) hH e (by simp) (r.append (.cons ru .nil)) ?_, rfl, q⟩
  rw [List.length_append, List.length_singleton]
  omega
def rExtend : V → List V → Hp → VK → Prop := fun x vs H Q => ∃ l b xs zs, x = .ref l ∧ vs = [.ref b] ∧ H l = some (.lst xs) ∧ H b = some (.lst zs) ∧ xs.length + zs.length ≤ sizeLine ∧ Q .non (upd H l (.lst (xs ++ zs)))
theorem mt_extend : MtM X "list.extend" rExtend := by
  intro pins s σ H x vs v us Q I rx rv h
  obtain ⟨l, b, xs, zs, rfl, rfl, hH, hB, hz, q⟩ := h
  cases rx
  obtain ⟨u, rfl, ru⟩ := rv.one
  cases ru
  obtain ⟨z, its, n, r, hl, e⟩ := I.lstM hH
  obtain ⟨z2, its2, n2, r2, hl2, e2⟩ := I.lstM hB
  have hsz : its.toArray.size + its2.toArray.size ≤ sizeLine := by rw [List.size_toArray, List.size_toArray]; omega
  have hlong : ¬ (!its.toArray.isEmpty && Builtin.List.listTooLong (its.toArray.size + its2.toArray.size)) = true := by
    rw [notLongL hsz, Bool.and_false]
    exact Bool.false_ne_true
  refine call_meets F.slot_list_extend ⟨_, e, rfl⟩ F.entry_list_extend (F.args_list_extend_2 _ _)
    (AutoSeq1.list_extend_list_list_0 l its.toArray n b its2.toArray n2 hlong (by rw [List.size_toArray]; omega) (by omega)) ⟨e, e2, ?_⟩
  refine ⟨.non, _, I.lset (its' := its ++ its2) hH e (by simp) (r.append r2) ?_, rfl, q⟩
  rw [List.length_append]
  omega
def rCat : R2 := fun x y H Q => ∃ l b xs zs, x = .ref l ∧ y = .ref b ∧ H l = some (.lst xs) ∧ H b = some (.lst zs) ∧ xs.length + zs.length ≤ sizeLine ∧ ∀ p, H p = none → Q (.ref p) (upd H p (.lst (xs ++ zs)))
theorem op_cat : OpR X (binaryOp .Add) rCat := by
  intro pins s σ H x y v u Q I rx ry h
  obtain ⟨l, b, xs, zs, rfl, rfl, hH, hB, hz, q⟩ := h
  cases rx
  cases ry
  obtain ⟨z, its, n, r, hl, e⟩ := I.lstM hH
  obtain ⟨z2, its2, n2, r2, hl2, e2⟩ := I.lstM hB
  refine PySem.P.add_list e e2 ?_ (by rw [List.size_toArray, List.size_toArray]; omega)
  have ea : its.toArray ++ its2.toArray = (its ++ its2).toArray := by simp
  rw [ea]
  exact ⟨.ref _, _, I.lnew (t' := s.toks) (r.append r2) (by rw [List.length_append]; omega), rfl, q _ I.fresh⟩
end
section
variable {prog : Program} {w : World} {A : Around} {E : Value → Shared → Prop} {s : Shared}
set_option maxRecDepth 100000 in
end
section
variable {X : Cx}
end
end L2
namespace Att
open PySem PySem.W PySem.Calls PyProof.Rows
theorem ints_of_wellAll {P : Params} {h : Heap} : ∀ (ns : List Int) (vs : List Value), WellAll P h vs (ns.map WData.int) → IntsAre vs ns := by
  intro ns
  induction ns with
  | nil =>
    intro vs w
    rw [List.map_nil] at w
    cases w
    exact .nil
  | cons n ns ih =>
    intro vs w
    rw [List.map_cons] at w
    cases w with
    | cons a b =>
      cases a
      exact .cons _ _ (ih _ b)
theorem script_of {l : OpenLaw} {n : Nat} (hn : l.most = some n) {P : Params} {h : Heap} {args : List WData} {vals : List Value}
    (hpre : l.row.toRowW.claim.pre args = true) (hwl : WellAll P h vals args) :
    ∃ a vs ns, vals = [Value.ref a] ∧ args = [WData.list (ns.map WData.int)] ∧ h.get? a = some { cls := .type "list", data := .seq vs.toArray } ∧ IntsAre vs ns ∧ ns.length ≤ n := by
  have hsh : WShape.hasAll [] args [.list .int] = true := (pre_splitW hpre).1
  have hc : l.pre.holds [] { args := args } = true := (pre_splitW hpre).2
  obtain ⟨d, r, rfl, h1, h2⟩ := hasAllW_cons hsh
  obtain rfl := hasAllW_nil h2
  obtain ⟨xs, rfl, h3⟩ := hasW_list h1
  obtain ⟨ns, rfl⟩ := items_int h3
  have hlen : ns.length ≤ n := by
    unfold OpenLaw.pre at hc
    have h4 : (WTm.not (.lt (.lit (.int (n : Int))) (.len (.arg 0)))).holds [] { args := [.list (ns.map .int)] } = true := by
      have h4 := (holds_andW hc).1
      rw [hn] at h4
      exact h4
    have h5 := condW_of h4 (w_not (w_lt w_lit (w_len_list (w_arg rfl))))
    rw [List.length_map] at h5
    refine Nat.le_of_not_lt fun q => ?_
    have q' : (n : Int) < ((ns.length : Nat) : Int) := by omega
    first
      | (rw [decide_eq_true q'] at h5; exact absurd h5 (by decide))
      | (simp at h5; omega)
  cases hwl with
  | cons w1 w2 =>
    cases w2
    cases w1 with
    | list ho hall => exact ⟨_, _, ns, rfl, rfl, ho, ints_of_wellAll ns _ hall, hlen⟩
theorem post_true (l : OpenLaw) (args : List WData) : l.row.toRowW.claim.post args (.bool true) args = true :=
  postW_of (r := l.row.toRowW) (X := (true == true))
    (show WShape.has [] (.bool true) .bool = true by first | rfl | decide | simp [WShape.has, WShape.arms, WShape.armsAll])
    (show (WTm.eq .res (.lit (.bool true))).value [] { args := args, res := some (.bool true), after := args } = some (.bool (true == true)) from w_eq_bool (w_res rfl) w_lit) rfl
theorem attach_call {l : OpenLaw} {n : Nat} {q : Program} {loose : List Str} {XP : (Str → Option Value) → Heap → Prop} {YP : World → Heap → Prop} {d : DefRec}
    (hn : l.most = some n) (hdf : d.params.defaults = [])
    (call : ∀ (w : World) (s₀ s₁ : Shared) (mg mb : Str → Option Value) (fa : Addr) (o : Obj) (pm cd doc : Value) (a : Addr) (vs : List Value) (ns : List Int),
      Ground q loose [] XP w s₀ mg mb s₁.heap → YP w s₁.heap →
      s₁.heap.get? fa = some o → o.data = .func (docDef d.name d.params d.body d.scope pm cd doc) → s₁.heap.CodeRec cd d.name → mg d.name = some (.ref fa) →
      s₁.heap.get? a = some { cls := .type "list", data := .seq vs.toArray } → IntsAre vs ns → ns.length ≤ n → s₁.gens = #[] →
      codeAny (model l.prog w) callerA (.call (.ref fa) ⟨[.ref a], []⟩) (fun r s' => r = .ok (.ret (.bool true)) ∧ OldK s₁.heap s'.heap ∧ s'.os = s₁.os ∧ AllBare s'.gens) s₁) :
    WalkO q loose XP YP l.row.toRowW d [] (fun f vs => PySem.call f vs) := by
  intro w s₀ s₁ mg mb G Y fa o pm cd doc dV kV ho hd hcd hD hmg hg args vals as hpre hlay hrd hwl hlo
  obtain rfl : dV = .none := Dflts.none hD hdf
  obtain rfl : kV = .none := Dflts.noKw hD
  obtain ⟨a, vs, ns, rfl, rfl, hobj, hints, hlen⟩ := script_of hn hpre hwl
  refine enter_call (codeAny_mono (call w s₀ s₁ mg mb fa o pm cd doc a vs ns G Y ho (fd_plain hd) hcd hmg hobj hints hlen hg) fun r s' hq => ?_)
  obtain ⟨rfl, h2, h3, h4⟩ := hq
  exact ⟨.inl ⟨.bool true, .bool true, [], rfl, fun _ => rfl, .bool true, post_true l _, fun _ => ⟨List.Pairwise.nil, fun _ hm => (nomatch hm)⟩⟩, h2, h3, h4⟩
section
variable {prog : Program} {w : World} {A : Around} {E : Value → Shared → Prop} {s : Shared} {K : Frag}
end
end Att
namespace L2
open PySem PySem.Spec PyProof.Rows
theorem vals_ints : ∀ {vs : List Value} {ns : List Int}, IntsAre vs ns → Vals (ns.map V.int) vs
  | _, _, .nil => .nil
  | _, _, .cons n t h => .cons ⟨t, rfl⟩ (vals_ints h)
def Only (H : Hp) : Prop := ∀ b, H b = none ∨ ∃ o xs, H b = some (.frz o (.lst xs))
theorem law_call {P : Program} {w : World} {K : PySem.W.Frag} {mg mb : Str → Option Value} {CX : CXT} {k : Nat} {fa a : Addr} {fd : FuncData} {x : Str} {sp : Sp} {s₁ : Shared} {vs : List Value} {ns : List Int}
    (KX : K.In s₁.heap) (hns : s₁.heap.Ns mainGlobals mg) (hb : s₁.heap.Ns builtinsNs mb) (hbb : ∀ x : Str, x ≠ "__name__" → mb x = bootBuiltins x) (hlim : s₁.heap.NoLimit) (hg : s₁.gens = #[])
    (ha : s₁.heap.get? a = some { cls := .type "list", data := .seq vs.toArray }) (hi : IntsAre vs ns) (hl : ns.length ≤ sizeLine) (hr : Room k callerA)
    (F : ∀ base : Heap, K.In base → base.Ns mainGlobals mg → FnOk P w K mg base CX k fa fd [x] sp) (hbind : ∀ (s : Shared) (u : Value), BindsTo s fd ⟨[u], []⟩ [(x, u)])
    (hsp : ∀ H : Hp, Only H → SqL K H a (ns.map V.int) → sp [.ref a] H (fun v _ => v = .bl true) fun _ _ _ => False)
    (hCX : ∀ H e s', CX [] H s₁ (fun _ _ _ => False) e s' → False) :
    codeAny (model P w) callerA (.call (.ref fa) ⟨[.ref a], []⟩) (fun r s' => r = .ok (.ret (.bool true)) ∧ OldK s₁.heap s'.heap ∧ s'.os = s₁.os ∧ AllBare s'.gens) s₁ := by
  have rv := vals_ints hi
  have lenV := hi.length
  -- from an abstract heap in which nothing but the script may be tracked
  have core : ∀ H : Hp, Only H → SqL K H a (ns.map V.int) → HOk P w H s₁.heap → (∀ b, H b ≠ none → b = a) → (H a ≠ none → K.lookup a = none) →
      codeAny (model P w) callerA (.call (.ref fa) ⟨[.ref a], []⟩) (fun r s' => r = .ok (.ret (.bool true)) ∧ OldK s₁.heap s'.heap ∧ s'.os = s₁.os ∧ AllBare s'.gens) s₁ := by
    intro H hO hS hok hA hK
    have base_of : ∀ {b : Addr} {o : Obj}, s₁.heap.get? b = some o → H b = none → (hidT s₁.heap H).get? b = some o := fun e n => hidT_get e n
    have noA : ∀ {b : Addr} {o : Obj} {es : Array DictEntry} {ep : Nat}, s₁.heap.get? b = some o → o.data = .dict es ep → H b = none := fun {b o es ep} e d => by
      cases q : H b with
      | none => rfl
      | some u =>
        have e' : b = a := hA b (by rw [q]; simp)
        subst e'
        rw [ha] at e; cases e
        have d' : Data.seq vs.toArray _ = Data.dict es ep := d
        cases d'
    have nsK : ∀ {b : Addr} {m : Str → Option Value}, s₁.heap.Ns b m → (hidT s₁.heap H).Ns b m := fun {b m} ⟨o, es, ep, e, d, r⟩ => ⟨o, es, ep, base_of e (noA e d), d, r⟩
    have hKb : K.In (hidT s₁.heap H) := fun b o e => base_of (KX b o e) (by
      cases q : H b with
      | none => rfl
      | some u =>
        have e' : b = a := hA b (by rw [q]; simp)
        subst e'
        rw [hK (by rw [q]; simp)] at e; cases e)
    have hM : Mod K mg (hidT s₁.heap H) := ⟨hKb, nsK hns, ⟨mb, nsK hb, hbb⟩, let ⟨mc, h1, h2⟩ := hlim; ⟨mc, nsK h1, h2⟩⟩
    have e0 : Env0 P w K mg (hidT s₁.heap H) callerA [] s₁ H := ⟨rfl, hM, fun b o e => of_hidT e, Nat.le_of_eq (hidT_size _ _), trivial, fun b hb => absurd (show b ∈ ([] : List Addr) from hb) (by simp), hok, .of_eq hg⟩
    refine codeAny_mono ((F _ hKb (nsK hns)).run callerA [] s₁ H ⟨[.ref a], []⟩ [.ref a] [.ref a] _ _ hr e0 (hbind s₁ (.ref a)) (.cons rfl .nil) (hsp H hO hS)) fun r s' h => ?_
    cases r with
    | error e => exact (hCX H e s' h).elim
    | ok fl =>
      cases fl with
      | next => exact False.elim h
      | brk => exact False.elim h
      | cont => exact False.elim h
      | ret u =>
        obtain ⟨v, H', os, bare, un, hok', r', q⟩ := h
        have q' : v = .bl true := q
        subst q'
        obtain rfl : u = Value.bool true := r'
        refine ⟨rfl, OldK.of_keep fun b o e => ?_, os, bare⟩
        cases q : H b with
        | none => exact un.keep b o e q (by intro z; exact absurd (show b ∈ ([] : List Addr) from z) (by simp)) (by simp)
        | some u =>
          rcases hO b with z | ⟨ob, xs, z⟩
          · rw [q] at z; cases z
          · have z2 := un.frzs b ob _ z
            obtain ⟨e1, _⟩ := hok b _ z
            obtain ⟨e2, _⟩ := hok' b _ z2
            rw [e] at e1; cases e1
            exact e2
  cases hk : K.lookup a with
  | some o =>
    -- the script is one of the module's own objects
    have e := KX a o hk
    rw [ha] at e
    cases e
    refine core (fun _ => none) (fun _ => .inl rfl) (.inr ⟨_, vs.toArray, _, hk, rfl, rfl, rfl, by rw [List.size_toArray, lenV]; exact hl, by simpa using rv⟩) (fun b u z => by have z' : (none : Option HO) = some u := z; cases z') (fun b z => absurd rfl z) fun z => absurd rfl z
  | none =>
    refine core (fun b => if b = a then some (.frz { cls := .type "list", data := .seq vs.toArray } (.lst (ns.map V.int))) else none) (fun b => ?_) (.inl (.inr ⟨{ cls := .type "list", data := .seq vs.toArray }, if_pos rfl⟩)) (fun b u z => ?_) (fun b z => ?_) fun _ => hk
    · by_cases hb : b = a
      · exact .inr ⟨_, _, if_pos hb⟩
      · exact .inl (if_neg hb)
    · by_cases hb : b = a
      · have z' := (if_pos hb).symm.trans z
        cases z'
        subst hb
        exact ⟨ha, by rw [List.length_map]; exact hl, vs, _, rv, ha⟩
      · have z' := (if_neg hb).symm.trans z
        cases z'
    · by_cases hb : b = a
      · exact hb
      · exact absurd (if_neg hb) z
end L2
namespace L2
open PySem PySem.Spec PyProof.Rows
abbrev KOf {K : PySem.W.Frag} {h : Heap} (_ : K.In h) : PySem.W.Frag := K
theorem walk_of {l : PySem.W.OpenLaw} {n k : Nat} {q : Program} {loose : List Str} {XP : (Str → Option Value) → Heap → Prop} {YP : World → Heap → Prop} {d : DefRec} {K : Params → PySem.W.Frag} {CX : World → CXT} {sp : World → Sp} {x : Str}
    (hn : l.most = some n) (hn2 : n ≤ sizeLine) (hdf : d.params.defaults = []) (hr : Room k callerA)
    (hY : ∀ (w : World) (h : Heap), YP w h → (K w.params).In h)
    (F : ∀ (w : World) (mg : Str → Option Value) (fa : Addr) (h : Heap), (K w.params).In h → h.Ns mainGlobals mg → mg d.name = some (.ref fa) →
      ∃ fd : FuncData, (∀ (s : Shared) (u : Value), BindsTo s fd ⟨[u], []⟩ [(x, u)]) ∧
        ∀ base : Heap, (K w.params).In base → base.Ns mainGlobals mg → FnOk l.prog w (K w.params) mg base (CX w) k fa fd [x] (sp w))
    (hsp : ∀ (w : World) (H : Hp) (a : Addr) (ns : List Int), ns.length ≤ n → Only H → SqL (K w.params) H a (ns.map V.int) → sp w [.ref a] H (fun v _ => v = .bl true) fun _ _ _ => False)
    (hCX : ∀ (w : World) (H : Hp) (s : Shared) (e : Value) (s' : Shared), CX w [] H s (fun _ _ _ => False) e s' → False) :
    PySem.W.WalkO q loose XP YP l.row.toRowW d [] (fun f vs => PySem.call f vs) := by
  refine Att.attach_call hn hdf fun w s₀ s₁ mg mb fa o pm cd doc a vs ns G Y ho hd hcd hmg hobj hints hlen hg => ?_
  have KX := hY w _ Y
  obtain ⟨fd, hb, hF⟩ := F w mg fa _ KX G.T.g hmg
  exact law_call KX G.T.g G.T.b G.T.builtins G.T.nolimit hg hobj hints (Nat.le_trans hlen hn2) hr hF hb (fun H hO hS => hsp w H a ns hlen hO hS) fun H e s' => hCX w H s₁ e s'
end L2
/- THE LAST THEOREM (shape; LID, My.* are yours):
   My.Adr: a structure of the addresses that your layer names (classes, functions); My.Txt K t: a structure (Prop) of the equations over K;
   My.txt_mk : {K} {implicit addresses ..} (e1 : nsIn K mainGlobals "law" = some (some (.ref f))) (e2 : K.lookup f = some ⟨oc, od, .func (fnOf "law" "law" params body scope dV kV doc pm an cdv ct), sl⟩) (e3 : codeIn K cdv "law" = true) .. : ∃ t, My.Txt K t
set_option maxRecDepth 100000 in
set_option maxHeartbeats 0 in
theorem PySem.Challenge.cw_LID_holds : PySem.Challenge.rw_LID.Holds := by
  w_on; o_law; k_head; (case hw => w_witness2)
  k_fill
  refine L2.walk_of (l := PySem.Challenge.rw_LID) (n := 63) (k := 40) (x := "script") (CX := fun w => ..) (sp := fun _ => My.sp_law) rfl (by decide) rfl ⟨rfl, by decide, by decide⟩ (fun w h Y => PySem.W.kIn_of Y) ?F ?S ?C
  case F =>
    intro w mg fa h KX G hmg
    have T : ∃ t, My.Txt (L2.KOf KX) t := by
      dsimp only [L2.KOf]                          -- K must stand as «<heap const> w.params» for k_is
      refine' My.txt_mk ?e1 ?e2 ?e3 ..
      (case e1 => PySem.W.k_is)                    -- in the order: a name -> its address -> its object -> its parts
      (case e2 => PySem.W.k_is)
      ..
    obtain ⟨t, T⟩ := T
    have e0 := hmg.symm.trans (PySem.W.mg_of KX G T.law)
    cases e0                                       -- fa is the law's own address
    exact ⟨_, fun s u => .of_eq rfl, fun base kb nb => My.law_fn T kb nb⟩     -- if «.of_eq rfl» comes too early: refine' ⟨_, ?b, fun base kb nb => My.law_fn T kb nb⟩; exact fun s u => .of_eq rfl
  case S => exact fun w H a ns hl hO hS => ..
  case C => exact ..
(the tactic k_is has no namespace: write k_is) -/
namespace L2
open PySem PySem.Spec PyProof.Rows
def defArgs (s : Stmt) : Arguments := match s with
  | .FunctionDef _ a _ _ _ _ _ _ _ _ => a
  | _ => { posonlyargs := [], args := [], vararg := none, kwonlyargs := [], kw_defaults := [], kwarg := none, defaults := [] }
def defBody (s : Stmt) : List Stmt := match s with
  | .FunctionDef _ _ b _ _ _ _ _ _ _ => b
  | _ => []
def defScope (s : Stmt) : Scope := match s with
  | .FunctionDef _ _ _ _ _ _ sc _ _ _ => sc
  | _ => { kind := .function, names := [], isGenerator := false, isCoroutine := false }
abbrev CX0 : CXT := fun _ _ _ _ _ _ => False
abbrev E0 : XK := fun _ _ _ => False
theorem pass0 {X : Cx} : Passes CX0 X E0 := fun _ _ _ _ _ _ _ h => h.elim
structure Fun (K : PySem.W.Frag) (x qual : Str) (st : Stmt) (f : Addr) (fd : FuncData) : Prop where
  ex : ∃ (oc : Value) (od : Option Addr) (kV doc pm : Value) (an : Option Addr) (cdv ct : Value) (osl : Array (Option Value)),
    fd = PySem.W.fnOf x qual (defArgs st) (defBody st) (defScope st) .none kV doc pm an cdv ct ∧ K.lookup f = some ⟨oc, od, .func fd, osl⟩ ∧ PySem.W.codeIn K cdv qual = true
  kp : PySem.W.keepIn K (.ref f) = true
section
variable {P : Program} {w : World} {K : PySem.W.Frag} {mg : Str → Option Value} {base : Heap}
theorem Fun.ok {x qual : Str} {st : Stmt} {f : Addr} {fd : FuncData} {N ps : List Str} {k : Nat} {sp : Sp} (F : Fun K x qual st f fd) (S : FnScope N ps (defScope st)) (len : ∀ vs H Q E, sp vs H Q E → vs.length = ps.length)
    (hbody : ∀ (cdv : Value) (A : Around) (outer : List Env) (s : Shared) (H : Hp) (vs : List V) (Q : VK) (E : XK), Room k (A.deeper (envOfC qual (defScope st) s.heap.objs.size f cdv)) → sp vs H Q E →
      ∃ t, PSs (cxOf CX0 P w K mg base N qual (defScope st) f cdv A outer s H E).nox (defBody st) t ∧ t { nx := fun _ H' => Q .non H', rt := Q } (start N vs) H) : FnOk P w K mg base CX0 (k + 1) f fd ps sp := by
  obtain ⟨oc, od, kV, doc, pm, an, cdv, ct, osl, rfl, lk, hcd⟩ := F.ex
  refine fn_of lk hcd S len fun A outer s H vs Q E hr hsp => ?_
  obtain ⟨t, h, q⟩ := hbody cdv A outer s H vs Q E hr hsp
  exact ⟨t, h.nox, q⟩
theorem Fun.binds {x qual : Str} {st : Stmt} {f : Addr} {fd : FuncData} {ps : List Str} (F : Fun K x qual st f fd)
    (h : ∀ (kV doc pm : Value) (an : Option Addr) (cdv ct : Value) (us : List Value), us.length = ps.length → bindArgs (PySem.W.fnOf x qual (defArgs st) (defBody st) (defScope st) .none kV doc pm an cdv ct) ⟨us, []⟩ = pure (ps.zip us)) : Binds K fd ps [] := by
  obtain ⟨oc, od, kV, doc, pm, an, cdv, ct, osl, rfl, lk, hcd⟩ := F.ex
  exact .all (h kV doc pm an cdv ct)
theorem fun_mk {x qual : Str} {st : Stmt} {f : Addr} {oc : Value} {od an : Option Addr} {osl : Array (Option Value)} {kV doc pm cdv ct : Value} (l : K.lookup f = some ⟨oc, od, .func (PySem.W.fnOf x qual (defArgs st) (defBody st) (defScope st) .none kV doc pm an cdv ct), osl⟩)
    (c : PySem.W.codeIn K cdv qual = true) (k : PySem.W.keepIn K (.ref f) = true) : Fun K x qual st f (PySem.W.fnOf x qual (defArgs st) (defBody st) (defScope st) .none kV doc pm an cdv ct) := ⟨⟨oc, od, kV, doc, pm, an, cdv, ct, osl, rfl, l, c⟩, k⟩
end
theorem small1000 {n : Nat} (h : n ≤ 1000) : n < sizeLine := Nat.lt_of_le_of_lt h (by decide)
section
variable {X : Cx}
theorem pv (i : Nat) {x : Str} {pos : Pos} (hN : X.N[i]? = some x := by rfl) (hv : Vis X.env.scope x := by first | exact Or.inl rfl | exact Or.inr (Or.inl rfl) | exact Or.inr (Or.inr rfl)) (hd : (x == ("__debug__" : Str)) = false := by decide)
    (hcd : (x == ("__classdict__" : Str)) = false := by decide) : PE X (.Name x pos) (tVar i) := pe_var hN hv hd hcd
end
theorem iteF {A B : Prop} (h : B) : if false = true then A else B := by
  rw [if_neg Bool.false_ne_true]
  exact h
theorem iteT {A B : Prop} (h : A) : if true = true then A else B := by
  rw [if_pos rfl]
  exact h
theorem ite2 {c A B : Prop} [Decidable c] (h1 : c → A) (h2 : ¬ c → B) : if c then A else B := by
  by_cases h : c
  · rw [if_pos h]
    exact h1 h
  · rw [if_neg h]
    exact h2 h
def Same (H H' : Hp) : Prop := ∀ b o, H b = some o → H' b = some o
theorem Same.refl (H : Hp) : Same H H := fun _ _ h => h
theorem Same.trans {H H1 H2 : Hp} (a : Same H H1) (b : Same H1 H2) : Same H H2 := fun c o h => b c o (a c o h)
theorem Same.free {H H' : Hp} (e : Same H H') {l : Addr} (h : H' l = Option.none) : H l = Option.none := by
  cases q : H l with
  | none => rfl
  | some o =>
    rw [e l o q] at h
    cases h
theorem Same.seq {K : PySem.W.Frag} {H H' : Hp} {a : Addr} {xs : List V} (e : Same H H') (h : SqL K H a xs) : SqL K H' a xs := by
  rcases h with (h | ⟨o, h⟩) | h
  · exact .inl (.inl (e _ _ h))
  · exact .inl (.inr ⟨o, e _ _ h⟩)
  · exact .inr h
end L2
set_option Elab.async false
set_option maxHeartbeats 4000000
namespace L2
open PySem PySem.Spec PyProof.Rows
section
variable {X : Cx}
theorem call_isi : CallR X (.builtin "isinstance") (fun xs H Q => ∃ x n t b, xs = [x, .ty n] ∧ TyOf X.K H x t ∧ PySem.W.kitOne X.K t (.type n) = some b ∧ Q (.bl b) H) := by
  intro pins s σ H xs us Q I r h
  obtain ⟨x, n, t, b, rfl, ty, e, q⟩ := h
  obtain ⟨u, u', rfl, r1, r2⟩ := vals2 r
  cases (show u' = Value.type n from r2)
  exact isinst_ok I r1 ty e fun tk => ⟨.bl b, H, I.tok tk, rfl, q⟩
theorem bools_at {bs : List Bool} : ∀ {us : List Value}, Vals (bs.map V.bl) us → us = bs.map Value.bool := by
  induction bs with
  | nil => intro us r; cases r; rfl
  | cons b bs ih =>
    intro us r
    cases r with
    | cons r1 r2 =>
      rw [ih r2]
      rw [show _ = Value.bool b from r1]
      rfl
theorem call_all (hc : X.calm = true) : CallR X (.builtin "all") (fun xs H Q => ∃ (p : Addr) (bs : List Bool), xs = [.ref p] ∧ SqL X.K H p (bs.map V.bl) ∧ Q (.bl (bs.all id)) H) := by
  intro pins s σ H xs us Q I r h
  obtain ⟨p, bs, rfl, hq, q⟩ := h
  obtain ⟨u, rfl, rx⟩ := vals1 r
  cases (show u = Value.ref p from rx)
  obtain ⟨its, r', pl, hz⟩ := I.list hq
  have hb := bools_at r'
  subst hb
  have hl : s.heap.IsList p (bs.map Value.bool).toArray := pl.isList
  refine call_all_walk (wpAny_pyIter_list hl ?_)
  have hne : p ≠ s.heap.objs.size := by
    obtain ⟨_, e, _⟩ := hl
    exact Nat.ne_of_lt (Heap.lt_size e)
  refine ⟨_, _, _, _, _, _, fun i => bs.getD i true, rfl, Walks.list (A := X.A.in1) (I.ok.hd hc) s.heap.objs.size p hne (bs.map Value.bool).toArray, ⟨⟨_, Heap.get?_push_size _ rfl, rfl, rfl⟩, hl.at fun o e => Heap.get?_push_of_some _ e⟩, ?_, fun h' tk hk => ?_⟩
  · intro i v s' Q' E' hP hQ'
    have e : bs[i]?.map Value.bool = some v := by simpa using hP
    cases e1 : bs[i]? with
    | none => rw [e1] at e; cases e
    | some b =>
      rw [e1] at e
      cases e
      refine wpAny_truthy_bool ?_
      have : bs.getD i true = b := by simp [List.getD, e1]
      rw [← this]; exact hQ'
  · have e : ((List.range (bs.map Value.bool).toArray.size).all fun i => bs.getD i true) = bs.all id := by
      simp only [List.size_toArray, List.length_map]
      rw [Bool.eq_iff_iff]
      simp only [List.all_eq_true, List.mem_range, id]
      constructor
      · intro h b hb
        obtain ⟨i, hi, rfl⟩ := List.mem_iff_getElem.mp hb
        simpa [List.getD, List.getElem?_eq_getElem hi] using h i hi
      · intro h i hi
        simpa [List.getD, List.getElem?_eq_getElem hi] using h _ (List.getElem_mem hi)
    rw [e]
    refine ⟨.bl (bs.all id), H, I.kept (h' := h') (t' := tk) (fun b o x => hk b o (fun z => ?_) (Heap.get?_push_of_some _ x)), rfl, q⟩
    have : b = s.heap.objs.size := by simpa using z
    exact absurd (this ▸ Heap.lt_size x) (Nat.lt_irrefl _)
theorem ints_eqAt {A : Around} {s : Shared} {ns ms : List Int} {us ws : List Value} (r : Vals (ns.map V.int) us) (r' : Vals (ms.map V.int) ws) :
    ∀ j (h1 : j < us.toArray.size) (h2 : j < ws.toArray.size), SeqAt.EqAt A s us.toArray[j] ws.toArray[j] (decide (ns[j]? = ms[j]?)) := by
  intro j h1 h2
  have l1 := r.length
  have l2 := r'.length
  simp only [List.size_toArray] at h1 h2
  simp only [List.length_map] at l1 l2
  obtain ⟨u, e1, t, e2⟩ := r.get (i := j) (x := .int (ns[j]'(by omega))) (by simp)
  obtain ⟨w, f1, t', f2⟩ := r'.get (i := j) (x := .int (ms[j]'(by omega))) (by simp)
  subst e2 f2
  have g1 : us.toArray[j] = Value.int (ns[j]'(by omega)) t := by
    rw [List.getElem?_eq_getElem h1] at e1
    simpa using Option.some.inj e1
  have g2 : ws.toArray[j] = Value.int (ms[j]'(by omega)) t' := by
    rw [List.getElem?_eq_getElem h2] at f1
    simpa using Option.some.inj f1
  rw [g1, g2, List.getElem?_eq_getElem (by omega : j < ns.length), List.getElem?_eq_getElem (by omega : j < ms.length)]
  have := SeqAt.EqAt.int_int (A := A) (s := s) (ns[j]'(by omega)) t (ms[j]'(by omega)) t'
  rw [show (decide (some (ns[j]'(by omega)) = some (ms[j]'(by omega)))) = (ns[j]'(by omega) == ms[j]'(by omega)) by
    rw [Bool.beq_eq_decide_eq]; simp]
  exact this
theorem all_same {ns ms : List Int} (h : ns.length = ms.length) : ((List.range ns.length).all fun j => decide (ns[j]? = ms[j]?)) = decide (ns = ms) := by
  rw [Bool.eq_iff_iff]
  simp only [List.all_eq_true, List.mem_range, decide_eq_true_eq]
  constructor
  · intro q
    refine List.ext_getElem? fun i => ?_
    by_cases hi : i < ns.length
    · exact q i hi
    · rw [List.getElem?_eq_none (by omega), List.getElem?_eq_none (by omega)]
  · rintro rfl i _; rfl
theorem op_eqL (hu : X.A.units < cLine) : OpR X (compareOp .Eq) (fun x y H Q => ∃ (p q : Addr) (ns ms : List Int), x = .ref p ∧ y = .ref q ∧ SqL X.K H p (ns.map V.int) ∧ SqL X.K H q (ms.map V.int) ∧ Q (.bl (decide (ns = ms))) H) := by
  intro pins s σ H x y v u Q I rx ry h
  obtain ⟨p, q, ns, ms, rfl, rfl, hp, hq, k⟩ := h
  cases (show v = Value.ref p from rx)
  cases (show u = Value.ref q from ry)
  obtain ⟨its, r, pl, _⟩ := I.list hp
  obtain ⟨its', r', pl', _⟩ := I.list hq
  have l1 := r.length
  have l2 := r'.length
  simp only [List.length_map] at l1 l2
  by_cases e : ns.length = ms.length
  · refine SeqAt.eq_listAt pl.isList pl'.isList (by simp only [List.size_toArray]; omega) hu (ints_eqAt r r') ⟨.bl _, H, I, rfl, ?_⟩
    rw [List.size_toArray, ← l1, all_same e]
    exact k
  · refine SeqAt.eq_list_lengthsAt pl.isList pl'.isList (by simp only [List.size_toArray, bne_iff_ne]; omega) hu ⟨.bl _, H, I, rfl, ?_⟩
    rw [decide_eq_false (fun z => e (congrArg List.length z))] at k
    exact k
theorem op_neL (hu : X.A.units < cLine) : OpR X (compareOp .NotEq) (fun x y H Q => ∃ (p q : Addr) (ns ms : List Int), x = .ref p ∧ y = .ref q ∧ SqL X.K H p (ns.map V.int) ∧ SqL X.K H q (ms.map V.int) ∧ Q (.bl (!decide (ns = ms))) H) := by
  intro pins s σ H x y v u Q I rx ry h
  obtain ⟨p, q, ns, ms, rfl, rfl, hp, hq, k⟩ := h
  cases (show v = Value.ref p from rx)
  cases (show u = Value.ref q from ry)
  obtain ⟨its, r, pl, _⟩ := I.list hp
  obtain ⟨its', r', pl', _⟩ := I.list hq
  have l1 := r.length
  have l2 := r'.length
  simp only [List.length_map] at l1 l2
  by_cases e : ns.length = ms.length
  · refine SeqAt.RcNeAt.lists pl.isList pl'.isList (by simp only [List.size_toArray]; omega) hu (ints_eqAt r r') X.prog X.w X.xe _ ⟨.bl _, H, I, rfl, ?_⟩
    rw [List.size_toArray, ← l1, all_same e]
    exact k
  · refine SeqAt.RcNeAt.lists_lengths pl.isList pl'.isList (by simp only [List.size_toArray, bne_iff_ne]; omega) hu X.prog X.w X.xe _ ⟨.bl _, H, I, rfl, ?_⟩
    rw [decide_eq_false (fun z => e (congrArg List.length z))] at k
    exact k
def SameInts (K : PySem.W.Frag) (H : Hp) : List V → List V → Prop
  | [], [] => True
  | x :: xs, y :: ys => (∃ (p q : Addr) (ns : List Int), x = .ref p ∧ y = .ref q ∧ SqL K H p (ns.map V.int) ∧ SqL K H q (ns.map V.int)) ∧ SameInts K H xs ys
  | _, _ => False
theorem same_eqAt {A : Around} {pins : List (Addr × Obj)} {σ : St} {H : Hp} {s : Shared} (hu : A.units < cLine) (I : Inv X pins σ H s) : ∀ {xs ys : List V} {us ws : List Value}, SameInts X.K H xs ys → Vals xs us → Vals ys ws →
    us.length = ws.length ∧ ∀ (j : Nat) (u w : Value), us[j]? = some u → ws[j]? = some w → SeqAt.EqAt A s u w true
  | [], [], _, _, _, .nil, .nil => ⟨rfl, fun j u w e => by simp at e⟩
  | x :: xs, y :: ys, _, _, ⟨⟨p, q, ns, hx, hy, hp, hq⟩, t⟩, .cons (b := u0) (l₂ := us0) r1 r2, .cons (b := w0) (l₂ := ws0) r3 r4 => by
    obtain ⟨l, k⟩ := same_eqAt hu I t r2 r4
    refine ⟨by simp [l], fun j u w e1 e2 => ?_⟩
    cases j with
    | succ j => exact k j u w (by simpa using e1) (by simpa using e2)
    | zero =>
      have e1 : u0 = u := by simpa using e1
      have e2 : w0 = w := by simpa using e2
      subst e1 e2 hx hy
      cases (show u0 = Value.ref p from r1)
      cases (show w0 = Value.ref q from r3)
      by_cases e : p = q
      · subst e; exact SeqAt.EqAt.same _
      · obtain ⟨its, r, pl, _⟩ := I.list hp
        obtain ⟨its', r', pl', _⟩ := I.list hq
        have l1 := r.length
        have l2 := r'.length
        have z := SeqAt.RcAt.lists (A := A) pl.isList pl'.isList (by simp only [List.size_toArray]; omega) hu (ints_eqAt r r')
        rw [List.size_toArray, ← l1, List.length_map, all_same rfl, decide_eq_true rfl] at z
        exact SeqAt.EqAt.of_refs e z
theorem op_neLL (hu : X.A.units + 1 < cLine) : OpR X (compareOp .NotEq) (fun x y H Q => ∃ p q xs ys, x = .ref p ∧ y = .ref q ∧ SqL X.K H p xs ∧ SqL X.K H q ys ∧ SameInts X.K H xs ys ∧ Q (.bl false) H) := by
  intro pins s σ H x y v u Q I rx ry h
  obtain ⟨p, q, xs, ys, rfl, rfl, hp, hq, hs, k⟩ := h
  cases (show v = Value.ref p from rx)
  cases (show u = Value.ref q from ry)
  obtain ⟨its, r, pl, _⟩ := I.list hp
  obtain ⟨its', r', pl', _⟩ := I.list hq
  obtain ⟨l, z⟩ := same_eqAt (A := X.A.in1) (by rw [Around.in1_units]; exact hu) I hs r r'
  refine SeqAt.RcNeAt.lists (e := fun _ => true) pl.isList pl'.isList (by simpa using l) (by omega) (fun j h1 h2 => z j _ _ (by simp) (by simp)) X.prog X.w X.xe _ ⟨.bl _, H, I, rfl, ?_⟩
  have : ((List.range its.toArray.size).all fun _ => true) = true := by simp
  rw [this]
  exact k
end
end L2
set_option Elab.async false
set_option maxHeartbeats 4000000
namespace L2
open PySem PySem.Spec PyProof.Rows
theorem closure_go (env : Env) : ∀ (ns : List (Str × NameKind)) (cs : List (Str × Addr)), (∀ y ∈ ns, y.2 = .free → ∃ c, env.cells.lookup y.1 = some c) → (∀ x c, cs.lookup x = some c → env.cells.lookup x = some c) →
    ∃ cl, (forIn ns cs (fun (p : Str × NameKind) (r : List (Str × Addr)) => if (p.2 == NameKind.free) = true then (do let a ← cellOf env p.1; pure (ForInStep.yield ((p.1, a) :: r)) : Sem _) else pure (ForInStep.yield r)) : Sem (List (Str × Addr))) = pure cl ∧
      (∀ x c, cl.lookup x = some c → env.cells.lookup x = some c) ∧ (∀ x c, cs.lookup x = some c → ∃ c', cl.lookup x = some c') ∧ ∀ y ∈ ns, y.2 = .free → ∃ c, cl.lookup y.1 = some c
  | [], cs, _, hcs => ⟨cs, rfl, hcs, fun x c e => ⟨c, e⟩, fun y hy => nomatch hy⟩
  | (n, k) :: ns, cs, h, hcs => by
    by_cases hk : k = .free
    · subst hk
      obtain ⟨c, hc⟩ := h (n, .free) (List.mem_cons_self ..) rfl
      have hc' : ∀ x d, ((n, c) :: cs).lookup x = some d → env.cells.lookup x = some d := fun x d e => by
        rw [List.lookup_cons] at e
        cases q : x == n with
        | true =>
          rw [q] at e
          have : x = n := by simpa using q
          subst this
          cases e
          exact hc
        | false =>
          rw [q] at e
          exact hcs x d e
      obtain ⟨cl, e1, e2, e3, e4⟩ := closure_go env ns ((n, c) :: cs) (fun y hy => h y (List.mem_cons_of_mem _ hy)) hc'
      refine ⟨cl, ?_, e2, fun x d e => ?_, fun y hy hf => ?_⟩
      · rw [List.forIn_cons]
        have : cellOf env n = pure c := by unfold cellOf; rw [hc]
        simp only [this, beq_self_eq_true, if_true]
        exact e1
      · cases q : x == n with
        | true =>
          exact e3 x c (by rw [List.lookup_cons, q])
        | false => exact e3 x d (by rw [List.lookup_cons, q]; exact e)
      · rcases List.mem_cons.mp hy with z | z
        · subst z
          exact e3 n c (by rw [List.lookup_cons, beq_self_eq_true])
        · exact e4 y z hf
    · obtain ⟨cl, e1, e2, e3, e4⟩ := closure_go env ns cs (fun y hy => h y (List.mem_cons_of_mem _ hy)) hcs
      refine ⟨cl, ?_, e2, e3, fun y hy hf => ?_⟩
      · rw [List.forIn_cons]
        have : (k == NameKind.free) = false := by simpa using hk
        simp only [this, Bool.false_eq_true, if_false]
        exact e1
      · rcases List.mem_cons.mp hy with z | z
        · subst z; exact absurd hf hk
        · exact e4 y z hf
theorem closure_ok {scope : Scope} {env : Env} (h : ∀ y ∈ scope.names, y.2 = .free → ∃ c, env.cells.lookup y.1 = some c) :
    ∃ cl, closureFor scope env = pure cl ∧ (∀ x c, cl.lookup x = some c → env.cells.lookup x = some c) ∧ ∀ y ∈ scope.names, y.2 = .free → ∃ c, cl.lookup y.1 = some c := by
  obtain ⟨cl, e1, e2, _, e4⟩ := closure_go env scope.names [] h (fun x c e => by simp at e)
  refine ⟨cl, ?_, e2, e4⟩
  show ((forIn scope.names ([] : List (Str × Addr)) (fun (p : Str × NameKind) (r : List (Str × Addr)) => if (p.2 == NameKind.free) = true then (do let a ← cellOf env p.1; pure (ForInStep.yield ((p.1, a) :: r)) : Sem _) else pure (ForInStep.yield r)) : Sem (List (Str × Addr))) >>= fun r => pure r) = pure cl
  rw [e1]
  rfl
theorem relabel_free {env : Env} {y : Str} : ∀ {names : List (Str × NameKind)}, names.lookup y = some .free →
    (names.map fun (n, k) => if (k == NameKind.free && env.scope.kind == .function && env.kindOf n == some .cell) then (n, NameKind.cell) else (n, k)).lookup y = some .cell ∨
    (names.map fun (n, k) => if (k == NameKind.free && env.scope.kind == .function && env.kindOf n == some .cell) then (n, NameKind.cell) else (n, k)).lookup y = some .free
  | [], h => by simp at h
  | (n, k) :: r, h => by
    have ih := relabel_free (env := env) (y := y) (names := r)
    rw [List.lookup_cons] at h
    rw [List.map_cons]
    dsimp only
    cases q : y == n with
    | true =>
      rw [q] at h
      cases h
      split
      · exact .inl (by rw [List.lookup_cons, q])
      · exact .inr (by rw [List.lookup_cons, q])
    | false =>
      rw [q] at h
      split
      · rw [List.lookup_cons, q]; exact ih h
      · rw [List.lookup_cons, q]; exact ih h
theorem relabel_back {env : Env} {y : Str} {k' : NameKind} (hk' : k' = .cell ∨ k' = .free) : ∀ {names : List (Str × NameKind)}, (∀ p ∈ names, p.2 ≠ .cell) →
    (names.map fun (n, k) => if (k == NameKind.free && env.scope.kind == .function && env.kindOf n == some .cell) then (n, NameKind.cell) else (n, k)).lookup y = some k' → (y, NameKind.free) ∈ names
  | [], _, h => by simp at h
  | (n, k) :: r, hn, h => by
    have ih := relabel_back (env := env) (y := y) hk' (names := r) fun p hp => hn p (List.mem_cons_of_mem _ hp)
    rw [List.map_cons] at h
    dsimp only at h
    split at h
    · rename_i c
      rw [List.lookup_cons] at h
      cases q : y == n with
      | true =>
        have e : y = n := by simpa using q
        have : k = .free := by
          rw [Bool.and_eq_true, Bool.and_eq_true] at c
          simpa using c.1.1
        subst e this
        exact List.mem_cons_self ..
      | false => rw [q] at h; exact List.mem_cons_of_mem _ (ih h)
    · rw [List.lookup_cons] at h
      cases q : y == n with
      | true =>
        rw [q] at h
        have e : y = n := by simpa using q
        have e2 : k = k' := Option.some.inj h
        subst e e2
        have := hn (y, k) (List.mem_cons_self ..)
        rcases hk' with z | z
        · exact absurd z this
        · rw [z]; exact List.mem_cons_self ..
      | false => rw [q] at h; exact List.mem_cons_of_mem _ (ih h)
theorem lookup_mem {y : Str} {k : NameKind} : ∀ {l : List (Str × NameKind)}, l.lookup y = some k → (y, k) ∈ l
  | [], h => by simp at h
  | (n, k') :: r, h => by
    rw [List.lookup_cons] at h
    cases q : y == n with
    | true =>
      rw [q] at h
      have e : y = n := by simpa using q
      cases h
      subst e
      exact List.mem_cons_self ..
    | false => rw [q] at h; exact List.mem_cons_of_mem _ (lookup_mem h)
def compCx (X : Cx) (NC : List Str) (scope : Scope) (cl : List (Str × Addr)) (C : Addr) (s : Shared) (H : Hp) (fp : List Addr) : Cx :=
  { X with N := NC, s₀ := s, H₀ := H, env := compEnvC scope cl C X.env, outer := X.stack, stack := X.stack, ex := fp, fn := fun _ => false, pn := [], xe := fun _ _ => False }
inductive Frees (X : Cx) (scope : Scope) : List Str → List Nat → Prop
  | nil : Frees X scope [] []
  | cons {y : Str} {i : Nat} {fr : List Str} {ρ : List Nat} (hN : X.N[i]? = some y) (hl : scope.names.lookup y = some .free) (hk : X.env.kindOf y = some .cell ∨ X.env.kindOf y = some .free) (r : Frees X scope fr ρ) : Frees X scope (y :: fr) (i :: ρ)
theorem Frees.len {X : Cx} {scope : Scope} {fr : List Str} {ρ : List Nat} (h : Frees X scope fr ρ) : fr.length = ρ.length := by
  induction h with
  | nil => rfl
  | cons _ _ _ _ ih => simp [ih]
theorem Frees.at {X : Cx} {scope : Scope} {fr : List Str} {ρ : List Nat} (h : Frees X scope fr ρ) : ∀ (j : Nat) (y : Str), fr[j]? = some y → ∃ i, ρ[j]? = some i ∧ X.N[i]? = some y ∧ scope.names.lookup y = some .free ∧ (X.env.kindOf y = some .cell ∨ X.env.kindOf y = some .free) := by
  induction h with
  | nil => intro j y e; simp at e
  | @cons y i fr ρ hN hl hk r ih =>
    intro j z e
    cases j with
    | zero =>
      have : y = z := by simpa using e
      subst this
      exact ⟨i, rfl, hN, hl, hk⟩
    | succ j => exact ih j z (by simpa using e)
theorem Frees.mem {X : Cx} {scope : Scope} {fr : List Str} {ρ : List Nat} (h : Frees X scope fr ρ) (y : Str) (hy : y ∈ fr) : X.env.kindOf y = some .cell ∨ X.env.kindOf y = some .free := by
  obtain ⟨j, hj, e⟩ := List.mem_iff_getElem.mp hy
  obtain ⟨i, _, _, _, k⟩ := h.at j y (by rw [← e]; simp)
  exact k
def takes (σ : St) (ρ : List Nat) : St := ρ.map fun i => (σ[i]?).getD none
def PF (X : Cx) (ifs : List Expr) (t : TT) : Prop :=
  ∀ (pins : List (Addr × Obj)) (s : Shared) (σ : St) (H : Hp) (Q : Bool → Hp → Prop), Inv X pins σ H s → t σ H Q →
    wpAny (model X.prog X.w) X.A (forIn ifs true fun c r => if r = true then do let ok ← isTrue c X.env (eval c X.env); pure (ForInStep.yield ok) else pure (ForInStep.yield r)) (TP X pins σ Q) X.xe s
theorem pf_nil {X : Cx} : PF X [] (fun _ H Q => Q true H) := fun _ _ _ H _ I h => wpAny_tests_nil ⟨H, I, h⟩
theorem pf_one {X : Cx} {c : Expr} {t : TT} (h : PT X c t) : PF X [c] t := fun pins s σ H Q I q => wpAny_tests_one (h pins s σ H Q I q)
def tCompTurn (J : It) (tt : TT) (te : TE) (fs : St) (D : Addr) (R : Hp → Prop) : Hp → Prop := fun H1 =>
  ∃ W : Nat → Nat → List V → Hp → Prop, (∃ m, W 0 m [] (upd H1 D (.lst []))) ∧ ∀ i m acc H, W i m acc H → H D = some (.lst acc) ∧
    ((J.stop i H ∧ R H) ∨ (J.go i H ∧ ∀ y H', J.yld i H y H' → tt (some y :: fs) H' fun b H2 =>
      if b = true then te (some y :: fs) H2 fun z H3 => H3 D = some (.lst acc) ∧ acc.length < sizeLine ∧ ∃ m', m' < m ∧ W (i + 1) m' (acc ++ [z]) (upd H3 D (.lst (acc ++ [z])))
      else ∃ m', m' < m ∧ W (i + 1) m' acc H2))
def tComp (ρ : List Nat) (wi : TI) (tt : TT) (te : TE) : TE := fun σ H Q => wi σ H fun J H1 => ∀ D, H1 D = none → tCompTurn J tt te (takes σ ρ) D (Q (.ref D)) H1
theorem comp_core {X : Cx} {x : Str} {px pos : Pos} {elt iter : Expr} {ifs : List Expr} {scope : Scope} {fr : List Str} {ρ : List Nat} {tt : TT} {te : TE} {J : It} {it : Addr} {fp : List Addr} {tn : Nat → Heap → Prop}
    {pins : List (Addr × Obj)} {s2 : Shared} {σ : St} {H2 : Hp} {cl : List (Str × Addr)} {R : Addr → Hp → Prop} {RR : Value → Addr → Result → Shared → Prop} {E : Value → Shared → Prop}
    (hc : X.calm = true) (hk : scope.kind = .function) (hcl : ∀ y ∈ scope.names, y.2 ≠ .cell) (hx : scope.names.lookup x = some .local) (hnd : (x :: fr).Nodup) (hfr : Frees X scope fr ρ) (hall : ∀ y ∈ scope.names, y.2 = .free → y.1 ∈ fr)
    (cl1 : ∀ x c, cl.lookup x = some c → X.env.cells.lookup x = some c) (cl2 : ∀ y ∈ scope.names, y.2 = .free → ∃ c, cl.lookup y.1 = some c)
    (hb1 : ∀ cl C s0 H0 ex, PF (compCx X (x :: fr) scope cl C s0 H0 ex) ifs tt) (hb2 : ∀ cl C s0 H0 ex, PE (compCx X (x :: fr) scope cl C s0 H0 ex) elt te)
    (I2 : Inv X pins σ H2 s2) (T : Turn X.prog X.w X.K (.Name x px) J fp it tn) (st2 : tn 0 s2.heap) (f2 : ∀ b ∈ fp, FpOk X pins H2 b)
    (h : ∀ D, H2 D = none → tCompTurn J tt te (takes σ ρ) D (R D) H2)
    (hRR : ∀ D C H' s' m, s'.heap.Ns C m → Inv X pins σ H' s' → FpOk X pins H' C → R D H' → RR (.ref D) C (.ok .next) s') :
    wpAny (model X.prog X.w) X.A (newList []) (fun acc s₃ => wpAny (model X.prog X.w) X.A (newFunctionEnv scope X.env.globals cl [] X.env.qual none .none (some X.env)) (fun cenv s₄ =>
      codeAny (model X.prog X.w) X.A (.compStart (.ListComp elt [⟨.Name x px, iter, ifs, 0⟩] scope pos) 0 (.ref it) acc { cenv with scope := relabel scope X.env }) (RR acc cenv.locals) s₄) E s₃) E s2 := by
  refine wpAny_newObj_type (wpAny_newFunctionEnv hcl (by intro y hy; simp at hy) (fun h₁ hns₁ hsb₁ => ?_) hk)
  dsimp only at hns₁ hsb₁ ⊢
  have I3 : Inv X pins σ (upd H2 s2.heap.objs.size (.lst [])) { s2 with heap := s2.heap.push { cls := .type "list", dict := none, data := .seq ([] : List Value).toArray } } := I2.lnew (t' := s2.toks) (ys := []) (its := []) .nil (Nat.zero_le _)
  have hD := h s2.heap.objs.size I2.fresh
  have z3 : (s2.heap.push { cls := .type "list", dict := none, data := .seq ([] : List Value).toArray }).objs.size = s2.heap.objs.size + 1 := Heap.size_push ..
  have k3 : ∀ b o, s2.heap.get? b = some o → (s2.heap.push { cls := .type "list", dict := none, data := .seq ([] : List Value).toArray }).get? b = some o := fun b o e => Heap.get?_push_of_some _ e
  generalize s2.heap.push { cls := .type "list", dict := none, data := .seq ([] : List Value).toArray } = h3 at I3 z3 k3 hns₁ hsb₁ ⊢
  generalize hDD : s2.heap.objs.size = D at I3 hD z3 ⊢
  generalize hH3 : upd H2 D (.lst []) = H3 at I3
  have old : ∀ b o, h3.get? b = some o → h₁.get? b = some o := fun b o e => hsb₁.extBut b o (Nat.ne_of_lt (Heap.lt_size e)) (Heap.get?_push_of_some _ e)
  have lt2 : ∀ b ∈ fp, b < D := fun b hb => by
    obtain ⟨o, e, _⟩ := T.obj 0 _ st2 b hb
    rw [← hDD]
    exact Heap.lt_size e
  have lt3 : ∀ b ∈ fp, b < h3.objs.size := fun b hb => Nat.lt_of_lt_of_le (lt2 b hb) (by rw [z3]; exact Nat.le_succ _)
  have fr3 : ∀ b ∈ fp, H3 b = none := fun b hb => by rw [← hH3, upd_ne (Nat.ne_of_lt (lt2 b hb))]; exact (f2 b hb).1
  have stk : ∀ b ∈ fp, b ∉ frs X.stack := fun b hb z => (List.mem_cons.mp (I2.stkSub b z)).elim (f2 b hb).2.1 (f2 b hb).2.2.1
  have cel : ∀ x c, cl.lookup x = some c → ∀ b ∈ fp, c ≠ b := fun x c e b hb => (f2 b hb).2.2.2.2.1 x c (cl1 x c e)
  have okC : (compCx X (x :: fr) scope cl h3.objs.size { s2 with heap := h3 } H3 fp).Ok := by
    refine ⟨I2.ok.mod, hk, I2.ok.glob, I2.ok.blt, Nat.le_refl _, fun a b c e1 e2 => I2.ok.inj a b c (cl1 a c e1) (cl1 b c e2), fun y hy => ?_, fun _ _ q => (nomatch q), I2.ok.hd, I2.ok.frames, .inl rfl, fun b hb => ⟨Nat.ne_of_lt (lt3 b hb), fun y c e => cel y c e b hb⟩,
      I3.bs, Nat.le_trans I2.ok.bsz I3.sz, fun b o e hb => ?_, stk, I3.stack, I3.stkFree⟩
    · rcases hy with hy | hy
      · exact cl2 (y, .free) (relabel_back (.inl rfl) hcl hy) rfl
      · exact cl2 (y, .free) (relabel_back (.inr rfl) hcl hy) rfl
    · rcases (f2 b hb).2.2.2.1 with z | z
      · exact I2.ok.noex b o e z
      · exact absurd (Nat.lt_of_lt_of_le (Heap.lt_size (I2.ok.bs b o e).1) z) (Nat.lt_irrefl _)
  have I4 : Inv (compCx X (x :: fr) scope cl h3.objs.size { s2 with heap := h3 } H3 fp) [] (none :: takes σ ρ) H3 { s2 with heap := h₁, toks := s2.toks + ([] : List (Str × Value)).length } := by
    refine ⟨okC, rfl, I3.bare, Un.kept old, ⟨_, hns₁, fun i y v e1 e2 e3 => ?_⟩, fun y c e => ?_, I3.hok.fresh (Nat.le_refl _), fun y c e => I3.freeC y c (cl1 y c e), fun p hp => (nomatch hp), I3.hok.kept old, by simp [takes, compCx, hfr.len]⟩
    · cases i with
      | zero => simp at e2
      | succ j =>
        obtain ⟨i', r1, r2, r3, r4⟩ := hfr.at j y (by simpa [compCx] using e1)
        have e2' : (σ[i']?).getD none = some v := by simpa [takes, r1] using e2
        have e2'' : σ[i']? = some (some v) := by
          cases q : σ[i']? with
          | none => rw [q] at e2'; cases e2'
          | some o => rw [q] at e2'; exact congrArg some e2'
        obtain ⟨m, hn, hl⟩ := I3.loc
        have vis : Vis X.env.scope y := by rcases r4 with r4 | r4; exact .inr (.inl r4); exact .inr (.inr r4)
        obtain ⟨u, ru, lk⟩ := hl i' y v r2 e2'' vis
        refine ⟨u, ru, .inr ⟨relabel_free r3, ?_⟩⟩
        rcases lk with ⟨k, _⟩ | ⟨_, c, hc', q⟩
        · rcases r4 with r4 | r4 <;> (rw [k] at r4; cases r4)
        · have hm : (y, NameKind.free) ∈ scope.names := lookup_mem r3
          obtain ⟨c', hc''⟩ := cl2 _ hm rfl
          have := (cl1 _ _ hc'').symm.trans hc'
          cases this
          obtain ⟨o, ho, hd⟩ := q
          exact ⟨c, hc'', o, old _ _ ho, hd⟩
    · obtain ⟨v, o, ho, hd⟩ := I3.cell y c (cl1 y c e)
      exact ⟨v, o, old _ _ ho, hd⟩
  have st4 : tn 0 h₁ := T.keep 0 _ _ st2 fun b hb o e => old b o (k3 b o e)
  have stat : ∀ {H' : Hp}, (∀ b ∈ fp, H' b = none) → ∀ b ∈ fp, FpOk (compCx X (x :: fr) scope cl h3.objs.size { s2 with heap := h3 } H3 fp) [] H' b := fun hn b hb =>
    ⟨hn b hb, Nat.ne_of_lt (lt3 b hb), stk b hb, .inl hb, fun y c e => cel y c e b hb, fun p hp => (nomatch hp)⟩
  have hxl : (relabel scope X.env).names.lookup x = some .local := lookup_relabel_local hx
  obtain ⟨W, ⟨m0, w0⟩, turn⟩ := hD
  rw [hH3] at w0
  have loop : ∀ s4 : Shared, s4 = { s2 with heap := h₁, toks := s2.toks + ([] : List (Str × Value)).length } →
      codeAny (model X.prog X.w) X.A (.compLoop (.ListComp elt [⟨.Name x px, iter, ifs, 0⟩] scope pos) 0 (.ref it) (.ref D) (compEnvC scope cl h3.objs.size X.env)) (RR (.ref D) h3.objs.size) s4 := by
    rintro s4 rfl
    refine codeAny_compLoop_tests (fun n s' => ∃ i acc σ' H', Inv (compCx X (x :: fr) scope cl h3.objs.size { s2 with heap := h3 } H3 fp) [] σ' H' s' ∧ σ'.drop 1 = takes σ ρ ∧ tn i s'.heap ∧ (∀ b ∈ fp, H' b = none) ∧ W i n acc H') ?_ m0 ⟨0, [], _, _, I4, rfl, st4, fr3, w0⟩
    rintro n s5 ⟨i, acc, σ5, H5, I5, dr5, st5, fr5, w5⟩
    obtain ⟨hacc, alt⟩ := turn i n acc H5 w5
    rcases alt with ⟨stop, q⟩ | ⟨go, step⟩
    · refine wpAny_mono (T.done (compCx X (x :: fr) scope cl h3.objs.size { s2 with heap := h3 } H3 fp) rfl rfl rfl hc i [] s5 σ5 H5 (fun _ _ => False) I5 (stat fr5) st5 stop) (fun r s6 q6 => ?_) fun _ _ z => z.elim
      obtain ⟨hr, I6⟩ := q6
      subst hr
      obtain ⟨m6, hn6, _⟩ := I6.loc
      refine hRR _ _ H5 s6 m6 hn6 (I3.call' (ch := fp) I6.os I6.base I6.hok I6.bare fun b hb => ⟨(f2 b hb).2.2.2.1, (f2 b hb).2.1, (f2 b hb).2.2.2.2.1, (f2 b hb).2.2.2.2.2⟩) (I3.fpOk (Nat.le_refl _) I6.free) q
    · refine wpAny_mono (T.item (compCx X (x :: fr) scope cl h3.objs.size { s2 with heap := h3 } H3 fp) rfl rfl rfl hc i [] s5 σ5 H5 (fun _ _ => False) I5 (stat fr5) st5 go) (fun r s6 q6 => ?_) fun _ _ z => z.elim
      obtain ⟨u, hr, h6⟩ := q6
      subst hr
      dsimp only
      refine wpAny_bind (m := letOwnedTupleGo (.Name x px) (.ref it) u) (f := fun _ => assign (.Name x px) (compEnvC scope cl h3.objs.size X.env) u) (wpAny_mono h6 (fun _ s7 q7 => ?_) fun _ _ z => z.elim)
      obtain ⟨y, H7, I7, r7, y7, st7, fr7⟩ := q7
      have I7' := I7.pinned (stat fr7) (T.obj _ _ st7)
      refine wpAny_mono (pg_name (X := compCx X (x :: fr) scope cl h3.objs.size { s2 with heap := h3 } H3 fp) (i := 0) hnd rfl (.inl hxl) (.inr hxl) _ s7 σ5 H7 y u (fun σ8 H8 => σ8 = some y :: takes σ ρ ∧ H8 = H7) I7' r7 ?_) (fun _ s8 q8 => ?_) fun _ _ z => z.elim
      · refine ⟨?_, rfl⟩
        have l5 := I5.len
        cases σ5 with
        | nil => simp [compCx] at l5
        | cons a r =>
          have : r = takes σ ρ := by simpa using dr5
          subst this
          rfl
      obtain ⟨σ8, H8, I8, e8, e8'⟩ := q8
      subst e8 e8'
      have back : ∀ {H9 : Hp} {s9 : Shared} {acc' : List V} {m' : Nat}, Inv (compCx X (x :: fr) scope cl h3.objs.size { s2 with heap := h3 } H3 fp) ([] ++ pinsAt fp s7.heap) (some y :: takes σ ρ) H9 s9 → m' < n → W (i + 1) m' acc' H9 →
          ∃ m, m < n ∧ ∃ i acc σ' H', Inv (compCx X (x :: fr) scope cl h3.objs.size { s2 with heap := h3 } H3 fp) [] σ' H' s9 ∧ σ'.drop 1 = takes σ ρ ∧ tn i s9.heap ∧ (∀ b ∈ fp, H' b = none) ∧ W i m acc H' := fun {H9 s9 acc' m'} I9 lt w9 => by
        have pn : ∀ b ∈ fp, ∀ o, s7.heap.get? b = some o → s9.heap.get? b = some o ∧ H9 b = none := fun b hb o e => by
          have z := I9.pin (b, o) (List.mem_append_right _ (List.mem_append_right _ (mem_pinsAt hb e)))
          exact ⟨z.1, z.2.1⟩
        refine ⟨m', lt, i + 1, acc', _, H9, I9.unpinned, rfl, T.keep _ _ _ st7 fun b hb o e => (pn b hb o e).1, fun b hb => ?_, w9⟩
        obtain ⟨o, e, _⟩ := T.obj _ _ st7 b hb
        exact (pn b hb o e).2
      refine wpAny_mono (hb1 cl h3.objs.size _ H3 fp _ s8 _ H8 _ I8 (step y H8 y7)) (fun ok s9 q9 => ?_) fun _ _ z => z.elim
      obtain ⟨H9, I9, q9⟩ := q9
      cases ok with
      | false =>
        obtain ⟨m', lt, w9⟩ := q9
        exact back I9 lt w9
      | true =>
        refine wpAny_mono (hb2 cl h3.objs.size _ H3 fp _ s9 _ H9 _ I9 q9) (fun z s10 q10 => ?_) fun _ _ z => z.elim
        obtain ⟨zv, H10, I10, rz, e10, lz, m', lt, w10⟩ := q10
        refine wpAny_mono (mt_append (X := compCx X (x :: fr) scope cl h3.objs.size { s2 with heap := h3 } H3 fp) _ s10 _ H10 (.ref D) [zv] (.ref D) [z] (fun _ H11 => H11 = upd H10 D (.lst (acc ++ [zv]))) I10 rfl (.cons rz .nil) ⟨D, acc, zv, rfl, rfl, e10, lz, rfl⟩) (fun _ s11 q11 => ?_) fun _ _ z => z.elim
        obtain ⟨_, H11, I11, _, e11⟩ := q11
        subst e11
        exact back I11 lt w10
  exact codeAny_compStart_list (loop _ rfl) (T.self X.A 0 _ _ _ st4 (loop _ rfl))
theorem pe_comp {X : Cx} {x : Str} {px pos : Pos} {elt iter : Expr} {ifs : List Expr} {scope : Scope} {fr : List Str} {ρ : List Nat} {tt : TT} {te : TE} {wi : TI}
    (hc : X.calm = true) (hk : scope.kind = .function) (hcl : ∀ y ∈ scope.names, y.2 ≠ .cell) (hnm : ∀ y ∈ scope.names, y.2 = .local → scope.names.lookup y.1 = some .local) (hx : scope.names.lookup x = some .local) (hnd : (x :: fr).Nodup)
    (hfr : Frees X scope fr ρ) (hall : ∀ y ∈ scope.names, y.2 = .free → y.1 ∈ fr) (hi : PI X (.Name x px) iter wi)
    (hb1 : ∀ cl C s0 H0 ex, PF (compCx X (x :: fr) scope cl C s0 H0 ex) ifs tt) (hb2 : ∀ cl C s0 H0 ex, PE (compCx X (x :: fr) scope cl C s0 H0 ex) elt te)
    (hs : ∀ v, foldedSetIterable iter X.env v = pure v := by intro _; rfl) : PE X (.ListComp elt [⟨.Name x px, iter, ifs, 0⟩] scope pos) (tComp ρ wi tt te) := by
  intro pins s σ H Q I h
  obtain ⟨cl, e1, c1, c2⟩ := closure_ok (scope := scope) (env := X.env) fun y hy hf => I.ok.has y.1 (hfr.mem y.1 (hall y hy hf))
  rw [eval_ListComp]
  refine wpAny_comprehension_free (use := none) rfl hs e1 hk hnm ?_
  refine thn (hi pins s σ H _ I h) fun v s1 h1 => thn h1 fun itv s2 h2 => ?_
  obtain ⟨it, fp, tn, J, H2, e, I2, T, st2, f2, q⟩ := h2
  subst e
  refine comp_core (RR := fun acc C => compPost _ _ X.xe none (EP X pins σ Q) acc C) hc hk hcl hx hnd hfr hall c1 c2 hb1 hb2 I2 T st2 f2 (R := fun D => Q (.ref D)) q ?_
  intro D C H' s' m hn I' fC r
  exact ⟨m, hn, fun h' hs' => ⟨.ref D, H', I'.turned (t' := s'.toks) (fun b o hb e => (hs'.2 b hb).trans e) fC.1 fC.2.1 fC.2.2.2.1 fC.2.2.2.2.1 fC.2.2.2.2.2, rfl, r⟩⟩
theorem ps_setComp {X : Cx} {y : Str} {py spos : Pos} {j : Nat} {x : Str} {px pos : Pos} {elt iter : Expr} {ifs : List Expr} {scope : Scope} {fr : List Str} {ρ : List Nat} {tt : TT} {te : TE} {wi : TI}
    (hN : X.N.Nodup) (hj : X.N[j]? = some y) (hy : X.env.scope.names.lookup y = some .local)
    (hc : X.calm = true) (hk : scope.kind = .function) (hcl : ∀ y ∈ scope.names, y.2 ≠ .cell) (hnm : ∀ y ∈ scope.names, y.2 = .local → scope.names.lookup y.1 = some .local) (hx : scope.names.lookup x = some .local) (hnd : (x :: fr).Nodup)
    (hfr : Frees X scope fr ρ) (hall : ∀ y ∈ scope.names, y.2 = .free → y.1 ∈ fr) (hi : PI X (.Name x px) iter wi)
    (hb1 : ∀ cl C s0 H0 ex, PF (compCx X (x :: fr) scope cl C s0 H0 ex) ifs tt) (hb2 : ∀ cl C s0 H0 ex, PE (compCx X (x :: fr) scope cl C s0 H0 ex) elt te)
    (hsw : swapsWith (.ListComp elt [⟨.Name x px, iter, ifs, 0⟩] scope pos) (some (.Name y py)) spos.line X.env = pure true := by rfl)
    (hs : ∀ v, foldedSetIterable iter X.env v = pure v := by intro _; rfl) :
    PS X (.Assign [.Name y py] (.ListComp elt [⟨.Name x px, iter, ifs, 0⟩] scope pos) spos) (tAsg (tComp ρ wi tt te) (gName j)) := by
  intro pins s σ H D I h
  obtain ⟨cl, e1, c1, c2⟩ := closure_ok (scope := scope) (env := X.env) fun y hy hf => I.ok.has y.1 (hfr.mem y.1 (hall y hy hf))
  rw [exec_Assign_Name_used _ _ _ _ hsw]
  refine wpAny_bind (wpAny_standAt (wpAny_bind ?_))
  show wpAny _ X.A (do let _ ← comprehension (.ListComp elt [⟨.Name x px, iter, ifs, 0⟩] scope pos) scope X.env _ (newList []) false (eval iter X.env) (some (assign (.Name y py) X.env))) _ _ s
  refine wpAny_bind (thn (wpAny_comprehension_free (use := some (assign (.Name y py) X.env)) (Q := fun _ s' => SP X pins D .next s') rfl hs e1 hk hnm ?_) fun _ s' hq => wpAny_pure (wpAny_pure hq))
  refine thn (hi pins s σ H _ I h) fun v s1 h1 => thn h1 fun itv s2 h2 => ?_
  obtain ⟨it, fp, tn, J, H2, e, I2, T, st2, f2, q⟩ := h2
  subst e
  refine comp_core (RR := fun acc C => compPost _ _ X.xe (some (assign (.Name y py) X.env)) (fun _ s' => SP X pins D .next s') acc C) hc hk hcl hx hnd hfr hall c1 c2 hb1 hb2 I2 T st2 f2 (R := fun L H' => D.nx (σ.set j (some (.ref L))) H') q ?_
  intro L C H' s' m hn I' fC r
  show wpAny _ X.A (assign (.Name y py) X.env (.ref L)) _ _ _
  refine wpAny_assign_Name (store_ok2 I' hN hj (.inl hy) (show RelV (.ref L) (.ref L) from rfl) (fun s'' I'' sb => ?_) (.inr hy))
  obtain ⟨a, sb, ha⟩ := sb
  have ne : C ≠ a := by
    rcases ha with z | z
    · rw [z]; exact fC.2.1
    · exact Ne.symm (fC.2.2.2.2.1 y a z)
  refine ⟨m, hn.sameBut sb ne, fun h' hs' => ?_⟩
  exact ⟨_, H', I''.turned (t' := s''.toks) (fun b o hb e => (hs'.2 b hb).trans e) fC.1 fC.2.1 fC.2.2.2.1 fC.2.2.2.2.1 fC.2.2.2.2.2, r⟩
end L2
set_option maxRecDepth 100000
set_option Elab.async false
namespace L2
open PySem
section
variable {prog : Program} {w : World} {A : Around} {E : Value → Shared → Prop} {s : Shared}
end
end L2
set_option Elab.async false
set_option maxHeartbeats 4000000
namespace L2
open PySem PySem.Spec PyProof.Rows
structure Callee (P : Program) (w : World) (K : PySem.W.Frag) (mg : Str → Option Value) (base : Heap) (x : Str) (ps : List Str) (k : Nat) (sp : Sp) : Prop where
  ex : ∃ f fd, FnOk P w K mg base CX0 k f fd ps sp ∧ mg x = some (.ref f) ∧ PySem.W.keepIn K (.ref f) = true ∧ Binds K fd ps []
def tCl (sp : Sp) (t : TA) : TE := fun σ H Q => t σ H fun vs H1 => sp vs H1 Q E0
theorem pe_callC {X : Cx} {x : Str} {ps : List Str} {k : Nat} {sp : Sp} {e : Expr} {es : List Expr} {t : TA} {p pos : Pos} (C : Callee X.prog X.w X.K X.mg X.base x ps k sp) (hr : Room k X.A) (hg : Gl X x) (ha : PA X (e :: es) t)
    (hdb : (x == ("__debug__" : Str)) = false := by decide) (he : starEach (e :: es) X.env = (false, eval e X.env) :: starEach es X.env := by rfl) (hpl : (backTo pos (starEach es X.env)).any (·.1) = false := by rfl) :
    PE X (.Call (.Name x p) (e :: es) [] pos) (tCl sp t) := by
  obtain ⟨f, fd, F, hm, hk, hb⟩ := C.ex
  have h := pe_call (p := p) (pos := pos) F hr hg hm hk hb .nil pass0 ha hdb he hpl
  intro pins s σ H Q I q
  refine h pins s σ H Q I ?_
  unfold tCall
  simp only [List.append_nil]
  exact q
inductive WrittenInts : List Expr → List Int → Prop
  | nil : WrittenInts [] []
  | cons {i : Int} {k : Nat} {p : Pos} {es : List Expr} {js : List Int} (h : WrittenInts es js) : WrittenInts (.Constant (.int i) k p :: es) (i :: js)
def tInts (js : List Int) : TA := fun _ H Q => Q (js.map V.int) H
theorem pa_ints {X : Cx} {es : List Expr} {js : List Int} (h : WrittenInts es js) : PA X es (tInts js) := by
  induction h with
  | nil => exact pa_nil
  | cons _ ih => exact pa_cons pe_int ih
theorem callK {X : Cx} {K : PySem.W.Frag} {f : Value} {r : PySem.W.Frag → List V → Hp → VK → Prop} (h : CallR X f (r X.K)) (e : X.K = K) : CallR X f (r K) := by
  rw [← e]; exact h
theorem ixK {X : Cx} {K : PySem.W.Frag} {r : PySem.W.Frag → R2} (h : IxR X (r X.K)) (e : X.K = K) : IxR X (r K) := by
  rw [← e]; exact h
def rLen (K : PySem.W.Frag) : List V → Hp → VK → Prop := fun xs H Q => ∃ p ys, xs = [.ref p] ∧ (SqL K H p ys ∨ SqT K H p ys) ∧ Q (.int ys.length) H
theorem call_len' {X : Cx} : CallR X (.builtin "len") (rLen X.K) := call_len_seq
def rIsi (K : PySem.W.Frag) : List V → Hp → VK → Prop := fun xs H Q => ∃ x n t b, xs = [x, .ty n] ∧ TyOf K H x t ∧ PySem.W.kitOne K t (.type n) = some b ∧ Q (.bl b) H
theorem call_isi' {X : Cx} : CallR X (.builtin "isinstance") (rIsi X.K) := call_isi
def rAllB (K : PySem.W.Frag) : List V → Hp → VK → Prop := fun xs H Q => ∃ (p : Addr) (bs : List Bool), xs = [.ref p] ∧ SqL K H p (bs.map V.bl) ∧ Q (.bl (bs.all id)) H
theorem call_all' {X : Cx} (hc : X.calm = true) : CallR X (.builtin "all") (rAllB X.K) := call_all hc
def rListOf (K : PySem.W.Frag) : List V → Hp → VK → Prop := fun xs H Q => ∃ p ys, xs = [.ref p] ∧ (SqL K H p ys ∨ SqT K H p ys) ∧ ∀ l, H l = none → Q (.ref l) (upd H l (.lst ys))
theorem call_list' {X : Cx} : CallR X (.type "list") (rListOf X.K) := call_list_of
def rEqL (K : PySem.W.Frag) : R2 := fun x y H Q => ∃ (p q : Addr) (ns ms : List Int), x = .ref p ∧ y = .ref q ∧ SqL K H p (ns.map V.int) ∧ SqL K H q (ms.map V.int) ∧ Q (.bl (decide (ns = ms))) H
theorem op_eqL' {X : Cx} (hu : X.A.units < cLine) : OpR X (compareOp .Eq) (rEqL X.K) := op_eqL hu
def rNeL (K : PySem.W.Frag) : R2 := fun x y H Q => ∃ (p q : Addr) (ns ms : List Int), x = .ref p ∧ y = .ref q ∧ SqL K H p (ns.map V.int) ∧ SqL K H q (ms.map V.int) ∧ Q (.bl (!decide (ns = ms))) H
theorem op_neL' {X : Cx} (hu : X.A.units < cLine) : OpR X (compareOp .NotEq) (rNeL X.K) := op_neL hu
def rNeLL (K : PySem.W.Frag) : R2 := fun x y H Q => ∃ p q xs ys, x = .ref p ∧ y = .ref q ∧ SqL K H p xs ∧ SqL K H q ys ∧ SameInts K H xs ys ∧ Q (.bl false) H
theorem op_neLL' {X : Cx} (hu : X.A.units + 1 < cLine) : OpR X (compareOp .NotEq) (rNeLL X.K) := op_neLL hu
section
variable {K : PySem.W.Frag} {D : Ends} {σ : St} {H : Hp} {Q : VK} {QB : Bool → Hp → Prop} {QA : List V → Hp → Prop} {t u : TS} {c tA tB' : TT} {te ta tb tc : TE} {tx : TA} {g : TG} {r r' : R2}
theorem rd_if (h : c σ H fun b H1 => if b = true then t D σ H1 else u D σ H1) : tIfS c t u D σ H := h
theorem rd_name {i : Nat} {v : V} {R : St → Hp → Prop} (h : R (σ.set i (some v)) H) : gName i v σ H R := h
theorem rd_var {i : Nat} {v : V} (e : σ[i]? = some (some v)) (q : Q v H) : tVar i σ H Q := ⟨v, e, q⟩
theorem rd_c {v : V} (q : Q v H) : tC v σ H Q := q
theorem rd_op (h : ta σ H fun x H1 => tb σ H1 fun y H2 => r x y H2 Q) : tOp r ta tb σ H Q := h
theorem rd_un {rr : V → Hp → VK → Prop} (h : ta σ H fun x H1 => rr x H1 Q) : tUn rr ta σ H Q := h
theorem rd_test (h : te σ H fun x H' => ∃ k, x = .bl k ∧ QB k H') : tTest te σ H QB := h
theorem rd_tB (h : te σ H fun x H' => ∃ k, x = .bl k ∧ QB k H') : tB te σ H QB := h
theorem rd_bl {b : Bool} {R : Bool → Prop} (h : R b) : ∃ k, V.bl b = .bl k ∧ R k := ⟨b, rfl, h⟩
theorem rd_and (h : tA σ H fun c H1 => if c = true then tB' σ H1 QB else QB false H1) : tAnd tA tB' σ H QB := h
theorem rd_or (h : tA σ H fun c H1 => if c = true then QB true H1 else tB' σ H1 QB) : tOr tA tB' σ H QB := h
theorem rd_not (h : tA σ H fun c H1 => QB (!c) H1) : tNot tA σ H QB := h
theorem rd_andV (h : ta σ H fun x H1 => ∃ c, x = .bl c ∧ if c = true then tb σ H1 Q else Q (.bl false) H1) : tAndV ta tb σ H Q := h
theorem rd_notV (h : ta σ H fun x H1 => ∃ c, x = .bl c ∧ Q (.bl (!c)) H1) : tNotV ta σ H Q := h
theorem rd_cons (h : ta σ H fun x H1 => tx σ H1 fun xs H2 => QA (x :: xs) H2) : tCons ta tx σ H QA := h
theorem rd_nil (h : QA [] H) : tNil σ H QA := h
theorem rd_ints {js : List Int} (h : QA (js.map V.int) H) : tInts js σ H QA := h
theorem rd_cb {rr : List V → Hp → VK → Prop} (h : tx σ H fun vs H1 => rr vs H1 Q) : tCB rr tx σ H Q := h
theorem rd_cl {sp : Sp} (h : tx σ H fun vs H1 => sp vs H1 Q E0) : tCl sp tx σ H Q := h
theorem rd_lst (h : tx σ H fun xs H1 => xs.length ≤ sizeLine ∧ ∀ p, H1 p = none → Q (.ref p) (upd H1 p (.lst xs))) : tLst tx σ H Q := h
theorem rd_tup (h : tx σ H fun xs H1 => xs.length ≤ sizeLine ∧ ∀ p, H1 p = none → Q (.ref p) (upd H1 p (.tup xs))) : tTup tx σ H Q := h
theorem rd_I0 {f : Int → Int → V} {i j : Int} (h : Q (f i j) H) : rI0 f (.int i) (.int j) H Q := ⟨i, j, rfl, rfl, h⟩
theorem rd_I {C : Int → Int → Prop} {f : Int → Int → V} {i j : Int} (hc : C i j) (h : Q (f i j) H) : rI C f (.int i) (.int j) H Q := ⟨i, j, rfl, rfl, hc, h⟩
theorem rd_U {f : Int → V} {i : Int} (h : Q (f i) H) : rU f (.int i) H Q := ⟨i, rfl, h⟩
theorem rd_eqI {i j : Int} (h : Q (.bl (decide (i = j))) H) : rEq (.int i) (.int j) H Q := ⟨rfl, by
  have e : decide (V.int i = V.int j) = decide (i = j) := by rw [dec_int, Bool.beq_eq_decide_eq]
  rw [e]; exact h⟩
theorem rd_lenI {p : Addr} {ns : List Int} (e : SqL K H p (ns.map V.int)) (h : Q (.int ns.length) H) : rLen K [.ref p] H Q := ⟨p, _, rfl, .inl e, by rw [List.length_map]; exact h⟩
theorem rd_len {p : Addr} {xs : List V} (e : SqL K H p xs) (h : Q (.int xs.length) H) : rLen K [.ref p] H Q := ⟨p, _, rfl, .inl e, h⟩
theorem rd_isiInt {i : Int} {n : String} {b : Bool} (e : PySem.W.kitOne K (.type "int") (.type n) = some b) (h : Q (.bl b) H) : rIsi K [.int i, .ty n] H Q := ⟨_, n, _, b, rfl, .int i, e, h⟩
theorem rd_all {p : Addr} {bs : List Bool} (e : SqL K H p (bs.map V.bl)) (h : Q (.bl (bs.all id)) H) : rAllB K [.ref p] H Q := ⟨p, _, rfl, e, h⟩
theorem rd_listOf {p : Addr} {xs : List V} (e : SqL K H p xs) (h : ∀ l, H l = none → Q (.ref l) (upd H l (.lst xs))) : rListOf K [.ref p] H Q := ⟨p, _, rfl, .inl e, h⟩
theorem rd_ixL {p : Addr} {xs : List V} {i : Int} {v : V} (e : SqL K H p xs) (a : atI xs i = some v) (h : Q v H) : rIxL K (.ref p) (.int i) H Q := ⟨p, _, _, _, rfl, rfl, e, a, h⟩
theorem rd_ixT {p : Addr} {xs : List V} {i : Int} {v : V} (e : SqT K H p xs) (a : atI xs i = some v) (h : Q v H) : rIxT K (.ref p) (.int i) H Q := ⟨p, _, _, _, rfl, rfl, e, a, h⟩
theorem rd_eqL {p q : Addr} {ns ms : List Int} (e : SqL K H p (ns.map V.int)) (e' : SqL K H q (ms.map V.int)) (h : Q (.bl (decide (ns = ms))) H) : rEqL K (.ref p) (.ref q) H Q := ⟨p, q, ns, ms, rfl, rfl, e, e', h⟩
theorem rd_neL {p q : Addr} {ns ms : List Int} (e : SqL K H p (ns.map V.int)) (e' : SqL K H q (ms.map V.int)) (h : Q (.bl (!decide (ns = ms))) H) : rNeL K (.ref p) (.ref q) H Q := ⟨p, q, ns, ms, rfl, rfl, e, e', h⟩
theorem rd_append {l : Addr} {xs : List V} {y : V} (e : H l = some (.lst xs)) (hz : xs.length < sizeLine) (h : Q .non (upd H l (.lst (xs ++ [y])))) : rAppend (.ref l) [y] H Q := ⟨l, xs, y, rfl, rfl, e, hz, h⟩
theorem rd_two {x y : V} {R : V → V → Prop} (h : R x y) : ∃ v w, [x, y] = [v, w] ∧ R v w := ⟨x, y, rfl, h⟩
theorem rd_bm {T : String} {rr : V → List V → Hp → VK → Prop} {to : TE} (h : to σ H fun x H1 => tyV K T x H1 ∧ tx σ H1 fun xs H2 => rr x xs H2 Q) : tBM K T rr to tx σ H Q := h
theorem rd_sl {rs : V → Option Int → Option Int → Hp → VK → Prop} {tl th : TO} (h : te σ H fun x H1 => tl σ H1 fun l H2 => th σ H2 fun u H3 => rs x l u H3 Q) : tSl rs te tl th σ H Q := h
theorem rd_part {QO : Option Int → Hp → Prop} (h : te σ H fun x H1 => ∃ i, x = .int i ∧ QO (some i) H1) : tPart te σ H QO := h
theorem rd_nopart {QO : Option Int → Hp → Prop} (h : QO none H) : tNoPart σ H QO := h
theorem rd_int {i : Int} {R : Int → Prop} (h : R i) : ∃ j, V.int i = .int j ∧ R j := ⟨i, rfl, h⟩
theorem rd_slL {a : Addr} {xs : List V} {lo hi : Option Int} (e : SqL K H a xs) (h : ∀ p, H p = none → Q (.ref p) (upd H p (.lst (cutV xs lo hi)))) : rSlL K (.ref a) lo hi H Q := ⟨a, xs, rfl, e, h⟩
theorem rd_iList {R : It → Hp → Prop} (h : te σ H fun x H1 => ∃ a, x = .ref a ∧ (∃ xs, SqL K H1 a xs) ∧ R (Itl K a) H1) : iList K te σ H R := h
theorem rd_iRng1 {R : It → Hp → Prop} (h : tx σ H fun vs H1 => ∃ j : Int, vs = [.int j] ∧ -(2 ^ 62) ≤ j ∧ j < 2 ^ 62 ∧ R (Itr 0 j.toNat) H1) : iRng1 tx σ H R := h
theorem rd_iRng2 {R : It → Hp → Prop} (h : tx σ H fun vs H1 => ∃ i j : Int, vs = [.int i, .int j] ∧ (-(2 ^ 62) ≤ i ∧ i < 2 ^ 62 ∧ -(2 ^ 62) ≤ j ∧ j < 2 ^ 62) ∧ R (Itr i (j - i).toNat) H1) : iRng2 tx σ H R := h
theorem rd_comp {ρ : List Nat} {wi : TI} {tt : TT} (h : wi σ H fun J H1 => ∀ D, H1 D = none → tCompTurn J tt te (takes σ ρ) D (Q (.ref D)) H1) : tComp ρ wi tt te σ H Q := h
theorem in_ints (i : Int) : ∀ ns : List Int, inV (.int i) (ns.map V.int) = decide (i ∈ ns)
  | [] => rfl
  | n :: ns => by
    have ih := in_ints i ns
    unfold inV at ih ⊢
    rw [List.map_cons, List.any_cons, ih]
    simp only [eqV, List.mem_cons]
    by_cases h : n = i
    · subst h; simp
    · have h' : ¬ i = n := fun z => h z.symm
      simp [h, h']
theorem flat_ints (ns : List Int) : (ns.map V.int).all flatV = true := by
  rw [List.all_eq_true]
  intro x hx
  obtain ⟨i, _, rfl⟩ := List.mem_map.mp hx
  rfl
theorem rd_inI {p : Addr} {ns : List Int} {i : Int} (e : SqL K H p (ns.map V.int)) (h : Q (.bl (decide (i ∈ ns))) H) : rIn K false (.int i) (.ref p) H Q := ⟨p, _, rfl, .inl e, rfl, flat_ints ns, by rw [in_ints]; exact h⟩
def tJoin (t : TS) : TS := fun D σ H => ∃ J : St → Hp → Prop, t { D with nx := J } σ H ∧ ∀ σ' H', J σ' H' → D.nx σ' H'
theorem ps_join {X : Cx} {st : Stmt} (h : PS X st t) : PS X st (tJoin t) := by
  intro pins s σ H D I q
  obtain ⟨J, q1, q2⟩ := q
  refine thn (h pins s σ H { D with nx := J } I q1) fun f s1 z => ?_
  cases f with
  | next =>
    obtain ⟨σ', H', I', z⟩ := z
    exact ⟨σ', H', I', q2 _ _ z⟩
  | ret v => exact z
  | brk => exact z
  | cont => exact z
theorem tyL {a : Addr} {xs : List V} (e : SqL K H a xs) : tyV K "list" (.ref a) H := .inl ⟨rfl, _, e⟩
end
end L2
set_option Elab.async false
set_option maxHeartbeats 4000000
namespace L2
open PySem PySem.Spec PyProof.Rows
end L2
set_option Elab.async false
set_option maxHeartbeats 4000000
namespace L2
open PySem PySem.Spec PyProof.Rows
end L2
set_option Elab.async false
set_option maxHeartbeats 4000000
namespace L2
open PySem PySem.Spec PyProof.Rows
section
variable {X : Cx} {a b c d : Expr} {ta tb tc td : TE} {pos : Pos}
end
section
variable {K : PySem.W.Frag} {D : Ends} {σ : St} {H : Hp} {Q : VK} {ta tb tc td te t3 : TE} {r r' r'' : R2}
theorem iteNT {A B : Prop} (h : B) : if (!true) = true then A else B := h
theorem iteNF {A B : Prop} (h : A) : if (!false) = true then A else B := h
theorem rd_isiTup {a : Addr} {xs : List V} {n : String} {b : Bool} (hl : H a = some (.tup xs)) (e : PySem.W.kitOne K (.type "tuple") (.type n) = some b) (h : Q (.bl b) H) : rIsi K [.ref a, .ty n] H Q := ⟨_, n, _, b, rfl, .tup hl, e, h⟩
end
end L2
set_option Elab.async false
set_option maxHeartbeats 4000000
set_option maxRecDepth 100000
namespace L2
open PySem PySem.Spec PyProof.Rows
def Alone (h : Heap) (e : Addr) : Prop := ∃ o vs, h.get? e = some o ∧ o.data = .fields vs ∧ vs[2]? = some .none
section
variable {M : Model} {A : Around} {E : Value → Shared → Prop} {s : Shared} {base : Heap} {env : Env} {outer l : List Env} {L e : Addr} {cls a0 fl : Value} {Q : Unit → Shared → Prop}
def Rec (h base : Heap) (e : Addr) (cls a0 fl : Value) : Prop := h.TracedAtW base e cls a0 fl ∧ Alone h e
theorem Rec.mk2 {h : Heap} {o oT : Obj} {vs ts : Array Value} {T : Addr} (h1 : h.get? e = some o) (h2 : o.cls = cls) (h3 : o.data = .fields vs) (h4 : vs[0]? = some a0) (h5 : vs[1]? = some (.ref T)) (h6 : vs[2]? = some .none)
    (h7 : base.get? T = none) (h8 : T ≠ e) (h9 : h.get? T = some oT) (h10 : oT.data = .fields ts) (h11 : ts[3]? = some fl) : Rec h base e cls a0 fl :=
  ⟨⟨o, vs, T, oT, ts, h1, ⟨h2, h4⟩, h3, h5, h7, h8, h9, h10, h11⟩, o, vs, h1, h3, h6⟩
theorem Rec.un {h : Heap} (r : Rec h base e cls a0 fl) : ∃ o oT vs ts T, h.get? e = some o ∧ o.cls = cls ∧ o.data = .fields vs ∧ vs[0]? = some a0 ∧ vs[1]? = some (.ref T) ∧ vs[2]? = some .none ∧ base.get? T = none ∧ T ≠ e ∧ h.get? T = some oT ∧ oT.data = .fields ts ∧ ts[3]? = some fl := by
  obtain ⟨⟨o, vs, T, oT, ts, h1, ⟨h2, h4⟩, h3, h5, h7, h8, h9, h10, h11⟩, o', vs', g1, g3, g6⟩ := r
  rw [h1] at g1
  cases g1
  rw [h3] at g3
  cases g3
  exact ⟨o, oT, vs, ts, T, h1, h2, h3, h4, h5, g6, h7, h8, h9, h10, h11⟩
def Rest (base : Heap) (l : List Env) (h h' : Heap) : Prop := base.StaysIn h' ∧ h'.FunFrames base l ∧ h.UpToSlots h'
theorem not_rec {h : Heap} {b c : Addr} {o oc : Obj} {vs : Array Value} (hc : h.get? c = some oc) (hd : oc.data = .fields vs) (hb : h.get? b = some o) (hn : ∀ ws, o.data ≠ .fields ws) : b ≠ c := fun z => by
  rw [z, hc] at hb
  cases hb
  exact hn vs hd
theorem entryC {oe : Obj} {vs : Array Value} {head : Value} {had : Bool} (fr : A.frames = some (env :: outer)) (ff : s.heap.FunFrames base (env :: outer)) (ef : env.frame = some L) (ge : s.heap.get? e = some oe) (st : base.StaysIn s.heap) (en : base.get? e = none)
    (de : oe.data = .fields vs) (v0 : vs[0]? = some a0) (v1 : 1 < vs.size) (v2 : vs[2]? = some .none)
    (k : ∀ h', Rest base (env :: outer) s.heap h' → Rec h' base e oe.cls a0 (rawInt L) → Q () { s with heap := h' }) :
    wpAny M A (do let f ← frameOf env; let pl ← entryPlaceOf L had; let b ← EntryCells.newEntry head f .none (rawInt L) .none pl; setField (.ref e) 1 b) Q E s := by
  have ne : e ∉ (env :: outer).filterMap (·.frame) := fun z => by
    obtain ⟨_, o, go, no⟩ := ff.mem z
    exact not_rec ge de go no rfl
  refine wpAny_bind (wpAny_frameOf_fun fr ff ef fun g1 so => ?_)
  refine wpAny_bind (wpAny_entryPlaceOf fun pl ip => ?_)
  unfold EntryCells.newEntry newFields
  refine wpAny_bind (wpAny_newObj_type ?_ (ip.sizeOk5 _ _ _ _ _))
  generalize hob : ({ cls := .type "traceback", dict := none, data := .fields ([head, .ref L, .none, rawInt L, .none] ++ (if pl.isEmpty then List.replicate 6 Value.none else pl)).toArray } : Obj) = ob
  have e1 : g1.get? e = some oe := (so.2.1 e ne).trans ge
  have st1 : base.StaysIn g1 := fun b o q => (so.2.1 b fun z => by rw [(ff.mem z).1] at q; cases q).trans (st b o q)
  have e2 := Heap.get?_push_of_some (h := g1) ob e1
  have te : g1.objs.size ≠ e := Nat.ne_of_gt (Heap.lt_size e1)
  have d3 := Obj.data_mapFields de (·.setIfInBounds 1 (Value.ref g1.objs.size))
  have e3 := Heap.get?_update_self (Obj.mapFields (·.setIfInBounds 1 (Value.ref g1.objs.size))) e2 (Obj.isFreed_of_fields d3)
  have fresh : (g1.push ob).get? g1.objs.size = some ob := Heap.get?_push_size g1 (by rw [← hob]; rfl)
  have t3 := (Heap.get?_update_other (g1.push ob) (Obj.mapFields (·.setIfInBounds 1 (Value.ref g1.objs.size))) te.symm).trans fresh
  have kp : ∀ b o, b ≠ e → g1.get? b = some o → ((g1.push ob).update e (Obj.mapFields (·.setIfInBounds 1 (Value.ref g1.objs.size)))).get? b = some o := fun b o nb q => by
    rw [Heap.get?_update_other _ _ nb.symm]
    exact Heap.get?_push_of_some ob q
  refine wpAny_setField e2 de v1 (k _ ⟨fun b o q => kp b o (fun z => by rw [z, en] at q; cases q) (st1 b o q), ff.of_keeps fun b o q no => ?_, fun b o q no => ?_⟩ ?_)
  · obtain ⟨sl, z⟩ := so.2.2 b o q
    exact ⟨_, kp b _ (not_rec ge de q no) z, rfl⟩
  · obtain ⟨sl, z⟩ := so.2.2 b o q
    exact ⟨sl, kp b _ (not_rec ge de q no) z⟩
  · refine Rec.mk2 (T := g1.objs.size) e3 (Obj.cls_mapFields _ _) d3 ?_ (by simp [v1]) ?_ st1.fresh te t3 (by rw [← hob]) ?_
    · rw [Array.getElem?_setIfInBounds_ne (by decide)]
      exact v0
    · rw [Array.getElem?_setIfInBounds_ne (by decide)]
      exact v2
    · first | (simp; done) | (rcases ip with rfl | ⟨_, _, _, _, _, _, _, rfl⟩ <;> simp)
theorem flightC (st : base.StaysIn s.heap) (ff : s.heap.FunFrames base l) (r : Rec s.heap base e cls a0 fl) (k : ∀ h', Rest base l s.heap h' → Rec h' base e cls a0 .none → Q () { s with heap := h' }) : wpAny M A (setFlight (.ref e) none) Q E s := by
  obtain ⟨o, oT, vs, ts, T, g1, g2, g3, g4, g5, g6, g7, g8, g9, g10, g11⟩ := r.un
  have big : 3 < ts.size := (Array.getElem?_eq_some_iff.mp g11).1
  have oth : ∀ b, b ≠ T → (s.heap.update T (Obj.mapFields (·.setIfInBounds 3 ((none : Option Addr).elim Value.none fun f => rawInt f)))).get? b = s.heap.get? b := fun b nb => Heap.get?_update_other _ _ nb.symm
  unfold setFlight
  refine wpAny_bind (wpAny_field g1 g3 g5 ?_)
  rw [if_pos (by simp : (Value.ref T != Value.none) = true)]
  refine wpAny_setField g9 g10 big (k _ ⟨fun b u q => (oth b fun z => by rw [z, g7] at q; cases q).trans (st b u q), ff.of_keeps fun b u q no => ⟨u, (oth b (not_rec g9 g10 q no)).trans q, rfl⟩, fun b u q no => ⟨u.slots, (oth b (not_rec g9 g10 q no)).trans q⟩⟩ ?_)
  exact Rec.mk2 ((oth e g8.symm).trans g1) g2 g3 g4 g5 g6 g7 g8 (Heap.get?_update_self _ g9 (Obj.isFreed_of_fields (Obj.data_mapFields g10 _))) (Obj.data_mapFields g10 _) (by simp [big])
theorem noteC (fr : A.frames = some (env :: outer)) (ef : env.frame = some L) (st : base.StaysIn s.heap) (en : base.get? e = none) (ff : s.heap.FunFrames base (env :: outer)) (r : Rec s.heap base e cls a0 .none)
    (k : ∀ h', Rest base (env :: outer) s.heap h' → Rec h' base e cls a0 (rawInt L) → Q () { s with heap := h' }) : wpAny M A (noteFrame (.ref e) env) Q E s := by
  obtain ⟨o, oT, vs, ts, T, g1, g2, g3, g4, g5, g6, g7, g8, g9, g10, g11⟩ := r.un
  subst g2
  unfold noteFrame
  simp only [ef]
  refine wpAny_bind (wpAny_field g1 g3 g5 ?_)
  rw [if_pos (by simp : (Value.ref T != Value.none) = true)]
  refine wpAny_bind (wpAny_field g9 g10 g11 ?_)
  rw [if_neg (by simp [rawInt] : ¬ (Value.none == rawInt L) = true)]
  refine wpAny_bind (wpAny_setField g9 g10 (Array.getElem?_eq_some_iff.mp g11).1 ?_)
  have oth : ∀ b, b ≠ T → (s.heap.update T (Obj.mapFields (·.setIfInBounds 3 Value.none))).get? b = s.heap.get? b := fun b nb => Heap.get?_update_other _ _ nb.symm
  have up : s.heap.UpToSlots (s.heap.update T (Obj.mapFields (·.setIfInBounds 3 Value.none))) := fun b u q no => ⟨u.slots, (oth b (not_rec g9 g10 q no)).trans q⟩
  refine entryC fr (ff.of_keeps fun b u q no => ⟨u, (oth b (not_rec g9 g10 q no)).trans q, rfl⟩) ef ((oth e g8.symm).trans g1) (fun b u q => (oth b fun z => by rw [z, g7] at q; cases q).trans (st b u q)) en g3 g4 (Array.getElem?_eq_some_iff.mp g5).1 g6 fun h' ⟨y1, y2, y3⟩ rr => k h' ⟨y1, y2, up.trans y3⟩ rr
def FlyC (base : Heap) (l : List Env) (e : Addr) (cls a0 : Value) (h : Heap) : Prop := Heap.FlyingW base l e cls a0 h ∧ Alone h e
theorem FlyC.rec {h : Heap} (f : FlyC base l e cls a0 h) : Rec h base e cls a0 .none := ⟨f.1.2.2.2, f.2⟩
theorem leavesC_on (fr : A.frames = some (env :: outer)) (ef : env.frame = some L) (f : FlyC base (env :: outer) e cls a0 s.heap) (k : ∀ h', FlyC base outer e cls a0 h' → s.heap.UpToSlots h' → Q () { s with heap := h' }) : wpAny M A (leaving env (.ref e)) Q E s := by
  unfold leaving
  refine wpAny_bind (noteC fr ef f.1.1 f.1.2.1 f.1.2.2.1 f.rec fun g ⟨y1, y2, y3⟩ rr => ?_)
  refine flightC (s := { s with heap := g }) y1 y2 rr fun g' ⟨z1, ⟨_, _, z2⟩, z3⟩ r2 => k g' ⟨⟨z1, f.1.2.1, z2, r2.1⟩, r2.2⟩ (y3.trans z3)
theorem looksC (fr : A.frames = some (env :: outer)) (ef : env.frame = some L) (f : FlyC base (env :: outer) e cls a0 s.heap) (k : ∀ h', (base.StaysIn h' ∧ base.get? e = none ∧ h'.FunFrames base (env :: outer) ∧ Rec h' base e cls a0 (rawInt L)) → s.heap.UpToSlots h' → Q () { s with heap := h' }) :
    wpAny M A (noteFrame (.ref e) env) Q E s :=
  noteC fr ef f.1.1 f.1.2.1 f.1.2.2.1 f.rec fun h' ⟨y1, y2, y3⟩ rr => k h' ⟨y1, f.1.2.1, y2, rr⟩ y3
theorem landsC (f : base.StaysIn s.heap ∧ base.get? e = none ∧ s.heap.FunFrames base l ∧ Rec s.heap base e cls a0 fl) (k : ∀ h', FlyC base l e cls a0 h' → s.heap.UpToSlots h' → Q () { s with heap := h' }) : wpAny M A (setFlight (.ref e) none) Q E s :=
  flightC f.1 f.2.2.1 f.2.2.2 fun h' ⟨y1, y2, y3⟩ rr => k h' ⟨⟨y1, f.2.1, y2, rr.1⟩, rr.2⟩ y3
theorem leavesC_made {h : Heap} {args : List Value} (fr : A.frames = some (env :: outer)) (ef : env.frame = some L) (st : base.StaysIn h) (ff : h.FunFrames base (env :: outer)) (hx : Heap.MadeExcOf h s.heap e cls args)
    (k : ∀ h' t, FlyC base outer e cls (.ref t) h' → s.heap.UpToSlots h' → Q () { s with heap := h' }) : wpAny M A (leaving env (.ref e)) Q E s := by
  obtain ⟨t, ge, _, _⟩ := hx.there
  have en : base.get? e = none := by
    cases q : base.get? e with
    | none => rfl
    | some o => have := st e o q; rw [hx.new] at this; cases this
  unfold leaving noteFrame
  simp only [ef]
  refine wpAny_bind (wpAny_bind (wpAny_field ge rfl (x := .none) rfl ?_))
  rw [if_neg (by decide)]
  refine entryC (a0 := .ref t) fr (ff.of_keeps fun b o q _ => ⟨o, hx.keeps b o q, rfl⟩) ef ge (fun b o q => hx.keeps b o (st b o q)) en rfl rfl (by simp) rfl fun g ⟨y1, y2, y3⟩ rr => ?_
  exact flightC (s := { s with heap := g }) y1 y2 rr fun g' ⟨z1, ⟨_, _, z2⟩, z3⟩ r2 => k g' t ⟨⟨z1, en, z2, r2.1⟩, r2.2⟩ (y3.trans z3)
end
end L2
set_option Elab.async false
set_option maxHeartbeats 4000000
namespace L2
open PySem PySem.Spec PyProof.Rows
theorem ObjOk.there {P : Program} {w : World} {H : Hp} {h : Heap} {a : Addr} {o : HO} (x : ObjOk P w H h a o) : ∃ ob, h.get? a = some ob := by
  induction o with
  | lst xs => obtain ⟨z, its, n, r, e⟩ := x; exact ⟨_, e⟩
  | tup xs => obtain ⟨z, its, r, ob, e, c⟩ := x; exact ⟨_, e⟩
  | dK kvs => obtain ⟨z, y, vs, r, ob, es, ep, e, c⟩ := x; exact ⟨_, e⟩
  | dT kvs => obtain ⟨z, y, xs, r, ob, es, ep, e, c⟩ := x; exact ⟨_, e⟩
  | set S n => obtain ⟨ob, es, ep, t, e, c⟩ := x; exact ⟨_, e⟩
  | ins C dx fs => obtain ⟨d, z, ne, e, _⟩ := x; exact ⟨_, e⟩
  | own y => exact x
  | xd fs => obtain ⟨mA, ⟨od, es, ep, e, c⟩, r⟩ := x; exact ⟨_, e⟩
  | rng lo hi => obtain ⟨t, u, v, e⟩ := x; exact ⟨_, e⟩
  | frz ob u ih => exact ⟨_, x.1⟩
  | tbl ps => exact ⟨_, show h.get? a = some { cls := .none, data := .fields ps } from x⟩
  | met f y => exact ⟨_, show h.get? a = some (PySem.W.methodObj (.ref f) (.ref y)) from x⟩
  | ext φ => exact x.2.1
structure RaisedAt (P : Program) (w : World) (outer : List Env) (H : Hp) (s : Shared) (x C t : Addr) (B h0 : Heap) (H' : Hp) (F : List Addr) (s' : Shared) : Prop where
  os : s'.os = s.os
  bare : AllBare s'.gens
  fly : FlyC B outer x (.ref C) (.ref t) s'.heap
  inB : ∀ b o, h0.get? b = some o → b ∉ F → B.get? b = some o
  hF : ∀ b ∈ F, b ∈ frs outer ∨ s.heap.objs.size ≤ b
  fH : ∀ b ∈ F, H' b = none
  up : h0.UpToSlots s'.heap
  fr0 : ∀ b ∈ frs outer, ∃ o, h0.get? b = some o ∧ ∀ vs, o.data ≠ .fields vs
  un : Un (frs outer) [] H H' s.heap h0
  hok : HOk P w H' h0
  new : h0.get? x = none
  newH : H' x = none
section
variable {P : Program} {w : World} {outer : List Env} {H H' : Hp} {s s' : Shared} {x C t : Addr} {B h0 : Heap} {F : List Addr}
theorem RaisedAt.stay (R : RaisedAt P w outer H s x C t B h0 H' F s') {b : Addr} {o : Obj} (e : h0.get? b = some o) (hb : b ∉ F) : s'.heap.get? b = some o := R.fly.1.1 b o (R.inB b o e hb)
theorem RaisedAt.slot (R : RaisedAt P w outer H s x C t B h0 H' F s') {b : Addr} {o : Obj} (e : h0.get? b = some o) (hb : b ∈ frs outer) : ∃ sl, s'.heap.get? b = some { o with slots := sl } := by
  obtain ⟨o', e', nf⟩ := R.fr0 b hb
  rw [e] at e'; cases e'
  exact R.up b o e nf
theorem RaisedAt.unTo (R : RaisedAt P w outer H s x C t B h0 H' F s') : Un (frs outer) [] H H' s.heap s'.heap where
  keep := fun b o q n hb hx => R.stay (R.un.keep b o q n hb hx) fun hf => by
    rcases R.hF b hf with z | z
    · exact hb z
    · exact absurd (Heap.lt_size q) (Nat.not_lt.mpr z)
  slot := fun b o q n hb hx => by
    obtain ⟨sl, e⟩ := R.un.slot b o q n hb hx
    obtain ⟨sl', e'⟩ := R.slot e hb
    exact ⟨sl', e'⟩
  free := R.un.free
  there := fun b o q hx => by
    obtain ⟨o', e⟩ := R.un.there b o q hx
    by_cases hb : b ∈ frs outer
    · obtain ⟨sl, e'⟩ := R.slot e hb
      exact ⟨_, e'⟩
    · refine ⟨o', R.stay e fun hf => ?_⟩
      rcases R.hF b hf with z | z
      · exact hb z
      · exact absurd (Heap.lt_size q) (Nat.not_lt.mpr z)
  tups := R.un.tups
  frzs := R.un.frzs
  tbls := R.un.tbls
theorem RaisedAt.hokTo (R : RaisedAt P w outer H s x C t B h0 H' F s') : HOk P w H' s'.heap := fun a o e =>
  (R.hok a o e).stay (fun b u hb q => R.stay q fun hf => by
    rcases hb with rfl | hb
    · have := R.fH _ hf; rw [e] at this; cases this
    · have := R.fH b hf; rw [hb] at this; cases this) (fun _ q => q) (fun _ _ q => q)
theorem RaisedAt.on {h' : Heap} (R : RaisedAt P w outer H s x C t B h0 H' F s') (fl : FlyC B outer x (.ref C) (.ref t) h') (u : s'.heap.UpToSlots h') : RaisedAt P w outer H s x C t B h0 H' F { s' with heap := h' } :=
  { R with fly := fl, up := R.up.trans u }
end
def CXE (P : Program) (w : World) : CXT := fun outer H s E e s' => ∃ x C t B h0 H' F, e = .ref x ∧ RaisedAt P w outer H s x C t B h0 H' F s' ∧ E (.ref C) none H'
section
variable {X : Cx} {pins : List (Addr × Obj)} {σ : St} {H H' : Hp} {s s' : Shared} {x C t : Addr} {B h0 : Heap} {F : List Addr}
theorem Inv.raised (I : Inv X pins σ H s) (R : RaisedAt X.prog X.w X.stack H s x C t B h0 H' F s') : Inv X pins σ H' s' :=
  I.call' R.os R.unTo R.hokTo R.bare (ch := []) (fun b z => absurd z (by simp))
theorem Inv.raised0 (I : Inv X pins σ H s) (R : RaisedAt X.prog X.w X.stack H s x C t B h0 H' F s') : Inv X pins σ H' { s' with heap := h0 } :=
  I.call' (s' := { s' with heap := h0 }) R.os R.un R.hok R.bare (ch := []) (fun b z => absurd z (by simp))
end
theorem frs_cons {env : Env} {outer : List Env} {L : Addr} (h : env.frame = some L) : frs (env :: outer) = L :: frs outer := by
  show List.filterMap _ (env :: outer) = _
  rw [List.filterMap_cons, h]; rfl
section
variable {P : Program} {w : World} {K : PySem.W.Frag} {mg : Str → Option Value} {base : Heap} {N : List Str} {qual : Str} {scope : Scope} {f : Addr} {cd : Value} {A : Around} {outer : List Env} {s₀ : Shared} {H₀ : Hp} {E : XK}
theorem passE : Passes (CXE P w) (cxOf (CXE P w) P w K mg base N qual scope f cd A outer s₀ H₀ E) E := by
  intro pins σ H s e s' I h
  obtain ⟨x, C, t, B, h0, H', F, rfl, R, hE⟩ := h
  have hs : (envOfC qual scope s₀.heap.objs.size f cd).frame = some s₀.heap.objs.size := rfl
  have I0 := I.raised0 R
  show wpAny _ _ (leaving _ (.ref x)) _ _ s'
  refine leavesC_on I.ok.frames hs R.fly fun h' fl u => ?_
  refine ⟨x, C, t, B, h0, H', F, rfl, ?_, hE⟩
  refine ⟨R.os.trans I.os, R.bare, fl, R.inB, fun b hb => ?_, R.fH, R.up.trans u, fun b hb => R.fr0 b ?_, I0.base, R.hok, R.new, R.newH⟩
  · rcases R.hF b hb with z | z
    · have z' : b ∈ s₀.heap.objs.size :: frs outer := by rw [← frs_cons hs]; exact z
      rcases List.mem_cons.mp z' with r | r
      · exact .inr (Nat.le_of_eq r.symm)
      · exact .inl r
    · exact .inr (Nat.le_trans I.sz z)
  · show b ∈ frs (_ :: outer)
    rw [frs_cons hs]; exact List.mem_cons_of_mem _ hb
def RaisesTo (X : Cx) (E : XK) : Prop := ∀ (pins : List (Addr × Obj)) (σ : St) (H : Hp) (s : Shared) (x C : Addr) (args : List Value) (h' : Heap), Inv X pins σ H s → Heap.MadeExcOf s.heap h' x (.ref C) args → E (.ref C) none H → X.xe (.ref x) { s with heap := h' }
theorem raisesE : RaisesTo (cxOf (CXE P w) P w K mg base N qual scope f cd A outer s₀ H₀ E) E := by
  intro pins σ H s x C args h' I hx hE
  have hs : (envOfC qual scope s₀.heap.objs.size f cd).frame = some s₀.heap.objs.size := rfl
  show wpAny _ _ (leaving _ (.ref x)) _ _ { s with heap := h' }
  have st := I.stack
  have hfr : ∀ env ∈ (envOfC qual scope s₀.heap.objs.size f cd :: outer), ∀ b, env.frame = some b → b ∈ frs (envOfC qual scope s₀.heap.objs.size f cd :: outer) := fun env he b hb => List.mem_filterMap.mpr ⟨env, he, hb⟩
  refine leavesC_made (h := s.heap) (base := PySem.W.hideAll s.heap (frs (envOfC qual scope s₀.heap.objs.size f cd :: outer))) I.ok.frames hs (fun b o q => PySem.W.of_hideAll _ q) (PySem.W.funFrames_hide st hfr) hx fun h2 t fl u => ?_
  refine ⟨x, C, t, PySem.W.hideAll s.heap (frs (envOfC qual scope s₀.heap.objs.size f cd :: outer)), s.heap, H, frs (envOfC qual scope s₀.heap.objs.size f cd :: outer), rfl, ?_, hE⟩
  refine ⟨I.os, I.bare, fl, fun b o q hb => PySem.W.hideAll_get _ q hb, fun b hb => ?_, fun b hb => I.stkFree b hb, (Heap.UpToSlots.of_keeps hx.keeps).trans u, fun b hb => ?_, I.base, I.hok, hx.new, ?_⟩
  · rw [frs_cons hs] at hb
    rcases List.mem_cons.mp hb with r | r
    · exact .inr (Nat.le_of_eq r.symm)
    · exact .inl r
  · exact (st.mem (show b ∈ (envOfC qual scope s₀.heap.objs.size f cd :: outer).filterMap (·.frame) by
      have : b ∈ frs (envOfC qual scope s₀.heap.objs.size f cd :: outer) := by rw [frs_cons hs]; exact List.mem_cons_of_mem _ hb
      exact this)).2
  · cases q : H x with
    | none => rfl
    | some o =>
      have lt := I.hok.lt q
      obtain ⟨oo, eo⟩ : ∃ oo, s.heap.get? x = some oo := (I.hok x o q).there
      rw [hx.new] at eo; cases eo
end
end L2
namespace L2
open PySem PySem.Spec PyProof.Rows
def ExcCls (K : PySem.W.Frag) (C : Addr) : Prop := PySem.W.excIn K C [.type "ValueError", .type "Exception", .type "BaseException", .type "object"] "ValueError.__new__" = true
theorem ExcCls.obj {K : PySem.W.Frag} {C : Addr} {h₀ : Heap} (q : ExcCls K C) (X : K.In h₀) : ∃ bm N nm qn bs hdct sn sub ab col dd k0 k1 k2 k3 k5 mN, h₀.get? C = some (excClassObj nm qn C N bs bm hdct sn sub ab col dd k0 k1 k2 k3 k5 "ValueError.__new__") ∧ h₀.Ns N mN ∧ mN "__init__" = none ∧
    OwnTail h₀ [.type "ValueError", .type "Exception", .type "BaseException", .type "object"] bm := by
  unfold ExcCls PySem.W.excIn at q
  split at q
  · rename_i dd cd sl ho
    split at q
    · rename_i C' bm k0 k1 k2 k3 n k5 hm hs
      simp only [Bool.and_eq_true, beq_iff_eq, Bool.not_eq_true'] at q
      obtain ⟨⟨⟨⟨⟨rfl, rfl⟩, hdel⟩, ht⟩, hok⟩, hni⟩ := q
      obtain ⟨nm, bs, mro, ns, qn, hd, sn, sub, ab, col, del⟩ := cd
      dsimp only at hm hdel hok hni
      subst hm hdel
      have hsl : sl = #[k0, k1, k2, k3, some (.builtin "ValueError.__new__"), k5] := by
        obtain ⟨l⟩ := sl
        simp only at hs
        rw [hs]
      subst hsl
      exact ⟨bm, ns, nm, qn, bs, hd, sn, sub, ab, col, dd, k0, k1, k2, k3, k5, _, X _ _ ho, .of_isNs (PySem.W.isNs_of_in X hok), PySem.W.nsMap_none_of_in X hok hni, PySem.W.tail_of_in X ht⟩
    · cases q
  · cases q
section
variable {X : Cx} {E : XK} {x : Str} {C : Addr} {np cpos pos : Pos} {e : Expr} {es : List Expr} {t : TA}
def tRaise (C : Addr) (E : XK) (t : TA) : TS := fun _ σ H => t σ H fun vs H1 => vs.length ≤ sizeLine ∧ E (.ref C) none H1
theorem ps_raise (hr : RaisesTo X E) (hc : X.calm = true) (hg : Gl X x) (hm : X.mg x = some (.ref C)) (q : ExcCls X.K C) (ha : PA X (e :: es) t) (hdb : (x == ("__debug__" : Str)) = false := by decide)
    (he : starEach (e :: es) X.env = (false, eval e X.env) :: starEach es X.env := by rfl) (hpl : (backTo cpos (starEach (e :: es) X.env)).any (·.1) = false := by rfl) : PS X (.Raise (some (.Call (.Name x np) (e :: es) [] cpos)) none pos) (tRaise C E t) := by
  intro pins s σ H D I h
  obtain ⟨bm, N, nm, qn, bs, hdct, sn, sub, ab, col, dd, k0, k1, k2, k3, k5, mN, hC, hN, hni, T⟩ := q.obj I.mod.kin
  refine wpAny_Raise_call_subT (C := C) (nm := nm) (q := qn) (N := N) (bs := bs) (bm := bm) (hdct := hdct) (sn := sn) (sub := sub) (ab := ab) (col := col) (dd := dd) (k0 := k0) (k1 := k1) (k2 := k2) (k3 := k3) (k5 := k5) (mN := mN) PySem.F.excBase_ValueError (T.hasType (by decide)) (I.ok.hd hc) hpl hni (ld_glob I hg hm ⟨rfl, ?_⟩ hdb)
  have ha' := ha cpos pins s σ H _ I h
  rw [he] at ha' ⊢
  show wpAny _ _ (evalArgs _ true ((false, eval e X.env) :: backTo cpos (starEach es X.env)) []) _ _ _
  refine Calls.evalArgs_plain (thn ha' fun us s1 q => ?_)
  obtain ⟨vs, H1, I1, r, hz, hE⟩ := q
  refine ⟨rfl, by show us.length ≤ _; rw [← r.length]; exact hz, I1.bk _ _ hC, hN.keeps I1.bk, T.keeps I1.bk, fun h' y hy => ?_⟩
  exact hr pins σ H1 s1 y C us h' I1 hy hE
end
end L2
set_option Elab.async false
set_option maxHeartbeats 4000000
set_option maxRecDepth 100000
namespace L2
open PySem PySem.Spec PyProof.Rows
section
variable {M : Model} {A : Around} {E : Value → Shared → Prop} {h : Heap} {g : Array GenState} {d : Drawn} {t : Nat} {os : OsState}
theorem excMatches_own {K : PySem.W.Frag} {x C D : Addr} {oe : Obj} {b : Bool} {Q : Bool → Shared → Prop} (X : K.In h) (he : h.get? x = some oe) (hcls : oe.cls = .ref C) (qD : ExcCls K D) (hb : PySem.W.subIn K (.ref C) (.ref D) = some b)
    (hq : Q b ⟨h, g, d, t, os⟩) : wpAny M A (excMatches (.ref x) (.ref D)) Q E ⟨h, g, d, t, os⟩ := by
  obtain ⟨bm, N, nm, qn, bs, hdct, sn, sub, ab, col, dd, k0, k1, k2, k3, k5, mN, hD, hN, hni, T⟩ := qD.obj X
  have hcB : (Value.ref D :: bm).contains (.type "BaseException") = true := by rw [List.contains_cons, T.hasType (X := "BaseException") (b := true) (by decide), Bool.or_true]
  have L := PySem.W.looks_subIn (M := M) X hb
  have f := tc_notTuple
  unfold excMatches
  cases b with
  | true =>
    repeat (first | (with_reducible refine wpAny_loadPart_at he ?_; rw [hcls]) | with_reducible refine wpAny_loadPart_at hD ?_ | (with_reducible refine wpAny_isSubtype_exc hD ?_; rw [hcB]) | with_reducible refine L.at ?_ | wp_step)
    exact hq
  | false =>
    repeat (first | (with_reducible refine wpAny_loadPart_at he ?_; rw [hcls]) | with_reducible refine wpAny_loadPart_at hD ?_ | (with_reducible refine wpAny_isSubtype_exc hD ?_; rw [hcB]) | with_reducible refine L.at ?_ | wp_step)
    exact hq
end
end L2
set_option Elab.async false
set_option maxHeartbeats 4000000
set_option maxRecDepth 100000
namespace L2
open PySem PySem.Spec PyProof.Rows
def ExcAt (x C : Addr) (h : Heap) : Prop := ∃ o vs, h.get? x = some o ∧ o.cls = .ref C ∧ o.data = .fields vs ∧ vs[2]? = some .none
def excO (x C : Addr) : HO := .ext (ExcAt x C)
theorem excO_ok {P : Program} {w : World} {H : Hp} {h : Heap} {x C : Addr} (e : ExcAt x C h) : ObjOk P w H h x (excO x C) := by
  obtain ⟨o, vs, e1, e2, e3⟩ := id e
  refine ⟨e, ⟨o, e1⟩, fun h1 h2 p k => ?_⟩
  obtain ⟨o', vs', q1, q2, q3⟩ := p
  exact ⟨o', vs', k _ q1, q2, q3⟩
section
variable {P : Program} {w : World} {outer : List Env} {H H' : Hp} {s s' : Shared} {x C t : Addr} {B h0 : Heap} {F : List Addr}
theorem RaisedAt.newS (R : RaisedAt P w outer H s x C t B h0 H' F s') : s.heap.get? x = none := by
  cases q : s.heap.get? x with
  | none => rfl
  | some o =>
    obtain ⟨o', e⟩ := R.un.there x o q (by simp)
    rw [R.new] at e; cases e
theorem RaisedAt.there (R : RaisedAt P w outer H s x C t B h0 H' F s') : ExcAt x C s'.heap := by
  obtain ⟨oe, oT, vs, ts, T, g1, g2, g3, g4, g5, g6, _⟩ := R.fly.rec.un
  exact ⟨oe, vs, g1, g2, g3, g6⟩
theorem RaisedAt.unTrack (R : RaisedAt P w outer H s x C t B h0 H' F s') : Un (frs outer) [] H (upd H' x (excO x C)) s.heap s'.heap where
  keep := R.unTo.keep
  slot := R.unTo.slot
  free := fun b o q n hx => by
    have : b ≠ x := fun z => by rw [z, R.newS] at q; cases q
    rw [upd_ne this]; exact R.unTo.free b o q n hx
  there := R.unTo.there
  tups := fun b xs q => by have := R.unTo.tups b xs q; rw [upd_ne (ne_of_none this R.newH)]; exact this
  frzs := fun b o u q => by have := R.unTo.frzs b o u q; rw [upd_ne (ne_of_none this R.newH)]; exact this
  tbls := fun b ps q => by
    obtain ⟨more, e⟩ := R.unTo.tbls b ps q
    exact ⟨more, by rw [upd_ne (ne_of_none e R.newH)]; exact e⟩
theorem RaisedAt.hokTrack (R : RaisedAt P w outer H s x C t B h0 H' F s') : HOk P w (upd H' x (excO x C)) s'.heap := fun a o e => by
  by_cases ha : a = x
  · subst ha
    rw [upd_same] at e; cases e
    exact excO_ok R.there
  · rw [upd_ne ha] at e
    exact (R.hokTo a o e).stay (fun _ _ _ q => q) (fun b q => by rw [upd_ne (ne_of_none q R.newH)]; exact q) (fun b xs q => by rw [upd_ne (ne_of_none q R.newH)]; exact q)
end
def Cx.re (X : Cx) (pn : List (Addr × Obj)) (A : Around) (calm : Bool) (xe : Value → Shared → Prop) : Cx := { X with pn := pn, A := A, calm := calm, xe := xe }
theorem Inv.re {X : Cx} {pins pins' : List (Addr × Obj)} {σ : St} {H : Hp} {s : Shared} {pn : List (Addr × Obj)} {A : Around} {calm : Bool} {xe : Value → Shared → Prop} (I : Inv X pins σ H s) (hp : ∀ p ∈ pn ++ pins', p ∈ X.pn ++ pins) (hf : A.frames = X.A.frames) (hh : calm = true → A.handled = none) :
    Inv (X.re pn A calm xe) pins' σ H s :=
  ⟨⟨I.ok.mod, I.ok.kind, I.ok.glob, I.ok.blt, I.ok.above, I.ok.inj, I.ok.has, I.ok.cab, hh, hf.trans I.ok.frames, I.ok.stk, I.ok.exf, I.ok.bs, I.ok.bsz, I.ok.noex, I.ok.exfs, I.ok.funs, I.ok.frf⟩,
    I.os, I.bare, I.base, I.loc, I.cell, I.free, I.freeC, fun p hp' => I.pin p (hp p hp'), I.hok, I.len⟩
theorem Inv.unre {X : Cx} {pins pins' : List (Addr × Obj)} {σ : St} {H : Hp} {s : Shared} {pn : List (Addr × Obj)} {A : Around} {calm : Bool} {xe : Value → Shared → Prop} (ok : X.Ok) (I : Inv (X.re pn A calm xe) pins' σ H s) (hp : ∀ p ∈ X.pn ++ pins, p ∈ pn ++ pins') :
    Inv X pins σ H s :=
  ⟨ok, I.os, I.bare, I.base, I.loc, I.cell, I.free, I.freeC, fun p hp' => I.pin p (hp p hp'), I.hok, I.len⟩
section
variable {X : Cx} {n : Str} {D : Addr} {dx : Str} {np hpos pos : Pos} {body suite : List Stmt} {b₀ : Stmt} {tb : TS} {ts : Addr → TS} {i : Nat}
def tryXe (X : Cx) (pins : List (Addr × Obj)) (Ec : XK) : Value → Shared → Prop := fun e s' => ∃ pins' σ H s, Inv (X.re (X.pn ++ pins) X.A X.calm X.xe) pins' σ H s ∧ CXE X.prog X.w X.stack H s Ec e s'
def tryCx (X : Cx) (pins : List (Addr × Obj)) (Ec : XK) : Cx := X.re (X.pn ++ pins) X.A X.calm (tryXe X pins Ec)
theorem passTry {pins : List (Addr × Obj)} {Ec : XK} : Passes (CXE X.prog X.w) (tryCx X pins Ec) Ec := fun pins' σ H s e s' I h =>
  ⟨pins', σ, H, s, ⟨⟨I.ok.mod, I.ok.kind, I.ok.glob, I.ok.blt, I.ok.above, I.ok.inj, I.ok.has, I.ok.cab, I.ok.hd, I.ok.frames, I.ok.stk, I.ok.exf, I.ok.bs, I.ok.bsz, I.ok.noex, I.ok.exfs, I.ok.funs, I.ok.frf⟩,
    I.os, I.bare, I.base, I.loc, I.cell, I.free, I.freeC, I.pin, I.hok, I.len⟩, h⟩
def suiteCx (X : Cx) (pins : List (Addr × Obj)) (x : Addr) : Cx := X.re (X.pn ++ pins) (X.A.mark (some (.ref x))) false (fun _ _ => False)
def tTry (K : PySem.W.Frag) (D : Addr) (N : List Str) (i : Nat) (Ec : XK) (tb : TS) (ts : Addr → TS) : TS := fun E σ H => tb E σ H ∧
  ∀ (σ' : St) (C x : Addr) (H' : Hp), σ'.length = N.length → H' x = none → Ec (.ref C) none H' → PySem.W.subIn K (.ref C) (.ref D) = some true ∧
    ts x { nx := fun σ2 H2 => E.nx (σ2.set i none) H2, rt := E.rt, bk := fun σ2 H2 => E.bk (σ2.set i none) H2, ct := fun σ2 H2 => E.ct (σ2.set i none) H2 } (σ'.set i (some (.ref x))) (upd H' x (excO x C))
theorem mark_frames (A : Around) (o : Option Value) : (A.mark o).frames = A.frames := by first | rfl | (cases A; rfl)
theorem name_goes {M : Model} {A : Around} {E : Value → Shared → Prop} {pins : List (Addr × Obj)} {σ : St} {H : Hp} {s : Shared} {x : Str} {Q : Unit → Shared → Prop} (I : Inv X pins σ H s) (hN : X.N.Nodup) (hi : X.N[i]? = some x) (hk : X.env.scope.names.lookup x = some .local)
    (h : ∀ s', Inv X pins (σ.set i none) H s' → Q () s') : wpAny M A (do bindName X.env x .none; unbindBehindTheSuite X.env x pos) Q E s := by
  obtain ⟨m, hn, hl⟩ := id I.loc
  have hcls : (X.env.scope.kind == .class || (X.env.scope.kind == .module && X.env.locals != X.env.globals)) = false := by rw [I.ok.kind]; rfl
  have cne := I.cne
  have tracked : ∀ {h' : Heap}, Heap.SameBut X.env.locals s.heap h' → HOk X.prog X.w H h' := fun {h'} hs b ob e => by
    refine (I.hok b ob e).stay (fun c w' hc q => (hs.2 c ?_).trans q) (fun _ q => q) fun _ _ q => q
    rintro rfl
    rcases hc with z | hc
    · rw [← z, I.free] at e; cases e
    · rw [I.free] at hc; cases hc
  refine wpAny_nameGoes_keeps hk hn hcls fun h' v hn' hs => ?_
  refine h _ ⟨I.ok, I.os, I.bare, ⟨fun b o e n hb hx => ?_, fun b o e n hb hx => ?_, I.base.free, fun b o e hx => ?_, I.base.tups, I.base.frzs, I.base.tbls⟩, ⟨_, hn', fun j y v' e1 e2 e3 => ?_⟩, fun y c e => ?_, I.free, I.freeC, fun p hp => ?_, tracked hs, by rw [List.length_set]; exact I.len⟩
  · exact (hs.2 b (Nat.ne_of_lt (Nat.lt_of_lt_of_le (Heap.lt_size e) I.ok.above))).trans (I.base.keep b o e n hb hx)
  · obtain ⟨sl, e1⟩ := I.base.slot b o e n hb hx
    exact ⟨sl, (hs.2 b (Nat.ne_of_lt (Nat.lt_of_lt_of_le (Heap.lt_size e) I.ok.above))).trans e1⟩
  · obtain ⟨o', e1⟩ := I.base.there b o e hx
    exact ⟨o', (hs.2 b (Nat.ne_of_lt (Nat.lt_of_lt_of_le (Heap.lt_size e) I.ok.above))).trans e1⟩
  · by_cases hj : j = i
    · subst hj
      by_cases hlt : j < σ.length
      · rw [List.getElem?_set_self hlt] at e2; cases e2
      · rw [List.getElem?_eq_none (by rw [List.length_set]; omega)] at e2; cases e2
    · rw [List.getElem?_set_ne (Ne.symm hj)] at e2
      obtain ⟨u', r', q⟩ := hl j y v' e1 e2 e3
      refine ⟨u', r', ?_⟩
      rcases q with ⟨k, e⟩ | ⟨k, c, e, z⟩
      · refine .inl ⟨k, ?_⟩
        have : y ≠ x := fun e => hj (nodup_ix hN e1 (e ▸ hi))
        simp [this, e]
      · exact .inr ⟨k, c, e, z.sameBut hs (cne y c e)⟩
  · obtain ⟨w', z⟩ := I.cell y c e
    exact ⟨w', z.sameBut hs (cne y c e)⟩
  · obtain ⟨e, n, ne, nf, d⟩ := I.pin p hp
    exact ⟨(hs.2 p.1 ne).trans e, n, ne, nf, d⟩
theorem ps_try {Ec : XK} (hN : X.N.Nodup) (hi : X.N[i]? = some n) (hk : X.env.scope.names.lookup n = some .local) (hgD : Gl X dx) (hmD : X.mg dx = some (.ref D)) (qD : ExcCls X.K D) (hst : X.stack = X.env :: X.outer) (hfr : X.env.frame = some X.env.locals)
    (hb : ∀ pins, PSs (tryCx X pins Ec) body tb) (hs : ∀ pins x, PSs (suiteCx X pins x) (b₀ :: suite) (ts x)) (hdb : (dx == ("__debug__" : Str)) = false := by decide) :
    PS X (.Try body [.ExceptHandler (some (.Name dx np)) (some n) (b₀ :: suite) hpos] [] [] pos) (tTry X.K D X.N i Ec tb ts) := by
  intro pins s σ H E I h
  obtain ⟨h1, h2⟩ := h
  have I' : Inv (tryCx X pins Ec) [] σ H s := I.re (fun p hp => by simpa using hp) rfl I.ok.hd
  have back : ∀ {σ' : St} {H' : Hp} {s' : Shared}, Inv (tryCx X pins Ec) [] σ' H' s' → Inv X pins σ' H' s' := fun J => J.unre I.ok fun p hp => by simpa using hp
  refine wpAny_Try_except (wpAny_mono (hb pins [] s σ H E I' h1) (fun f s1 hs1 => ?_) (fun e s1 he => ?_))
  · cases f with
    | next =>
      obtain ⟨σ', H', J, q⟩ := hs1
      exact wpAny_execs_nil ⟨σ', H', back J, q⟩
    | brk => obtain ⟨σ', H', J, q⟩ := hs1; exact ⟨σ', H', back J, q⟩
    | cont => obtain ⟨σ', H', J, q⟩ := hs1; exact ⟨σ', H', back J, q⟩
    | ret u => obtain ⟨v, σ', H', J, q⟩ := hs1; exact ⟨v, σ', H', back J, q⟩
  · obtain ⟨pins', σ', Hc, sc, J, hx⟩ := he
    obtain ⟨x, C, t, B, h0, H', F, rfl, R, hE⟩ := hx
    have hframes : X.A.frames = some (X.env :: X.outer) := I.ok.frames.trans (by rw [hst])
    rw [hst] at R
    refine looksC hframes hfr R.fly fun h4 held4 up4 => landsC held4 fun h5 fl5 up5 => ?_
    have R5 := R.on fl5 (up4.trans up5)
    have J5 : Inv (suiteCx X pins x) [] σ' H' { s1 with heap := h5 } := by
      have J' : Inv (X.re (X.pn ++ pins) X.A X.calm X.xe) pins' σ' H' { s1 with heap := h5 } := J.raised (by rw [← hst] at R5; exact R5)
      exact (J'.unre (pins := pins ++ pins') I.ok fun p hp => by simpa using hp).re (fun p hp => by simp at hp ⊢; rcases hp with z | z <;> simp [z]) (mark_frames _ _) (fun z => by cases z)
    obtain ⟨hsub, hq⟩ := h2 σ' C x H' J5.len R.newH hE
    refine wpAny_handleBy_cons (codeAny_handlers_test (ld_glob (X := suiteCx X pins x) J5 hgD hmD ?_ hdb)) (by intro q; cases q)
    obtain ⟨oe, he, hcls⟩ := fl5.1.there
    refine excMatches_own J5.kIn he hcls qD hsub (codeAny_handlers_suite_as ?_)
    refine landsC ⟨fl5.1.1, fl5.1.2.1, fl5.1.2.2.1, fl5.rec⟩ fun h6 fl6 up6 => ?_
    have R6 := R5.on fl6 up6
    have J6 : Inv (suiteCx X pins x) [] σ' (upd H' x (excO x C)) { s1 with heap := h6 } := by
      have J' : Inv (X.re (X.pn ++ pins) X.A X.calm X.xe) pins' σ' (upd H' x (excO x C)) { s1 with heap := h6 } := J.call' (s' := { s1 with heap := h6 }) R6.os (by have := R6.unTrack; rw [← hst] at this; exact this) R6.hokTrack R6.bare (ch := []) (fun b z => absurd z (by simp))
      exact (J'.unre (pins := pins ++ pins') I.ok fun p hp => by simpa using hp).re (fun p hp => by simp at hp ⊢; rcases hp with z | z <;> simp [z]) (mark_frames _ _) (fun z => by cases z)
    refine store_ok (X := suiteCx X pins x) J6 hN hi (.inl hk) (v := .ref x) rfl (fun s7 J7 => ?_) (.inr hk)
    refine wpAny_mono (hs pins x [] s7 _ _ _ J7 hq) (fun f s8 hs8 => ?_) (fun _ _ z => z.elim)
    have back2 : ∀ {σ' : St} {H' : Hp} {s' : Shared}, Inv (suiteCx X pins x) [] σ' H' s' → Inv X pins σ' H' s' := fun J => J.unre I.ok fun p hp => by simpa using hp
    cases f with
    | next =>
      obtain ⟨σ2, H2, K2, q⟩ := hs8
      exact name_goes (back2 K2) hN hi hk fun s9 K9 => ⟨_, H2, K9, q⟩
    | brk => obtain ⟨σ2, H2, K2, q⟩ := hs8; exact name_goes (back2 K2) hN hi hk fun s9 K9 => ⟨_, H2, K9, q⟩
    | cont => obtain ⟨σ2, H2, K2, q⟩ := hs8; exact name_goes (back2 K2) hN hi hk fun s9 K9 => ⟨_, H2, K9, q⟩
    | ret u => obtain ⟨v, σ2, H2, K2, q⟩ := hs8; exact name_goes (back2 K2) hN hi hk fun s9 K9 => ⟨v, _, H2, K9, q⟩
end
end L2
set_option Elab.async false
set_option maxHeartbeats 4000000
set_option maxRecDepth 100000
namespace L2
open PySem PySem.Spec PyProof.Rows PySem.W
structure ExcLook (K : PySem.W.Frag) (C : Addr) : Prop where
  cls : ExcCls K C
  ga : findIn K (.ref C) "__getattribute__" = some (some (.builtin "BaseException.__getattribute__"))
  hook : findIn K (.ref C) "__getattr__" = some none
  own : findIn K (.ref C) "__class__" = some (some (.builtin "object.__class__"))
  obj : mroIn K C (.type "object") = some true
  base : mroIn K C (.type "BaseException") = some true
section
variable {prog : Program} {w : World} {A : Around} {E : Value → Shared → Prop} {h : Heap} {g : Array GenState} {d : Drawn} {t : Nat} {os : OsState} {K : PySem.W.Frag} {x C : Addr} {o : Obj}
theorem exc_type {M : Model} (hx : h.get? x = some o) (hc : o.cls = .ref C) : Looks M h (typeOf (.ref x)) (.ref C) := hc ▸ (Looks.ld hx).andThen .now
open Builtin Builtin.ObjectAttr Builtin.Getset_descriptor in
theorem exc_class_get {R : Result → Shared → Prop} {tp : Value} (X : K.In h) (q : ExcLook K C) (hx : h.get? x = some o) (hc : o.cls = .ref C) (hq : R (.ok (.ret (.ref C))) ⟨h, g, d, t, os⟩) :
    codeAny (model prog w) A (.call (.builtin "getset_descriptor.__get__") ⟨[.builtin "object.__class__", .ref x, tp], []⟩) R ⟨h, g, d, t, os⟩ := by
  have L0 := exc_type (M := model prog w) hx hc
  have L1 := looks_mroIn (M := model prog w) X q.obj
  refine codeAny_call_builtin KF.slot_gs.plain KF.entry_gs (KF.slot_gs.check _ _ _ _ _ _ _ _ KF.type_class (KF.args_gs _ _ _) ?_)
  unfold Builtin.«getset_descriptor.__get__» descrGet
  rw [dga_obj]
  refine wpAny_bind (wpAny_pure ?_)
  unfold descrGetter descrCheckInstance descrNameAndClass isInstance
  simp only [KF.owner_class]
  repeat lk
  refine ⟨Code.quiet_builtin _ (by decide +kernel), codeAny_builtin KF.entry_class ?_⟩
  unfold Builtin.«object.__class__» shownTypeOf
  repeat lk
  exact hq
theorem exc_class_entry {tk : Tok} {Q : Fin → Shared → Prop} (X : K.In h) (q : ExcLook K C) (hx : h.get? x = some o) (hc : o.cls = .ref C) (hq : Q (.done (.ret (.ref C))) ⟨h, g, d, t, os⟩) :
    wpAny (model prog w) A (Builtin.«object.__getattribute__» ⟨[.ref x, .str "__class__" tk], []⟩) Q E ⟨h, g, d, t, os⟩ := by
  have L0 := exc_type (M := model prog w) hx hc
  have L1 := looks_findIn (M := model prog w) X q.own
  have f5 := F.typeOf_object_class
  have f6 := F.slot_gs_get.lookup
  have f7 := F.slot_gs_set.lookup
  have hT5 : (⟨h, g, d, t, os⟩ : Shared).TypeIs (.builtin "object.__class__") "getset_descriptor" := F.typeOf_object_class
  repeat (any_goals (first | assumption | with_reducible refine L0.at ?_ | with_reducible refine L1.at ?_ | (with_reducible refine wpAny_loadPart_at hx ?_; rw [hc]) | wp_step))
  refine exc_class_get X q hx hc ?_
  repeat (any_goals (first | assumption | wp_step))
theorem check_ga_exc {M : Model} {nameV : Value} {Q : Unit → Shared → Prop} (X : K.In h) (q : ExcLook K C) (hx : h.get? x = some o) (hc : o.cls = .ref C) (hq : Q () ⟨h, g, d, t, os⟩) :
    wpAny M A (checkBuiltinCall "BaseException.__getattribute__" ⟨[.ref x, nameV], []⟩) Q E ⟨h, g, d, t, os⟩ := by
  have hk : builtinKind "BaseException.__getattribute__" = some .slot := by decide +kernel
  have hsplit : splitId "BaseException.__getattribute__" = some ("BaseException", "__getattribute__") := by decide +kernel
  have L0 := exc_type (M := M) hx hc
  have L1 := looks_mroIn (M := M) X q.base
  have ha := F.args_bexc_ga (.ref x) nameV
  simp only [checkBuiltinCall, hk, hsplit]
  refine wpAny_bind ?_
  unfold isInstance
  repeat (first | with_reducible refine L0.at ?_ | with_reducible refine L1.at ?_ | (with_reducible refine wpAny_loadPart_at hx ?_; rw [hc]) | wp_step)
  exact hq
theorem exc_class_call {tk : Tok} {R : Result → Shared → Prop} (X : K.In h) (q : ExcLook K C) (hx : h.get? x = some o) (hc : o.cls = .ref C) (hq : R (.ok (.ret (.ref C))) ⟨h, g, d, t, os⟩) :
    codeAny (model prog w) A (.call (.builtin "BaseException.__getattribute__") ⟨[.ref x, .str "__class__" tk], []⟩) R ⟨h, g, d, t, os⟩ :=
  codeAny_call_builtin PySem.F.attr_ValueError.ga.plain F.entry_bexc_ga (check_ga_exc X q hx hc (exc_class_entry X q hx hc hq))
theorem exc_class_by {tk : Tok} {fill expr : Bool} {Q : Value → Shared → Prop} (X : K.In h) (q : ExcLook K C) (hx : h.get? x = some o) (hc : o.cls = .ref C) (hq : Q (.ref C) ⟨h, g, d, t, os⟩) :
    wpAny (model prog w) A (getAttrBy (.ref x) (.str "__class__" tk) fill expr) Q E ⟨h, g, d, t, os⟩ := by
  have f3 := PySem.F.attr_ValueError.ga.bind (.ref x)
  have hx0 : (expr && onTheHeap (Value.builtin "BaseException.__getattribute__")) = false := by cases expr <;> rfl
  have hx2 : (Value.builtin "BaseException.__getattribute__" == Value.builtin "object.__getattribute__") = false := by decide +kernel
  have hx1 : (onTheHeap (Value.ref C) && Value.builtin "BaseException.__getattribute__" == Value.builtin "object.__getattribute__") = false := by rw [hx2]; rfl
  have L0 := exc_type (M := model prog w) hx hc
  have L1 := looks_findIn (M := model prog w) X q.ga
  have L2 := looks_findIn (M := model prog w) X q.hook
  repeat (any_goals (first | assumption | with_reducible refine L0.at ?_ | with_reducible refine L1.at ?_ | with_reducible refine L2.at ?_ | (with_reducible refine wpAny_loadPart_at hx ?_; rw [hc]) | wp_step))
  refine exc_class_call X q hx hc ?_
  repeat (any_goals (first | assumption | wp_step))
theorem exc_class_attr {Q : Option Value → Shared → Prop} (X : K.In h) (q : ExcLook K C) (hx : h.get? x = some o) (hc : o.cls = .ref C) (hq : Q (some (.ref C)) ⟨h, g, d, t + 1, os⟩) : wpAny (model prog w) A (getAttr? (.ref x) "__class__") Q E ⟨h, g, d, t, os⟩ := by
  unfold getAttr? getAttrBy?
  repeat (any_goals (first | assumption | with_reducible apply exc_class_by X q hx hc | wp_step))
theorem kitx_exc (q : ExcLook K C) : KitX K (.ref x) (.ref C) (ExcAt x C) where
  ty := fun _ _ _ ⟨_, _, a, b, _⟩ => exc_type a b
  it := fun M h X _ => by
    obtain ⟨bm, N, nm, qn, bs, hdct, sn, sub, ab, col, dd, k0, k1, k2, k3, k5, mN, hC, hN, hni, T⟩ := q.cls.obj X
    intro A' Q' E' s' k q'
    unfold isType loadHead
    exact wpAny_bind (wpAny_loadPart (k _ _ hC) (wpAny_pure q'))
  ne := fun h tp dd its n sl X htp => by
    obtain ⟨bm, N, nm, qn, bs, hdct, sn, sub, ab, col, dd', k0, k1, k2, k3, k5, mN, hC, hN, hni, T⟩ := q.cls.obj X
    refine Bool.eq_false_iff.mpr fun z => ?_
    have e : C = tp := Value.ref.inj (beq_iff_eq.mp z)
    subst e
    have z := congrArg Obj.data (Option.some.inj (hC.symm.trans htp))
    cases z
  ca := fun {_ _ _ _ _ s} X p k => by
    obtain ⟨h, g, d, t, os⟩ := s
    obtain ⟨o, vs, a, b, c⟩ := p
    exact exc_class_attr X q a b k
end
section
variable {X : Cx}
def rIsiX (K : PySem.W.Frag) : List V → Hp → VK → Prop := fun xs H Q => ∃ x C c b u, xs = [.ref x, u] ∧ RelV u c ∧ H x = some (excO x C) ∧ ExcLook K C ∧ PySem.W.kitOne K (.ref C) c = some b ∧ Q (.bl b) H
theorem call_isiX : CallR X (.builtin "isinstance") (rIsiX X.K) := by
  intro pins s σ H vs us Q I r h
  obtain ⟨x, C, c, b, u, rfl, ru, hx, q, e, hq⟩ := h
  obtain ⟨v1, v2, rfl, r1, r2⟩ := Vals.two r
  cases (show v1 = Value.ref x from r1)
  have : v2 = c := by
    cases u with
    | non => exact (show v2 = _ from r2).trans (show c = _ from ru).symm
    | bl y => exact (show v2 = _ from r2).trans (show c = _ from ru).symm
    | ref y => exact (show v2 = _ from r2).trans (show c = _ from ru).symm
    | ty y => exact (show v2 = _ from r2).trans (show c = _ from ru).symm
    | int y => obtain ⟨_, rfl⟩ := (show ∃ t, c = Value.int y t from ru); simp [PySem.W.kitOne, PySem.W.kitCls] at e
    | str y => obtain ⟨_, rfl⟩ := (show ∃ t, c = Value.str y t from ru); simp [PySem.W.kitOne, PySem.W.kitCls] at e
    | byt y => obtain ⟨_, rfl⟩ := (show ∃ t, c = Value.bytes y t from ru); simp [PySem.W.kitOne, PySem.W.kitCls] at e
    | flt y => obtain ⟨_, rfl⟩ := (show ∃ t, c = Value.float y t from ru); simp [PySem.W.kitOne, PySem.W.kitCls] at e
  subst this
  have p : ExcAt x C s.heap := (I.hok x _ hx).1
  exact PySem.W.kia_one (kitx_exc q) I.kIn p e (fun z => nomatch z) fun tk => ⟨.bl b, H, I.tok tk, rfl, hq⟩
end
end L2
set_option Elab.async false
set_option maxHeartbeats 4000000
set_option maxRecDepth 100000
namespace L2
open PySem PySem.Spec PyProof.Rows
section
variable {P : Program} {w : World} {K : PySem.W.Frag} {mg : Str → Option Value} {base : Heap}
theorem Fun.okE {x qual : Str} {st : Stmt} {f : Addr} {fd : FuncData} {N ps : List Str} {k : Nat} {sp : Sp} (F : Fun K x qual st f fd) (S : FnScope N ps (defScope st)) (len : ∀ vs H Q E, sp vs H Q E → vs.length = ps.length)
    (hbody : ∀ (cdv : Value) (A : Around) (outer : List Env) (s : Shared) (H : Hp) (vs : List V) (Q : VK) (E : XK), Room k (A.deeper (envOfC qual (defScope st) s.heap.objs.size f cdv)) → sp vs H Q E →
      ∃ t, PSs (cxOf (CXE P w) P w K mg base N qual (defScope st) f cdv A outer s H E) (defBody st) t ∧ t { nx := fun _ H' => Q .non H', rt := Q } (start N vs) H) : FnOk P w K mg base (CXE P w) (k + 1) f fd ps sp := by
  obtain ⟨oc, od, kV, doc, pm, an, cdv, ct, osl, rfl, lk, hcd⟩ := F.ex
  refine fn_of lk hcd S len fun A outer s H vs Q E hr hsp => ?_
  obtain ⟨t, h, q⟩ := hbody cdv A outer s H vs Q E hr hsp
  exact ⟨t, h, q⟩
theorem passOwnE {N : List Str} {qual : Str} {scope : Scope} {f : Addr} {cd : Value} {A : Around} {outer : List Env} {s₀ : Shared} {H₀ : Hp} {E : XK} :
    PassesOwn (model (cxOf (CXE P w) P w K mg base N qual scope f cd A outer s₀ H₀ E).prog (cxOf (CXE P w) P w K mg base N qual scope f cd A outer s₀ H₀ E).w) (cxOf (CXE P w) P w K mg base N qual scope f cd A outer s₀ H₀ E).A (cxOf (CXE P w) P w K mg base N qual scope f cd A outer s₀ H₀ E).env (cxOf (CXE P w) P w K mg base N qual scope f cd A outer s₀ H₀ E).xe :=
  PassesOwn.leaving (Q₁ := fun e s' => CXE P w outer H₀ s₀ E e s')
end
structure CalleeE (P : Program) (w : World) (K : PySem.W.Frag) (mg : Str → Option Value) (base : Heap) (x : Str) (ps : List Str) (k : Nat) (sp : Sp) : Prop where
  ex : ∃ f fd, FnOk P w K mg base (CXE P w) k f fd ps sp ∧ mg x = some (.ref f) ∧ PySem.W.keepIn K (.ref f) = true ∧ Binds K fd ps []
def tClE (sp : Sp) (E : XK) (t : TA) : TE := fun σ H Q => t σ H fun vs H1 => sp vs H1 Q E
section
variable {X : Cx} {x : Str} {ps : List Str} {k : Nat} {sp : Sp} {E : XK} {e : Expr} {es : List Expr} {t : TA} {p pos : Pos}
theorem pe_callE (C : CalleeE X.prog X.w X.K X.mg X.base x ps k sp) (hr : Room k X.A) (hx : Passes (CXE X.prog X.w) X E) (hg : Gl X x) (ha : PA X (e :: es) t)
    (hdb : (x == ("__debug__" : Str)) = false := by decide) (he : starEach (e :: es) X.env = (false, eval e X.env) :: starEach es X.env := by rfl) (hpl : (backTo pos (starEach es X.env)).any (·.1) = false := by rfl) :
    PE X (.Call (.Name x p) (e :: es) [] pos) (tClE sp E t) := by
  obtain ⟨f, fd, F, hm, hk, hb⟩ := C.ex
  have h := pe_call (p := p) (pos := pos) F hr hg hm hk hb .nil hx ha hdb he hpl
  intro pins s σ H Q I q
  refine h pins s σ H Q I ?_
  unfold tCall
  simp only [List.append_nil]
  exact q
end
structure RoomH (k : Nat) (A : Around) : Prop where
  dp : A.depth + 3 * k + 5 < recursionLimit
  un : A.units + 16 * k + 200 < cLine
structure FnOkH (P : Program) (w : World) (K : PySem.W.Frag) (mg : Str → Option Value) (base : Heap) (k : Nat) (f : Addr) (fd : FuncData) (ps : List Str) (sp : Sp) : Prop where
  len : ∀ vs H Q E, sp vs H Q E → vs.length = ps.length
  run : ∀ (A : Around) (outer : List Env) (s : Shared) (H : Hp) (args : Args) (us : List Value) (vs : List V) (Q : VK) (E : XK), RoomH k A → Env0 P w K mg base A outer s H → BindsTo s fd args (ps.zip us) → Vals vs us → sp vs H Q E →
    codeAny (model P w) A (.call (.ref f) args) (CR CX0 outer P w H s Q E) s
structure CalleeH (P : Program) (w : World) (K : PySem.W.Frag) (mg : Str → Option Value) (base : Heap) (x : Str) (ps : List Str) (k : Nat) (sp : Sp) : Prop where
  ex : ∃ f fd, FnOkH P w K mg base k f fd ps sp ∧ mg x = some (.ref f) ∧ PySem.W.keepIn K (.ref f) = true ∧ Binds K fd ps []
end L2
set_option Elab.async false
set_option maxHeartbeats 4000000
set_option maxRecDepth 100000
namespace L2
open PySem PySem.Spec PyProof.Rows
section
variable {X : Cx} {x : Str} {pos : Pos}
theorem pe_globI {n : Int} (hm : ∃ t, X.mg x = some (.int n t)) (hg : Gl X x) (hd : (x == ("__debug__" : Str)) = false := by decide) : PE X (.Name x pos) (tC (.int n)) := by
  obtain ⟨t, hm⟩ := hm
  exact pe_glob hg hm ⟨t, rfl⟩ hd
theorem pe_globS {n : Str} (hm : ∃ t, X.mg x = some (.str n t)) (hg : Gl X x) (hd : (x == ("__debug__" : Str)) = false := by decide) : PE X (.Name x pos) (tC (.str n)) := by
  obtain ⟨t, hm⟩ := hm
  exact pe_glob hg hm ⟨t, rfl⟩ hd
theorem pe_globR {a : Addr} (hm : X.mg x = some (.ref a)) (hg : Gl X x) (hd : (x == ("__debug__" : Str)) = false := by decide) : PE X (.Name x pos) (tC (.ref a)) := pe_glob hg hm rfl hd
end
structure MethC (P : Program) (w : World) (K : PySem.W.Frag) (mg : Str → Option Value) (base : Heap) (C : Addr) (m : Str) (ps : List Str) (k : Nat) (sp : Sp) : Prop where
  ex : ∃ f fd, Meth K C m f ∧ FnOk P w K mg base CX0 k f fd ps sp ∧ Binds K fd ps []
  cl : Cls K C
section
variable {X : Cx} {o e : Expr} {es : List Expr} {m : Str} {ta : TE} {t : TA} {apos pos p : Pos} {k : Nat} {ps : List Str} {sp : Sp} {C : Addr} {x : Str}
structure MakeC (P : Program) (w : World) (K : PySem.W.Frag) (mg : Str → Option Value) (base : Heap) (x : Str) (C : Addr) (ps : List Str) (k : Nat) (sp : Sp) : Prop where
  ex : ∃ f fd, Mk K C f ∧ FnOk P w K mg base CX0 k f fd ps sp ∧ Binds K fd ps []
  at_ : mg x = some (.ref C)
end
structure InsTy (K : PySem.W.Frag) (C : Addr) : Prop where
  cl : Cls K C
  ha : PySem.W.findIn K (.ref C) "__class__" = some (some (.builtin "object.__class__"))
  hn : PySem.W.specialIn K (.builtin "object.__class__") "__get__" = some (some (.builtin "getset_descriptor.__get__"))
  htk : PySem.W.takesIn K (.builtin "object.__class__") = some true
  hm : PySem.W.mroIn K C (.type "object") = some true
section
variable {P : Program} {w : World} {K : PySem.W.Frag} {mg : Str → Option Value} {base : Heap} {A : Around} {D : Ends} {σ : St} {H H1 : Hp} {Q : VK} {ta te : TE} {t : TA} {f m : Str} {a C dx : Addr} {fs : List (Str × V)} {ps : List Str} {k : Nat} {sp : Sp}
theorem rd_cat {l b : Addr} {xs zs : List V} (e1 : H l = some (.lst xs)) (e2 : H b = some (.lst zs)) (hz : xs.length + zs.length ≤ sizeLine) (h : ∀ p, H p = none → Q (.ref p) (upd H p (.lst (xs ++ zs)))) : rCat (.ref l) (.ref b) H Q := ⟨l, b, xs, zs, rfl, rfl, e1, e2, hz, h⟩
theorem rd_ifE {tt : TT} {tb : TE} (h : tt σ H fun c H1 => if c = true then ta σ H1 Q else tb σ H1 Q) : tIf tt ta tb σ H Q := h
theorem rd_clE {E : XK} (h : t σ H fun vs H1 => sp vs H1 Q E) : tClE sp E t σ H Q := h
end
end L2
set_option Elab.async false
set_option maxHeartbeats 4000000
set_option maxRecDepth 100000
namespace L2
open PySem PySem.Spec PyProof.Rows
section
variable {K : PySem.W.Frag} {H : Hp} {te : TE}
theorem comp_listS {a : Addr} {xs : List V} {fs : St} {D : Addr} {R : Hp → Prop} (G : Nat → V → V) (hS : SqL K H a xs) (hD : H D = none) (hl : xs.length ≤ 1000)
    (he : ∀ (i : Nat) (x : V) (H' : Hp) (Q : VK), xs[i]? = some x → Same H H' → (∀ H'', Same H' H'' → Q (G i x) H'') → te (some x :: fs) H' Q)
    (hR : ∀ H', Same H H' → H' D = some (.lst (xs.mapIdx G)) → R H') :
    tCompTurn (Itl K a) (fun _ H Q => Q true H) te fs D R H := by
  have sn : ∀ (o : HO) (H2 : Hp), Same H H2 → Same H (upd H2 D o) := fun o H2 s b u q => by rw [upd_ne (ne_of_none q hD)]; exact s b u q
  refine ⟨fun i m acc H' => i ≤ xs.length ∧ m = xs.length - i ∧ acc = (xs.take i).mapIdx G ∧ Same H H' ∧ H' D = some (.lst acc), ⟨_, Nat.zero_le _, rfl, rfl, sn _ _ (Same.refl H), upd_same⟩, ?_⟩
  rintro i m acc H' ⟨h1, rfl, rfl, s, hd⟩
  refine ⟨hd, ?_⟩
  have q : SqL K H' a xs := s.seq hS
  by_cases hi : i < xs.length
  · refine .inr ⟨⟨xs, xs[i], q, by simp [hi]⟩, fun y H2 hy => ?_⟩
    obtain ⟨e, hy⟩ := hy
    subst e
    have hy := hy xs q
    refine iteT ?_
    refine he i y _ _ hy s fun H'' s' => ⟨s' _ _ hd, ?_, xs.length - (i + 1), by omega, hi, rfl, ?_, sn _ _ (s.trans s'), ?_⟩
    · rw [List.length_mapIdx, List.length_take]
      exact small1000 (by omega)
    · rw [List.take_succ, hy, List.mapIdx_append]
      simp only [Option.toList, List.mapIdx_cons, List.mapIdx_nil]
      rw [List.length_take, Nat.min_eq_left (by omega), Nat.zero_add]
    · rw [upd_same]
  · have e : i = xs.length := by omega
    subst e
    refine .inl ⟨⟨xs, q, Nat.le_refl _⟩, hR _ s ?_⟩
    rw [hd, List.take_length]
theorem comp_listC {a : Addr} {xs : List V} {fs : St} {D : Addr} {R : Hp → Prop} (z : V) (hS : SqL K H a xs) (hD : H D = none) (hl : xs.length ≤ 1000)
    (he : ∀ (i : Nat) (x : V) (H' : Hp) (Q : VK), xs[i]? = some x → Same H H' → (∀ H'', Same H' H'' → Q z H'') → te (some x :: fs) H' Q)
    (hR : ∀ H', Same H H' → H' D = some (.lst (List.replicate xs.length z)) → R H') : tCompTurn (Itl K a) (fun _ H Q => Q true H) te fs D R H :=
  comp_listS (fun _ _ => z) hS hD hl he fun H' s h => hR H' s (by rw [h]; congr 2; apply List.ext_getElem <;> simp)
end
end L2
set_option Elab.async false
set_option maxHeartbeats 4000000
set_option maxRecDepth 100000
namespace L2
open PySem PySem.Spec PyProof.Rows
section
variable {X : Cx}
end
section
variable {X : Cx} {tg : Expr}
end
theorem passE0 {X : Cx} {P : Program} {w : World} : Passes (CXE P w) X E0 := fun _ _ _ _ _ _ _ h => by
  obtain ⟨_, _, _, _, _, _, _, _, _, z⟩ := h
  exact z.elim
section
variable {K : PySem.W.Frag} {σ : St} {H : Hp} {Q : VK} {tx : TA}
theorem rd_isiX {x C : Addr} {c : Value} {b : Bool} {u : V} (ru : RelV u c) (hx : H x = some (excO x C)) (q : ExcLook K C) (e : PySem.W.kitOne K (.ref C) c = some b) (h : Q (.bl b) H) : rIsiX K [.ref x, u] H Q := ⟨x, C, c, b, u, rfl, ru, hx, q, e, h⟩
end
end L2
set_option Elab.async false
set_option maxHeartbeats 4000000
set_option maxRecDepth 100000
namespace L2
open PySem PySem.Spec PyProof.Rows
theorem passTry2 {X Y : Cx} {pins : List (Addr × Obj)} {Ec : XK} (h : Y = tryCx X pins Ec) : Passes (CXE Y.prog Y.w) Y Ec := by subst h; exact passTry
theorem pe_callC0 {X : Cx} {x : Str} {ps : List Str} {k : Nat} {sp : Sp} {p pos : Pos} (C : Callee X.prog X.w X.K X.mg X.base x ps k sp) (hr : Room k X.A) (hg : Gl X x) (hdb : (x == ("__debug__" : Str)) = false := by decide) : PE X (.Call (.Name x p) [] [] pos) (tCl sp tNil) := by
  obtain ⟨f, fd, F, hm, hk, hb⟩ := C.ex
  have h := pe_call0 (p := p) (pos := pos) F hr hg hm hk hb .nil pass0 hdb
  intro pins s σ H Q I q
  refine h pins s σ H Q I ?_
  unfold tCall
  simp only [List.append_nil]
  exact q
end L2
set_option Elab.async false
set_option maxHeartbeats 4000000
set_option maxRecDepth 100000
namespace L2
open PySem PySem.Spec PyProof.Rows
section
variable {K : PySem.W.Frag} {n b c : St → Hp → Prop} {r : VK} {σ : St} {H : Hp} {t u : TS} {te : TE} {g : TG} {tb : TS}
theorem rd_seqF (h : t (Ends.mk (u (Ends.mk n r b c)) r b c) σ H) : tSeq t u (Ends.mk n r b c) σ H := h
theorem rd_retF (h : te σ H r) : tRet te (Ends.mk n r b c) σ H := h
theorem rd_dropF (h : te σ H fun _ H1 => n σ H1) : tDrop te (Ends.mk n r b c) σ H := h
theorem rd_asgF (h : te σ H fun x H1 => g x σ H1 n) : tAsg te g (Ends.mk n r b c) σ H := h
theorem rd_nextF (h : n σ H) : tNext (Ends.mk n r b c) σ H := h
theorem rd_forF {wi : TI} (h : wi σ H fun J H1 => ∃ W : Nat → Nat → St → Hp → Prop, (∃ m, W 0 m σ H1) ∧ ∀ i m σ H, W i m σ H →
    (J.stop i H ∧ n σ H) ∨ (J.go i H ∧ ∃ N : St → Hp → Prop, (∀ σ' H', N σ' H' → ∃ m', m' < m ∧ W (i + 1) m' σ' H') ∧ ∀ x H', J.yld i H x H' → g x σ H' fun σ2 H2 => tb (Ends.mk N r n N) σ2 H2)) : tFor wi g tb (Ends.mk n r b c) σ H := h
theorem rd_parF {i j : Nat} {tx : TA} (h : tx σ H fun vs H1 => ∃ v w, vs = [v, w] ∧ n ((σ.set i (some v)).set j (some w)) H1) : tPar i j tx (Ends.mk n r b c) σ H := h
theorem rd_joinF (J : St → Hp → Prop) (h1 : t (Ends.mk J r b c) σ H) (h2 : ∀ σ' H', J σ' H' → n σ' H') : tJoin t (Ends.mk n r b c) σ H := ⟨J, h1, h2⟩
theorem for_listF {a : Addr} {xs : List V} (Pv : Nat → St → Hp → Prop) (h0 : Pv 0 σ H) (hl : ∀ i σ H, i ≤ xs.length → Pv i σ H → SqL K H a xs)
    (hs : ∀ i x σ H, xs[i]? = some x → Pv i σ H → g x σ H fun σ2 H2 => tb (Ends.mk (Pv (i + 1)) r n (Pv (i + 1))) σ2 H2) (hd : ∀ σ H, Pv xs.length σ H → n σ H) :
    ∃ W : Nat → Nat → St → Hp → Prop, (∃ m, W 0 m σ H) ∧ ∀ i m σ H, W i m σ H →
      ((Itl K a).stop i H ∧ n σ H) ∨ ((Itl K a).go i H ∧ ∃ N : St → Hp → Prop, (∀ σ' H', N σ' H' → ∃ m', m' < m ∧ W (i + 1) m' σ' H') ∧ ∀ x H', (Itl K a).yld i H x H' → g x σ H' fun σ2 H2 => tb (Ends.mk N r n N) σ2 H2) :=
  for_list (D := Ends.mk n r (fun _ _ => False) (fun _ _ => False)) Pv h0 hl hs hd
theorem for_rangeF {lo : Int} {k : Nat} (Pv : Nat → St → Hp → Prop) (h0 : Pv 0 σ H)
    (hs : ∀ i σ H, i < k → Pv i σ H → g (.int (lo + i)) σ H fun σ2 H2 => tb (Ends.mk (Pv (i + 1)) r n (Pv (i + 1))) σ2 H2) (hd : ∀ σ H, Pv k σ H → n σ H) :
    ∃ W : Nat → Nat → St → Hp → Prop, (∃ m, W 0 m σ H) ∧ ∀ i m σ H, W i m σ H →
      ((Itr lo k).stop i H ∧ n σ H) ∨ ((Itr lo k).go i H ∧ ∃ N : St → Hp → Prop, (∀ σ' H', N σ' H' → ∃ m', m' < m ∧ W (i + 1) m' σ' H') ∧ ∀ x H', (Itr lo k).yld i H x H' → g x σ H' fun σ2 H2 => tb (Ends.mk N r n N) σ2 H2) :=
  for_range (D := Ends.mk n r (fun _ _ => False) (fun _ _ => False)) Pv h0 hs hd
end
end L2
set_option maxRecDepth 100000
set_option maxHeartbeats 4000000
set_option Elab.async false
namespace L2
open PySem
section
variable {prog : Program} {w : World} {A : Around} {R : Result → Shared → Prop} {I : Addr} {fp wr : List Addr} {n : Nat} {P : Nat → Value → Prop} {St : Nat → Heap → Prop} {dv : Value}
end
section
variable {prog : Program} {w : World} {A : Around} {E : Value → Shared → Prop} {s : Shared}
end
end L2
set_option maxRecDepth 100000
set_option maxHeartbeats 4000000
set_option Elab.async false
namespace L2
open PySem
abbrev ZObj (h : Heap) (z ti tt : Addr) (u v : Value) : Prop := h.get? z = some { cls := .type "zip", dict := none, data := .fields #[u, v, .bool false, .ref ti, .ref tt], slots := #[] }
section
variable {prog : Program} {w : World} {A : Around} {E : Value → Shared → Prop} {s : Shared}
end
structure ZSt (h : Heap) (z ti tt i1 i2 l1 l2 S : Addr) (xs ys : Array Value) (k : Nat) : Prop where
  pr : IsPair h ti (.ref i1) (.ref i2)
  b1 : h.IsListIter i1 l1 k
  b2 : h.IsListIter i2 l2 k
  c1 : h.IsList l1 xs
  c2 : h.IsList l2 ys
  zz : (IsZip h z ti tt .none ∧ ∃ a b, IsPair h tt a b) ∨ ∃ (a : Addr) (f : Bool) (oa : Obj), ZObj h z ti tt (rawInt a) (.bool f) ∧ h.get? a = some oa ∧ S < a
structure ZLow (z ti tt i1 i2 l1 l2 S : Addr) : Prop where
  z : z < S
  ti : ti < S
  tt : tt < S
  i1 : i1 < S
  i2 : i2 < S
  l1 : l1 < S
  l2 : l2 < S
section
variable {prog : Program} {w : World} {A : Around} {E : Value → Shared → Prop} {s : Shared} {z ti tt i1 i2 l1 l2 S : Addr} {xs ys : Array Value} {k : Nat}
structure ZG (S : Addr) (xs ys : Array Value) (h : Heap) (as : List Addr) : Prop where
  rise : as.Pairwise (· < ·)
  at_ : ∀ (j : Nat) (a : Addr), as[j]? = some a → S < a ∧ ∃ x y, xs[j]? = some x ∧ ys[j]? = some y ∧ IsPair h a x y
end
section
variable {prog : Program} {w : World} {A : Around} {s : Shared} {R : Result → Shared → Prop} {z ti tt i1 i2 l1 l2 S : Addr} {xs ys : Array Value}
end
section
variable {prog : Program} {w : World} {A : Around} {s : Shared} {z ti tt i1 i2 l1 l2 S : Addr} {xs ys : Array Value}
end
section
variable {prog : Program} {w : World} {A : Around} {E : Value → Shared → Prop} {s : Shared}
end
end L2
set_option Elab.async false
set_option maxHeartbeats 4000000
set_option maxRecDepth 100000
namespace L2
open PySem PySem.Spec PyProof.Rows
section
variable {X : Cx} {pins : List (Addr × Obj)} {σ : List (Option V)} {H H' : Hp} {s : Shared} {h' : Heap}
end
def rIsiL (K : PySem.W.Frag) : List V → Hp → VK → Prop := fun xs H Q => ∃ (a : Addr) (ys : List V) (m : String) (q : Bool), xs = [.ref a, .ty m] ∧ SqL K H a ys ∧ PySem.W.kitOne K (.type "list") (.type m) = some q ∧ Q (.bl q) H
theorem call_isiL {X : Cx} : CallR X (.builtin "isinstance") (rIsiL X.K) := by
  intro pins s σ H xs us Q I r h
  obtain ⟨a, ys, m, b, rfl, hq, e, q⟩ := h
  obtain ⟨u, u', rfl, r1, r2⟩ := vals2 r
  cases (show u' = Value.type m from r2)
  cases (show u = Value.ref a from r1)
  obtain ⟨its, _, pl, _⟩ := I.list hq
  obtain ⟨o, n, e1, e2, _⟩ := pl
  exact PySem.W.kia_one PySem.W.kitx_list I.kIn ⟨o, e1, e2⟩ e (fun z => nomatch z) fun tk => ⟨.bl b, H, I.tok tk, rfl, q⟩
section
variable {K : PySem.W.Frag} {n b c : St → Hp → Prop} {r Q : VK} {σ : St} {H : Hp} {t u tb : TS} {te tv ta td : TE} {tc : TT} {g : TG} {tx tl : TA} {f : Str}
theorem rd_isiL {a : Addr} {ys : List V} {m : String} {q : Bool} (y : SqL K H a ys) (e : PySem.W.kitOne K (.type "list") (.type m) = some q) (h : Q (.bl q) H) : rIsiL K [.ref a, .ty m] H Q := ⟨a, ys, m, q, rfl, y, e, h⟩
theorem rd_isiT {x : V} {m T : String} {q : Bool} (y : TyOf K H x (.type T)) (e : PySem.W.kitOne K (.type T) (.type m) = some q) (h : Q (.bl q) H) : rIsi K [x, .ty m] H Q := ⟨_, m, _, q, rfl, y, e, h⟩
end
end L2
set_option Elab.async false
set_option maxHeartbeats 4000000
set_option maxRecDepth 100000
namespace L2
open PySem PySem.Spec PyProof.Rows
theorem vals_pairs : ∀ l : List (Str × Tok), Vals ((l.map (·.1)).map V.str) (strValues l)
  | [] => .nil
  | (_, t) :: l => .cons ⟨t, rfl⟩ (vals_pairs l)
theorem texts_are : ∀ {ys : List Str} {us : List Value}, Vals (ys.map V.str) us → StrsAre us ys
  | [], _, .nil => .nil
  | y :: ys, _, .cons (b := u) ⟨t, e⟩ r => by
    cases e
    exact .cons y t (texts_are r)
section
variable {X : Cx}
def rSplit : V → List V → Hp → VK → Prop := fun x vs H Q => ∃ z y : Str, x = .str z ∧ vs = [.str y] ∧ y.length ≠ 0 ∧ z.length ≤ 100000 ∧ ∀ l, H l = none → Q (.ref l) (upd H l (.lst ((Txt.split z y).map V.str)))
theorem mt_split : MtM X "str.split" rSplit := by
  intro pins s σ H x vs v us Q I rx rv h
  obtain ⟨z, y, rfl, rfl, ny, nz, q⟩ := h
  obtain ⟨tz, rfl⟩ := rx
  obtain ⟨u, rfl, ty, rfl⟩ := rv.one
  have yne : (y.length == 0) = false := by simpa using ny
  have line : (100002 : Nat) ≤ sizeLine := by decide
  have few : (Txt.split z y).length ≤ sizeLine := by have := PyProof.Rows.split_le z y; omega
  have laid : ∀ (l : List (Str × Tok)) (k : Nat), l.map (·.1) = Txt.split z y → EP X pins σ Q (.ref s.heap.objs.size) { s with heap := s.heap.push { cls := .type "list", data := .seq (strValues l).toArray }, toks := k } := fun l k e => by
    have r := vals_pairs l
    rw [e] at r
    exact ⟨.ref s.heap.objs.size, _, I.lnew r (by rw [List.length_map]; exact few), rfl, q _ I.fresh⟩
  cases c1 : (decide (z.length < y.length) || decide (Builtin.Str.strKind z < Builtin.Str.strKind y)) with
  | true =>
    refine call_meets PySem.F.slot_str_split (typeIs_str s z tz) PySem.F.entry_str_split (PySem.F.args_str_split_2 _ _) (meets_str_split_cannot_occur z y tz ty c1) ?_
    exact laid [(z, tz)] s.toks (if_pos c1).symm
  | false =>
    cases c2 : (Builtin.Str.occurrences z y 0 z.length (z.length + 1)).isEmpty with
    | true =>
      refine call_meets PySem.F.slot_str_split (typeIs_str s z tz) PySem.F.entry_str_split (PySem.F.args_str_split_2 _ _) (meets_str_split_not_found z y tz ty c1 yne c2) ?_
      exact laid [(z, tz)] s.toks ((if_neg (ne_true_of_eq_false c1)).trans (if_pos c2)).symm
    | false =>
      have e : Txt.split z y = Builtin.Str.partsBetween z (Builtin.Str.occurrences z y 0 z.length (z.length + 1)) y.length := (if_neg (ne_true_of_eq_false c1)).trans (if_neg (ne_true_of_eq_false c2))
      refine call_meets PySem.F.slot_str_split (typeIs_str s z tz) PySem.F.entry_str_split (PySem.F.args_str_split_2 _ _) (meets_str_split_sep z y tz ty c1 yne c2 (by omega) (by rw [← e]; exact few)) ?_
      have := laid (numbered s.toks (Txt.split z y)) (s.toks + (Txt.split z y).length) (numbered_texts _ _)
      rw [← strsFrom_eq, e] at this
      exact this
def rJoin (K : PySem.W.Frag) : V → List V → Hp → VK → Prop := fun x vs H Q => ∃ (y : Str) (p : Addr) (ts : List Str), x = .str y ∧ vs = [.ref p] ∧ SqL K H p (ts.map V.str) ∧ (ts.map (·.length)).sum + ts.length * y.length ≤ 16777216 ∧ Q (.str (Str.join y ts)) H
theorem mt_join : MtM X "str.join" (rJoin X.K) := by
  intro pins s σ H x vs v us Q I rx rv h
  obtain ⟨y, p, ts, rfl, rfl, hp, hz, q⟩ := h
  obtain ⟨ty, rfl⟩ := rx
  obtain ⟨u, rfl, ru⟩ := rv.one
  cases (show u = Value.ref p from ru)
  obtain ⟨its, r, pl, _⟩ := I.list hp
  refine join_list pl.isList (texts_are r) hz fun t' k => ⟨.str (Str.join y ts), H, I.tok k, ⟨t', ?_⟩, q⟩
  show Value.str (Builtin.Str.glued y ts) t' = _
  rw [StrLaws.glued_eq_join]
def rStrip : V → List V → Hp → VK → Prop := fun x vs H Q => ∃ z y : Str, x = .str z ∧ vs = [.str y] ∧ z.length ≤ sizeLine ∧ Q (.str (Txt.stripChars z y)) H
theorem mt_strip : MtM X "str.strip" rStrip := by
  intro pins s σ H x vs v us Q I rx rv h
  obtain ⟨z, y, rfl, rfl, hz, q⟩ := h
  obtain ⟨tz, rfl⟩ := rx
  obtain ⟨u, rfl, ty, rfl⟩ := rv.one
  exact SC.stripChars (fun t' k => ⟨.str (Txt.stripChars z y), H, I.tok k, ⟨t', rfl⟩, q⟩) hz
def rIntS : List V → Hp → VK → Prop := fun xs H Q => ∃ (z : Str) (n : Int), xs = [.str z] ∧ PySem.intText? z = some n ∧ z.length ≤ 640 ∧ Q (.int n) H
theorem call_intS : CallR X (.type "int") rIntS := by
  intro pins s σ H xs us Q I r h
  obtain ⟨z, n, rfl, e, hz, q⟩ := h
  obtain ⟨u, rfl, t, rfl⟩ := vals1 r
  exact PySem.W.KIN.call_text e hz ⟨.int n, H, I.tok _, ⟨_, rfl⟩, q⟩
def rStrI : List V → Hp → VK → Prop := fun xs H Q => ∃ i, xs = [.int i] ∧ i.natAbs.log2 < 1920 ∧ Q (.str (toString i)) H
theorem call_strI : CallR X (.type "str") rStrI := call_str_int
def rMulS : R2 := fun x y H Q => ∃ (z : Str) (n : Int), x = .str z ∧ y = .int n ∧ 1 < n ∧ z.length = 1 ∧ n ≤ 100000 ∧ ∀ t : Str, t.length ≤ n.toNat → Q (.str t) H
theorem foldl_cat_size (a : Array Nat) : ∀ (k : Nat) (acc : Array Nat), ((List.replicate k a).foldl (· ++ ·) acc).size = acc.size + k * a.size
  | 0, acc => by simp
  | k + 1, acc => by
    rw [List.replicate_succ, List.foldl_cons, foldl_cat_size a k, Array.size_append, Nat.succ_mul]
    omega
theorem op_mulS : OpR X (binaryOp .Mult) rMulS := by
  intro pins s σ H x y v u Q I rx ry h
  obtain ⟨z, n, rfl, rfl, n1, z1, n2, q⟩ := h
  obtain ⟨t, rfl⟩ := rx
  obtain ⟨t', rfl⟩ := ry
  have lz : z.cps.size = 1 := z1
  refine PySem.P.mul_str (by rw [decide_eq_false (by omega), decide_eq_false (by omega)]; rfl) (fun _ _ => by
    rw [z1]
    have : (1 : Int) ≤ (2 ^ 63 - 1) / n := by
      rw [Int.le_ediv_iff_mul_le (by omega)]
      omega
    omega) (fun _ _ => by
    rw [z1]
    have line : (100002 : Nat) ≤ sizeLine := by decide
    unfold Builtin.Str.tooLong
    exact decide_eq_false (by omega)) ?_
  rw [if_neg (by omega), if_neg (by rw [z1]; simp; omega)]
  have len : (⟨(List.replicate n.toNat z.cps).foldl (· ++ ·) #[]⟩ : Str).length = n.toNat := by
    show ((List.replicate n.toNat z.cps).foldl (· ++ ·) #[]).size = n.toNat
    rw [foldl_cat_size, lz]
    simp
  refine ⟨by rw [len]; have line : (100002 : Nat) ≤ sizeLine := by decide
             omega, ⟨.str _, H, I.tok _, ⟨_, rfl⟩, q _ (by rw [len]; exact Nat.le_refl _)⟩⟩
def rSlS : V → Option Int → Option Int → Hp → VK → Prop := fun x _ _ H Q => ∃ z : Str, x = .str z ∧ z.length ≤ sizeLine ∧ ∀ t : Str, t.length ≤ z.length → Q (.str t) H
theorem part_pair {v : Value} {k : Option Int} (h : IsPart v k) : ∃ l : Option (Int × Tok), v = partValue l := by
  cases h with
  | none => exact ⟨none, rfl⟩
  | int i t => exact ⟨some (i, t), rfl⟩
theorem sl_str : SlR X rSlS := by
  intro pins s σ H x v vl vu lo hi sl Q I rx hs pl pu h
  obtain ⟨z, rfl, hz, q⟩ := h
  obtain ⟨t, rfl⟩ := rx
  obtain ⟨l, rfl⟩ := part_pair pl
  obtain ⟨u, rfl⟩ := part_pair pu
  refine ⟨"str", _, PySem.F.slot_str_getitem.lookup, typeIs_str s z t, ?_⟩
  refine wpAny_getItem_str_slice (l := l) (u := u) (st := none) hs rfl ?_
  exact post_val_or_str ⟨Nat.le_trans (Txt.slice_le z _ _) hz, fun t' k => ⟨.str _, H, I.tok k, ⟨t', rfl⟩, q _ (Txt.slice_le z _ _)⟩⟩
end
end L2
set_option Elab.async false
set_option maxHeartbeats 4000000
set_option maxRecDepth 100000
namespace L2
open PySem PySem.Spec PyProof.Rows
def Itx (x : Str) : It := ⟨fun i _ => i < x.length, fun i H v H' => H' = H ∧ ∃ c, x.cps[i]? = some c ∧ v = .str ⟨#[c]⟩, fun i _ => x.length ≤ i⟩
theorem turn_str {P : Program} {w : World} {K : PySem.W.Frag} {tg : Expr} (it : Addr) (x : Str) (ty : String) (t : Tok)
    (hn : ["enumerate", "zip", "dict_itemiterator", "dict_reverseitemiterator", "odict_iterator", "itertools.zip_longest", "itertools.pairwise"].contains ty = false)
    (W : ∀ A : Around, A.handled = none → Walks P w A it [it] [it] x.cps.size (SignAt x) (fun i h => h.IsStrIter it ty x t i))
    (dn : ∀ (A : Around) (i : Nat) (s : Shared) (Q : Option Value → Shared → Prop) (E : Value → Shared → Prop), A.handled = none → s.heap.IsStrIter it ty x t i → x.cps[i]? = none → (∀ h', Heap.ExtBut it s.heap h' → Q none { s with heap := h' }) → wpAny (model P w) A (pyNext (.ref it)) Q E s)
    (sf : ∀ (A : Around) (i : Nat) (s : Shared) (Q E : Value → Shared → Prop), s.heap.IsStrIter it ty x t i → Q (.ref it) s → wpAny (model P w) A (pyIter (.ref it)) Q E s) : Turn P w K tg (Itx x) [it] it (fun i h => h.IsStrIter it ty x t i) where
  mem := by simp
  obj := fun i h st b hb => by
    have e : b = it := by simpa using hb
    subst e
    obtain ⟨o, e, _, d⟩ := st
    exact ⟨o, e, fun v z => by rw [d] at z; cases z⟩
  keep := fun i h h' st k => by
    obtain ⟨o, e, r⟩ := st
    exact ⟨o, k it (by simp) o e, r⟩
  item := by
    intro X hP hw hK hc i pins s σ H E I hf st hg
    subst hP hw hK
    obtain ⟨f0, f1, f2, f3, f4, f5⟩ := hf it (by simp)
    refine (W X.A (I.ok.hd hc)).item i s _ _ hg st fun v h' tk hv st' kk => ?_
    obtain ⟨c, u, hx, rfl⟩ := hv
    have I1 : Inv X pins σ H { s with heap := h', toks := tk } := I.turned (fun b o hb e => kk b o (by simpa using hb) e) f0 f1 f3 f4 f5
    obtain ⟨o, e, oc, od⟩ := id st'
    exact ⟨_, rfl, go_of (s := { s with heap := h', toks := tk }) e oc od hn ⟨.str ⟨#[c]⟩, H, I1, ⟨u, rfl⟩, ⟨rfl, c, hx, rfl⟩, st', fun b hb => (hf b hb).1⟩⟩
  done := by
    intro X hP hw hK hc i pins s σ H E I hf st hg
    subst hP hw hK
    obtain ⟨f0, f1, f2, f3, f4, f5⟩ := hf it (by simp)
    have hg : x.cps.size ≤ i := hg
    exact dn X.A i s _ E (I.ok.hd hc) st (Array.getElem?_eq_none hg) fun h' eb => ⟨rfl, I.turned (t' := s.toks) (fun b o hb e => eb b o hb e) f0 f1 f3 f4 f5⟩
  self := fun A i s Q E st hQ => sf A i s Q E st hQ
section
variable {X : Cx} {tg : Expr}
def iStr (tl : TE) : TI := fun σ H R => tl σ H fun v H1 => ∃ x : Str, v = .str x ∧ R (Itx x) H1
theorem pi_str {l : Expr} {tl : TE} (hl : PE X l tl) : PI X tg l (iStr tl) := by
  intro pins s σ H R I h
  refine thn (hl pins s σ H _ I h) fun v s1 ⟨y, H1, I1, r1, q1⟩ => ?_
  obtain ⟨x, rfl, q⟩ := q1
  obtain ⟨t, rfl⟩ := r1
  have I2 : ∀ o : Obj, Inv X pins σ H1 { s1 with heap := s1.heap.push o } := fun o => I1.kept (t' := s1.toks) fun b ob e => Heap.get?_push_of_some _ e
  have fp : ∀ o : Obj, ∀ b ∈ [s1.heap.objs.size], FpOk X pins H1 b := fun o b hb => by
    have e : b = s1.heap.objs.size := by simpa using hb
    subst e
    exact I1.fpOk (Nat.le_refl _) (I1.hok.fresh (Nat.le_refl _))
  cases ha : x.cps.all (· < 128) with
  | true =>
    refine wpAny_pyIter_ascii ha ⟨s1.heap.objs.size, [s1.heap.objs.size], _, Itx x, H1, rfl, I2 _, turn_str _ x "str_ascii_iterator" t (by decide) (fun A hA => Walks.strAscii hA _ x t) (fun A i s Q E hA st hx hq => wpAny_pyNext_ascii_end hA st hx hq) (fun A i s Q E st hq => wpAny_pyIter_striter_ascii st hq), ?_, fp default, q⟩
    exact ⟨_, Heap.get?_push_size _ rfl, rfl, rfl⟩
  | false =>
    refine wpAny_pyIter_wide ha ⟨s1.heap.objs.size, [s1.heap.objs.size], _, Itx x, H1, rfl, I2 _, turn_str _ x "str_iterator" t (by decide) (fun A hA => Walks.strWide hA _ x t) (fun A i s Q E hA st hx hq => wpAny_pyNext_wide_end hA st hx hq) (fun A i s Q E st hq => wpAny_pyIter_striter_wide st hq), ?_, fp default, q⟩
    exact ⟨_, Heap.get?_push_size _ rfl, rfl, rfl⟩
def rEq0 (K : PySem.W.Frag) : R2 := fun x y H Q => ∃ (p q : Addr) (xs : List V), x = .ref p ∧ y = .ref q ∧ SqL K H p xs ∧ SqL K H q [] ∧ Q (.bl (decide (xs = []))) H
theorem op_eq0 (hu : X.A.units < cLine) : OpR X (compareOp .Eq) (rEq0 X.K) := by
  intro pins s σ H x y v u Q I rx ry h
  obtain ⟨p, q, xs, rfl, rfl, hp, hq, k⟩ := h
  cases (show v = Value.ref p from rx)
  cases (show u = Value.ref q from ry)
  obtain ⟨its, r, pl, _⟩ := I.list hp
  obtain ⟨its', r', pl', _⟩ := I.list hq
  cases r'.zero
  have l1 := r.length
  cases xs with
  | nil =>
    cases r.zero
    refine SeqAt.eq_listAt (e := fun _ => true) pl.isList pl'.isList rfl hu (fun j h1 => absurd h1 (by simp)) ⟨.bl _, H, I, rfl, ?_⟩
    rw [decide_eq_true rfl] at k
    exact k
  | cons y ys =>
    refine SeqAt.eq_list_lengthsAt pl.isList pl'.isList (by simp only [List.size_toArray, bne_iff_ne, ← l1]; simp) hu ⟨.bl _, H, I, rfl, ?_⟩
    rw [decide_eq_false (by intro z; cases z)] at k
    exact k
theorem same_all {n : Nat} : ((List.range n).all fun _ => true) = true := by simp
def rNeTT (K : PySem.W.Frag) : R2 := fun x y H Q => ∃ p q xs ys, x = .ref p ∧ y = .ref q ∧ SqT K H p xs ∧ SqT K H q ys ∧ SameInts K H xs ys ∧ Q (.bl false) H
def rEqTT (K : PySem.W.Frag) : R2 := fun x y H Q => ∃ p q xs ys, x = .ref p ∧ y = .ref q ∧ SqT K H p xs ∧ SqT K H q ys ∧ SameInts K H xs ys ∧ Q (.bl true) H
theorem op_neTT (hu : X.A.units + 1 < cLine) : OpR X (compareOp .NotEq) (rNeTT X.K) := by
  intro pins s σ H x y v u Q I rx ry h
  obtain ⟨p, q, xs, ys, rfl, rfl, hp, hq, hs, k⟩ := h
  cases (show v = Value.ref p from rx)
  cases (show u = Value.ref q from ry)
  obtain ⟨its, r, pl, _⟩ := I.tuple hp
  obtain ⟨its', r', pl', _⟩ := I.tuple hq
  obtain ⟨l, z⟩ := same_eqAt (A := X.A.in1) (by rw [Around.in1_units]; exact hu) I hs r r'
  refine SeqAt.RcNeAt.tuples (e := fun _ => true) pl pl' (by omega) (fun j h1 h2 => z j _ _ (by simp) (by simp)) X.prog X.w X.xe _ ⟨.bl _, H, I, rfl, ?_⟩
  rw [same_all, Bool.true_and, show (its.toArray.size == its'.toArray.size) = true by simpa using l]
  exact k
theorem op_eqTT (hu : X.A.units + 1 < cLine) : OpR X (compareOp .Eq) (rEqTT X.K) := by
  intro pins s σ H x y v u Q I rx ry h
  obtain ⟨p, q, xs, ys, rfl, rfl, hp, hq, hs, k⟩ := h
  cases (show v = Value.ref p from rx)
  cases (show u = Value.ref q from ry)
  obtain ⟨its, r, pl, _⟩ := I.tuple hp
  obtain ⟨its', r', pl', _⟩ := I.tuple hq
  obtain ⟨l, z⟩ := same_eqAt (A := X.A.in1) (by rw [Around.in1_units]; exact hu) I hs r r'
  refine SeqAt.eq_tupleAt (e := fun _ => true) pl pl' (by omega) (fun j h1 h2 => z j _ _ (by simp) (by simp)) ⟨.bl _, H, I, rfl, ?_⟩
  rw [same_all, Bool.true_and, show (its.toArray.size == its'.toArray.size) = true by simpa using l]
  exact k
def rNotInS : R2 := fun x y H Q => ∃ (c : Nat) (j : Str), x = .str ⟨#[c]⟩ ∧ y = .str j ∧ Q (.bl (!decide (c ∈ j.cps.toList))) H
theorem op_notInS : OpR X (compareOp .NotIn) rNotInS := by
  intro pins s σ H x y v u Q I rx ry h
  obtain ⟨c, j, rfl, rfl, q⟩ := h
  refine op_notIn_str pins s σ H (.str ⟨#[c]⟩) (.str j) v u Q I rx ry ⟨_, _, rfl, rfl, ?_⟩
  rw [StrLaws.found_one]
  exact q
end
end L2
set_option Elab.async false
set_option maxHeartbeats 4000000
set_option maxRecDepth 100000
namespace L2
open PySem PySem.Spec PyProof.Rows
theorem entry_unchain : entryFor table "proto.unchain" = some Builtin.«proto.unchain» := entryFor_of_fast (by kernel_rfl)
section
variable {prog : Program} {w : World} {A : Around} {E : Value → Shared → Prop} {s : Shared}
theorem raise_behind {α : Type} {a x : Addr} {oa ox : Obj} {va vx : Array Value} {Q : α → Shared → Prop} (hh : A.handled = some (.ref x)) (ne : x ≠ a) (ga : s.heap.get? a = some oa) (da : oa.data = .fields va) (sa : 2 < va.size)
    (gx : s.heap.get? x = some ox) (dx : ox.data = .fields vx) (nx : vx[2]? = some .none) (k : E (.ref a) { s with heap := s.heap.update a (Obj.mapFields (·.setIfInBounds 2 (.ref x))) }) : wpAny (model prog w) A (raiseNew (.ref a) : Sem α) Q E s := by
  unfold raiseNew
  refine wpAny_bind (wpAny_handled ?_)
  rw [hh]
  dsimp only
  rw [if_pos (show (Value.ref x != Value.ref a) = true by simpa using ne)]
  refine wpAny_bind (wpAny_holding (wpAny_runValue (codeAny_builtin entry_unchain ?_)))
  unfold Builtin.«proto.unchain»
  dsimp only
  refine wpAny_bind (wpAny_field gx dx nx ?_)
  rw [if_pos (by rfl)]
  refine wpAny_bind (wpAny_pure ?_)
  refine wpAny_pure ?_
  show wpAny _ _ (updateField a 2 (.ref x) >>= fun _ => throw (.ref a)) _ _ s
  refine wpAny_bind ?_
  unfold updateField
  refine wpAny_bind (wpAny_load ga ?_)
  rw [da]
  dsimp only
  rw [if_pos sa]
  exact wpAny_update ga (wpAny_throw k)
theorem list_endH {it l x : Addr} {i : Nat} {items : Array Value} {ox : Obj} {vx : Array Value} {Q : Option Value → Shared → Prop} (hh : A.handled = some (.ref x)) (hit : s.heap.IsListIter it l i) (hl : s.heap.IsList l items) (hx : items[i]? = none) (nx : x ≠ it)
    (gx : s.heap.get? x = some ox) (dx : ox.data = .fields vx) (n2 : vx[2]? = some .none) (k : ∀ h', Heap.ExtBut it s.heap h' → Q none { s with heap := h' }) : wpAny (model prog w) A (pyNext (.ref it)) Q E s := by
  obtain ⟨o, go, oc, od⟩ := id hit
  obtain ⟨ol, gl, _, n, dl⟩ := hl
  unfold pyNext
  refine wpAny_bind (wpAny_attempt (wpAny_callSpecial?_slot (name := Str.ofString "__next__") hit.typeIs slot_listiter_next (wpAny_call_entry slot_listiter_next hit.typeIs entry_listiter_next ?_ (args_listiter_next _))))
  show wpAny _ _ (field (.ref it) 0 >>= _) _ _ s
  refine wpAny_bind (wpAny_field go od (x := .ref l) rfl ?_)
  show wpAny _ _ (if (Value.ref l == Value.none) = true then _ else _) _ _ s
  rw [if_neg (fun z => Bool.noConfusion (show false = true from z) : ¬ ((Value.ref l == Value.none) = true))]
  show wpAny _ _ (field (.ref it) 1 >>= _) _ _ s
  refine wpAny_bind (wpAny_field go od (x := .int i 0) rfl ?_)
  show wpAny _ _ (seqItems? (.ref l) >>= _) _ _ s
  refine wpAny_bind (wpAny_seqItems gl dl ?_)
  simp only [Int.toNat_natCast, hx]
  refine wpAny_bind (wpAny_rule (wpAny_bind (wpAny_setField go od (by simp) ?_)))
  show wpAny _ _ (newExc (.type "StopIteration") [] >>= _) _ _ _
  refine wpAny_bind ?_
  simp only [newExc, newTuple]
  refine wpAny_bind (wpAny_newObj_type ?_ (by size_fits))
  refine wpAny_bind (m := firstArgMember _ _) (wpAny_of_eq (a := Value.none) (by first | rfl | (simp only [firstArgMember]; rfl)) ?_)
  refine wpAny_newObj_type ?_ (by size_fits)
  have keep : ∀ b u, b ≠ it → s.heap.get? b = some u → (s.heap.update it (Obj.mapFields fun y => y.setIfInBounds 0 Value.none)).get? b = some u := fun b u nb q => (Heap.get?_update_other _ _ nb.symm).trans q
  generalize s.heap.update it (Obj.mapFields fun y => y.setIfInBounds 0 Value.none) = h1 at keep
  dsimp only
  have two : ∀ (oa : Obj) b u, b ≠ it → s.heap.get? b = some u → ((h1.push { cls := Value.type "tuple", data := Data.seq #[] }).push oa).get? b = some u := fun oa b u nb q => Heap.get?_push_of_some _ (Heap.get?_push_of_some _ (keep b u nb q))
  have old : ∀ b u, b ≠ it → s.heap.get? b = some u → b ≠ (h1.push { cls := Value.type "tuple", data := Data.seq #[] }).objs.size := fun b u nb q => Nat.ne_of_lt (Heap.lt_size (Heap.get?_push_of_some _ (keep b u nb q)))
  refine raise_behind (A := A.in1) (x := x) hh (old x ox nx gx) (Heap.get?_push_size _ rfl) rfl (by rw [Array.size_append]; show 2 < 6 + _; omega) (two _ x ox nx gx) dx n2 ?_
  refine wpAny_bind (wpAny_isInstance (T := "StopIteration") (b := true) ⟨_, Heap.get?_update_self _ (Heap.get?_push_size _ rfl) (Obj.isFreed_of_fields (Obj.data_mapFields rfl _)), Obj.cls_mapFields ..⟩ isSubtype_stop ?_)
  refine wpAny_pure (k _ fun b u nb q => ?_)
  exact (Heap.get?_update_other _ _ (old b u nb q).symm).trans (two _ b u nb q)
theorem walks_listH {x : Addr} (hh : A.handled = some (.ref x)) (I ax : Addr) (ne : ax ≠ I) (nx : x ≠ I) (items : Array Value) :
    Walks prog w A I [I, ax, x] [I] items.size (fun i v => items[i]? = some v) (fun i h => h.IsListIter I ax i ∧ h.IsList ax items ∧ Alone h x) where
  sub := fun b hb => by simp at hb; simp [hb]
  frame := fun i h h' st k => ⟨st.1.at fun o e => k I (by simp) o e, st.2.1.at fun o e => k ax (by simp) o e, by
    obtain ⟨o, vs, g, r⟩ := st.2.2
    exact ⟨o, vs, k x (by simp) o g, r⟩⟩
  item := fun i s Q E hi st hQ => by
    refine wpAny_pyNext_list_item st.1 st.2.1 (x := items[i]) (by simp [hi]) fun h' st' sb => ?_
    refine hQ _ h' s.toks (by simp [hi]) ⟨st', st.2.1.extBut sb.extBut ne, ?_⟩ fun b o hb e => sb.extBut b o (fun z => hb (by simp [z])) e
    obtain ⟨o, vs, g, r⟩ := st.2.2
    exact ⟨o, vs, sb.extBut x o nx g, r⟩
  done := fun s Q E st hQ => by
    obtain ⟨o, vs, g, d, n2⟩ := st.2.2
    exact list_endH hh st.1 st.2.1 (by simp) nx g d n2 fun h' eb => hQ h' s.toks fun b o hb e => eb b o (fun z => hb (by simp [z])) e
  self := fun _ _ _ _ st hQ => wpAny_pyIter_listiter st.1 hQ
end
section
variable {X : Cx}
def rAnyH (x : Addr) (K : PySem.W.Frag) : List V → Hp → VK → Prop := fun xs H Q => ∃ (p C : Addr) (bs : List Bool), xs = [.ref p] ∧ SqL K H p (bs.map V.bl) ∧ H x = some (excO x C) ∧ Q (.bl (bs.any id)) H
theorem call_anyH {x : Addr} (hh : X.A.handled = some (.ref x)) : CallR X (.builtin "any") (rAnyH x X.K) := by
  intro pins s σ H xs us Q I r h
  obtain ⟨p, C, bs, rfl, hq, hx, q⟩ := h
  obtain ⟨u, rfl, rx⟩ := vals1 r
  cases (show u = Value.ref p from rx)
  obtain ⟨its, r', pl, hz⟩ := I.list hq
  have hb := bools_at r'
  subst hb
  have hl : s.heap.IsList p (bs.map Value.bool).toArray := pl.isList
  obtain ⟨o, vs, gx, _, dx, n2⟩ : ExcAt x C s.heap := (I.hok x _ hx).1
  refine call_any_walk (wpAny_pyIter_list hl ?_)
  have hne : p ≠ s.heap.objs.size := by
    obtain ⟨_, e, _⟩ := hl
    exact Nat.ne_of_lt (Heap.lt_size e)
  refine ⟨_, _, _, _, _, _, fun i => bs.getD i false, rfl, walks_listH (A := X.A.in1) (x := x) hh s.heap.objs.size p hne (Nat.ne_of_lt (Heap.lt_size gx)) (bs.map Value.bool).toArray, ⟨⟨_, Heap.get?_push_size _ rfl, rfl, rfl⟩, hl.at fun o e => Heap.get?_push_of_some _ e, o, vs, Heap.get?_push_of_some _ gx, dx, n2⟩, ?_, fun h' tk hk => ?_⟩
  · intro i v s' Q' E' hP hQ'
    have e : bs[i]?.map Value.bool = some v := by simpa using hP
    cases e1 : bs[i]? with
    | none => rw [e1] at e; cases e
    | some b =>
      rw [e1] at e
      cases e
      refine wpAny_truthy_bool ?_
      have : bs.getD i false = b := by simp [List.getD, e1]
      rw [← this]; exact hQ'
  · have e : ((List.range (bs.map Value.bool).toArray.size).any fun i => bs.getD i false) = bs.any id := by
      simp only [List.size_toArray, List.length_map]
      rw [Bool.eq_iff_iff]
      simp only [List.any_eq_true, List.mem_range, id]
      constructor
      · rintro ⟨i, hi, h⟩
        refine ⟨_, ?_, h⟩
        simp [List.getD, List.getElem?_eq_getElem hi]
      · rintro ⟨b, hb, h⟩
        obtain ⟨i, hi, rfl⟩ := List.mem_iff_getElem.mp hb
        exact ⟨i, hi, by simpa [List.getD, List.getElem?_eq_getElem hi] using h⟩
    rw [e]
    refine ⟨.bl (bs.any id), H, I.kept (h' := h') (t' := tk) (fun b o x => hk b o (fun z => ?_) (Heap.get?_push_of_some _ x)), rfl, q⟩
    have : b = s.heap.objs.size := by simpa using z
    exact absurd (this ▸ Heap.lt_size x) (Nat.lt_irrefl _)
end
end L2
set_option Elab.async false
set_option maxHeartbeats 4000000
set_option maxRecDepth 100000
namespace L2
open PySem PySem.Spec PyProof.Rows
theorem big {n : Nat} (h : n ≤ 100000) : n < sizeLine := Nat.lt_of_le_of_lt h (by decide)
theorem bigE {n : Nat} (h : n ≤ 100000) : n ≤ sizeLine := Nat.le_of_lt (big h)
def rLenT : List V → Hp → VK → Prop := fun xs H Q => ∃ z, xs = [.str z] ∧ z.length ≤ sizeLine ∧ Q (.int z.length) H
theorem call_lenT {X : Cx} : CallR X (.builtin "len") rLenT := call_len_str
def rAddS : R2 := fun x y H Q => ∃ i j, x = .str i ∧ y = .str j ∧ i.length + j.length ≤ sizeLine ∧ Q (.str (i ++ j)) H
theorem op_addS {X : Cx} : OpR X (binaryOp .Add) rAddS := op_add_str
def rIsN : R2 := fun x y H Q => y = .non ∧ Q (.bl (decide (x = .non))) H
theorem op_isN' {X : Cx} : OpR X (compareOp .Is) rIsN := op_isN
section
variable {K : PySem.W.Frag} {σ : St} {H : Hp} {Q : VK} {te ta tb : TE} {tx : TA} {n b c : St → Hp → Prop} {r : VK} {g : TG} {ts : TS}
theorem rd_lenS {z : Str} (hz : z.length ≤ sizeLine) (h : Q (.int z.length) H) : rLenT [.str z] H Q := ⟨z, rfl, hz, h⟩
theorem rd_eqS {i j : Str} (h : Q (.bl (decide (i = j))) H) : rEq (.str i) (.str j) H Q := ⟨rfl, by
  have e : decide (V.str i = V.str j) = decide (i = j) := decide_eq_decide.mpr ⟨fun z => V.str.inj z, fun z => by rw [z]⟩
  rw [e]; exact h⟩
theorem rd_neS {i j : Str} (h : Q (.bl (!decide (i = j))) H) : rNe (.str i) (.str j) H Q := ⟨rfl, by
  have e : decide (V.str i = V.str j) = decide (i = j) := decide_eq_decide.mpr ⟨fun z => V.str.inj z, fun z => by rw [z]⟩
  rw [e]; exact h⟩
theorem rd_split {z y : Str} (ny : y.length ≠ 0) (nz : z.length ≤ 100000) (h : ∀ l, H l = none → Q (.ref l) (upd H l (.lst ((Txt.split z y).map V.str)))) : rSplit (.str z) [.str y] H Q := ⟨z, y, rfl, rfl, ny, nz, h⟩
theorem rd_joinS {y : Str} {p : Addr} {ts : List Str} (e : SqL K H p (ts.map V.str)) (hz : (ts.map (·.length)).sum + ts.length * y.length ≤ 16777216) (h : Q (.str (Str.join y ts)) H) : rJoin K (.str y) [.ref p] H Q := ⟨y, p, ts, rfl, rfl, e, hz, h⟩
theorem rd_strip {z y : Str} (hz : z.length ≤ sizeLine) (h : Q (.str (Txt.stripChars z y)) H) : rStrip (.str z) [.str y] H Q := ⟨z, y, rfl, rfl, hz, h⟩
theorem rd_intS {z : Str} {m : Int} (e : PySem.intText? z = some m) (hz : z.length ≤ 640) (h : Q (.int m) H) : rIntS [.str z] H Q := ⟨z, m, rfl, e, hz, h⟩
theorem rd_strI {i : Int} (hi : i.natAbs.log2 < 1920) (h : Q (.str (toString i)) H) : rStrI [.int i] H Q := ⟨i, rfl, hi, h⟩
theorem rd_mulS {z : Str} {m : Int} (h1 : 1 < m) (h2 : z.length = 1) (h3 : m ≤ 100000) (h : ∀ t : Str, t.length ≤ m.toNat → Q (.str t) H) : rMulS (.str z) (.int m) H Q := ⟨z, m, rfl, rfl, h1, h2, h3, h⟩
theorem rd_slS {z : Str} {lo hi : Option Int} (hz : z.length ≤ sizeLine) (h : ∀ t : Str, t.length ≤ z.length → Q (.str t) H) : rSlS (.str z) lo hi H Q := ⟨z, rfl, hz, h⟩
theorem rd_addS {i j : Str} (hz : i.length + j.length ≤ sizeLine) (h : Q (.str (i ++ j)) H) : rAddS (.str i) (.str j) H Q := ⟨i, j, rfl, rfl, hz, h⟩
theorem rd_ixS {z : Str} {i : Int} {d : Nat} (hz : z.length ≤ sizeLine) (a : atI z.cps.toList i = some d) (h : Q (.str ⟨#[d]⟩) H) : rIxS (.str z) (.int i) H Q := ⟨z, i, d, rfl, rfl, hz, a, h⟩
theorem rd_notInS {d : Nat} {j : Str} (h : Q (.bl (!decide (d ∈ j.cps.toList))) H) : rNotInS (.str ⟨#[d]⟩) (.str j) H Q := ⟨d, j, rfl, rfl, h⟩
theorem rd_isN {x : V} (h : Q (.bl (decide (x = .non))) H) : rIsN x .non H Q := ⟨rfl, h⟩
theorem rd_eq0 {p q : Addr} {xs : List V} (e : SqL K H p xs) (e' : SqL K H q []) (h : Q (.bl (decide (xs = []))) H) : rEq0 K (.ref p) (.ref q) H Q := ⟨p, q, xs, rfl, rfl, e, e', h⟩
theorem rd_neTT {p q : Addr} {xs ys : List V} (e : SqT K H p xs) (e' : SqT K H q ys) (s : SameInts K H xs ys) (h : Q (.bl false) H) : rNeTT K (.ref p) (.ref q) H Q := ⟨p, q, xs, ys, rfl, rfl, e, e', s, h⟩
theorem rd_eqTT {p q : Addr} {xs ys : List V} (e : SqT K H p xs) (e' : SqT K H q ys) (s : SameInts K H xs ys) (h : Q (.bl true) H) : rEqTT K (.ref p) (.ref q) H Q := ⟨p, q, xs, ys, rfl, rfl, e, e', s, h⟩
theorem rd_neLL {p q : Addr} {xs ys : List V} (e : SqL K H p xs) (e' : SqL K H q ys) (s : SameInts K H xs ys) (h : Q (.bl false) H) : rNeLL K (.ref p) (.ref q) H Q := ⟨p, q, xs, ys, rfl, rfl, e, e', s, h⟩
theorem rd_extend {l m : Addr} {xs zs : List V} (e : H l = some (.lst xs)) (e' : H m = some (.lst zs)) (hz : xs.length + zs.length ≤ sizeLine) (h : Q .non (upd H l (.lst (xs ++ zs)))) : rExtend (.ref l) [.ref m] H Q := ⟨l, m, xs, zs, rfl, rfl, e, e', hz, h⟩
theorem rd_anyH {x p C : Addr} {bs : List Bool} (e : SqL K H p (bs.map V.bl)) (hx : H x = some (excO x C)) (h : Q (.bl (bs.any id)) H) : rAnyH x K [.ref p] H Q := ⟨p, C, bs, rfl, e, hx, h⟩
theorem rd_iStr {R : It → Hp → Prop} (h : te σ H fun v H1 => ∃ x : Str, v = .str x ∧ R (Itx x) H1) : iStr te σ H R := h
theorem for_strF {x : Str} (Pv : Nat → St → Hp → Prop) (h0 : Pv 0 σ H)
    (hs : ∀ i d σ H, x.cps.toList[i]? = some d → Pv i σ H → g (.str ⟨#[d]⟩) σ H fun σ2 H2 => ts (Ends.mk (Pv (i + 1)) r n (Pv (i + 1))) σ2 H2) (hd : ∀ σ H, Pv x.length σ H → n σ H) :
    ∃ W : Nat → Nat → St → Hp → Prop, (∃ m, W 0 m σ H) ∧ ∀ i m σ H, W i m σ H →
      ((Itx x).stop i H ∧ n σ H) ∨ ((Itx x).go i H ∧ ∃ N : St → Hp → Prop, (∀ σ' H', N σ' H' → ∃ m', m' < m ∧ W (i + 1) m' σ' H') ∧ ∀ v H', (Itx x).yld i H v H' → g v σ H' fun σ2 H2 => ts (Ends.mk N r n N) σ2 H2) := by
  refine ⟨fun i m σ H => m = x.length - i ∧ i ≤ x.length ∧ Pv i σ H, ⟨x.length, by simp, Nat.zero_le _, h0⟩, ?_⟩
  rintro i m σ H ⟨rfl, hi, p⟩
  by_cases hlt : i < x.length
  · refine .inr ⟨hlt, Pv (i + 1), fun σ' H' p' => ⟨x.length - (i + 1), by omega, rfl, hlt, p'⟩, fun v H' y => ?_⟩
    obtain ⟨e, d, hx, rfl⟩ := y
    subst e
    exact hs i d σ _ (by simpa using hx) p
  · have e : i = x.length := by omega
    subst e
    exact .inl ⟨Nat.le_refl _, hd σ H p⟩
theorem rd_inV {p : Addr} {xs : List V} {x : V} (e : SqL K H p xs) (fx : flatV x = true) (fs : xs.all flatV = true) (h : Q (.bl (inV x xs)) H) : rIn K false x (.ref p) H Q := ⟨p, xs, rfl, .inl e, fx, fs, h⟩
theorem comp_listB {a : Addr} {xs : List V} {fs : St} {D : Addr} {R : Hp → Prop} (G : V → V) (hS : SqL K H a xs) (hD : H D = none) (hl : xs.length ≤ 100000)
    (he : ∀ (i : Nat) (x : V) (H' : Hp) (Q : VK), xs[i]? = some x → Same H H' → Q (G x) H' → te (some x :: fs) H' Q) (hR : R (upd H D (.lst (xs.map G)))) :
    tCompTurn (Itl K a) (fun _ H Q => Q true H) te fs D R H := by
  have sn : ∀ o, Same H (upd H D o) := fun o b u q => by rw [upd_ne (ne_of_none q hD)]; exact q
  refine ⟨fun i m acc H' => i ≤ xs.length ∧ m = xs.length - i ∧ acc = (xs.take i).map G ∧ H' = upd H D (.lst acc), ⟨_, Nat.zero_le _, rfl, rfl, rfl⟩, ?_⟩
  rintro i m acc H' ⟨h1, rfl, rfl, rfl⟩
  refine ⟨upd_same, ?_⟩
  have q : SqL K (upd H D (.lst ((xs.take i).map G))) a xs := (sn _).seq hS
  by_cases hi : i < xs.length
  · refine .inr ⟨⟨xs, xs[i], q, by simp [hi]⟩, fun y H2 hy => ?_⟩
    obtain ⟨e, hy⟩ := hy
    subst e
    have hy := hy xs q
    refine iteT ?_
    refine he i y _ _ hy (sn _) ⟨upd_same, ?_, xs.length - (i + 1), by omega, hi, rfl, ?_, upd_upd⟩
    · rw [List.length_map, List.length_take]
      exact big (by omega)
    · rw [List.take_succ, hy, List.map_append]
      rfl
  · have e : i = xs.length := by omega
    subst e
    refine .inl ⟨⟨xs, q, Nat.le_refl _⟩, ?_⟩
    rw [List.take_length]
    exact hR
theorem comp_rangeT {lo : Nat} {k : Nat} {fs : St} {D : Addr} {R : Hp → Prop} {tt : TT} (hD : H D = none) (hk : k ≤ 100000)
    (ht : ∀ (i : Nat) (H' : Hp) (QB : Bool → Hp → Prop), i < k → Same H H' → (∀ bb H'', Same H' H'' → QB bb H'') → tt (some (.int ((lo + i : Nat) : Int)) :: fs) H' QB)
    (he : ∀ (i : Nat) (H' : Hp) (Q : VK), i < k → Same H H' → Q (.int ((lo + i : Nat) : Int)) H' → te (some (.int ((lo + i : Nat) : Int)) :: fs) H' Q)
    (hR : ∀ (H' : Hp) (js : List Nat), Same H H' → H' D = some (.lst (js.map fun j : Nat => V.int (j : Int))) → js.Pairwise (· < ·) → (∀ j ∈ js, lo ≤ j ∧ j < lo + k) → R H') : tCompTurn (Itr (lo : Int) k) tt te fs D R H := by
  have sn : ∀ (o : HO) (H2 : Hp), Same H H2 → Same H (upd H2 D o) := fun o H2 s b u q => by rw [upd_ne (ne_of_none q hD)]; exact s b u q
  refine ⟨fun i m acc H' => i ≤ k ∧ m = k - i ∧ Same H H' ∧ H' D = some (.lst acc) ∧ ∃ js : List Nat, acc = js.map (fun j : Nat => V.int (j : Int)) ∧ js.length ≤ i ∧ js.Pairwise (· < ·) ∧ ∀ j ∈ js, lo ≤ j ∧ j < lo + i, ⟨_, Nat.zero_le _, rfl, sn _ _ (Same.refl H), upd_same, [], rfl, Nat.le_refl _, .nil, fun j hj => by cases hj⟩, ?_⟩
  rintro i m acc H' ⟨h1, rfl, s, hd, js, rfl, jl, jp, jm⟩
  refine ⟨hd, ?_⟩
  by_cases hi : i < k
  · refine .inr ⟨hi, fun y H2 hy => ?_⟩
    obtain ⟨e, ey⟩ := hy
    subst e ey
    rw [show (lo : Int) + (i : Nat) = ((lo + i : Nat) : Int) by omega]
    refine ht i H2 _ hi s fun bb H3 s3 => ?_
    have d3 := s3 _ _ hd
    cases bb with
    | true =>
      refine iteT ?_
      refine he i H3 _ hi (s.trans s3) ⟨d3, ?_, k - (i + 1), by omega, hi, rfl, sn _ _ (s.trans s3), upd_same, js ++ [lo + i], ?_, ?_, ?_, fun j hj => ?_⟩
      · rw [List.length_map]
        exact big (by omega)
      · rw [List.map_append]
        rfl
      · rw [List.length_append]
        show js.length + 1 ≤ i + 1
        omega
      · rw [List.pairwise_append]
        refine ⟨jp, by simp, fun a ha b hb => ?_⟩
        rw [List.mem_singleton.mp hb]
        exact (jm a ha).2
      · rcases List.mem_append.mp hj with z | z
        · have := jm j z
          omega
        · have := List.mem_singleton.mp z
          omega
    | false =>
      refine iteF ?_
      exact ⟨k - (i + 1), by omega, hi, rfl, s.trans s3, d3, js, rfl, by omega, jp, fun j hj => by have := jm j hj; omega⟩
  · have e : i = k := by omega
    subst e
    exact .inl ⟨Nat.le_refl _, hR H' js s hd jp jm⟩
end
end L2
namespace Mine
def partsFrom (row : List Int) : Nat → Int → List Nat → List Int
  | p, s, [] => [s + (row.drop p).sum]
  | p, s, c :: cs => (s + ((row.drop p).take (c - p)).sum) :: partsFrom row c 0 cs
def Rising : Nat → Nat → List Nat → Prop
  | _, _, [] => True
  | lo, n, c :: cs => lo ≤ c ∧ c < n ∧ Rising (c + 1) n cs
theorem Rising.mono {n : Nat} : ∀ {lo lo' : Nat} {cs : List Nat}, Rising lo n cs → lo' ≤ lo → Rising lo' n cs
  | _, _, [], _, _ => trivial
  | _, _, _ :: _, ⟨h1, h2, h3⟩, h => ⟨Nat.le_trans h h1, h2, h3⟩
theorem Rising.mem {n : Nat} : ∀ {lo : Nat} {cs : List Nat}, Rising lo n cs → ∀ c ∈ cs, lo ≤ c ∧ c < n
  | _, [], _, c, h => by cases h
  | lo, d :: cs, ⟨h1, h2, h3⟩, c, h => by
    rcases List.mem_cons.mp h with rfl | h
    · exact ⟨h1, h2⟩
    · have := Rising.mem h3 c h
      exact ⟨by omega, this.2⟩
theorem Rising.len {n : Nat} : ∀ {lo : Nat} {cs : List Nat}, Rising lo n cs → lo ≤ n → cs.length + lo ≤ n
  | _, [], _, h => by simpa using h
  | lo, d :: cs, ⟨h1, h2, h3⟩, _ => by
    have := Rising.len h3 (by omega)
    simp only [List.length_cons]; omega
theorem Rising.snoc {n m : Nat} : ∀ {lo : Nat} {cs : List Nat}, Rising lo n cs → lo ≤ n → n < m → Rising lo m (cs ++ [n])
  | _, [], _, h, h' => ⟨h, h', trivial⟩
  | lo, d :: cs, ⟨h1, h2, h3⟩, _, h' => ⟨h1, by omega, Rising.snoc h3 (by omega) h'⟩
end Mine
set_option Elab.async false
set_option maxHeartbeats 1000000
namespace Mine
open PySem
def tx (l : List Nat) : Str := ⟨l.toArray⟩
theorem tx_list (l : List Nat) : (tx l).cps.toList = l := rfl
theorem str_ext {a b : Str} (h : a.cps.toList = b.cps.toList) : a = b := by
  obtain ⟨x⟩ := a
  obtain ⟨y⟩ := b
  exact congrArg Str.mk (Array.toList_inj.mp h)
theorem cat_list (a b : Str) : (a ++ b).cps.toList = a.cps.toList ++ b.cps.toList := by
  show (a.cps ++ b.cps).toList = _
  rw [Array.toList_append]
theorem len_list (a : Str) : a.cps.toList.length = a.length := by simp [Str.length]
def jn (y : List Nat) : List (List Nat) → List Nat
  | [] => []
  | [x] => x
  | x :: z :: r => x ++ y ++ jn y (z :: r)
theorem join_jn (y : Str) : ∀ ps : List Str, (Str.join y ps).cps.toList = jn y.cps.toList (ps.map (·.cps.toList))
  | [] => rfl
  | [_] => rfl
  | x :: z :: r => by
    show (x ++ y ++ Str.join y (z :: r)).cps.toList = _
    rw [cat_list, cat_list, join_jn y (z :: r)]
    rfl
open StrLaws Builtin.Str in
theorem at_sign {t y : Str} {u v : List Nat} {d k : Nat} (hy : y.cps.toList = u ++ d :: v) (h : At t y t.length k) : t.cps.toList[k + u.length]? = some d := by
  obtain ⟨h1, h2⟩ := h
  rw [subAt_eq] at h2
  have h2 := eq_of_beq h2
  have hl : y.length = u.length + (v.length + 1) := by rw [← len_list, hy]; simp
  have : ((t.cps.toList.drop k).take y.length)[u.length]? = some d := by rw [h2, hy]; simp
  rw [List.getElem?_take_of_lt (by omega), List.getElem?_drop] at this
  exact this
open StrLaws Builtin.Str in
theorem at_here {t y : Str} {p r : List Nat} {a : Nat} (ha : t.cps.toList.drop a = p ++ y.cps.toList ++ r) (hl : a ≤ t.length) : At t y t.length (a + p.length) := by
  have hn := congrArg List.length ha
  rw [List.length_drop, len_list, List.length_append, List.length_append, len_list] at hn
  refine ⟨by omega, ?_⟩
  rw [subAt_eq, ← List.drop_drop, ha, List.append_assoc, List.drop_left, ← len_list y, List.take_left]
  exact beq_self_eq_true _
open StrLaws Builtin.Str in
theorem parts_of {t y : Str} {u v : List Nat} {d : Nat} (hy : y.cps.toList = u ++ d :: v) (hu : d ∉ u) : ∀ (ps : List (List Nat)) (a : Nat) (cuts : List Nat) (f : Nat), ps ≠ [] → (∀ p ∈ ps, d ∉ p) → t.cps.toList.drop a = jn y.cps.toList ps → a ≤ t.length →
    ChainG t y t.length a cuts f → (∀ k, f ≤ k → ¬ At t y t.length k) → (StrLaws.partsFrom t y.length a cuts).map (·.cps.toList) = ps
  | [], _, _, _, ne, _, _, _, _, _ => absurd rfl ne
  | [p], a, cuts, f, _, hp, ha, hl, hc, hf => by
    have none : ∀ k, a ≤ k → ¬ At t y t.length k := fun k hk z => by
      have e := at_sign hy z
      have e2 : (t.cps.toList.drop a)[k - a + u.length]? = some d := by
        rw [List.getElem?_drop, ← e]
        congr 1
        omega
      rw [ha] at e2
      exact hp p (List.mem_singleton.mpr rfl) (List.mem_of_getElem? e2)
    cases cuts with
    | cons c r => exact absurd hc.2.1 (none c hc.1)
    | nil =>
      show [(strSub t a t.length).cps.toList] = [p]
      rw [strSub_toList, ha]
      have hn := congrArg List.length ha
      rw [List.length_drop, len_list] at hn
      have : (jn y.cps.toList [p]) = p := rfl
      rw [this] at hn ⊢
      rw [List.take_of_length_le (by omega)]
  | p :: p' :: r, a, cuts, f, _, hp, ha, hl, hc, hf => by
    have ha : t.cps.toList.drop a = p ++ y.cps.toList ++ jn y.cps.toList (p' :: r) := ha
    have here := at_here ha hl
    have before : ∀ k, a ≤ k → k < a + p.length → ¬ At t y t.length k := fun k h1 h2 z => by
      have e := at_sign hy z
      have e2 : (t.cps.toList.drop a)[k - a + u.length]? = some d := by
        rw [List.getElem?_drop, ← e]
        congr 1
        omega
      rw [ha, hy, List.append_assoc, List.append_assoc, ← List.append_assoc p u, List.getElem?_append_left (by rw [List.length_append]; omega)] at e2
      rcases List.mem_append.mp (List.mem_of_getElem? e2) with m | m
      · exact hp p (List.mem_cons_self ..) m
      · exact hu m
    cases cuts with
    | nil =>
      have e : f = a := hc
      exact absurd here (hf _ (by omega))
    | cons c cs =>
      obtain ⟨c1, c2, c3, c4⟩ := hc
      have e : c = a + p.length := by
        have h1 : ¬ c < a + p.length := fun z => before c c1 z c2
        have h2 : ¬ a + p.length < c := fun z => c3 _ (by omega) z here
        omega
      subst e
      have hn := congrArg List.length ha
      rw [List.length_drop, len_list, List.length_append, List.length_append, len_list] at hn
      show (strSub t a (a + p.length)).cps.toList :: (StrLaws.partsFrom t y.length (a + p.length + y.length) cs).map (·.cps.toList) = p :: p' :: r
      rw [parts_of hy hu (p' :: r) (a + p.length + y.length) cs f (by simp) (fun q hq => hp q (List.mem_cons_of_mem _ hq)) ?_ (by omega) c4 hf, strSub_toList, ha, Nat.add_sub_cancel_left, List.append_assoc, List.take_left]
      rw [← List.drop_drop, ← List.drop_drop, ha, List.append_assoc, List.drop_left, ← len_list y, List.drop_left]
theorem map_inj_toList : ∀ {as bs : List Str}, as.map (·.cps.toList) = bs.map (·.cps.toList) → as = bs
  | [], [], _ => rfl
  | [], _ :: _, h => by simp at h
  | _ :: _, [], h => by simp at h
  | a :: as, b :: bs, h => by
    rw [List.map_cons, List.map_cons] at h
    injection h with h1 h2
    rw [str_ext h1, map_inj_toList h2]
open StrLaws Builtin.Str in
theorem split_of {y : Str} {u v : List Nat} {d : Nat} (hy : y.cps.toList = u ++ d :: v) (hu : d ∉ u) (hk : strKind y = 1) {ps : List Str} (ne : ps ≠ []) (hp : ∀ p ∈ ps, d ∉ p.cps.toList) : Txt.split (Str.join y ps) y = ps := by
  have yl : 1 ≤ y.length := by rw [← len_list, hy, List.length_append, List.length_cons]; omega
  obtain ⟨f, h1, h2⟩ := occ_tight (Str.join y ps) y yl
  have key := parts_of (t := Str.join y ps) hy hu (ps.map (·.cps.toList)) 0 _ f (by simpa using ne) (fun p hp' => by
    obtain ⟨q, hq, rfl⟩ := List.mem_map.mp hp'
    exact hp q hq) (by rw [List.drop_zero]; exact join_jn y ps) (Nat.zero_le _) h1 h2
  have key := map_inj_toList key
  have one : occurrences (Str.join y ps) y 0 (Str.join y ps).length ((Str.join y ps).length + 1) = [] → [Str.join y ps] = ps := fun z => by
    rw [z] at key
    have : StrLaws.partsFrom (Str.join y ps) y.length 0 [] = [strSub (Str.join y ps) 0 (Str.join y ps).length] := rfl
    rw [this, sub_whole] at key
    exact key
  unfold Txt.split
  split
  · rename_i c
    refine one ?_
    cases e : occurrences (Str.join y ps) y 0 (Str.join y ps).length ((Str.join y ps).length + 1) with
    | nil => rfl
    | cons i r =>
      rw [e] at h1
      obtain ⟨c1, c2, _⟩ := h1
      rw [Bool.or_eq_true, decide_eq_true_eq, decide_eq_true_eq] at c
      rcases c with c | c
      · have := c2.1
        omega
      · have : 1 ≤ strKind (Str.join y ps) := by
          unfold Builtin.Str.strKind
          split
          · decide
          · split <;> decide
        omega
  · split
    · rename_i c
      exact one (List.isEmpty_iff.mp c)
    · rw [partsBetween_eq]
      exact key
def sp : Str := tx [32]
def bw : Str := tx [124]
def bar : Str := tx [32, 124, 32]
def dash : Str := tx [45]
def W (s : Str) : List Str := Txt.split s sp
theorem W_join (s : Str) : Str.join sp (W s) = s := StrLaws.join_split s sp
theorem W_free (s : Str) : ∀ p ∈ W s, 32 ∉ p.cps.toList := StrLaws.split_free s 32
theorem W_ne (s : Str) : W s ≠ [] := fun z => by
  have := PyProof.Rows.split_pos s sp
  rw [show Txt.split s sp = [] from z] at this
  exact absurd this (by decide)
theorem W_of {ws : List Str} (ne : ws ≠ []) (h : ∀ p ∈ ws, 32 ∉ p.cps.toList) : W (Str.join sp ws) = ws := split_of (u := []) (v := []) (d := 32) rfl (by simp) (by decide +kernel) ne h
theorem B_of {ps : List Str} (ne : ps ≠ []) (h : ∀ p ∈ ps, 124 ∉ p.cps.toList) : Txt.split (Str.join bar ps) bar = ps := split_of (u := [32]) (v := [32]) (d := 124) rfl (by decide) (by decide +kernel) ne h
theorem B_join (s : Str) : Str.join bar (Txt.split s bar) = s := StrLaws.join_split s bar
theorem B_ne (s : Str) : Txt.split s bar ≠ [] := fun z => by
  have := PyProof.Rows.split_pos s bar
  rw [z] at this
  exact absurd this (by decide)
theorem cat_assoc (a b c : Str) : a ++ b ++ c = a ++ (b ++ c) := Str.append_assoc a b c
theorem join_cons2 (y x z : Str) (r : List Str) : Str.join y (x :: z :: r) = x ++ y ++ Str.join y (z :: r) := rfl
theorem join_app (y : Str) : ∀ {a b : List Str}, a ≠ [] → b ≠ [] → Str.join y (a ++ b) = Str.join y a ++ y ++ Str.join y b
  | [], _, h, _ => absurd rfl h
  | [x], b, _, hb => by
    cases b with
    | nil => exact absurd rfl hb
    | cons z r => rfl
  | x :: z :: r, b, _, hb => by
    show Str.join y (x :: z :: (r ++ b)) = _
    rw [join_cons2, join_cons2, show z :: (r ++ b) = (z :: r) ++ b from rfl, join_app y (a := z :: r) (by simp) hb]
    simp only [cat_assoc]
def inter : List (List Str) → List Str
  | [] => []
  | [g] => g
  | g :: h :: r => g ++ bw :: inter (h :: r)
theorem inter_ne : ∀ {G : List (List Str)}, G ≠ [] → (∀ g ∈ G, g ≠ []) → inter G ≠ []
  | [], h, _ => absurd rfl h
  | [g], _, h => h g (List.mem_singleton.mpr rfl)
  | g :: h :: r, _, _ => by simp [inter]
theorem bar_eq (x : Str) : sp ++ (bw ++ (sp ++ x)) = bar ++ x := by
  apply str_ext
  simp only [cat_list]
  rfl
theorem join_inter : ∀ {G : List (List Str)}, G ≠ [] → (∀ g ∈ G, g ≠ []) → Str.join bar (G.map (Str.join sp)) = Str.join sp (inter G)
  | [], h, _ => absurd rfl h
  | [g], _, _ => rfl
  | g :: h :: r, _, hg => by
    have ih := join_inter (G := h :: r) (by simp) fun q hq => hg q (List.mem_cons_of_mem _ hq)
    have ne := inter_ne (G := h :: r) (by simp) fun q hq => hg q (List.mem_cons_of_mem _ hq)
    show Str.join bar (Str.join sp g :: Str.join sp h :: r.map (Str.join sp)) = Str.join sp (g ++ bw :: inter (h :: r))
    rw [join_cons2, show Str.join sp h :: r.map (Str.join sp) = (h :: r).map (Str.join sp) from rfl, ih, join_app sp (hg g (List.mem_cons_self ..)) (by simp)]
    cases e : inter (h :: r) with
    | nil => exact absurd e ne
    | cons z q =>
      rw [join_cons2]
      simp only [cat_assoc]
      rw [bar_eq]
theorem inter_mem : ∀ {G : List (List Str)} {w : Str}, w ∈ inter G → w = bw ∨ ∃ g ∈ G, w ∈ g
  | [], _, h => by cases h
  | [g], w, h => .inr ⟨g, List.mem_singleton.mpr rfl, h⟩
  | g :: h :: r, w, hw => by
    rcases List.mem_append.mp hw with z | z
    · exact .inr ⟨g, List.mem_cons_self .., z⟩
    · rcases List.mem_cons.mp z with z | z
      · exact .inl z
      · rcases inter_mem z with q | ⟨q, hq, hw⟩
        · exact .inl q
        · exact .inr ⟨q, List.mem_cons_of_mem _ hq, hw⟩
theorem W_parts (t : Str) : W t = inter ((Txt.split t bar).map W) := by
  have ne : ((Txt.split t bar).map W) ≠ [] := by simpa using B_ne t
  have all : ∀ g ∈ (Txt.split t bar).map W, g ≠ [] := fun g hg => by
    obtain ⟨q, _, rfl⟩ := List.mem_map.mp hg
    exact W_ne q
  have e : t = Str.join sp (inter ((Txt.split t bar).map W)) := by
    rw [← join_inter ne all, List.map_map]
    have : (Txt.split t bar).map (Str.join sp ∘ W) = Txt.split t bar := by
      conv => rhs; rw [← List.map_id (Txt.split t bar)]
      exact List.map_congr_left fun q _ => W_join q
    rw [this, B_join]
  conv => lhs; rw [e]
  refine W_of (inter_ne ne all) fun p hp => ?_
  rcases inter_mem hp with rfl | ⟨g, hg, hp⟩
  · decide
  · obtain ⟨q, _, rfl⟩ := List.mem_map.mp hg
    exact W_free q p hp
end Mine
set_option Elab.async false
set_option maxHeartbeats 1000000
namespace Mine
open PySem PySem.NumText
def figB (c : Nat) : Bool := decide (48 ≤ c) && decide (c ≤ 57)
def noughtB (w : Str) : Bool := decide (1 < w.length) && decide (w.cps.toList.head? = some 48)
def numB (w : Str) : Bool := decide (w.length ≠ 0) && (decide (w.length ≤ 7) && (!noughtB w && (w.cps.toList.all figB && decide (digitsVal w.cps.toList ≤ 1000000))))
def valW (w : Str) : Int := ((digitsVal w.cps.toList : Nat) : Int)
def numO (w : Str) : Option Int := if numB w = true then some (valW w) else none
theorem figs_all {w : Str} (h : w.cps.toList.all figB = true) : AllDigits w.cps.toList := fun c hc => by
  have := List.all_eq_true.mp h c hc
  simp only [figB, Bool.and_eq_true, decide_eq_true_eq] at this
  exact this
structure Num (w : Str) : Prop where
  pos : w.length ≠ 0
  short : w.length ≤ 7
  nought : noughtB w = false
  figs : w.cps.toList.all figB = true
  small : digitsVal w.cps.toList ≤ 1000000
theorem num_of {w : Str} (h : numB w = true) : Num w := by
  simp only [numB, Bool.and_eq_true, decide_eq_true_eq, Bool.not_eq_true'] at h
  exact ⟨h.1, h.2.1, h.2.2.1, h.2.2.2.1, h.2.2.2.2⟩
theorem Num.val {w : Str} (h : Num w) : 0 ≤ valW w ∧ valW w ≤ 1000000 := by
  have := h.small
  unfold valW
  omega
theorem Num.ne {w : Str} (h : Num w) : w.cps.toList ≠ [] := fun z => h.pos (by rw [← len_list, z]; rfl)
theorem Num.reads {w : Str} (h : Num w) : PySem.intText? w = some (valW w) := intText_digits (figs_all h.figs) h.ne (Nat.le_trans h.short (by decide))
theorem ofNat_back : ∀ d : Nat, d < 58 → (Char.ofNat d).toNat = d := by decide
theorem Num.str {w : Str} (h : Num w) : Str.ofString (toString (valW w)) = w := by
  apply str_ext
  unfold valW
  rw [PySem.W.KIN.signs_num]
  cases e : w.cps.toList with
  | nil => exact absurd e h.ne
  | cons c r =>
    have ad := figs_all h.figs
    rw [e] at ad
    have dj : r.length = 0 ∨ ∃ c' r', c :: r = c' :: r' ∧ 49 ≤ c' := by
      by_cases z : r.length = 0
      · exact .inl z
      · refine .inr ⟨c, r, rfl, ?_⟩
        have hn := h.nought
        have hl : 1 < w.length := by rw [← len_list, e]; simp; omega
        simp only [noughtB, e, decide_eq_true hl, Bool.true_and, List.head?_cons, Option.some.injEq, decide_eq_false_iff_not] at hn
        have := (ad c (List.mem_cons_self ..)).1
        omega
    rw [toDigits_digitsVal r.length (c :: r) rfl ad dj, List.map_map]
    conv => rhs; rw [← List.map_id (c :: r)]
    refine List.map_congr_left fun d hd => ?_
    have := ad d hd
    show (Char.ofNat d).toNat = d
    exact ofNat_back d (by omega)
theorem Num.free {w : Str} (h : Num w) {d : Nat} (hd : d < 48 ∨ 57 < d) : d ∉ w.cps.toList := fun z => by
  have := figs_all h.figs d z
  omega
theorem Num.notBar {w : Str} (h : Num w) : w ≠ bw := fun z => by
  have := h.free (d := 124) (by omega)
  rw [z] at this
  exact this (by decide)
def cutsNext (row : List Int) (cuts : List Nat) : List Nat := if 0 < row.length then cuts ++ [row.length] else cuts
def readGo : List Int → List Nat → List (List Str) → Option (List Int × List Nat)
  | row, cuts, [] => some (row, cuts)
  | row, cuts, g :: gs => if g.all numB = true then readGo (row ++ g.map valW) (cutsNext row cuts) gs else none
def readM (t : Str) : Option (List Int × List Nat) := if t = dash then some ([], []) else readGo [] [] ((Txt.split t bar).map W)
def stuck (row : List (Option Int)) (cuts : List Nat) : Bool := decide (row = []) || (decide (cuts ≠ []) && decide (cuts.getLast? = some row.length))
def lawGo : List (Option Int) → List Nat → List Str → Option (List (Option Int) × List Nat)
  | row, cuts, [] => some (row, cuts)
  | row, cuts, w :: ws => if w = bw then (if stuck row cuts = true then none else lawGo row (cuts ++ [row.length]) ws) else lawGo (row ++ [numO w]) cuts ws
def lawEnd (x : List (Option Int) × List Nat) : Option (List (Option Int) × List Nat) := if none ∈ x.1 ∨ x.1.length ∈ x.2 ∨ x.1 = [] then none else some x
def somes (x : List Int × List Nat) : List (Option Int) × List Nat := (x.1.map some, x.2)
theorem map_nil {α β : Type} {f : α → β} {l : List α} : l.map f = [] ↔ l = [] := by simp
theorem none_somes (l : List Int) : none ∉ l.map some := by simp
theorem lawGo_nums : ∀ (g : List Str) (row : List (Option Int)) (cuts : List Nat) (ws : List Str), g.all numB = true → lawGo row cuts (g ++ ws) = lawGo (row ++ (g.map valW).map some) cuts ws
  | [], row, cuts, ws, _ => by simp
  | w :: g, row, cuts, ws, h => by
    rw [List.all_cons, Bool.and_eq_true] at h
    have n := num_of h.1
    show lawGo row cuts (w :: (g ++ ws)) = _
    rw [lawGo, if_neg n.notBar, lawGo_nums g _ cuts ws h.2]
    unfold numO
    rw [if_pos h.1]
    simp
theorem lawGo_bar {row : List (Option Int)} {cuts : List Nat} {ws : List Str} (h : stuck row cuts = false) : lawGo row cuts (bw :: ws) = lawGo row (cuts ++ [row.length]) ws := by
  rw [lawGo, if_pos rfl, h]
  rfl
theorem cutsNext_last {row : List Int} {cuts : List Nat} (hr : row = [] → cuts = []) : cutsNext row cuts = [] ∧ row = [] ∨ (cutsNext row cuts).getLast? = some row.length := by
  unfold cutsNext
  by_cases h : 0 < row.length
  · rw [if_pos h]
    exact .inr (by simp)
  · rw [if_neg h]
    have e : row = [] := List.eq_nil_of_length_eq_zero (by omega)
    exact .inl ⟨hr e, e⟩
theorem lawGo_good : ∀ (G : List (List Str)) (row : List Int) (cuts : List Nat), G ≠ [] → (∀ g ∈ G, g ≠ []) → (∀ g ∈ G, g.all numB = true) → (row = [] → cuts = []) → (∀ c ∈ cuts, c < row.length) →
    (lawGo (row.map some) (cutsNext row cuts) (inter G)).bind lawEnd = (readGo row cuts G).map somes
  | [], _, _, h, _, _, _, _ => absurd rfl h
  | [g], row, cuts, _, hn, hg, hr, hc => by
    have ga := hg g (List.mem_singleton.mpr rfl)
    have gn := hn g (List.mem_singleton.mpr rfl)
    have gl : 0 < g.length := List.length_pos_iff.mpr gn
    have e := lawGo_nums g (row.map some) (cutsNext row cuts) [] ga
    rw [List.append_nil] at e
    show (lawGo (row.map some) (cutsNext row cuts) g).bind lawEnd = _
    rw [e, readGo, if_pos ga, readGo, lawGo, ← List.map_append]
    show lawEnd _ = some _
    unfold lawEnd
    rw [if_neg]
    · rfl
    · rintro (z | z | z)
      · exact none_somes _ z
      · have z : ((row ++ g.map valW).map some).length ∈ cutsNext row cuts := z
        rw [List.length_map, List.length_append, List.length_map] at z
        unfold cutsNext at z
        split at z
        · rcases List.mem_append.mp z with z | z
          · have := hc _ z
            omega
          · have := List.mem_singleton.mp z
            omega
        · have := hc _ z
          omega
      · have z : (row ++ g.map valW).map some = [] := z
        rw [map_nil] at z
        have := congrArg List.length z
        rw [List.length_append, List.length_map, List.length_nil] at this
        omega
  | g :: g' :: gs, row, cuts, _, hn, hg, hr, hc => by
    have ga := hg g (List.mem_cons_self ..)
    have gn := hn g (List.mem_cons_self ..)
    have gl : 0 < g.length := List.length_pos_iff.mpr gn
    have rl : (row ++ g.map valW).length = row.length + g.length := by rw [List.length_append, List.length_map]
    have st : stuck ((row ++ g.map valW).map some) (cutsNext row cuts) = false := by
      unfold stuck
      have e1 : decide ((row ++ g.map valW).map some = []) = false := decide_eq_false fun z => by
        rw [map_nil] at z
        rw [z] at rl
        rw [List.length_nil] at rl
        omega
      rw [e1, Bool.false_or, List.length_map, rl]
      rcases cutsNext_last hr with ⟨z, _⟩ | z
      · rw [z]; rfl
      · rw [z]
        have : decide (some row.length = some (row.length + g.length)) = false := decide_eq_false fun q => by
          injection q with q
          omega
        rw [this, Bool.and_false]
    show (lawGo (row.map some) (cutsNext row cuts) (g ++ bw :: inter (g' :: gs))).bind lawEnd = _
    rw [lawGo_nums g _ _ _ ga, ← List.map_append, lawGo_bar st, readGo, if_pos ga, List.length_map]
    have nx : cutsNext row cuts ++ [(row ++ g.map valW).length] = cutsNext (row ++ g.map valW) (cutsNext row cuts) := by
      show _ = if 0 < (row ++ g.map valW).length then cutsNext row cuts ++ [(row ++ g.map valW).length] else cutsNext row cuts
      rw [if_pos (by omega)]
    rw [nx]
    refine lawGo_good (g' :: gs) (row ++ g.map valW) (cutsNext row cuts) (by simp) (fun q hq => hn q (List.mem_cons_of_mem _ hq)) (fun q hq => hg q (List.mem_cons_of_mem _ hq)) (fun z => ?_) (fun c hc' => ?_)
    · rw [z] at rl
      rw [List.length_nil] at rl
      omega
    · rw [rl]
      unfold cutsNext at hc'
      split at hc'
      · rcases List.mem_append.mp hc' with z | z
        · have := hc _ z
          omega
        · have := List.mem_singleton.mp z
          omega
      · have := hc _ hc'
        omega
theorem readGo_all : ∀ (G : List (List Str)) (row : List Int) (cuts : List Nat) (x : List Int × List Nat), readGo row cuts G = some x → ∀ g ∈ G, g.all numB = true
  | [], _, _, _, _, g, hg => by cases hg
  | g :: gs, row, cuts, x, h, q, hq => by
    rw [readGo] at h
    split at h
    · rename_i c
      rcases List.mem_cons.mp hq with rfl | hq
      · exact c
      · exact readGo_all gs _ _ x h q hq
    · cases h
theorem readGo_some : ∀ (G : List (List Str)) (row : List Int) (cuts : List Nat), (∀ g ∈ G, g.all numB = true) → ∃ x, readGo row cuts G = some x
  | [], row, cuts, _ => ⟨_, rfl⟩
  | g :: gs, row, cuts, h => by
    rw [readGo, if_pos (h g (List.mem_cons_self ..))]
    exact readGo_some gs _ _ fun q hq => h q (List.mem_cons_of_mem _ hq)
theorem lawGo_none : ∀ (ws : List Str) (row : List (Option Int)) (cuts : List Nat), none ∈ row → (lawGo row cuts ws).bind lawEnd = none
  | [], row, cuts, h => by
    show lawEnd (row, cuts) = none
    unfold lawEnd
    rw [if_pos (.inl h)]
  | w :: ws, row, cuts, h => by
    rw [lawGo]
    split
    · split
      · rfl
      · exact lawGo_none ws _ _ h
    · exact lawGo_none ws _ _ (List.mem_append.mpr (.inl h))
def grp : List Str → List Str × List (List Str)
  | [] => ([], [])
  | w :: ws => if w = bw then ([], (grp ws).1 :: (grp ws).2) else (w :: (grp ws).1, (grp ws).2)
theorem grp_inter : ∀ ws : List Str, inter ((grp ws).1 :: (grp ws).2) = ws
  | [] => rfl
  | w :: ws => by
    have ih := grp_inter ws
    rw [grp]
    split
    · rename_i h
      show inter ([] :: (grp ws).1 :: (grp ws).2) = _
      show [] ++ bw :: inter ((grp ws).1 :: (grp ws).2) = _
      rw [ih, h]
      rfl
    · show inter ((w :: (grp ws).1) :: (grp ws).2) = _
      cases e : (grp ws).2 with
      | nil =>
        rw [e] at ih
        show w :: (grp ws).1 = w :: ws
        rw [show (grp ws).1 = ws from ih]
      | cons g gs =>
        rw [e] at ih
        show w :: ((grp ws).1 ++ bw :: inter (g :: gs)) = w :: ws
        rw [show (grp ws).1 ++ bw :: inter (g :: gs) = ws from ih]
theorem grp_good : ∀ (ws : List Str) (row : List (Option Int)) (cuts : List Nat), (lawGo row cuts ws).bind lawEnd ≠ none →
    ((stuck row cuts = true → (grp ws).1 ≠ []) ∧ (∀ g ∈ (grp ws).2, g ≠ [])) ∧ (grp ws).1.all numB = true ∧ ∀ g ∈ (grp ws).2, g.all numB = true
  | [], row, cuts, h => by
    refine ⟨⟨fun st => absurd ?_ h, fun g hg => by cases hg⟩, rfl, fun g hg => by cases hg⟩
    show lawEnd (row, cuts) = none
    unfold lawEnd
    rw [if_pos]
    unfold stuck at st
    rw [Bool.or_eq_true, Bool.and_eq_true, decide_eq_true_eq, decide_eq_true_eq, decide_eq_true_eq] at st
    rcases st with z | ⟨_, z⟩
    · exact .inr (.inr z)
    · exact .inr (.inl (List.mem_of_getLast? z))
  | w :: ws, row, cuts, h => by
    rw [lawGo] at h
    rw [grp]
    split
    · rename_i e
      rw [if_pos e] at h
      cases st : stuck row cuts with
      | true =>
        rw [st] at h
        exact absurd rfl h
      | false =>
        rw [st] at h
        have ih := grp_good ws row (cuts ++ [row.length]) h
        have st2 : stuck row (cuts ++ [row.length]) = true := by
          unfold stuck
          rw [Bool.or_eq_true, Bool.and_eq_true, decide_eq_true_eq, decide_eq_true_eq, decide_eq_true_eq]
          exact .inr ⟨by simp, by simp⟩
        refine ⟨⟨fun z => (by cases z), fun g hg => ?_⟩, rfl, fun g hg => ?_⟩
        · rcases List.mem_cons.mp hg with rfl | hg
          · exact ih.1.1 st2
          · exact ih.1.2 g hg
        · rcases List.mem_cons.mp hg with rfl | hg
          · exact ih.2.1
          · exact ih.2.2 g hg
    · rename_i e
      rw [if_neg e] at h
      have ih := grp_good ws (row ++ [numO w]) cuts h
      have wn : numB w = true := by
        cases c : numB w with
        | true => rfl
        | false =>
          refine absurd (lawGo_none ws _ cuts (List.mem_append.mpr (.inr (List.mem_singleton.mpr ?_)))) h
          unfold numO
          rw [c]
          rfl
      exact ⟨⟨fun _ => by simp, ih.1.2⟩, by rw [List.all_cons, wn, ih.2.1]; rfl, ih.2.2⟩
theorem join_free {d : Nat} (hd : d ≠ 32) : ∀ {g : List Str}, (∀ w ∈ g, d ∉ w.cps.toList) → d ∉ (Str.join sp g).cps.toList
  | [], _ => by show d ∉ ([] : List Nat); simp
  | [w], h => h w (List.mem_singleton.mpr rfl)
  | w :: v :: r, h => by
    rw [join_cons2, cat_list, cat_list]
    intro z
    rcases List.mem_append.mp z with z | z
    · rcases List.mem_append.mp z with z | z
      · exact h w (List.mem_cons_self ..) z
      · exact hd (List.mem_singleton.mp (show d ∈ [32] from z))
    · exact join_free hd (fun q hq => h q (List.mem_cons_of_mem _ hq)) z
theorem nums_mem {g : List Str} (h : g.all numB = true) : ∀ w ∈ g, Num w := fun w hw => num_of (List.all_eq_true.mp h w hw)
theorem parts_again {G : List (List Str)} (ne : G ≠ []) (hn : ∀ g ∈ G, g ≠ []) (hg : ∀ g ∈ G, g.all numB = true) : (Txt.split (Str.join sp (inter G)) bar).map W = G := by
  rw [← join_inter ne hn, B_of (by simpa using ne) fun p hp => ?_, List.map_map]
  · conv => rhs; rw [← List.map_id G]
    refine List.map_congr_left fun g hg' => ?_
    exact W_of (hn g hg') fun w hw => (nums_mem (hg g hg') w hw).free (by omega)
  · obtain ⟨g, hg', rfl⟩ := List.mem_map.mp hp
    exact join_free (by decide) fun w hw => (nums_mem (hg g hg') w hw).free (by omega)
def lawM (t : Str) : Option (List (Option Int) × List Nat) := if t = dash then some ([], []) else (lawGo [] [] (W t)).bind lawEnd
theorem law_read (t : Str) : lawM t = (readM t).map somes := by
  unfold lawM readM
  by_cases d : t = dash
  · rw [if_pos d, if_pos d]
    rfl
  rw [if_neg d, if_neg d]
  have ne : ((Txt.split t bar).map W) ≠ [] := by simpa using B_ne t
  have hn : ∀ g ∈ (Txt.split t bar).map W, g ≠ [] := fun g hg => by
    obtain ⟨q, _, rfl⟩ := List.mem_map.mp hg
    exact W_ne q
  cases e : readGo [] [] ((Txt.split t bar).map W) with
  | some x =>
    have := lawGo_good ((Txt.split t bar).map W) [] [] ne hn (readGo_all _ _ _ x e) (fun _ => rfl) (fun c hc => by cases hc)
    rw [W_parts t, ← e]
    exact this
  | none =>
    cases f : (lawGo [] [] (W t)).bind lawEnd with
    | none => rfl
    | some y =>
      exfalso
      have gg := grp_good (W t) [] [] (by rw [f]; simp)
      have gn : ∀ g ∈ (grp (W t)).1 :: (grp (W t)).2, g ≠ [] := fun g hg => by
        rcases List.mem_cons.mp hg with rfl | hg
        · exact gg.1.1 rfl
        · exact gg.1.2 g hg
      have ga : ∀ g ∈ (grp (W t)).1 :: (grp (W t)).2, g.all numB = true := fun g hg => by
        rcases List.mem_cons.mp hg with rfl | hg
        · exact gg.2.1
        · exact gg.2.2 g hg
      have again := parts_again (by simp) gn ga
      rw [grp_inter, W_join] at again
      rw [again] at e
      obtain ⟨x, hx⟩ := readGo_some _ [] [] ga
      rw [hx] at e
      cases e
end Mine
set_option Elab.async false
set_option maxHeartbeats 1000000
namespace Mine
open PySem PySem.NumText
def strI (i : Int) : Str := Str.ofString (toString i)
def partsT (ns : List Int) : Nat → List Nat → List Str
  | _, [] => []
  | st, c :: cs => Str.join sp (((ns.drop st).take (c - st)).map strI) :: partsT ns c cs
def writM (ns : List Int) (cs : List Nat) : Str := if ns = [] then dash else Str.join bar (partsT ns 0 (cs ++ [ns.length]))
def cutsG : Nat → List (List Str) → List Nat
  | _, [] => []
  | _, [_] => []
  | n, g :: h :: r => (n + g.length) :: cutsG (n + g.length) (h :: r)
def flatG (G : List (List Str)) : List Int := G.flatten.map valW
theorem flatG_cons (g : List Str) (G : List (List Str)) : flatG (g :: G) = g.map valW ++ flatG G := by
  unfold flatG
  rw [List.flatten_cons, List.map_append]
theorem flatG_len (G : List (List Str)) : (flatG G).length = G.flatten.length := List.length_map _
theorem readGo_val : ∀ (G : List (List Str)) (row : List Int) (cuts : List Nat), G ≠ [] → (∀ g ∈ G, g ≠ []) → (∀ g ∈ G, g.all numB = true) → readGo row cuts G = some (row ++ flatG G, cutsNext row cuts ++ cutsG row.length G)
  | [], _, _, h, _, _ => absurd rfl h
  | [g], row, cuts, _, hn, hg => by
    rw [readGo, if_pos (hg g (List.mem_singleton.mpr rfl)), readGo, flatG_cons]
    simp [flatG, cutsG]
  | g :: h :: r, row, cuts, _, hn, hg => by
    have gl : 0 < g.length := List.length_pos_iff.mpr (hn g (List.mem_cons_self ..))
    rw [readGo, if_pos (hg g (List.mem_cons_self ..)), readGo_val (h :: r) _ _ (by simp) (fun q hq => hn q (List.mem_cons_of_mem _ hq)) (fun q hq => hg q (List.mem_cons_of_mem _ hq)), flatG_cons g, List.append_assoc]
    have rl : (row ++ g.map valW).length = row.length + g.length := by rw [List.length_append, List.length_map]
    have nx : cutsNext (row ++ g.map valW) (cutsNext row cuts) = cutsNext row cuts ++ [row.length + g.length] := by
      show (if 0 < (row ++ g.map valW).length then cutsNext row cuts ++ [(row ++ g.map valW).length] else cutsNext row cuts) = _
      rw [if_pos (by omega), rl]
    rw [nx, rl, List.append_assoc]
    rfl
theorem rising_cutsG : ∀ (G : List (List Str)) (n : Nat), (∀ g ∈ G, g ≠ []) → Rising (n + 1) (n + G.flatten.length) (cutsG n G)
  | [], _, _ => trivial
  | [_], _, _ => trivial
  | g :: h :: r, n, hn => by
    have gl : 0 < g.length := List.length_pos_iff.mpr (hn g (List.mem_cons_self ..))
    have hl : 0 < h.length := List.length_pos_iff.mpr (hn h (List.mem_cons_of_mem _ (List.mem_cons_self ..)))
    have ih := rising_cutsG (h :: r) (n + g.length) fun q hq => hn q (List.mem_cons_of_mem _ hq)
    have e : n + (g :: h :: r).flatten.length = n + g.length + (h :: r).flatten.length := by rw [List.flatten_cons, List.length_append]; omega
    have p : 0 < (h :: r).flatten.length := by rw [List.flatten_cons, List.length_append]; omega
    rw [e]
    exact ⟨by omega, by omega, ih⟩
theorem strs_nums {g : List Str} (h : g.all numB = true) : (g.map valW).map strI = g := by
  rw [List.map_map]
  conv => rhs; rw [← List.map_id g]
  exact List.map_congr_left fun w hw => (nums_mem h w hw).str
theorem parts_G : ∀ (G : List (List Str)) (n : Nat) (R : List Int), G ≠ [] → R.drop n = flatG G → (∀ g ∈ G, g.all numB = true) → n ≤ R.length → partsT R n (cutsG n G ++ [R.length]) = G.map (Str.join sp)
  | [], _, _, h, _, _, _ => absurd rfl h
  | [g], n, R, _, e, hg, hl => by
    show [Str.join sp (((R.drop n).take (R.length - n)).map strI)] = [Str.join sp g]
    rw [List.take_of_length_le (by rw [List.length_drop]; omega), e, flatG_cons, show flatG [] = [] from rfl, List.append_nil, strs_nums (hg g (List.mem_singleton.mpr rfl))]
  | g :: h :: r, n, R, _, e, hg, hl => by
    have le := congrArg List.length e
    rw [List.length_drop, flatG_cons, List.length_append, List.length_map] at le
    have e2 : R.drop (n + g.length) = flatG (h :: r) := by
      rw [← List.drop_drop, e, flatG_cons g]
      have : g.length = (g.map valW).length := by rw [List.length_map]
      rw [this, List.drop_left]
    show Str.join sp (((R.drop n).take (n + g.length - n)).map strI) :: partsT R (n + g.length) (cutsG (n + g.length) (h :: r) ++ [R.length]) = _
    rw [parts_G (h :: r) (n + g.length) R (by simp) e2 (fun q hq => hg q (List.mem_cons_of_mem _ hq)) (by omega), Nat.add_sub_cancel_left, e, flatG_cons g]
    have : g.length = (g.map valW).length := by rw [List.length_map]
    rw [this, List.take_left, strs_nums (hg g (List.mem_cons_self ..))]
    rfl
theorem inter_len : ∀ (G : List (List Str)), G.flatten.length ≤ (inter G).length
  | [] => Nat.le_refl _
  | [g] => by simp [inter]
  | g :: h :: r => by
    have := inter_len (h :: r)
    rw [List.flatten_cons, List.length_append]
    show _ ≤ (g ++ bw :: inter (h :: r)).length
    rw [List.length_append, List.length_cons]
    omega
structure Read (t : Str) (row : List Int) (cuts : List Nat) : Prop where
  good : ∀ x ∈ row, 0 ≤ x ∧ x ≤ 1000000
  rise : Rising 1 row.length cuts
  back : writM row cuts = t
  few : row.length ≤ t.length + 2
  none : t = dash → row = [] ∧ cuts = []
  some : t ≠ dash → row ≠ []
theorem read_facts {t : Str} {row : List Int} {cuts : List Nat} (h : readM t = some (row, cuts)) : Read t row cuts := by
  unfold readM at h
  by_cases d : t = dash
  · rw [if_pos d] at h
    injection h with h
    injection h with h1 h2
    subst h1 h2
    exact ⟨fun x hx => (by cases hx), trivial, (by rw [d]; rfl), Nat.zero_le _, fun _ => ⟨rfl, rfl⟩, fun z => absurd d z⟩
  rw [if_neg d] at h
  have ne : ((Txt.split t bar).map W) ≠ [] := by simpa using B_ne t
  have hn : ∀ g ∈ (Txt.split t bar).map W, g ≠ [] := fun g hg => by
    obtain ⟨q, _, rfl⟩ := List.mem_map.mp hg
    exact W_ne q
  have hg := readGo_all _ _ _ _ h
  rw [readGo_val _ [] [] ne hn hg] at h
  injection h with h
  injection h with h1 h2
  have h1 : flatG ((Txt.split t bar).map W) = row := h1
  have h2 : cutsG 0 ((Txt.split t bar).map W) = cuts := h2
  have len := flatG_len ((Txt.split t bar).map W)
  have pos : 0 < ((Txt.split t bar).map W).flatten.length := by
    cases e : (Txt.split t bar).map W with
    | nil => exact absurd e ne
    | cons g r =>
      rw [List.flatten_cons, List.length_append]
      have := List.length_pos_iff.mpr (hn g (by rw [e]; exact List.mem_cons_self ..))
      omega
  have rne : row ≠ [] := fun z => by
    rw [← h1] at z
    rw [z] at len
    rw [List.length_nil] at len
    omega
  refine ⟨fun x hx => ?_, ?_, ?_, ?_, fun z => absurd z d, fun _ => rne⟩
  · rw [← h1] at hx
    obtain ⟨w, hw, rfl⟩ := List.mem_map.mp hx
    obtain ⟨g, hg', hw⟩ := List.mem_flatten.mp hw
    exact (nums_mem (hg g hg') w hw).val
  · have := rising_cutsG ((Txt.split t bar).map W) 0 hn
    rw [← h1, ← h2, flatG_len]
    rw [Nat.zero_add, Nat.zero_add] at this
    exact this
  · unfold writM
    rw [if_neg rne, ← h2, parts_G _ 0 row ne (by rw [List.drop_zero, h1]) hg (Nat.zero_le _), List.map_map]
    have : (Txt.split t bar).map (Str.join sp ∘ W) = Txt.split t bar := by
      conv => rhs; rw [← List.map_id (Txt.split t bar)]
      exact List.map_congr_left fun q _ => W_join q
    rw [this, B_join]
  · rw [← h1, flatG_len]
    refine Nat.le_trans (inter_len _) ?_
    rw [← W_parts]
    exact PyProof.Rows.split_le t sp
def tailT (C : List Nat) : Nat → List Int → Str
  | _, [] => Str.empty
  | p, x :: xs => (if p ∈ C then bar else sp) ++ strI x ++ tailT C (p + 1) xs
def partsL : Nat → List Int → List Nat → List Str
  | _, _, [] => []
  | st, xs, c :: cs => Str.join sp ((xs.take (c - st)).map strI) :: partsL c (xs.drop (c - st)) cs
theorem partsT_L (ns : List Int) : ∀ (cs : List Nat) (st m : Nat), Rising st m cs → partsT ns st cs = partsL st (ns.drop st) cs
  | [], _, _, _ => rfl
  | c :: cs, st, m, ⟨h1, h2, h3⟩ => by
    show _ :: partsT ns c cs = _ :: partsL c ((ns.drop st).drop (c - st)) cs
    rw [partsT_L ns cs c m (h3.mono (by omega)), List.drop_drop, show st + (c - st) = c by omega]
theorem tailT_skip (c : Nat) (C : List Nat) : ∀ (xs : List Int) (p : Nat), c < p → tailT (c :: C) p xs = tailT C p xs
  | [], _, _ => rfl
  | x :: xs, p, h => by
    show (if p ∈ c :: C then bar else sp) ++ strI x ++ tailT (c :: C) (p + 1) xs = _
    rw [tailT_skip c C xs (p + 1) (by omega)]
    have : (p ∈ c :: C) = (p ∈ C) := by
      rw [List.mem_cons]
      exact propext ⟨fun z => z.resolve_left (by omega), .inr⟩
    simp only [this]
    rfl
theorem join_glue (y a p : Str) (q : List Str) : Str.join y ((a ++ p) :: q) = a ++ Str.join y (p :: q) := by
  cases q with
  | nil => rfl
  | cons z r => rw [join_cons2, join_cons2]; simp only [cat_assoc]
theorem cat_empty (a : Str) : a ++ Str.empty = a := Str.append_empty a
theorem partsL_txt : ∀ (xs : List Int) (st : Nat) (cs : List Nat) (x : Int), Rising (st + 1) (st + 1 + xs.length) cs → Str.join bar (partsL st (x :: xs) (cs ++ [st + 1 + xs.length])) = strI x ++ tailT cs (st + 1) xs
  | [], st, cs, x, h => by
    cases cs with
    | cons c cs =>
      obtain ⟨h1, h2, _⟩ := h
      simp only [List.length_nil] at h2
      omega
    | nil =>
      show Str.join bar [Str.join sp (([x].take (st + 1 - st)).map strI)] = strI x ++ Str.empty
      rw [Nat.add_sub_cancel_left, cat_empty]
      rfl
  | y :: ys, st, cs, x, h => by
    have N : st + 1 + (y :: ys).length = st + 1 + 1 + ys.length := by rw [List.length_cons]; omega
    rw [N] at h ⊢
    by_cases c1 : ∃ cs', cs = (st + 1) :: cs'
    · obtain ⟨cs', rfl⟩ := c1
      obtain ⟨_, _, h3⟩ := h
      have ih := partsL_txt ys (st + 1) cs' y h3
      show Str.join bar (Str.join sp (((x :: y :: ys).take (st + 1 - st)).map strI) :: partsL (st + 1) ((x :: y :: ys).drop (st + 1 - st)) (cs' ++ [st + 1 + 1 + ys.length])) = _
      rw [Nat.add_sub_cancel_left]
      show Str.join bar (strI x :: partsL (st + 1) (y :: ys) (cs' ++ [st + 1 + 1 + ys.length])) = _
      have cons : ∃ a b, partsL (st + 1) (y :: ys) (cs' ++ [st + 1 + 1 + ys.length]) = a :: b := by
        cases cs' with
        | nil => exact ⟨_, _, rfl⟩
        | cons c cs' => exact ⟨_, _, rfl⟩
      obtain ⟨a, b, e⟩ := cons
      rw [e] at ih ⊢
      rw [join_cons2, ih]
      show _ = strI x ++ ((if st + 1 ∈ (st + 1) :: cs' then bar else sp) ++ strI y ++ tailT ((st + 1) :: cs') (st + 1 + 1) ys)
      rw [if_pos (List.mem_cons_self ..), tailT_skip _ _ _ _ (by omega)]
      simp only [cat_assoc]
    · have h' : Rising (st + 1 + 1) (st + 1 + 1 + ys.length) cs := by
        cases cs with
        | nil => exact trivial
        | cons c cs =>
          obtain ⟨h1, h2, h3⟩ := h
          have : c ≠ st + 1 := fun z => c1 ⟨cs, by rw [z]⟩
          exact ⟨by omega, h2, h3⟩
      have nin : st + 1 ∉ cs := fun z => by
        have := (h'.mem _ z).1
        omega
      have ih := partsL_txt ys (st + 1) cs y h'
      show _ = strI x ++ ((if st + 1 ∈ cs then bar else sp) ++ strI y ++ tailT cs (st + 1 + 1) ys)
      rw [if_neg nin]
      have hd : ∃ d rest, cs ++ [st + 1 + 1 + ys.length] = d :: rest ∧ st + 2 ≤ d := by
        cases cs with
        | nil => exact ⟨_, _, rfl, by omega⟩
        | cons c cs => exact ⟨_, _, rfl, h'.1⟩
      obtain ⟨d, rest, e, hd⟩ := hd
      rw [e] at ih ⊢
      obtain ⟨k, rfl⟩ : ∃ k, d = st + 2 + k := ⟨d - (st + 2), by omega⟩
      have e1 : st + 2 + k - st = k + 2 := by omega
      have e2 : st + 2 + k - (st + 1) = k + 1 := by omega
      have ih : Str.join bar (Str.join sp (((y :: ys).take (st + 2 + k - (st + 1))).map strI) :: partsL (st + 2 + k) ((y :: ys).drop (st + 2 + k - (st + 1))) rest) = _ := ih
      show Str.join bar (Str.join sp (((x :: y :: ys).take (st + 2 + k - st)).map strI) :: partsL (st + 2 + k) ((x :: y :: ys).drop (st + 2 + k - st)) rest) = _
      rw [e1]
      rw [e2] at ih
      have g : Str.join sp (((x :: y :: ys).take (k + 2)).map strI) = (strI x ++ sp) ++ Str.join sp (((y :: ys).take (k + 1)).map strI) := by
        show Str.join sp (strI x :: strI y :: (ys.take k).map strI) = _
        rw [join_cons2]
        rfl
      rw [g, join_glue, show (x :: y :: ys).drop (k + 2) = (y :: ys).drop (k + 1) from rfl, ih]
      simp only [cat_assoc]
theorem writ_txt {x : Int} {xs : List Int} {cs : List Nat} (h : Rising 1 (x :: xs).length cs) : writM (x :: xs) cs = strI x ++ tailT cs 1 xs := by
  unfold writM
  have e : (x :: xs).length = 0 + 1 + xs.length := by rw [List.length_cons]; omega
  rw [if_neg (by simp), partsT_L (x :: xs) (cs ++ [(x :: xs).length]) 0 ((x :: xs).length + 1), List.drop_zero, e]
  · rw [e] at h
    exact partsL_txt xs 0 cs x h
  · exact (h.mono (by omega)).snoc (by omega) (by omega)
end Mine
namespace Mine
open PySem L2
seal L2.PS L2.PSs L2.PE L2.PT L2.PW L2.PA L2.PI L2.PG L2.PGs L2.PF L2.PC L2.PO
local macro_rules | `(tactic| walk_at "rd") => `(tactic| repeat' (first | (with_reducible refine rd_seqF ?_) | (with_reducible refine rd_seq ?_)   | ((with_reducible apply rd_var); exact rfl) | (with_reducible refine rd_c ?_) | (with_reducible refine rd_asgF ?_) | (with_reducible refine rd_asg ?_) | (with_reducible refine rd_name ?_) | (with_reducible refine rd_if ?_) | (with_reducible refine rd_retF ?_) | (with_reducible refine rd_ret ?_) | (with_reducible refine rd_dropF ?_) | (with_reducible refine rd_drop ?_) | (with_reducible refine rd_nextF ?_) | (with_reducible refine rd_next ?_) | (with_reducible refine rd_op ?_) | (with_reducible refine rd_un ?_) | (with_reducible refine rd_test ?_) | (with_reducible refine rd_tB ?_) | (with_reducible refine rd_bl ?_) | (with_reducible refine rd_and ?_) | (with_reducible refine rd_or ?_) | (with_reducible refine rd_not ?_) | (with_reducible refine rd_andV ?_) | (with_reducible refine rd_orV ?_) | (with_reducible refine rd_notV ?_) | (with_reducible refine rd_cons ?_) | (with_reducible refine rd_nil ?_) | (with_reducible refine rd_ints ?_) | (with_reducible refine rd_cb ?_) | (with_reducible refine rd_cl ?_) | (with_reducible refine rd_lst ?_) | (with_reducible refine rd_tup ?_) | (with_reducible refine rd_I0 ?_) | (with_reducible refine rd_U ?_) | (with_reducible refine rd_eqI ?_) | (with_reducible refine rd_neI ?_) | (with_reducible refine rd_eqB ?_) | (with_reducible refine rd_neB ?_) | (with_reducible refine rd_chain ?_) | (with_reducible refine rd_chain3 ?_) | (with_reducible refine rd_isB ?_) | (with_reducible refine rd_notB ?_) | (with_reducible refine rd_abs ?_) | (with_reducible refine rd_parF ?_) | (with_reducible refine rd_par ?_) | (with_reducible refine rd_par3F ?_) | (with_reducible refine rd_par3 ?_) | (with_reducible refine rd_two ?_) | (with_reducible refine rd_three ?_) | (with_reducible refine rd_bm ?_) | (with_reducible refine rd_bm0 ?_) | (with_reducible refine rd_sl ?_) | (with_reducible refine rd_part ?_) | (with_reducible refine rd_nopart ?_) | (with_reducible refine rd_int ?_) | (with_reducible refine rd_forF ?_) | (with_reducible refine rd_for ?_) | (with_reducible refine rd_iList ?_) | (with_reducible refine rd_iRng1 ?_) | (with_reducible refine rd_iRng2 ?_) | (with_reducible refine rd_iEnum ?_) | (with_reducible refine rd_comp ?_) | (with_reducible refine rd_gsub ?_) | (with_reducible refine rd_methT ?_) | (with_reducible refine rd_fldT ?_) | (with_reducible refine rd_mkT ?_) | (with_reducible refine rd_max2 ?_) | (with_reducible refine rd_min2 ?_) | (with_reducible refine rd_clE ?_) | (with_reducible refine rd_ifE ?_) | (with_reducible refine rd_iTup ?_) | (with_reducible refine rd_rev ?_) | (with_reducible refine rd_iRng3 ?_) | (with_reducible refine rd_range1 ?_) | (with_reducible refine rd_iEnum0 ?_) | (with_reducible refine rd_lz ?_) | (with_reducible refine rd_maxD ?_) | (with_reducible refine rd_fs ?_) | (with_reducible refine rd_sfldF ?_) | (with_reducible refine rd_eqS ?_) | (with_reducible refine rd_neS ?_) | (with_reducible refine rd_iStr ?_) | (with_reducible refine rd_isN ?_) | (with_reducible refine rd_notInS ?_) | (with_reducible refine iteT ?_) | (with_reducible refine iteF ?_) | ((with_reducible apply rd_lenI); assumption) | ((with_reducible apply rd_len); assumption) | ((with_reducible apply rd_sum); assumption)))
local macro_rules | `(tactic| walk_at "rr") => `(tactic| repeat' (first | (with_reducible refine rd_seqF ?_) | (with_reducible refine rd_seq ?_)   | ((with_reducible apply rd_var); exact rfl) | (with_reducible refine rd_c ?_) | (with_reducible refine rd_asgF ?_) | (with_reducible refine rd_asg ?_) | (with_reducible refine rd_name ?_) | (with_reducible refine rd_if ?_) | (with_reducible refine rd_retF ?_) | (with_reducible refine rd_ret ?_) | (with_reducible refine rd_dropF ?_) | (with_reducible refine rd_drop ?_) | (with_reducible refine rd_nextF ?_) | (with_reducible refine rd_next ?_) | (with_reducible refine rd_op ?_) | (with_reducible refine rd_un ?_) | (with_reducible refine rd_test ?_) | (with_reducible refine rd_tB ?_) | (with_reducible refine rd_bl ?_) | (with_reducible refine rd_and ?_) | (with_reducible refine rd_or ?_) | (with_reducible refine rd_not ?_) | (with_reducible refine rd_andV ?_) | (with_reducible refine rd_orV ?_) | (with_reducible refine rd_notV ?_) | (with_reducible refine rd_cons ?_) | (with_reducible refine rd_nil ?_) | (with_reducible refine rd_ints ?_) | (with_reducible refine rd_cb ?_) | (with_reducible refine rd_cl ?_) | (with_reducible refine rd_lst ?_) | (with_reducible refine rd_tup ?_) | (with_reducible refine rd_I0 ?_) | (with_reducible refine rd_U ?_) | (with_reducible refine rd_eqI ?_) | (with_reducible refine rd_neI ?_) | (with_reducible refine rd_eqB ?_) | (with_reducible refine rd_neB ?_) | (with_reducible refine rd_chain ?_) | (with_reducible refine rd_chain3 ?_) | (with_reducible refine rd_isB ?_) | (with_reducible refine rd_notB ?_) | (with_reducible refine rd_abs ?_) | (with_reducible refine rd_parF ?_) | (with_reducible refine rd_par ?_) | (with_reducible refine rd_par3F ?_) | (with_reducible refine rd_par3 ?_) | (with_reducible refine rd_two ?_) | (with_reducible refine rd_three ?_) | (with_reducible refine rd_bm ?_) | (with_reducible refine rd_bm0 ?_) | (with_reducible refine rd_sl ?_) | (with_reducible refine rd_part ?_) | (with_reducible refine rd_nopart ?_) | (with_reducible refine rd_int ?_) | (with_reducible refine rd_forF ?_) | (with_reducible refine rd_for ?_) | (with_reducible refine rd_iList ?_) | (with_reducible refine rd_iRng1 ?_) | (with_reducible refine rd_iRng2 ?_) | (with_reducible refine rd_iEnum ?_) | (with_reducible refine rd_comp ?_) | (with_reducible refine rd_gsub ?_) | (with_reducible refine rd_methT ?_) | (with_reducible refine rd_fldT ?_) | (with_reducible refine rd_mkT ?_) | (with_reducible refine rd_max2 ?_) | (with_reducible refine rd_min2 ?_) | (with_reducible refine rd_clE ?_) | (with_reducible refine rd_ifE ?_) | (with_reducible refine rd_iTup ?_) | (with_reducible refine rd_rev ?_) | (with_reducible refine rd_iRng3 ?_) | (with_reducible refine rd_range1 ?_) | (with_reducible refine rd_iEnum0 ?_) | (with_reducible refine rd_lz ?_) | (with_reducible refine rd_maxD ?_) | (with_reducible refine rd_fs ?_) | (with_reducible refine rd_sfldF ?_) | (with_reducible refine rd_eqS ?_) | (with_reducible refine rd_neS ?_) | (with_reducible refine rd_iStr ?_) | (with_reducible refine rd_isN ?_) | (with_reducible refine rd_notInS ?_) | (with_reducible refine iteNT ?_) | (with_reducible refine iteNF ?_) | (with_reducible refine iteT ?_) | (with_reducible refine iteF ?_) | ((with_reducible apply rd_lenI); assumption) | ((with_reducible apply rd_len); assumption) | ((with_reducible apply rd_sum); assumption)))
def top (i : Nat) : Stmt := PySem.Challenge.pw_cutrow_k06_written.main.body.getD i (.Pass ⟨0, 0, 0, 0⟩)
theorem boot_any : bootBuiltins "any" = some (.builtin "any") := by decide +kernel
theorem boot_all : bootBuiltins "all" = some (.builtin "all") := by decide +kernel
theorem boot_isinstance : bootBuiltins "isinstance" = some (.builtin "isinstance") := by decide +kernel
theorem boot_int : bootBuiltins "int" = some (.type "int") := by decide +kernel
theorem boot_bool : bootBuiltins "bool" = some (.type "bool") := by decide +kernel
theorem boot_list : bootBuiltins "list" = some (.type "list") := by decide +kernel
theorem boot_tuple : bootBuiltins "tuple" = some (.type "tuple") := by decide +kernel
theorem boot_str : bootBuiltins "str" = some (.type "str") := by decide +kernel
theorem boot_ValueError : bootBuiltins "ValueError" = some (.type "ValueError") := by decide +kernel
structure Txt (mg : Str → Option Value) : Prop where
  b_len : mg "len" = none
  b_any : mg "any" = none
  b_all : mg "all" = none
  b_isinstance : mg "isinstance" = none
  b_int : mg "int" = none
  b_bool : mg "bool" = none
  b_list : mg "list" = none
  b_tuple : mg "tuple" = none
  b_str : mg "str" = none
  b_range : mg "range" = none
  b_ValueError : mg "ValueError" = none
  g_MOST_LOAD : ∃ t, mg "MOST_LOAD" = some (.int 1000000 t)
  g_MOST_LOADS : ∃ t, mg "MOST_LOADS" = some (.int 1000000 t)
  g_FIGURES : ∃ t, mg "FIGURES" = some (.str "0123456789" t)
  g_NO_LOADS : ∃ t, mg "NO_LOADS" = some (.str "-" t)
  g_BLANK : ∃ t, mg "BLANK" = some (.str " " t)
  g_BAR : ∃ t, mg "BAR" = some (.str " | " t)
structure CA where
  CutError : Addr
  BadRow : Addr
  BadNumber : Addr
  BadCuts : Addr
  BadText : Addr
structure Cl (K : PySem.W.Frag) (mg : Str → Option Value) (a : CA) : Prop where
  m_CutError : mg "CutError" = some (.ref a.CutError)
  x_CutError : ExcLook K a.CutError
  m_BadRow : mg "BadRow" = some (.ref a.BadRow)
  m_BadNumber : mg "BadNumber" = some (.ref a.BadNumber)
  m_BadCuts : mg "BadCuts" = some (.ref a.BadCuts)
  m_BadText : mg "BadText" = some (.ref a.BadText)
  x_BadText : ExcLook K a.BadText
  k_BadText_BadRow : PySem.W.kitOne K (.ref a.BadText) (.ref a.BadRow) = some false
  k_BadText_BadNumber : PySem.W.kitOne K (.ref a.BadText) (.ref a.BadNumber) = some false
  k_BadText_BadCuts : PySem.W.kitOne K (.ref a.BadText) (.ref a.BadCuts) = some false
  k_BadText_BadText : PySem.W.kitOne K (.ref a.BadText) (.ref a.BadText) = some true
  k_BadText_ValueError : PySem.W.kitOne K (.ref a.BadText) (.type "ValueError") = some true
  s_BadText : PySem.W.subIn K (.ref a.BadText) (.ref a.CutError) = some true
theorem kit_int_int (K : PySem.W.Frag) : PySem.W.kitOne K (.type "int") (.type "int") = some true := by unfold PySem.W.kitOne; rfl
theorem kit_list_list (K : PySem.W.Frag) : PySem.W.kitOne K (.type "list") (.type "list") = some true := by unfold PySem.W.kitOne; rfl
theorem kit_int_bool (K : PySem.W.Frag) : PySem.W.kitOne K (.type "int") (.type "bool") = some false := by first | rfl | (unfold PySem.W.kitOne; decide +kernel)
theorem at_int {ns : List Int} {i : Nat} {y : V} (h : (ns.map V.int)[i]? = some y) : ∃ z, y = .int z ∧ ns[i]? = some z := by
  rw [List.getElem?_map] at h
  cases e : ns[i]? with
  | none => rw [e] at h; cases h
  | some z => rw [e] at h; exact ⟨z, (Option.some.inj h).symm, rfl⟩
theorem lt_of_at {α : Type} {xs : List α} {i : Nat} {z : α} (h : xs[i]? = some z) : i < xs.length := (List.getElem?_eq_some_iff.mp h).1
theorem mem_of_at {α : Type} {xs : List α} {i : Nat} {z : α} (h : xs[i]? = some z) : z ∈ xs := List.mem_of_getElem? h
theorem drop_at {α : Type} {xs : List α} {i : Nat} {z : α} (h : xs[i]? = some z) : xs.drop i = z :: xs.drop (i + 1) := by
  obtain ⟨hi, e⟩ := List.getElem?_eq_some_iff.mp h
  rw [List.drop_eq_getElem_cons hi, e]
theorem same_new {H : Hp} {p : Addr} (h : H p = none) (o : HO) : Same H (upd H p o) := fun b u q => by rw [upd_ne (ne_of_none q h)]; exact q
def Good (ns : List Int) : Prop := ∀ x ∈ ns, 0 ≤ x ∧ x ≤ 1000000
def ic (cs : List Nat) : List Int := cs.map fun c : Nat => (c : Int)
theorem ic_len (cs : List Nat) : (ic cs).length = cs.length := List.length_map _
theorem at_ic {cs : List Nat} {i : Nat} {z : Int} (h : (ic cs)[i]? = some z) : ∃ c : Nat, z = c ∧ cs[i]? = some c := by
  unfold ic at h
  rw [List.getElem?_map] at h
  cases e : cs[i]? with
  | none => rw [e] at h; cases h
  | some c => rw [e] at h; exact ⟨c, (Option.some.inj h).symm, rfl⟩
theorem Rising.at {n : Nat} : ∀ {lo : Nat} {cs : List Nat} {i c : Nat}, Rising lo n cs → cs[i]? = some c → lo ≤ c ∧ c < n ∧ ∀ d, i ≠ 0 → cs[i - 1]? = some d → d < c
  | _, [], _, _, _, e => by simp at e
  | lo, c0 :: cs, 0, c, ⟨h1, h2, _⟩, e => by
    have : c0 = c := by simpa using e
    subst this
    exact ⟨h1, h2, fun _ z => absurd rfl z⟩
  | lo, c0 :: cs, i + 1, c, ⟨h1, h2, h3⟩, e => by
    have q := Rising.at (i := i) (c := c) h3 (by simpa using e)
    refine ⟨by omega, q.2.1, fun d _ ed => ?_⟩
    cases i with
    | zero =>
      have : c0 = d := by simpa using ed
      omega
    | succ i => exact q.2.2 d (by omega) (by simpa using ed)
theorem cut_ints (ns : List Int) (lo hi : Option Int) : cutV (ns.map V.int) lo hi = (((ns.drop (HT.sIx ns.length 0 lo)).take (HT.sIx ns.length ns.length hi - HT.sIx ns.length 0 lo))).map V.int := by
  unfold cutV
  rw [List.length_map, List.map_take, List.map_drop]
def spCell (K : PySem.W.Frag) : Sp := fun vs H Q _ => ∃ (a : Addr) (ns : List Int) (k : Int), vs = [.ref a, .int k] ∧ SqL K H a (ns.map V.int) ∧ 0 ≤ k ∧ ∀ v, Q (.int v) H
def spDraw : Sp := fun vs H Q _ => ∃ c k m : Int, vs = [.int c, .int k, .int m] ∧ 0 ≤ k ∧ 0 < m ∧ ∀ (r : Int) (H' : Hp), 0 ≤ r → r < m → Same H H' → Q (.int r) H'
def spRow (K : PySem.W.Frag) : Sp := fun vs H Q _ => ∃ (a : Addr) (ns : List Int), vs = [.ref a] ∧ SqL K H a (ns.map V.int) ∧ ns.length ≤ 63 ∧
  ∀ (r : Addr) (H' : Hp) (ms : List Int), ms.length = ns.length → Good ms → Same H H' → H r = none → H' r = some (.lst (ms.map V.int)) → Q (.ref r) H'
def risingB (n : Int) : Int → List Int → Bool
  | _, [] => true
  | last, c :: cs => decide (last < c) && decide (c < n) && risingB n c cs
section
variable {P : Program} {w : World} {K : PySem.W.Frag} {mg : Str → Option Value} {base : Heap} {f : Addr} {fd : FuncData}
theorem at_place {ns : List Int} {k : Int} (h0 : 0 ≤ k) (h : k < ns.length) : ∃ v, ns[k.toNat]? = some v ∧ atI (ns.map V.int) k = some (.int v) := by
  have hk : k.toNat < ns.length := by omega
  refine ⟨ns[k.toNat], by simp [hk], ?_⟩
  have e : k = ((k.toNat : Nat) : Int) := by omega
  have q : atI (ns.map V.int) ((k.toNat : Nat) : Int) = some (.int ns[k.toNat]) := atI_nat (by simp [hk])
  rw [← e] at q
  exact q
theorem sc_cell : FnScope ["_law_script", "_law_k"] ["_law_script", "_law_k"] (defScope (top 28)) := ⟨rfl, rfl, rfl, by decide +kernel, rfl, by decide +kernel, by decide +kernel⟩
theorem ok_cell (T : Txt mg) (F : Fun K "_law_cell_at" "_law_cell_at" (top 28) f fd) : FnOk P w K mg base CX0 1 f fd ["_law_script", "_law_k"] (spCell K) := by
  have S := sc_cell
  refine F.ok S (fun vs H Q E h => ?_) (fun cdv A outer s H vs Q E hr h => ?_)
  · obtain ⟨a, ns, k, rfl, _⟩ := h
    rfl
  obtain ⟨a, ns, k, rfl, hS, h0, q⟩ := h
  refine ⟨_, (pss_cons (ps_if (pt_cmpR op_lt (pv 1) (pe_callB call_len' rfl T.b_len PySem.boot_len (pa_cons (pv 0) pa_nil)) (nomark _))
      (pss_one (ps_ret (pe_ix ix_list (pv 0) (pv 1) (fun _ _ => rfl))))
      pss_nil)
    (pss_one (ps_ret pe_int))), ?_⟩
  try dsimp only [cxOf, Cx.nox, Cx.wish]
  walk_at "rd"
  refine ite2 (fun c => ?_) (fun c => ?_)
  · have c := of_decide_eq_true c
    obtain ⟨v, _, e⟩ := at_place h0 c
    walk_at "rd"
    exact rd_ixL hS e (q v)
  · walk_at "rd"
    exact q 0
theorem prime_at {k : Int} (h0 : 0 ≤ k) (h : k < 16) : ∃ p, atI ([1000003, 1000033, 1000037, 1000039, 1000081, 1000099, 1000117, 1000121, 1000133, 1000151, 1000159, 1000171, 1000183, 1000187, 1000193, 1000199].map V.int) k = some (.int p) ∧ 0 < p := by
  obtain ⟨v, e1, e2⟩ := at_place (ns := [1000003, 1000033, 1000037, 1000039, 1000081, 1000099, 1000117, 1000121, 1000133, 1000151, 1000159, 1000171, 1000183, 1000187, 1000193, 1000199]) h0 (by simpa using h)
  refine ⟨v, e2, ?_⟩
  have m := mem_of_at e1
  revert m v
  intro v _ _ m
  simp only [List.mem_cons, List.not_mem_nil, or_false] at m
  omega
theorem menu_at {k : Int} (h0 : 0 ≤ k) (h : k < 4) : ∃ p, atI ([3, 30, 1000001, 10].map V.int) k = some (.int p) ∧ 3 ≤ p ∧ p ≤ 1000001 := by
  obtain ⟨v, e1, e2⟩ := at_place (ns := [3, 30, 1000001, 10]) h0 (by simpa using h)
  refine ⟨v, e2, ?_⟩
  have m := mem_of_at e1
  simp only [List.mem_cons, List.not_mem_nil, or_false] at m
  omega
theorem sc_draw : FnScope ["_law_cell", "_law_k", "_law_many", "_law_primes"] ["_law_cell", "_law_k", "_law_many"] (defScope (top 29)) := ⟨rfl, rfl, rfl, by decide +kernel, rfl, by decide +kernel, by decide +kernel⟩
theorem ok_draw (T : Txt mg) (F : Fun K "_law_draw" "_law_draw" (top 29) f fd) : FnOk P w K mg base CX0 1 f fd ["_law_cell", "_law_k", "_law_many"] spDraw := by
  have S := sc_draw
  refine F.ok S (fun vs H Q E h => ?_) (fun cdv A outer s H vs Q E hr h => ?_)
  · obtain ⟨c, k, m, rfl, _⟩ := h
    rfl
  obtain ⟨c, k, m, rfl, h0, hm, q⟩ := h
  refine ⟨_, (pss_cons (ps_set (i := 3) S.nd rfl (Or.inl rfl) (pe_tup (pa_ints (js := [1000003, 1000033, 1000037, 1000039, 1000081, 1000099, 1000117, 1000121, 1000133, 1000151, 1000159, 1000171, 1000183, 1000187, 1000193, 1000199]) (.cons (.cons (.cons (.cons (.cons (.cons (.cons (.cons (.cons (.cons (.cons (.cons (.cons (.cons (.cons (.cons .nil)))))))))))))))))))
    (pss_one (ps_ret (pe_op op_mod (pe_op op_mod (pe_op op_add (pe_op op_mul (pv 0) pe_int) (pe_op op_mul (pv 1) pe_int)) (pe_ix ix_tup (pv 3) (pe_op op_mod (pv 1) pe_int) (fun _ _ => rfl))) (pv 2))))), ?_⟩
  try dsimp only [cxOf, Cx.nox, Cx.wish]
  walk_at "rd"
  refine ⟨by show 16 ≤ sizeLine; decide, fun p hp => ?_⟩
  walk_at "rd"
  refine rd_I (.inr ⟨by decide, by decide⟩) ?_
  walk_at "rd"
  refine rd_I (.inr ⟨by decide, by decide⟩) ?_
  walk_at "rd"
  refine rd_I (by decide) ?_
  obtain ⟨pr, e, hpr⟩ := prime_at (k := k % 16) (Int.emod_nonneg _ (by decide)) (Int.emod_lt_of_pos _ (by decide))
  refine rd_ixT (SqT.of upd_same) e ?_
  refine rd_I hpr ?_
  walk_at "rd"
  refine rd_I hm ?_
  exact q _ _ (Int.emod_nonneg _ (by omega)) (Int.emod_lt_of_pos _ hm) (same_new hp _)
end
section
variable {P : Program} {w : World} {K : PySem.W.Frag} {mg : Str → Option Value} {base : Heap} {f : Addr} {fd : FuncData}
theorem sc_row : FnScope ["_law_script", "_law_kind", "_law_most", "_law_row_here", "_law_k", "_law_load"] ["_law_script"] (defScope (top 30)) := ⟨rfl, rfl, rfl, by decide +kernel, rfl, by decide +kernel, by decide +kernel⟩
theorem ok_row (T : Txt mg) (C_law_cell_at : Callee P w K mg base "_law_cell_at" ["_law_script", "_law_k"] 1 (spCell K)) (C_law_draw : Callee P w K mg base "_law_draw" ["_law_cell", "_law_k", "_law_many"] 1 spDraw) (F : Fun K "_law_row" "_law_row" (top 30) f fd) :
    FnOk P w K mg base CX0 2 f fd ["_law_script"] (spRow K) := by
  have S := sc_row
  refine F.ok S (fun vs H Q E h => ?_) (fun cdv A outer s H vs Q E hr h => ?_)
  · obtain ⟨a, ns, rfl, _⟩ := h
    rfl
  obtain ⟨a, ns, rfl, hS, hl, q⟩ := h
  refine ⟨_, (pss_cons (ps_set (i := 1) S.nd rfl (Or.inl rfl) (pe_callC C_law_draw (hr.mono (by decide)) rfl (pa_cons (pe_callC C_law_cell_at (hr.mono (by decide)) rfl (pa_cons (pv 0) (pa_cons pe_int pa_nil))) (pa_cons pe_int (pa_cons pe_int pa_nil)))))
    (pss_cons (ps_set (i := 2) S.nd rfl (Or.inl rfl) (pe_ix ix_tup (pe_tup (pa_cons pe_int (pa_cons pe_int (pa_cons pe_int (pa_cons pe_int pa_nil))))) (pe_callC C_law_draw (hr.mono (by decide)) rfl (pa_cons (pe_callC C_law_cell_at (hr.mono (by decide)) rfl (pa_cons (pv 0) (pa_cons pe_int pa_nil))) (pa_cons pe_int (pa_cons pe_int pa_nil)))) (fun _ _ => rfl)))
    (pss_cons (ps_set (i := 3) S.nd rfl (Or.inl rfl) (pe_lst pa_nil))
    (pss_cons (ps_for PassesOwn.never rfl (pi_range1 rfl T.b_range (pa_cons (pe_callB call_len' rfl T.b_len PySem.boot_len (pa_cons (pv 0) pa_nil)) pa_nil)) (pg_name (i := 4) S.nd rfl (Or.inl rfl))
      (pss_cons (ps_set (i := 5) S.nd rfl (Or.inl rfl) (pe_callC C_law_draw (hr.mono (by decide)) rfl (pa_cons (pe_ix ix_list (pv 0) (pv 4) (fun _ _ => rfl)) (pa_cons (pe_op op_add (pe_op op_mod (pv 4) pe_int) pe_int) (pa_cons (pv 2) pa_nil)))))
      (pss_cons (ps_join (ps_if (PW.pt (pw_and (pt_cmpR op_eq (pv 1) pe_int (nomark _)) (pw_and1 (pt_cmpR op_gt (pe_callC C_law_draw (hr.mono (by decide)) rfl (pa_cons (pe_ix ix_list (pv 0) (pv 4) (fun _ _ => rfl)) (pa_cons (pe_op op_add (pe_op op_mod (pv 4) pe_int) pe_int) (pa_cons pe_int pa_nil)))) pe_int (nomark _)))))
        (pss_one (ps_set (i := 5) S.nd rfl (Or.inl rfl) pe_int))
        pss_nil))
      (pss_cons (ps_join (ps_if (pt_cmpR op_eq (pv 1) pe_int (nomark _))
        (pss_one (ps_set (i := 5) S.nd rfl (Or.inl rfl) (pe_op op_add (pe_op op_fdiv (pv 2) pe_int) (pe_op op_mod (pv 5) pe_int))))
        pss_nil))
      (pss_one (ps_expr (pe_bm PySem.F.plainAttrs_list PySem.F.slot_list_append PySem.F.type_list_append mt_append (pv 3) (pa_cons (pv 5) pa_nil))))))))
    (pss_one (ps_ret (pv 3))))))), ?_⟩
  try dsimp only [cxOf, Cx.nox, Cx.wish]
  walk_at "rd"
  refine ⟨a, ns, 0, rfl, hS, by decide, fun v => ?_⟩
  walk_at "rd"
  refine ⟨v, 6, 4, rfl, by decide, by decide, fun kd H1 _ _ s1 => ?_⟩
  walk_at "rd"
  refine ⟨by show 4 ≤ sizeLine; decide, fun p hp => ?_⟩
  have s2 := s1.trans (same_new hp (.tup ([3, 30, 1000001, 10].map V.int)))
  walk_at "rd"
  refine ⟨a, ns, 1, rfl, s2.seq hS, by decide, fun v' => ?_⟩
  walk_at "rd"
  refine ⟨v', 7, 4, rfl, by decide, by decide, fun ix H2 i0 i1 s3 => ?_⟩
  obtain ⟨mo, em, m1, m2⟩ := menu_at i0 i1
  walk_at "rd"
  refine rd_ixT (SqT.of (s3 _ _ upd_same)) em ?_
  walk_at "rd"
  have s4 := s2.trans s3
  refine ⟨Nat.zero_le _, fun r hr' => ?_⟩
  have s5 := s4.trans (same_new hr' (.lst []))
  have hS5 : SqL K (upd H2 r (.lst [])) a (ns.map V.int) := s5.seq hS
  walk_at "rd"
  refine ⟨_, rfl, by omega, by omega, for_rangeF (lo := 0) (k := ns.length) (fun i σ H3 => ∃ (ms : List Int) (v1 v2 : Option V), σ = [some (.ref a), some (.int kd), some (.int mo), some (.ref r), v1, v2] ∧ Same H H3 ∧ H3 r = some (.lst (ms.map V.int)) ∧ ms.length = i ∧ Good ms)
    ⟨[], none, none, rfl, s5, upd_same, rfl, fun x hx => nomatch hx⟩ ?_ ?_⟩
  · rintro i σ H3 hi ⟨ms, v1, v2, rfl, s6, hr6, ml, gm⟩
    obtain ⟨z, _, ez⟩ := at_place (ns := ns) (k := 0 + (i : Nat)) (by omega) (by omega)
    walk_at "rd"
    refine rd_ixL (s6.seq hS) ez ?_
    walk_at "rd"
    refine rd_I (by decide) ?_
    walk_at "rd"
    refine ⟨_, _, _, rfl, (by have := Int.emod_nonneg (0 + (i : Int)) (b := 5) (by decide); omega), by omega, fun ld H4 l0 l1 s7 => ?_⟩
    walk_at "rd"
    refine rd_joinF (fun σ' H5 => ∃ ld : Int, σ' = [some (.ref a), some (.int kd), some (.int mo), some (.ref r), some (.int (0 + (i : Nat))), some (.int ld)] ∧ Same H3 H5 ∧ 0 ≤ ld ∧ ld < mo) ?_ ?_
    · walk_at "rd"
      refine ite2 (fun c => ?_) (fun c => ?_)
      · walk_at "rd"
        refine rd_ixL ((s6.trans s7).seq hS) ez ?_
        walk_at "rd"
        refine rd_I (by decide) ?_
        walk_at "rd"
        refine ⟨_, _, _, rfl, (by have := Int.emod_nonneg (0 + (i : Int)) (b := 7) (by decide); omega), by decide, fun ld' H5 _ _ s8 => ?_⟩
        walk_at "rd"
        refine ite2 (fun c => ?_) (fun c => ?_)
        · walk_at "rd"
          exact ⟨0, rfl, s7.trans s8, Int.le_refl 0, by omega⟩
        · walk_at "rd"
          exact ⟨ld, rfl, s7.trans s8, l0, l1⟩
      · walk_at "rd"
        exact ⟨ld, rfl, s7, l0, l1⟩
    · rintro σ' H5 ⟨ld, rfl, s9, l0, l1⟩
      walk_at "rd"
      refine rd_joinF (fun σ' H6 => ∃ ld : Int, σ' = [some (.ref a), some (.int kd), some (.int mo), some (.ref r), some (.int (0 + (i : Nat))), some (.int ld)] ∧ H6 = H5 ∧ 0 ≤ ld ∧ ld ≤ 1000000) ?_ ?_
      · walk_at "rd"
        refine ite2 (fun c => ?_) (fun c => ?_)
        · walk_at "rd"
          refine rd_I ⟨by decide, by decide⟩ ?_
          walk_at "rd"
          refine rd_I (by decide) ?_
          walk_at "rd"
          have e1 := Int.emod_nonneg ld (b := 2) (by decide)
          have e2 := Int.emod_lt_of_pos ld (b := 2) (by decide)
          exact ⟨_, rfl, rfl, by omega, by omega⟩
        · walk_at "rd"
          exact ⟨ld, rfl, rfl, l0, by omega⟩
      · rintro σ' H6 ⟨ld, rfl, rfl, g0, g1⟩
        have hr7 := s9 _ _ hr6
        walk_at "rd"
        refine ⟨tyL (SqL.of hr7), ?_⟩
        walk_at "rd"
        refine rd_append (xs := ms.map V.int) hr7 (by rw [List.length_map]; exact small1000 (by omega)) ?_
        walk_at "rd"
        refine ⟨ms ++ [ld], _, _, rfl, fun d o zz => ?_, ?_, by rw [List.length_append, ml]; rfl, fun x hx => ?_⟩
        · have z2 := s9 _ _ (s6 d o zz)
          have ne : d ≠ r := fun y => by
            subst y
            have := s4 _ _ zz
            rw [hr'] at this
            cases this
          rw [upd_ne ne]
          exact z2
        · rw [upd_same, List.map_append]
          rfl
        · rcases List.mem_append.mp hx with y | y
          · exact gm x y
          · have y : x = ld := by simpa using y
            subst y
            exact ⟨g0, g1⟩
  · rintro σ H3 ⟨ms, v1, v2, rfl, s6, hr6, ml, gm⟩
    walk_at "rd"
    exact q r H3 ms ml gm s6 (s4.free hr') hr6
end
theorem lit_sp : (" " : Str) = sp := by decide +kernel
theorem lit_bar : (" | " : Str) = bar := by decide +kernel
theorem lit_bw : ("|" : Str) = bw := by decide +kernel
theorem lit_dash : ("-" : Str) = dash := by decide +kernel
theorem lit_0 : ("0" : Str) = tx [48] := by decide +kernel
theorem lit_figs : ("0123456789" : Str).cps.toList = [48, 49, 50, 51, 52, 53, 54, 55, 56, 57] := by decide +kernel
theorem fig_mem (c : Nat) : decide (c ∈ ("0123456789" : Str).cps.toList) = figB c := by
  rw [lit_figs, Bool.eq_iff_iff]
  simp only [figB, Bool.and_eq_true, decide_eq_true_eq, List.mem_cons, List.not_mem_nil, or_false]
  omega
theorem bools3 : ([false, false, false] : List Bool).any id = false := rfl
theorem rising_of {n : Nat} : ∀ {ds : List Nat} {lo : Nat}, Rising lo n ds → risingB n ((lo : Int) - 1) (ic ds) = true
  | [], _, _ => rfl
  | d :: ds, lo, ⟨h1, h2, h3⟩ => by
    have := rising_of h3
    unfold ic at this ⊢
    rw [List.map_cons]
    simp only [risingB, Bool.and_eq_true, decide_eq_true_eq]
    refine ⟨⟨by omega, by omega⟩, ?_⟩
    rw [show ((d : Nat) : Int) = ((d + 1 : Nat) : Int) - 1 by omega]
    exact this
def Refuses (C : Addr) (H : Hp) (E : XK) : Prop := ∀ H', Same H H' → E (.ref C) none H'
theorem Refuses.on {C : Addr} {H H' : Hp} {E : XK} (h : Refuses C H E) (s : Same H H') : Refuses C H' E := fun H2 s2 => h H2 (s.trans s2)
def spWhole : Sp := fun vs H Q _ => ∃ i, vs = [.int i] ∧ Q (.bl true) H
def spWholeFrom : Sp := fun vs H Q _ => ∃ i m : Int, vs = [.int i, .int m] ∧ Q (.bl (decide (m ≤ i))) H
def spLoad : Sp := fun vs H Q _ => ∃ i, vs = [.int i] ∧ 0 ≤ i ∧ i ≤ 1000000 ∧ Q (.bl true) H
def spIsRow (K : PySem.W.Frag) : Sp := fun vs H Q _ => ∃ (a : Addr) (ns : List Int), vs = [.ref a] ∧ SqL K H a (ns.map V.int) ∧ ns.length ≤ 10000 ∧ Good ns ∧ Q (.bl true) H
def spRisingP (K : PySem.W.Frag) : Sp := fun vs H Q _ => ∃ (b a : Addr) (ns cs : List Int) (m : Int), vs = [.ref b, .ref a, .int m] ∧ SqL K H a (ns.map V.int) ∧ H b = some (.lst (cs.map V.int)) ∧ Q (.bl (risingB ns.length (m - 1) cs)) H
def spAreCuts (K : PySem.W.Frag) : Sp := fun vs H Q _ => ∃ (b a : Addr) (ns cs : List Int), vs = [.ref b, .ref a] ∧ SqL K H a (ns.map V.int) ∧ H b = some (.lst (cs.map V.int)) ∧ Q (.bl (risingB ns.length 0 cs)) H
def spCheckRow : Sp := fun vs H Q _ => ∃ (a : Addr) (ns : List Int), vs = [.ref a] ∧ H a = some (.lst (ns.map V.int)) ∧ ns.length ≤ 10000 ∧ Good ns ∧ Q .non H
def spCheckCuts : Sp := fun vs H Q _ => ∃ (b a : Addr) (ns : List Int) (cs : List Nat), vs = [.ref b, .ref a] ∧ H a = some (.lst (ns.map V.int)) ∧ H b = some (.lst ((ic cs).map V.int)) ∧ Rising 1 ns.length cs ∧ Q .non H
def spWritten : Sp := fun vs H Q _ => ∃ (a b : Addr) (ns : List Int) (cs : List Nat), vs = [.ref a, .ref b] ∧ H a = some (.lst (ns.map V.int)) ∧ H b = some (.lst ((ic cs).map V.int)) ∧ ns.length ≤ 10000 ∧ Good ns ∧ Rising 1 ns.length cs ∧ ∀ H', Same H H' → Q (.str (writM ns cs)) H'
def spNought : Sp := fun vs H Q _ => ∃ t : Str, vs = [.str t] ∧ t.length ≤ 5000 ∧ Q (.bl (noughtB t)) H
def spWrLoad : Sp := fun vs H Q _ => ∃ t : Str, vs = [.str t] ∧ t.length ≤ 5000 ∧ Q (.bl (numB t)) H
def spReadPart (ca : CA) : Sp := fun vs H Q E => ∃ t : Str, vs = [.str t] ∧ t.length ≤ 5000 ∧ ((W t).all numB = true → ∀ (r : Addr) (H' : Hp), Same H H' → H r = none → H' r = some (.lst (((W t).map valW).map V.int)) → Q (.ref r) H') ∧ ((W t).all numB = false → Refuses ca.BadText H E)
def Pair (H H' : Hp) (p r c : Addr) (row : List Int) (cuts : List Nat) : Prop := Same H H' ∧ H p = none ∧ H r = none ∧ H c = none ∧ r ≠ c ∧ p ≠ r ∧ p ≠ c ∧ H' p = some (.tup [.ref r, .ref c]) ∧ H' r = some (.lst (row.map V.int)) ∧ H' c = some (.lst ((ic cuts).map V.int))
def spRead (K : PySem.W.Frag) (ca : CA) : Sp := fun vs H Q E => (∃ t : Str, vs = [.str t] ∧ t.length ≤ 5000 ∧ (∀ row cuts, readM t = some (row, cuts) → ∀ p r c H', Pair H H' p r c row cuts → Q (.ref p) H') ∧ (readM t = none → Refuses ca.BadText H E)) ∨
  ∃ v n, vs = [v] ∧ TyOf K H v (.type n) ∧ PySem.W.kitOne K (.type n) (.type "str") = some false ∧ Refuses ca.BadText H E
section
variable {P : Program} {w : World} {K : PySem.W.Frag} {mg : Str → Option Value} {base : Heap} {f : Addr} {fd : FuncData}
theorem sc_is_whole : FnScope ["value"] ["value"] (defScope (top 9)) := ⟨rfl, rfl, rfl, by decide +kernel, rfl, by decide +kernel, by decide +kernel⟩
theorem ok_is_whole (T : Txt mg)  (F : Fun K "is_whole" "is_whole" (top 9) f fd) : FnOk P w K mg base CX0 1 f fd ["value"] spWhole := by
  have S := sc_is_whole
  refine F.ok S (fun vs H Q E h => ?_) (fun cdv A outer s H vs Q E hr h => ?_)
  · obtain ⟨i, rfl, _⟩ := h
    rfl
  obtain ⟨i, rfl, q⟩ := h
  refine ⟨_, (pss_one (ps_ret (pe_and (pe_callB call_isi' rfl T.b_isinstance boot_isinstance (pa_cons (pv 0) (pa_cons (pe_bltn (v := .ty "int") rfl T.b_int boot_int rfl) pa_nil))) (pe_one (pe_not (pe_callB call_isi' rfl T.b_isinstance boot_isinstance (pa_cons (pv 0) (pa_cons (pe_bltn (v := .ty "bool") rfl T.b_bool boot_bool rfl) pa_nil)))))))), ?_⟩
  try dsimp only [cxOf, Cx.nox, Cx.wish]
  walk_at "rd"
  refine rd_isiInt (kit_int_int K) ?_
  walk_at "rd"
  refine rd_isiInt (kit_int_bool K) ?_
  walk_at "rd"
  exact q
theorem sc_is_whole_from : FnScope ["value", "least"] ["value", "least"] (defScope (top 10)) := ⟨rfl, rfl, rfl, by decide +kernel, rfl, by decide +kernel, by decide +kernel⟩
theorem ok_is_whole_from (T : Txt mg) (C_is_whole : Callee P w K mg base "is_whole" ["value"] 1 spWhole) (F : Fun K "is_whole_from" "is_whole_from" (top 10) f fd) : FnOk P w K mg base CX0 2 f fd ["value", "least"] spWholeFrom := by
  have S := sc_is_whole_from
  refine F.ok S (fun vs H Q E h => ?_) (fun cdv A outer s H vs Q E hr h => ?_)
  · obtain ⟨i, m, rfl, _⟩ := h
    rfl
  obtain ⟨i, m, rfl, q⟩ := h
  refine ⟨_, (pss_one (ps_ret (pe_and (pe_callC C_is_whole (hr.mono (by decide)) rfl (pa_cons (pv 0) pa_nil)) (pe_one (pe_cmpR op_ge (pv 0) (pv 1) (nomark _)))))), ?_⟩
  try dsimp only [cxOf, Cx.nox, Cx.wish]
  walk_at "rd"
  refine ⟨i, rfl, ?_⟩
  walk_at "rd"
  exact q
theorem sc_is_load : FnScope ["value"] ["value"] (defScope (top 11)) := ⟨rfl, rfl, rfl, by decide +kernel, rfl, by decide +kernel, by decide +kernel⟩
theorem ok_is_load (T : Txt mg) (C_is_whole_from : Callee P w K mg base "is_whole_from" ["value", "least"] 2 spWholeFrom) (F : Fun K "is_load" "is_load" (top 11) f fd) : FnOk P w K mg base CX0 3 f fd ["value"] spLoad := by
  have S := sc_is_load
  refine F.ok S (fun vs H Q E h => ?_) (fun cdv A outer s H vs Q E hr h => ?_)
  · obtain ⟨i, rfl, _⟩ := h
    rfl
  obtain ⟨i, rfl, h1, h2, q⟩ := h
  refine ⟨_, (pss_one (ps_ret (pe_and (pe_callC C_is_whole_from (hr.mono (by decide)) rfl (pa_cons (pv 0) (pa_cons pe_int pa_nil))) (pe_one (pe_cmpR op_le (pv 0) (pe_globI T.g_MOST_LOAD rfl) (nomark _)))))), ?_⟩
  try dsimp only [cxOf, Cx.nox, Cx.wish]
  walk_at "rd"
  refine ⟨i, 0, rfl, ?_⟩
  walk_at "rd"
  rw [decide_eq_true h1]
  walk_at "rd"
  rw [decide_eq_true h2]
  exact q
theorem sc_is_row : FnScope ["value", "load"] ["value"] (defScope (top 12)) := ⟨rfl, rfl, rfl, by decide +kernel, rfl, by decide +kernel, by decide +kernel⟩
theorem ok_is_row (T : Txt mg) (C_is_load : Callee P w K mg base "is_load" ["value"] 3 spLoad) (F : Fun K "is_row" "is_row" (top 12) f fd) : FnOk P w K mg base CX0 4 f fd ["value"] (spIsRow K) := by
  have S := sc_is_row
  refine F.ok S (fun vs H Q E h => ?_) (fun cdv A outer s H vs Q E hr h => ?_)
  · obtain ⟨a, ns, rfl, _⟩ := h
    rfl
  obtain ⟨a, ns, rfl, hS, hl, hg, q⟩ := h
  refine ⟨_, (pss_cons (ps_if (PW.pt (pw_or (pt_not (pt_val (pe_callB call_isiL rfl T.b_isinstance boot_isinstance (pa_cons (pv 0) (pa_cons (pe_bltn (v := .ty "list") rfl T.b_list boot_list rfl) pa_nil))))) (pw_or1 (pt_cmpR op_gt (pe_callB call_len' rfl T.b_len PySem.boot_len (pa_cons (pv 0) pa_nil)) (pe_globI T.g_MOST_LOADS rfl) (nomark _)))))
      (pss_one (ps_ret pe_bl))
      pss_nil)
    (pss_cons (ps_for PassesOwn.never rfl (pi_list (pv 0)) (pg_name (i := 1) S.nd rfl (Or.inl rfl))
      (pss_one (ps_if (pt_not (pt_val (pe_callC C_is_load (hr.mono (by decide)) rfl (pa_cons (pv 1) pa_nil))))
        (pss_one (ps_ret pe_bl))
        pss_nil)))
    (pss_one (ps_ret pe_bl)))), ?_⟩
  try dsimp only [cxOf, Cx.nox, Cx.wish]
  walk_at "rd"
  refine rd_isiL hS (kit_list_list K) ?_
  walk_at "rd"
  rw [Bool.not_true]
  walk_at "rd"
  rw [decide_eq_false (by omega)]
  walk_at "rd"
  refine ⟨a, rfl, ⟨_, hS⟩, for_listF (K := K) (a := a) (xs := ns.map V.int) (fun i σ H2 => ∃ v, σ = [some (.ref a), v] ∧ H2 = H) ⟨none, rfl, rfl⟩ (fun i σ H2 _ hh => ?_) ?_ ?_⟩
  · obtain ⟨_, _, rfl⟩ := hh
    exact hS
  · rintro i y σ H2 hi ⟨v, rfl, rfl⟩
    obtain ⟨z, rfl, hz⟩ := at_int hi
    have gz := hg z (mem_of_at hz)
    walk_at "rd"
    refine ⟨z, rfl, gz.1, gz.2, ?_⟩
    walk_at "rd"
    rw [Bool.not_true]
    walk_at "rd"
    exact ⟨_, rfl, rfl⟩
  · rintro σ H2 ⟨v, rfl, rfl⟩
    walk_at "rd"
    exact q
theorem sc_are_rising_places : FnScope ["value", "row", "least", "free", "place"] ["value", "row", "least"] (defScope (top 13)) := ⟨rfl, rfl, rfl, by decide +kernel, rfl, by decide +kernel, by decide +kernel⟩
theorem ok_are_rising_places (T : Txt mg) (C_is_whole_from : Callee P w K mg base "is_whole_from" ["value", "least"] 2 spWholeFrom) (F : Fun K "are_rising_places" "are_rising_places" (top 13) f fd) : FnOk P w K mg base CX0 3 f fd ["value", "row", "least"] (spRisingP K) := by
  have S := sc_are_rising_places
  refine F.ok S (fun vs H Q E h => ?_) (fun cdv A outer s H vs Q E hr h => ?_)
  · obtain ⟨b, a, ns, cs, m, rfl, _⟩ := h
    rfl
  obtain ⟨b, a, ns, cs, m, rfl, hS, hb, q⟩ := h
  refine ⟨_, (pss_cons (ps_if (pt_not (pt_val (pe_callB call_isiL rfl T.b_isinstance boot_isinstance (pa_cons (pv 0) (pa_cons (pe_bltn (v := .ty "list") rfl T.b_list boot_list rfl) pa_nil)))))
      (pss_one (ps_ret pe_bl))
      pss_nil)
    (pss_cons (ps_set (i := 3) S.nd rfl (Or.inl rfl) (pv 2))
    (pss_cons (ps_for PassesOwn.never rfl (pi_list (pv 0)) (pg_name (i := 4) S.nd rfl (Or.inl rfl))
      (pss_cons (ps_if (PW.pt (pw_or (pt_not (pt_val (pe_callC C_is_whole_from (hr.mono (by decide)) rfl (pa_cons (pv 4) (pa_cons (pv 3) pa_nil))))) (pw_or1 (pt_cmpR op_ge (pv 4) (pe_callB call_len' rfl T.b_len PySem.boot_len (pa_cons (pv 1) pa_nil)) (nomark _)))))
        (pss_one (ps_ret pe_bl))
        pss_nil)
      (pss_one (ps_set (i := 3) S.nd rfl (Or.inl rfl) (pe_op op_add (pv 4) pe_int)))))
    (pss_one (ps_ret pe_bl))))), ?_⟩
  try dsimp only [cxOf, Cx.nox, Cx.wish]
  have hB : SqL K H b (cs.map V.int) := SqL.of hb
  walk_at "rd"
  refine rd_isiL hB (kit_list_list K) ?_
  walk_at "rd"
  rw [Bool.not_true]
  walk_at "rd"
  refine ⟨b, rfl, ⟨_, hB⟩, for_listF (K := K) (a := b) (xs := cs.map V.int) (fun i σ H2 => ∃ (g : Int) (v : Option V), σ = [some (.ref b), some (.ref a), some (.int m), some (.int g), v] ∧ H2 = H ∧ risingB ns.length (g - 1) (cs.drop i) = risingB ns.length (m - 1) cs) ⟨m, none, rfl, rfl, rfl⟩ (fun i σ H2 _ hh => ?_) ?_ ?_⟩
  · obtain ⟨_, _, _, rfl, _⟩ := hh
    exact hB
  · rintro i y σ H2 hi ⟨g, v, rfl, rfl, eq⟩
    obtain ⟨z, rfl, hz⟩ := at_int hi
    rw [drop_at hz] at eq
    simp only [risingB] at eq
    walk_at "rd"
    refine ⟨z, g, rfl, ?_⟩
    walk_at "rd"
    by_cases c1 : g ≤ z
    · rw [decide_eq_true c1, Bool.not_true]
      walk_at "rd"
      by_cases c2 : z < ns.length
      · rw [decide_eq_false (by omega)]
        walk_at "rd"
        refine ⟨_, _, rfl, rfl, ?_⟩
        rw [← eq, decide_eq_true (show g - 1 < z by omega), decide_eq_true c2, show z + 1 - 1 = z by omega]
        simp
      · rw [decide_eq_true (by omega)]
        walk_at "rd"
        rw [decide_eq_false c2, Bool.and_false, Bool.false_and] at eq
        rw [← eq] at q
        exact q
    · rw [decide_eq_false c1, Bool.not_false]
      walk_at "rd"
      rw [decide_eq_false (show ¬ g - 1 < z by omega), Bool.false_and, Bool.false_and] at eq
      rw [← eq] at q
      exact q
  · rintro σ H2 ⟨g, v, rfl, rfl, eq⟩
    rw [List.length_map, List.drop_eq_nil_of_le (Nat.le_refl _)] at eq
    walk_at "rd"
    rw [← eq] at q
    exact q
theorem sc_are_cuts : FnScope ["value", "row"] ["value", "row"] (defScope (top 14)) := ⟨rfl, rfl, rfl, by decide +kernel, rfl, by decide +kernel, by decide +kernel⟩
theorem ok_are_cuts (T : Txt mg) (C_are_rising_places : Callee P w K mg base "are_rising_places" ["value", "row", "least"] 3 (spRisingP K)) (F : Fun K "are_cuts" "are_cuts" (top 14) f fd) : FnOk P w K mg base CX0 4 f fd ["value", "row"] (spAreCuts K) := by
  have S := sc_are_cuts
  refine F.ok S (fun vs H Q E h => ?_) (fun cdv A outer s H vs Q E hr h => ?_)
  · obtain ⟨b, a, ns, cs, rfl, _⟩ := h
    rfl
  obtain ⟨b, a, ns, cs, rfl, hS, hb, q⟩ := h
  refine ⟨_, (pss_one (ps_ret (pe_callC C_are_rising_places (hr.mono (by decide)) rfl (pa_cons (pv 0) (pa_cons (pv 1) (pa_cons pe_int pa_nil)))))), ?_⟩
  try dsimp only [cxOf, Cx.nox, Cx.wish]
  walk_at "rd"
  refine ⟨b, a, ns, cs, 1, rfl, hS, hb, ?_⟩
  exact q
theorem sc_check_row : FnScope ["value"] ["value"] (defScope (top 15)) := ⟨rfl, rfl, rfl, by decide +kernel, rfl, by decide +kernel, by decide +kernel⟩
theorem ok_check_row (T : Txt mg) (C_is_row : Callee P w K mg base "is_row" ["value"] 4 (spIsRow K)) (F : Fun K "check_row" "check_row" (top 15) f fd) : FnOk P w K mg base CX0 5 f fd ["value"] spCheckRow := by
  have S := sc_check_row
  refine F.ok S (fun vs H Q E h => ?_) (fun cdv A outer s H vs Q E hr h => ?_)
  · obtain ⟨a, ns, rfl, _⟩ := h
    rfl
  obtain ⟨a, ns, rfl, ha, hl, hg, q⟩ := h
  refine ⟨_, (pss_one (ps_if (pt_not (pt_val (pe_callC C_is_row (hr.mono (by decide)) rfl (pa_cons (pv 0) pa_nil))))
      (pss_one ps_never)
      pss_nil)), ?_⟩
  try dsimp only [cxOf, Cx.nox, Cx.wish]
  walk_at "rd"
  refine ⟨a, ns, rfl, SqL.of ha, hl, hg, ?_⟩
  walk_at "rd"
  rw [Bool.not_true]
  walk_at "rd"
  exact q
theorem sc_check_cuts : FnScope ["value", "row"] ["value", "row"] (defScope (top 16)) := ⟨rfl, rfl, rfl, by decide +kernel, rfl, by decide +kernel, by decide +kernel⟩
theorem ok_check_cuts (T : Txt mg) (C_are_cuts : Callee P w K mg base "are_cuts" ["value", "row"] 4 (spAreCuts K)) (F : Fun K "check_cuts" "check_cuts" (top 16) f fd) : FnOk P w K mg base CX0 5 f fd ["value", "row"] spCheckCuts := by
  have S := sc_check_cuts
  refine F.ok S (fun vs H Q E h => ?_) (fun cdv A outer s H vs Q E hr h => ?_)
  · obtain ⟨b, a, ns, cs, rfl, _⟩ := h
    rfl
  obtain ⟨b, a, ns, cs, rfl, ha, hb, hri, q⟩ := h
  refine ⟨_, (pss_one (ps_if (pt_not (pt_val (pe_callC C_are_cuts (hr.mono (by decide)) rfl (pa_cons (pv 0) (pa_cons (pv 1) pa_nil)))))
      (pss_one ps_never)
      pss_nil)), ?_⟩
  try dsimp only [cxOf, Cx.nox, Cx.wish]
  walk_at "rd"
  refine ⟨b, a, ns, ic cs, rfl, SqL.of ha, hb, ?_⟩
  have rr := rising_of hri
  rw [show ((1 : Nat) : Int) - 1 = 0 by decide] at rr
  rw [rr]
  walk_at "rd"
  rw [Bool.not_true]
  walk_at "rd"
  exact q
end
theorem at0 {α : Type} {d : α} {r : List α} : atI (d :: r) 0 = some d := atI_nat (j := 0) (xs := d :: r) (v := d) rfl
theorem log_small {i : Int} (h0 : 0 ≤ i) (h1 : i ≤ 1000000) : i.natAbs.log2 < 1920 := by
  by_cases z : i.natAbs = 0
  · rw [z]; decide
  · rw [Nat.log2_lt z]
    exact Nat.lt_of_le_of_lt (show i.natAbs ≤ 1000000 by omega) (Nat.lt_of_lt_of_le (show 1000000 < 2 ^ 20 by decide) (Nat.pow_le_pow_right (by decide) (by decide)))
theorem strI_len {i : Int} (h0 : 0 ≤ i) (h1 : i ≤ 1000000) : (strI i).length ≤ 10 := PySem.W.KT.len_num h0 (by omega)
theorem strs_sum : ∀ {ns : List Int}, Good ns → ((ns.map strI).map (·.length)).sum ≤ 10 * ns.length
  | [], _ => Nat.le_refl _
  | x :: xs, h => by
    have h1 := strI_len (h x (List.mem_cons_self ..)).1 (h x (List.mem_cons_self ..)).2
    have h2 := strs_sum (ns := xs) fun y hy => h y (List.mem_cons_of_mem _ hy)
    simp only [List.map_cons, List.sum_cons, List.length_cons]
    omega
theorem joinI_len {ns : List Int} (h : Good ns) : (Str.join sp (ns.map strI)).length ≤ 11 * ns.length := by
  have h1 := StrLaws.join_length_le sp (ns.map strI)
  have h2 := strs_sum h
  rw [List.length_map, show sp.length = 1 from rfl] at h1
  omega
theorem parts_sum {ns : List Int} (h : Good ns) : ∀ (cs : List Nat) (st : Nat), Rising st (ns.length + 1) cs → st ≤ ns.length → ((partsT ns st cs).map (·.length)).sum ≤ 11 * (ns.length - st)
  | [], _, _, _ => Nat.zero_le _
  | c :: cs, st, ⟨h1, h2, h3⟩, hl => by
    have ih := parts_sum h cs c (h3.mono (by omega)) (by omega)
    have g : Good ((ns.drop st).take (c - st)) := fun x hx => h x (List.mem_of_mem_drop (List.mem_of_mem_take hx))
    have j := joinI_len g
    rw [List.length_take, List.length_drop] at j
    simp only [partsT, List.map_cons, List.sum_cons]
    omega
theorem partsT_len (ns : List Int) : ∀ (cs : List Nat) (st : Nat), (partsT ns st cs).length = cs.length
  | [], _ => rfl
  | _ :: cs, _ => congrArg Nat.succ (partsT_len ns cs _)
theorem ic_snoc (cs : List Nat) (n : Nat) : (ic (cs ++ [n])).map V.int = (ic cs).map V.int ++ [V.int (n : Int)] := by
  unfold ic
  rw [List.map_append, List.map_append]
  rfl
theorem at_str {ws : List Str} {i : Nat} {y : V} (h : (ws.map V.str)[i]? = some y) : ∃ w, y = .str w ∧ ws[i]? = some w := by
  rw [List.getElem?_map] at h
  cases e : ws[i]? with
  | none => rw [e] at h; cases h
  | some z => rw [e] at h; exact ⟨z, (Option.some.inj h).symm, rfl⟩
theorem word_len {t w : Str} (h : w ∈ W t) : w.length ≤ t.length := PyProof.Rows.part_short h
theorem part_len {t p : Str} (h : p ∈ Txt.split t bar) : p.length ≤ t.length := PyProof.Rows.part_short h
theorem W_len (t : Str) : (W t).length ≤ t.length + 2 := PyProof.Rows.split_le t sp
theorem flat_take (t : Str) (i : Nat) : (((Txt.split t bar).take i).map W).flatten.length ≤ t.length + 2 := by
  have h1 : (((Txt.split t bar).take i).map W).flatten.length ≤ ((Txt.split t bar).map W).flatten.length := by
    conv => rhs; rw [← List.take_append_drop i (Txt.split t bar), List.map_append, List.flatten_append, List.length_append]
    omega
  have h2 := inter_len ((Txt.split t bar).map W)
  rw [← W_parts] at h2
  have := W_len t
  omega
theorem kit_str_str (K : PySem.W.Frag) : PySem.W.kitOne K (.type "str") (.type "str") = some true := by first | rfl | (unfold PySem.W.kitOne; rfl)
theorem spl1 : ((" " : Str)).length ≠ 0 := by decide +kernel
theorem spl3 : ((" | " : Str)).length ≠ 0 := by decide +kernel
def strV : V → V
  | .int i => .str (strI i)
  | _ => .non
theorem strV_map (ns : List Int) : (ns.map V.int).map strV = (ns.map strI).map V.str := by
  rw [List.map_map, List.map_map]
  rfl
section
variable {P : Program} {w : World} {K : PySem.W.Frag} {mg : Str → Option Value} {base : Heap} {f : Addr} {fd : FuncData} {ca : CA}
theorem sc_written : FnScope ["row", "cuts", "parts", "start", "cut"] ["row", "cuts"] (defScope (top 22)) := ⟨rfl, rfl, rfl, by decide +kernel, rfl, by decide +kernel, by decide +kernel⟩
theorem ok_written (T : Txt mg) (C_check_row : Callee P w K mg base "check_row" ["value"] 5 spCheckRow) (C_check_cuts : Callee P w K mg base "check_cuts" ["value", "row"] 5 spCheckCuts) (F : Fun K "written" "written" (top 22) f fd) : FnOk P w K mg base CX0 6 f fd ["row", "cuts"] spWritten := by
  have S := sc_written
  refine F.ok S (fun vs H Q E h => ?_) (fun cdv A outer s H vs Q E hr h => ?_)
  · obtain ⟨a, b, ns, cs, rfl, _⟩ := h
    rfl
  obtain ⟨a, b, ns, cs, rfl, ha, hb, hl, hg, hri, q⟩ := h
  refine ⟨_, (pss_cons (ps_expr (pe_callC C_check_row (hr.mono (by decide)) rfl (pa_cons (pv 0) pa_nil)))
    (pss_cons (ps_expr (pe_callC C_check_cuts (hr.mono (by decide)) rfl (pa_cons (pv 1) (pa_cons (pv 0) pa_nil))))
    (pss_cons (ps_if (pt_cmpR op_eq (pe_callB call_len' rfl T.b_len PySem.boot_len (pa_cons (pv 0) pa_nil)) pe_int (nomark _))
      (pss_one (ps_ret (pe_globS T.g_NO_LOADS rfl)))
      pss_nil)
    (pss_cons (ps_set (i := 2) S.nd rfl (Or.inl rfl) (pe_lst pa_nil))
    (pss_cons (ps_set (i := 3) S.nd rfl (Or.inl rfl) pe_int)
    (pss_cons (ps_for PassesOwn.never rfl (pi_list (pe_op op_cat (pv 1) (pe_lst (pa_cons (pe_callB call_len' rfl T.b_len PySem.boot_len (pa_cons (pv 0) pa_nil)) pa_nil)))) (pg_name (i := 4) S.nd rfl (Or.inl rfl))
      (pss_cons (ps_expr (pe_bm PySem.F.plainAttrs_list PySem.F.slot_list_append PySem.F.type_list_append mt_append (pv 2) (pa_cons (pe_bm PySem.F.plainAttrs_str PySem.F.slot_str_join PySem.F.type_str_join mt_join (pe_globS T.g_BLANK rfl) (pa_cons (pe_comp rfl rfl (by decide +kernel) (by decide +kernel) rfl (fr := []) (by decide +kernel) .nil (by decide +kernel) (pi_list (pe_slice sl_list (pv 0) (po_some (pv 3)) (po_some (pv 4)))) (fun _ _ _ _ _ => pf_nil) (fun _ _ _ _ _ => (pe_callTy call_strI rfl T.b_str boot_str (pa_cons (pv 0) pa_nil)))) pa_nil)) pa_nil)))
      (pss_one (ps_set (i := 3) S.nd rfl (Or.inl rfl) (pv 4)))))
    (pss_one (ps_ret (pe_bm PySem.F.plainAttrs_str PySem.F.slot_str_join PySem.F.type_str_join mt_join (pe_globS T.g_BAR rfl) (pa_cons (pv 2) pa_nil)))))))))), ?_⟩
  try dsimp only [cxOf, Cx.nox, Cx.wish]
  have hS : SqL K H a (ns.map V.int) := SqL.of ha
  walk_at "rd"
  refine ⟨a, ns, rfl, ha, hl, hg, ?_⟩
  walk_at "rd"
  refine ⟨b, a, ns, cs, rfl, ha, hb, hri, ?_⟩
  walk_at "rd"
  by_cases c : ns = []
  · rw [decide_eq_true (show ((ns.length : Nat) : Int) = 0 by rw [c]; rfl)]
    walk_at "rd"
    have := q H (Same.refl H)
    rw [writM, if_pos c, ← lit_dash] at this
    exact this
  rw [decide_eq_false (show ¬ ((ns.length : Nat) : Int) = 0 from fun z => c (List.eq_nil_of_length_eq_zero (by omega)))]
  walk_at "rd"
  refine ⟨Nat.zero_le _, fun r hr' => ?_⟩
  have s1 : Same H (upd H r (.lst [])) := same_new hr' _
  walk_at "rd"
  refine rd_lenI (s1.seq hS) ?_
  walk_at "rd"
  refine ⟨by show 1 ≤ sizeLine; decide, fun m hm => ?_⟩
  walk_at "rd"
  have s2 : Same H (upd (upd H r (.lst [])) m (.lst [V.int ns.length])) := s1.trans (same_new hm _)
  have cl : cs.length ≤ ns.length := by
    have := hri.len (by cases cs with | nil => (cases ns with | nil => exact absurd rfl c | cons _ _ => simp) | cons d cs => (have := hri.2.1; omega))
    omega
  refine rd_cat (xs := (ic cs).map V.int) (zs := [V.int ns.length]) (s2 _ _ hb) upd_same (by rw [List.length_map, ic_len]; exact bigE (by simp; omega)) fun L hL => ?_
  have s3 : Same H (upd (upd (upd H r (.lst [])) m (.lst [V.int ns.length])) L (.lst ((ic cs).map V.int ++ [V.int ns.length]))) := s2.trans (same_new hL _)
  have nrm : r ≠ m := fun z => by rw [← z, upd_same] at hm; cases hm
  have nrL : r ≠ L := fun z => by rw [← z, upd_ne nrm, upd_same] at hL; cases hL
  rw [← ic_snoc] at s3 ⊢
  have rise : Rising 0 (ns.length + 1) (cs ++ [ns.length]) := (hri.mono (by omega)).snoc (Nat.zero_le _) (by omega)
  refine ⟨L, rfl, ⟨_, SqL.of upd_same⟩, for_listF (K := K) (a := L) (xs := (ic (cs ++ [ns.length])).map V.int)
    (fun i σ H2 => ∃ (st : Nat) (v : Option V) (done : List Str), σ = [some (.ref a), some (.ref b), some (.ref r), some (.int st), v] ∧ Same H H2 ∧ H2 L = some (.lst ((ic (cs ++ [ns.length])).map V.int)) ∧ H2 r = some (.lst (done.map V.str)) ∧ done.length = i ∧ done ++ partsT ns st ((cs ++ [ns.length]).drop i) = partsT ns 0 (cs ++ [ns.length]) ∧ st ≤ ns.length)
    ⟨0, none, [], rfl, s3, upd_same, by rw [upd_ne nrL, upd_ne nrm, upd_same]; rfl, rfl, rfl, Nat.zero_le _⟩ (fun i σ H2 _ hh => ?_) ?_ ?_⟩
  · obtain ⟨_, _, _, _, _, hL2, _⟩ := hh
    exact SqL.of hL2
  · rintro i y σ H2 hi ⟨st, v, done, rfl, sm, hL2, hd, dl, eq, sl⟩
    obtain ⟨z, rfl, hz⟩ := at_int hi
    obtain ⟨e, rfl, he⟩ := at_ic hz
    obtain ⟨_, e2, _⟩ := rise.at he
    have il : i < (cs ++ [ns.length]).length := lt_of_at he
    rw [List.length_append, List.length_singleton] at il
    walk_at "rd"
    refine ⟨tyL (SqL.of hd), ?_⟩
    walk_at "rd"
    refine ⟨rfl, ?_⟩
    walk_at "rd"
    refine rd_slL (sm.seq hS) fun p hp => ?_
    have nrp : r ≠ p := fun z => by rw [← z, hd] at hp; cases hp
    have nLp : L ≠ p := fun z => by rw [← z, hL2] at hp; cases hp
    have cut : cutV (ns.map V.int) (some (st : Int)) (some (e : Int)) = ((ns.drop st).take (e - st)).map V.int := by
      rw [cut_ints, HT.sIx_nat, HT.sIx_nat, Nat.min_eq_left sl, Nat.min_eq_left (by omega)]
    rw [cut]
    refine ⟨p, rfl, ⟨_, SqL.of upd_same⟩, fun D hD => comp_listB strV (SqL.of upd_same) hD (by rw [List.length_map, List.length_take, List.length_drop]; omega) (fun j x H3 Q' hj s3 q' => ?_) ?_⟩
    · obtain ⟨k, rfl, hk⟩ := at_int hj
      have gk := hg k (List.mem_of_mem_drop (List.mem_of_mem_take (mem_of_at hk)))
      walk_at "rd"
      exact rd_strI (log_small gk.1 gk.2) q'
    rw [strV_map]
    have g : Good ((ns.drop st).take (e - st)) := fun x hx => hg x (List.mem_of_mem_drop (List.mem_of_mem_take hx))
    walk_at "rd"
    refine rd_joinS (ts := ((ns.drop st).take (e - st)).map strI) (SqL.of upd_same) ?_ ?_
    · have h1 := strs_sum g
      have h2 : ((ns.drop st).take (e - st)).length ≤ 10000 := by rw [List.length_take, List.length_drop]; omega
      rw [List.length_map, lit_sp, show sp.length = 1 from rfl]
      omega
    walk_at "rd"
    have nrD : r ≠ D := fun z => by rw [← z, upd_ne nrp, hd] at hD; cases hD
    have nLD : L ≠ D := fun z => by rw [← z, upd_ne nLp, hL2] at hD; cases hD
    refine rd_append (xs := done.map V.str) (by rw [upd_ne nrD, upd_ne nrp]; exact hd) (by rw [List.length_map]; exact big (by omega)) ?_
    walk_at "rd"
    refine ⟨e, _, done ++ [Str.join sp (((ns.drop st).take (e - st)).map strI)], rfl, fun d o z => ?_, ?_, ?_, ?_, ?_, by omega⟩
    · have z2 := sm d o z
      have nd : d ≠ p := ne_of_none z2 hp
      have ndD : d ≠ D := fun w => by rw [← w, upd_ne nd, z2] at hD; cases hD
      rw [upd_ne (ne_of_none z hr'), upd_ne ndD, upd_ne nd]
      exact z2
    · rw [upd_ne nrL.symm, upd_ne nLD, upd_ne nLp]
      exact hL2
    · rw [upd_same, List.map_append, lit_sp]
      rfl
    · rw [List.length_append, dl]
      rfl
    · rw [← eq, drop_at he, List.append_assoc]
      rfl
  · rintro σ H2 ⟨st, v, done, rfl, sm, hL2, hd, dl, eq, sl⟩
    rw [List.length_map, ic_len] at dl eq
    rw [List.drop_eq_nil_of_le (Nat.le_refl _), show partsT ns st [] = [] from rfl, List.append_nil] at eq
    walk_at "rd"
    refine ⟨rfl, ?_⟩
    walk_at "rd"
    refine rd_joinS (ts := done) (SqL.of hd) ?_ ?_
    · have h1 := parts_sum hg _ 0 rise (Nat.zero_le _)
      have h2 := partsT_len ns (cs ++ [ns.length]) 0
      rw [List.length_append, List.length_singleton] at h2
      rw [eq, lit_bar, show bar.length = 3 from rfl]
      omega
    have := q H2 sm
    rw [writM, if_neg c, ← eq, ← lit_bar] at this
    exact this
theorem sc_has_needless_nought : FnScope ["word"] ["word"] (defScope (top 23)) := ⟨rfl, rfl, rfl, by decide +kernel, rfl, by decide +kernel, by decide +kernel⟩
theorem ok_has_needless_nought (T : Txt mg)  (F : Fun K "has_needless_nought" "has_needless_nought" (top 23) f fd) : FnOk P w K mg base CX0 1 f fd ["word"] spNought := by
  have S := sc_has_needless_nought
  refine F.ok S (fun vs H Q E h => ?_) (fun cdv A outer s H vs Q E hr h => ?_)
  · obtain ⟨t, rfl, _⟩ := h
    rfl
  obtain ⟨t, rfl, hl, q⟩ := h
  refine ⟨_, (pss_one (ps_ret (pe_and (pe_cmpR op_gt (pe_callB call_lenT rfl T.b_len PySem.boot_len (pa_cons (pv 0) pa_nil)) pe_int (nomark _)) (pe_one (pe_cmpR op_eq (pe_ix ix_str (pv 0) pe_int (fun _ _ => rfl)) pe_str (nomark _)))))), ?_⟩
  try dsimp only [cxOf, Cx.nox, Cx.wish]
  walk_at "rd"
  refine rd_lenS (bigE (by omega)) ?_
  walk_at "rd"
  unfold noughtB at q
  by_cases c : 1 < t.length
  · rw [decide_eq_true (show ((1 : Int) < (t.length : Int)) by omega)]
    rw [decide_eq_true c, Bool.true_and] at q
    walk_at "rd"
    cases e : t.cps.toList with
    | nil =>
      rw [← len_list, e] at c
      exact absurd c (by decide)
    | cons d rest =>
      refine rd_ixS (d := d) (bigE (by omega)) (by rw [e]; exact at0) ?_
      walk_at "rd"
      rw [e] at q
      have : decide ((⟨#[d]⟩ : Str) = "0") = decide ((d :: rest).head? = some 48) := by
        rw [lit_0]
        refine decide_eq_decide.mpr ⟨fun z => ?_, fun z => ?_⟩
        · have := congrArg (fun s : Str => s.cps.toList) z
          have : [d] = [48] := this
          injection this with this _
          rw [this]
          rfl
        · have : d = 48 := by simpa using z
          rw [this]
          rfl
      rw [this]
      exact q
  · rw [decide_eq_false (show ¬ ((1 : Int) < (t.length : Int)) by omega)]
    rw [decide_eq_false c, Bool.false_and] at q
    walk_at "rd"
    exact q
theorem sc_is_written_load : FnScope ["word", "sign"] ["word"] (defScope (top 24)) := ⟨rfl, rfl, rfl, by decide +kernel, rfl, by decide +kernel, by decide +kernel⟩
theorem ok_is_written_load (T : Txt mg) (C_has_needless_nought : Callee P w K mg base "has_needless_nought" ["word"] 1 spNought) (F : Fun K "is_written_load" "is_written_load" (top 24) f fd) : FnOk P w K mg base CX0 2 f fd ["word"] spWrLoad := by
  have S := sc_is_written_load
  refine F.ok S (fun vs H Q E h => ?_) (fun cdv A outer s H vs Q E hr h => ?_)
  · obtain ⟨t, rfl, _⟩ := h
    rfl
  obtain ⟨t, rfl, hl, q⟩ := h
  refine ⟨_, (pss_cons (ps_if (PW.pt (pw_or (pt_cmpR op_eq (pe_callB call_lenT rfl T.b_len PySem.boot_len (pa_cons (pv 0) pa_nil)) pe_int (nomark _)) (pw_or (pt_cmpR op_gt (pe_callB call_lenT rfl T.b_len PySem.boot_len (pa_cons (pv 0) pa_nil)) (pe_callB call_lenT rfl T.b_len PySem.boot_len (pa_cons (pe_callTy call_strI rfl T.b_str boot_str (pa_cons (pe_globI T.g_MOST_LOAD rfl) pa_nil)) pa_nil)) (nomark _)) (pw_or1 (pt_val (pe_callC C_has_needless_nought (hr.mono (by decide)) rfl (pa_cons (pv 0) pa_nil)))))))
      (pss_one (ps_ret pe_bl))
      pss_nil)
    (pss_cons (ps_for PassesOwn.never rfl (pi_str (pv 0)) (pg_name (i := 1) S.nd rfl (Or.inl rfl))
      (pss_one (ps_if (pt_cmpR op_notInS (pv 1) (pe_globS T.g_FIGURES rfl) (by with_unfolding_all rfl))
        (pss_one (ps_ret pe_bl))
        pss_nil)))
    (pss_one (ps_ret (pe_cmpR op_le (pe_callTy call_intS rfl T.b_int boot_int (pa_cons (pv 0) pa_nil)) (pe_globI T.g_MOST_LOAD rfl) (nomark _)))))), ?_⟩
  try dsimp only [cxOf, Cx.nox, Cx.wish]
  walk_at "rd"
  refine rd_lenS (bigE (by omega)) ?_
  walk_at "rd"
  have z7 : ((toString (1000000 : Int) : String) : Str).length = 7 := by decide +kernel
  by_cases c0 : t.length = 0
  · rw [decide_eq_true (show ((t.length : Nat) : Int) = 0 by omega)]
    walk_at "rd"
    have : numB t = false := by unfold numB; rw [decide_eq_false (fun z => z c0)]; rfl
    rw [this] at q
    exact q
  rw [decide_eq_false (show ¬ ((t.length : Nat) : Int) = 0 by omega)]
  walk_at "rd"
  refine rd_lenS (bigE (by omega)) ?_
  walk_at "rd"
  refine rd_strI (by decide) ?_
  walk_at "rd"
  refine rd_lenS (by rw [z7]; exact bigE (by decide)) ?_
  rw [z7]
  walk_at "rd"
  by_cases c7 : t.length ≤ 7
  rotate_left
  · rw [decide_eq_true (show ((7 : Nat) : Int) < ((t.length : Nat) : Int) by omega)]
    walk_at "rd"
    have : numB t = false := by unfold numB; rw [decide_eq_false c7]; simp
    rw [this] at q
    exact q
  rw [decide_eq_false (show ¬ ((7 : Nat) : Int) < ((t.length : Nat) : Int) by omega)]
  walk_at "rd"
  refine ⟨t, rfl, hl, ?_⟩
  cases cn : noughtB t with
  | true =>
    walk_at "rd"
    have : numB t = false := by unfold numB; rw [cn]; simp
    rw [this] at q
    exact q
  | false =>
  walk_at "rd"
  have nq : numB t = (t.cps.toList.all figB && decide (PySem.NumText.digitsVal t.cps.toList ≤ 1000000)) := by
    unfold numB
    rw [decide_eq_true c0, decide_eq_true c7, cn]
    rfl
  rw [nq] at q
  refine ⟨t, rfl, for_strF (x := t) (fun i σ H2 => ∃ v, σ = [some (.str t), v] ∧ H2 = H ∧ (t.cps.toList.drop i).all figB = t.cps.toList.all figB) ⟨none, rfl, rfl, rfl⟩ ?_ ?_⟩
  · rintro i d σ H2 hi ⟨v, rfl, rfl, eq⟩
    rw [drop_at hi, List.all_cons] at eq
    walk_at "rd"
    rw [fig_mem]
    cases cf : figB d with
    | true =>
      rw [cf, Bool.true_and] at eq
      walk_at "rr"
      exact ⟨_, rfl, rfl, eq⟩
    | false =>
      rw [cf, Bool.false_and] at eq
      walk_at "rr"
      rw [← eq, Bool.false_and] at q
      exact q
  · rintro σ H2 ⟨v, rfl, rfl, eq⟩
    rw [← len_list, List.drop_eq_nil_of_le (Nat.le_refl _)] at eq
    have ad := figs_all (w := t) eq.symm
    walk_at "rd"
    refine rd_intS (PySem.intText_digits ad (fun z => c0 (by rw [← len_list, z]; rfl)) (by omega)) (by omega) ?_
    walk_at "rd"
    rw [← eq] at q
    rw [show decide (((PySem.NumText.digitsVal t.cps.toList : Nat) : Int) ≤ 1000000) = decide (PySem.NumText.digitsVal t.cps.toList ≤ 1000000) from decide_eq_decide.mpr (by omega)]
    exact q
theorem sc_read_part : FnScope ["text", "loads", "word"] ["text"] (defScope (top 25)) := ⟨rfl, rfl, rfl, by decide +kernel, rfl, by decide +kernel, by decide +kernel⟩
theorem ok_read_part (T : Txt mg) (c : Cl K mg ca) (C_is_written_load : Callee P w K mg base "is_written_load" ["word"] 2 spWrLoad) (F : Fun K "read_part" "read_part" (top 25) f fd) : FnOk P w K mg base (CXE P w) 4 f fd ["text"] (spReadPart ca) := by
  have S := sc_read_part
  refine F.okE S (fun vs H Q E h => ?_) (fun cdv A outer s H vs Q E hr h => ?_)
  · obtain ⟨t, rfl, _⟩ := h
    rfl
  obtain ⟨t, rfl, hl, q, hf⟩ := h
  refine ⟨_, (pss_cons (ps_set (i := 1) S.nd rfl (Or.inl rfl) (pe_lst pa_nil))
    (pss_cons (ps_for passOwnE rfl (pi_list (pe_bm PySem.F.plainAttrs_str PySem.F.slot_str_split PySem.F.type_str_split mt_split (pv 0) (pa_cons (pe_globS T.g_BLANK rfl) pa_nil))) (pg_name (i := 2) S.nd rfl (Or.inl rfl))
      (pss_cons (ps_if (pt_not (pt_val (pe_callC C_is_written_load (hr.mono (by decide)) rfl (pa_cons (pv 2) pa_nil))))
        (pss_one (ps_raise raisesE rfl rfl c.m_BadText c.x_BadText.cls (pa_cons pe_str pa_nil)))
        pss_nil)
      (pss_one (ps_expr (pe_bm PySem.F.plainAttrs_list PySem.F.slot_list_append PySem.F.type_list_append mt_append (pv 1) (pa_cons (pe_callTy call_intS rfl T.b_int boot_int (pa_cons (pv 2) pa_nil)) pa_nil))))))
    (pss_one (ps_ret (pv 1))))), ?_⟩
  try dsimp only [cxOf, Cx.nox, Cx.wish]
  walk_at "rd"
  refine ⟨Nat.zero_le _, fun r hr' => ?_⟩
  have s1 : Same H (upd H r (.lst [])) := same_new hr' _
  walk_at "rd"
  refine ⟨rfl, ?_⟩
  walk_at "rd"
  refine rd_split spl1 (by omega) fun l hl' => ?_
  rw [lit_sp]
  have nrl : r ≠ l := fun z => by rw [← z, upd_same] at hl'; cases hl'
  have s2 := s1.trans (same_new hl' (.lst ((W t).map V.str)))
  refine ⟨l, rfl, ⟨_, SqL.of upd_same⟩, for_listF (K := K) (a := l) (xs := (W t).map V.str)
    (fun i σ H2 => ∃ v, σ = [some (.str t), some (.ref r), v] ∧ Same H H2 ∧ H2 l = some (.lst ((W t).map V.str)) ∧ H2 r = some (.lst ((((W t).take i).map valW).map V.int)) ∧ ((W t).take i).all numB = true)
    ⟨none, rfl, s2, upd_same, by rw [upd_ne nrl, upd_same]; rfl, rfl⟩ (fun i σ H2 _ hh => ?_) ?_ ?_⟩
  · obtain ⟨_, _, _, h2, _⟩ := hh
    exact SqL.of h2
  · rintro i y σ H2 hi ⟨v, rfl, sm, hl2, hr2, al⟩
    obtain ⟨u, rfl, hu⟩ := at_str hi
    have um : u ∈ W t := mem_of_at hu
    have il : i < (W t).length := lt_of_at hu
    have wl := W_len t
    walk_at "rd"
    refine ⟨u, rfl, by have := word_len um; omega, ?_⟩
    cases nb : numB u with
    | true =>
      have nu := num_of nb
      walk_at "rr"
      refine ⟨tyL (SqL.of hr2), ?_⟩
      walk_at "rd"
      refine rd_intS nu.reads (by have := nu.short; omega) ?_
      walk_at "rd"
      refine rd_append (xs := (((W t).take i).map valW).map V.int) hr2 (by rw [List.length_map, List.length_map, List.length_take]; exact big (by omega)) ?_
      walk_at "rd"
      refine ⟨_, rfl, fun d o z => ?_, ?_, ?_, ?_⟩
      · rw [upd_ne (ne_of_none z hr')]
        exact sm d o z
      · rw [upd_ne nrl.symm]
        exact hl2
      · rw [upd_same, List.take_add_one, hu, List.map_append, List.map_append]
        rfl
      · rw [List.take_add_one, hu, List.all_append, al]
        show (true && ([u].all numB)) = true
        rw [List.all_cons, nb]
        rfl
    | false =>
      walk_at "rr"
      have bad : (W t).all numB = false := by
        rw [← Bool.not_eq_true, List.all_eq_true]
        intro z
        rw [z u um] at nb
        cases nb
      exact ⟨by simp [sizeLine], hf bad H2 sm⟩
  · rintro σ H2 ⟨v, rfl, sm, hl2, hr2, al⟩
    rw [List.length_map, List.take_length] at hr2 al
    walk_at "rd"
    exact q al r H2 sm hr' hr2
theorem sc_read : FnScope ["text", "row", "cuts", "part"] ["text"] (defScope (top 26)) := ⟨rfl, rfl, rfl, by decide +kernel, rfl, by decide +kernel, by decide +kernel⟩
theorem ok_read (T : Txt mg) (c : Cl K mg ca) (C_read_part : CalleeE P w K mg base "read_part" ["text"] 4 (spReadPart ca)) (F : Fun K "read" "read" (top 26) f fd) : FnOk P w K mg base (CXE P w) 5 f fd ["text"] (spRead K ca) := by
  have S := sc_read
  refine F.okE S (fun vs H Q E h => ?_) (fun cdv A outer s H vs Q E hr h => ?_)
  · rcases h with ⟨t, rfl, _⟩ | ⟨v, n, rfl, _⟩ <;> rfl
  refine ⟨_, (pss_cons (ps_if (pt_not (pt_val (pe_callB call_isi' rfl T.b_isinstance boot_isinstance (pa_cons (pv 0) (pa_cons (pe_bltn (v := .ty "str") rfl T.b_str boot_str rfl) pa_nil)))))
      (pss_one (ps_raise raisesE rfl rfl c.m_BadText c.x_BadText.cls (pa_cons pe_str pa_nil)))
      pss_nil)
    (pss_cons (ps_if (pt_cmpR op_eq (pv 0) (pe_globS T.g_NO_LOADS rfl) (nomark _))
      (pss_one (ps_ret (pe_tup (pa_cons (pe_lst pa_nil) (pa_cons (pe_lst pa_nil) pa_nil)))))
      pss_nil)
    (pss_cons (ps_set (i := 1) S.nd rfl (Or.inl rfl) (pe_lst pa_nil))
    (pss_cons (ps_set (i := 2) S.nd rfl (Or.inl rfl) (pe_lst pa_nil))
    (pss_cons (ps_for passOwnE rfl (pi_list (pe_bm PySem.F.plainAttrs_str PySem.F.slot_str_split PySem.F.type_str_split mt_split (pv 0) (pa_cons (pe_globS T.g_BAR rfl) pa_nil))) (pg_name (i := 3) S.nd rfl (Or.inl rfl))
      (pss_cons (ps_join (ps_if (pt_cmpR op_gt (pe_callB call_len' rfl T.b_len PySem.boot_len (pa_cons (pv 1) pa_nil)) pe_int (nomark _))
        (pss_one (ps_expr (pe_bm PySem.F.plainAttrs_list PySem.F.slot_list_append PySem.F.type_list_append mt_append (pv 2) (pa_cons (pe_callB call_len' rfl T.b_len PySem.boot_len (pa_cons (pv 1) pa_nil)) pa_nil))))
        pss_nil))
      (pss_one (ps_expr (pe_bm PySem.F.plainAttrs_list PySem.F.slot_list_extend PySem.F.type_list_extend mt_extend (pv 1) (pa_cons (pe_callE C_read_part (hr.mono (by decide)) passE rfl (pa_cons (pv 3) pa_nil)) pa_nil))))))
    (pss_cons (ps_if (pt_cmpR op_gt (pe_callB call_len' rfl T.b_len PySem.boot_len (pa_cons (pv 1) pa_nil)) (pe_globI T.g_MOST_LOADS rfl) (nomark _))
      (pss_one (ps_raise raisesE rfl rfl c.m_BadText c.x_BadText.cls (pa_cons pe_str pa_nil)))
      pss_nil)
    (pss_one (ps_ret (pe_tup (pa_cons (pv 1) (pa_cons (pv 2) pa_nil))))))))))), ?_⟩
  try dsimp only [cxOf, Cx.nox, Cx.wish]
  rcases h with ⟨t, rfl, hl, q, hf⟩ | ⟨v, n, rfl, ty, kt, hf⟩
  rotate_left
  · walk_at "rd"
    refine rd_isiT ty kt ?_
    walk_at "rr"
    exact ⟨by simp [sizeLine], hf H (Same.refl H)⟩
  walk_at "rd"
  refine rd_isiT (.str t) (kit_str_str K) ?_
  walk_at "rr"
  rw [lit_dash]
  by_cases d : t = dash
  · rw [decide_eq_true d]
    walk_at "rd"
    refine ⟨Nat.zero_le _, fun r hr => ?_⟩
    walk_at "rd"
    refine ⟨Nat.zero_le _, fun c' hc => ?_⟩
    walk_at "rd"
    refine ⟨by show 2 ≤ sizeLine; decide, fun p hp => ?_⟩
    have nrc : r ≠ c' := fun z => by rw [← z, upd_same] at hc; cases hc
    have npc : p ≠ c' := fun z => by rw [z, upd_same] at hp; cases hp
    have npr : p ≠ r := fun z => by rw [z, upd_ne nrc, upd_same] at hp; cases hp
    have s1 := same_new hr (.lst [])
    have s2 := s1.trans (same_new hc (.lst []))
    refine q [] [] (by unfold readM; rw [if_pos d]) p r c' _ ⟨s2.trans (same_new hp _), s2.free hp, hr, s1.free hc, nrc, npr, npc, upd_same, ?_, ?_⟩
    · rw [upd_ne npr.symm, upd_ne nrc, upd_same]
      rfl
    · rw [upd_ne npc.symm, upd_same]
      rfl
  rw [decide_eq_false d]
  walk_at "rd"
  refine ⟨Nat.zero_le _, fun r hr' => ?_⟩
  walk_at "rd"
  refine ⟨Nat.zero_le _, fun c' hc => ?_⟩
  have nrc : r ≠ c' := fun z => by rw [← z, upd_same] at hc; cases hc
  have s1 := same_new hr' (.lst [])
  have s2 := s1.trans (same_new hc (.lst []))
  have fc : H c' = none := s1.free hc
  walk_at "rd"
  refine ⟨rfl, ?_⟩
  walk_at "rd"
  refine rd_split spl3 (by omega) fun l hl' => ?_
  rw [lit_bar]
  have ncl : c' ≠ l := fun z => by rw [← z, upd_same] at hl'; cases hl'
  have nrl : r ≠ l := fun z => by rw [← z, upd_ne nrc, upd_same] at hl'; cases hl'
  have s3 := s2.trans (same_new hl' (.lst ((Txt.split t bar).map V.str)))
  have go : readM t = readGo [] [] ((Txt.split t bar).map W) := by unfold readM; rw [if_neg d]
  have pl := PyProof.Rows.split_le t bar
  refine ⟨l, rfl, ⟨_, SqL.of upd_same⟩, for_listF (K := K) (a := l) (xs := (Txt.split t bar).map V.str)
    (fun i σ H2 => ∃ (row : List Int) (cuts : List Nat) (v : Option V), σ = [some (.str t), some (.ref r), some (.ref c'), v] ∧ Same H H2 ∧ H2 l = some (.lst ((Txt.split t bar).map V.str)) ∧ H2 r = some (.lst (row.map V.int)) ∧ H2 c' = some (.lst ((ic cuts).map V.int)) ∧
      row.length = (((Txt.split t bar).take i).map W).flatten.length ∧ cuts.length ≤ i ∧ readGo row cuts (((Txt.split t bar).drop i).map W) = readM t)
    ⟨[], [], none, rfl, s3, upd_same, by rw [upd_ne nrl, upd_ne nrc, upd_same]; rfl, by rw [upd_ne ncl, upd_same]; rfl, rfl, Nat.le_refl _, go.symm⟩ (fun i σ H2 _ hh => ?_) ?_ ?_⟩
  · obtain ⟨_, _, _, _, _, h2, _⟩ := hh
    exact SqL.of h2
  · rintro i y σ H2 hi ⟨row, cuts, v, rfl, sm, hl2, hr2, hc2, rl, cl, eq⟩
    obtain ⟨u, rfl, hu⟩ := at_str hi
    have um : u ∈ Txt.split t bar := mem_of_at hu
    have il : i < (Txt.split t bar).length := lt_of_at hu
    have ft := flat_take t i
    have ft2 := flat_take t (i + 1)
    rw [drop_at hu, List.map_cons, readGo] at eq
    walk_at "rd"
    refine rd_joinF (fun σ' H3 => σ' = [some (.str t), some (.ref r), some (.ref c'), some (.str u)] ∧ Same H H3 ∧ H3 l = some (.lst ((Txt.split t bar).map V.str)) ∧ H3 r = some (.lst (row.map V.int)) ∧ H3 c' = some (.lst ((ic (cutsNext row cuts)).map V.int))) ?_ ?_
    · walk_at "rd"
      refine rd_lenI (SqL.of hr2) ?_
      walk_at "rd"
      unfold cutsNext
      by_cases c0 : 0 < row.length
      · rw [decide_eq_true (show (0 : Int) < ((row.length : Nat) : Int) by omega), if_pos c0]
        walk_at "rd"
        refine ⟨tyL (SqL.of hc2), ?_⟩
        walk_at "rd"
        refine rd_lenI (SqL.of hr2) ?_
        walk_at "rd"
        refine rd_append (xs := (ic cuts).map V.int) hc2 (by rw [List.length_map, ic_len]; exact big (by omega)) ?_
        walk_at "rd"
        refine ⟨rfl, fun b o z => ?_, ?_, ?_, ?_⟩
        · rw [upd_ne (ne_of_none z fc)]
          exact sm b o z
        · rw [upd_ne ncl.symm]
          exact hl2
        · rw [upd_ne nrc]
          exact hr2
        · rw [upd_same, ic_snoc]
      · rw [decide_eq_false (show ¬ (0 : Int) < ((row.length : Nat) : Int) by omega), if_neg c0]
        walk_at "rd"
        exact ⟨rfl, sm, hl2, hr2, hc2⟩
    rintro σ' H3 ⟨rfl, sm3, hl3, hr3, hc3⟩
    walk_at "rd"
    refine ⟨tyL (SqL.of hr3), ?_⟩
    walk_at "rd"
    refine ⟨u, rfl, by have := part_len um; omega, fun al p H4 s4 hp hd4 => ?_, fun bad => ?_⟩
    · rw [if_pos al] at eq
      have fl : (row ++ (W u).map valW).length = (((Txt.split t bar).take (i + 1)).map W).flatten.length := by
        rw [List.take_add_one, hu, List.map_append, List.flatten_append, List.length_append, List.length_append, List.length_map, ← rl]
        simp
      rw [List.length_append] at fl
      walk_at "rd"
      refine rd_extend (xs := row.map V.int) (zs := ((W u).map valW).map V.int) (s4 _ _ hr3) hd4 (by rw [List.length_map, List.length_map]; exact bigE (by omega)) ?_
      walk_at "rd"
      refine ⟨row ++ (W u).map valW, cutsNext row cuts, _, rfl, fun b o z => ?_, ?_, ?_, ?_, ?_, ?_, eq⟩
      · rw [upd_ne (ne_of_none z hr')]
        exact s4 _ _ (sm3 b o z)
      · rw [upd_ne nrl.symm]
        exact s4 _ _ hl3
      · rw [upd_same, List.map_append]
      · rw [upd_ne nrc.symm]
        exact s4 _ _ hc3
      · rw [List.length_append]
        exact fl
      · unfold cutsNext
        split
        · rw [List.length_append, List.length_singleton]
          omega
        · omega
    · rw [bad] at eq
      exact (hf eq.symm).on sm3
  · rintro σ H2 ⟨row, cuts, v, rfl, sm, hl2, hr2, hc2, rl, cl, eq⟩
    rw [List.length_map, List.drop_eq_nil_of_le (Nat.le_refl _)] at eq
    have ft := flat_take t (Txt.split t bar).length
    rw [List.length_map] at rl
    walk_at "rd"
    refine rd_lenI (SqL.of hr2) ?_
    walk_at "rd"
    rw [decide_eq_false (by omega)]
    walk_at "rd"
    refine ⟨by show 2 ≤ sizeLine; decide, fun p hp => ?_⟩
    have npr : p ≠ r := fun z => by rw [z, hr2] at hp; cases hp
    have npc : p ≠ c' := fun z => by rw [z, hc2] at hp; cases hp
    refine q row cuts eq.symm p r c' _ ⟨sm.trans (same_new hp _), sm.free hp, hr', fc, nrc, npr, npc, upd_same, ?_, ?_⟩
    · rw [upd_ne npr.symm]
      exact hr2
    · rw [upd_ne npc.symm]
      exact hc2
end
open PyProof.Rows Builtin.Str in
theorem strip_all (t : Str) : decide (Txt.stripChars t "0123456789" = "") = t.cps.toList.all figB := by
  have goes : ∀ c, ("0123456789" : Str).cps.contains c = figB c := fun c => by
    rw [← fig_mem c, Bool.eq_iff_iff]
    simp
  obtain ⟨l1, l2, l3⟩ := lo_facts ("0123456789" : Str).cps.contains t
  obtain ⟨h1, h2, h3, h4⟩ := hi_facts ("0123456789" : Str).cps.contains t _ l1
  have e : Txt.stripChars t "0123456789" = strSub t (stripLo ("0123456789" : Str).cps.contains true t) (stripHi ("0123456789" : Str).cps.contains true t (stripLo ("0123456789" : Str).cps.contains true t)) := stripBy_eq _ true true t
  rw [e]
  generalize stripLo ("0123456789" : Str).cps.contains true t = lo at *
  generalize stripHi ("0123456789" : Str).cps.contains true t lo = hi at *
  have len : (strSub t lo hi).length = hi - lo := by
    rw [← len_list, StrLaws.strSub_toList, List.length_take, List.length_drop, len_list]
    omega
  rw [Bool.eq_iff_iff, decide_eq_true_eq, List.all_eq_true]
  constructor
  · intro z c hc
    have hl : hi - lo = 0 := by
      rw [← len, z]
      decide +kernel
    obtain ⟨k, hk⟩ := List.getElem?_of_mem hc
    have kl := (List.getElem?_eq_some_iff.mp hk).1
    rw [len_list] at kl
    have gd : t.cps.getD k 0 = c := by
      rw [← getD_list, List.getD_eq_getElem?_getD, hk]
      rfl
    rw [← goes, ← gd]
    by_cases q : k < lo
    · exact l2 k q
    · exact h3 k (by omega) kl
  · intro z
    have ll : lo = t.length := by
      rcases l3 with q | q
      · exact q
      · by_cases w : lo = t.length
        · exact w
        · exfalso
          have kl : lo < t.cps.toList.length := by rw [len_list]; omega
          have gd : t.cps.getD lo 0 = t.cps.toList[lo] := by
            rw [← getD_list, List.getD_eq_getElem?_getD, List.getElem?_eq_getElem kl]
            rfl
          rw [gd, goes, z _ (List.getElem_mem kl)] at q
          cases q
    apply str_ext
    have : (strSub t lo hi).cps.toList.length = 0 := by rw [len_list, len]; omega
    rw [List.eq_nil_of_length_eq_zero this]
    decide +kernel
theorem empty_iff (t : Str) : decide (t = "") = decide (t.length = 0) := by
  refine decide_eq_decide.mpr ⟨fun z => by rw [z]; decide +kernel, fun z => ?_⟩
  apply str_ext
  rw [List.eq_nil_of_length_eq_zero (show t.cps.toList.length = 0 by rw [len_list]; exact z)]
  decide +kernel
def optV : Option Int → V
  | none => .non
  | some i => .int i
def spNumber : Sp := fun vs H Q _ => ∃ t : Str, vs = [.str t] ∧ t.length ≤ 5000 ∧ Q (optV (numO t)) H
def spIn : Sp := fun vs H Q _ => ∃ t : Str, vs = [.str t] ∧ t.length ≤ 5000 ∧ (∀ row cuts, readM t = some (row, cuts) → ∀ p r c H', Pair H H' p r c row cuts → Q (.ref p) H') ∧ (readM t = none → ∀ H', Same H H' → Q .non H')
def Bad (K : PySem.W.Frag) (H : Hp) (v : V) : Prop := (∃ t : Str, v = .str t ∧ t.length ≤ 5000 ∧ readM t = none) ∨ ∃ n, TyOf K H v (.type n) ∧ PySem.W.kitOne K (.type n) (.type "str") = some false
def spRefused (K : PySem.W.Frag) : Sp := fun vs H Q _ => ∃ v, vs = [v] ∧ Bad K H v ∧ ∀ H', Same H H' → Q (.bl true) H'
def spRight : Sp := fun vs H Q _ => ∃ t : Str, vs = [.str t] ∧ t.length ≤ 5000 ∧ ∀ H', Same H H' → Q (.bl true) H'
def spFew : Sp := fun vs H Q _ => vs = [] ∧ ∀ (r : Addr) (H' : Hp) (ts : List Str), Same H H' → H r = none → H' r = some (.lst (ts.map V.str)) → ts.length ≤ 100 → (∀ t ∈ ts, t.length ≤ 5000) → Q (.ref r) H'
def spLaw (K : PySem.W.Frag) : Sp := fun vs H Q _ => ∃ (a : Addr) (ns : List Int), vs = [.ref a] ∧ SqL K H a (ns.map V.int) ∧ ns.length ≤ 63 ∧ ∀ H', Q (.bl true) H'
theorem nought_iff {t : Str} (h0 : t.length ≠ 0) {d : Nat} {r : List Nat} (e : t.cps.toList = d :: r) : (decide ((⟨#[d]⟩ : Str) = "0") && !decide (t = "0")) = noughtB t := by
  unfold noughtB
  rw [e, List.head?_cons]
  have l : t.length = r.length + 1 := by rw [← len_list, e]; rfl
  have e1 : decide ((⟨#[d]⟩ : Str) = "0") = decide (some d = some 48) := by
    rw [lit_0]
    refine decide_eq_decide.mpr ⟨fun z => ?_, fun z => ?_⟩
    · have := congrArg (fun s : Str => s.cps.toList) z
      have : [d] = [48] := this
      injection this with this _
      rw [this]
    · injection z with z
      rw [z]
      rfl
  rw [e1]
  by_cases c : d = 48
  · rw [decide_eq_true (show some d = some 48 by rw [c]), Bool.true_and, Bool.and_true]
    by_cases c2 : r = []
    · have : t = "0" := by
        apply str_ext
        rw [e, c, c2, lit_0]
        rfl
      rw [decide_eq_true this, decide_eq_false (by rw [l, c2]; decide)]
      rfl
    · have : ¬ t = "0" := fun z => by
        rw [z, lit_0, tx_list] at e
        injection e with _ e
        exact c2 e.symm
      have rl : 0 < r.length := List.length_pos_iff.mpr c2
      rw [decide_eq_false this, decide_eq_true (by omega)]
      rfl
  · rw [decide_eq_false (fun z => c (Option.some.inj z)), Bool.false_and, Bool.and_false]
section
variable {P : Program} {w : World} {K : PySem.W.Frag} {mg : Str → Option Value} {base : Heap} {f : Addr} {fd : FuncData} {ca : CA}
theorem sc__law_number : FnScope ["_law_text"] ["_law_text"] (defScope (top 33)) := ⟨rfl, rfl, rfl, by decide +kernel, rfl, by decide +kernel, by decide +kernel⟩
theorem ok__law_number (T : Txt mg)  (F : Fun K "_law_number" "_law_number" (top 33) f fd) : FnOk P w K mg base CX0 1 f fd ["_law_text"] spNumber := by
  have S := sc__law_number
  refine F.ok S (fun vs H Q E h => ?_) (fun cdv A outer s H vs Q E hr h => ?_)
  · obtain ⟨t, rfl, _⟩ := h
    rfl
  obtain ⟨t, rfl, hl, q⟩ := h
  refine ⟨_, (pss_cons (ps_if (PW.pt (pw_or (pt_cmpR op_eq (pv 0) pe_str (nomark _)) (pw_or (pt_cmpR op_gt (pe_callB call_lenT rfl T.b_len PySem.boot_len (pa_cons (pv 0) pa_nil)) pe_int (nomark _)) (pw_or (pt_cmpR op_ne (pe_bm PySem.F.plainAttrs_str PySem.F.slot_str_strip PySem.F.type_str_strip mt_strip (pv 0) (pa_cons pe_str pa_nil)) pe_str (nomark _)) (pw_or1 (PW.pt (pw_and (pt_cmpR op_eq (pe_ix ix_str (pv 0) pe_int (fun _ _ => rfl)) pe_str (nomark _)) (pw_and1 (pt_cmpR op_ne (pv 0) pe_str (nomark _))))))))))
      (pss_one (ps_ret pe_non))
      pss_nil)
    (pss_one (ps_ret (pe_ifExp (pt_cmpR op_lt (pe_callTy call_intS rfl T.b_int boot_int (pa_cons (pv 0) pa_nil)) pe_int (nomark _)) (pe_callTy call_intS rfl T.b_int boot_int (pa_cons (pv 0) pa_nil)) pe_non)))), ?_⟩
  try dsimp only [cxOf, Cx.nox, Cx.wish]
  walk_at "rd"
  rw [empty_iff]
  have bad : numB t = false → Q .non H := fun z => by
    unfold numO at q
    rw [z] at q
    exact q
  by_cases c0 : t.length = 0
  · rw [decide_eq_true c0]
    walk_at "rd"
    exact bad (by unfold numB; rw [decide_eq_false (fun z => z c0)]; rfl)
  rw [decide_eq_false c0]
  walk_at "rd"
  refine rd_lenS (bigE (by omega)) ?_
  walk_at "rd"
  by_cases c7 : t.length ≤ 7
  rotate_left
  · rw [decide_eq_true (show (7 : Int) < ((t.length : Nat) : Int) by omega)]
    walk_at "rd"
    exact bad (by unfold numB; rw [decide_eq_false c7]; simp)
  rw [decide_eq_false (show ¬ (7 : Int) < ((t.length : Nat) : Int) by omega)]
  walk_at "rd"
  refine ⟨rfl, ?_⟩
  walk_at "rd"
  refine rd_strip (bigE (by omega)) ?_
  walk_at "rd"
  rw [strip_all]
  cases cf : t.cps.toList.all figB with
  | false =>
    walk_at "rr"
    exact bad (by unfold numB; rw [cf]; simp)
  | true =>
  walk_at "rr"
  cases e : t.cps.toList with
  | nil => exact absurd (by rw [← len_list, e]; rfl) c0
  | cons d rest =>
  refine rd_ixS (d := d) (bigE (by omega)) (by rw [e]; exact at0) ?_
  walk_at "rd"
  have ni := nought_iff c0 e
  have ad := figs_all (w := t) cf
  have rd : PySem.intText? t = some (valW t) := PySem.intText_digits ad (by rw [e]; simp) (by omega)
  have go : noughtB t = false → Q (optV (if valW t < 1000001 then some (valW t) else none)) H := fun z => by
    have nb : numB t = decide (valW t < 1000001) := by
      unfold numB
      rw [decide_eq_true c0, decide_eq_true c7, z, cf]
      show decide _ = _
      unfold valW
      exact decide_eq_decide.mpr (by omega)
    unfold numO at q
    rw [nb] at q
    by_cases y : valW t < 1000001
    · rw [if_pos y]
      rw [decide_eq_true y] at q
      exact q
    · rw [if_neg y]
      rw [decide_eq_false y] at q
      exact q
  by_cases d0 : (⟨#[d]⟩ : Str) = "0"
  · rw [decide_eq_true d0]
    rw [decide_eq_true d0, Bool.true_and] at ni
    walk_at "rd"
    by_cases t0 : t = "0"
    · rw [decide_eq_true t0, Bool.not_true] at ni
      have go := go ni.symm
      rw [decide_eq_true t0]
      walk_at "rr"
      refine rd_intS rd (by omega) ?_
      refine rd_c ?_
      refine rd_I0 ?_
      refine rd_bl ?_
      generalize hb : decide (valW t < 1000001) = bb
      cases bb with
      | true =>
        rw [if_pos (of_decide_eq_true hb)] at go
        walk_at "rd"
        refine rd_intS rd (by omega) ?_
        walk_at "rd"
        exact go
      | false =>
        rw [if_neg (of_decide_eq_false hb)] at go
        walk_at "rd"
        exact go
    · rw [decide_eq_false t0, Bool.not_false] at ni
      rw [decide_eq_false t0]
      walk_at "rr"
      exact bad (by unfold numB; rw [← ni]; simp)
  · rw [decide_eq_false d0]
    rw [decide_eq_false d0, Bool.false_and] at ni
    have go := go ni.symm
    walk_at "rd"
    refine rd_intS rd (by omega) ?_
    refine rd_c ?_
    refine rd_I0 ?_
    refine rd_bl ?_
    generalize hb : decide (valW t < 1000001) = bb
    cases bb with
    | true =>
      rw [if_pos (of_decide_eq_true hb)] at go
      walk_at "rd"
      refine rd_intS rd (by omega) ?_
      walk_at "rd"
      exact go
    | false =>
      rw [if_neg (of_decide_eq_false hb)] at go
      walk_at "rd"
      exact go
end
theorem opts_none (row : List (Option Int)) : inV .non (row.map optV) = decide (none ∈ row) := by
  induction row with
  | nil => rfl
  | cons x xs ih =>
    unfold inV at ih ⊢
    rw [List.map_cons, List.any_cons, ih]
    cases x with
    | none => simp [optV, eqV]
    | some i => simp [optV, eqV]
theorem opts_flat (row : List (Option Int)) : (row.map optV).all flatV = true := by
  rw [List.all_eq_true]
  intro x hx
  obtain ⟨o, _, rfl⟩ := List.mem_map.mp hx
  cases o <;> rfl
theorem opts_ints (row : List Int) : (row.map some).map optV = row.map V.int := by
  rw [List.map_map]
  rfl
theorem ic_mem (n : Nat) (cs : List Nat) : decide ((n : Int) ∈ ic cs) = decide (n ∈ cs) := by
  refine decide_eq_decide.mpr ?_
  unfold ic
  rw [List.mem_map]
  constructor
  · rintro ⟨k, hk, e⟩
    have : k = n := by omega
    rw [← this]
    exact hk
  · intro h
    exact ⟨n, h, rfl⟩
theorem ic_eq_nil {cs : List Nat} : ic cs = [] ↔ cs = [] := by cases cs <;> simp [ic]
theorem ic_last {cs : List Nat} {l : Nat} (h : cs.getLast? = some l) : atI ((ic cs).map V.int) (-1) = some (.int (l : Int)) := by
  obtain ⟨ys, rfl⟩ : ∃ ys, cs = ys ++ [l] := by
    cases e : cs.reverse with
    | nil =>
      rw [List.reverse_eq_nil_iff] at e
      rw [e] at h
      cases h
    | cons a b =>
      have : cs = b.reverse ++ [a] := by rw [← List.reverse_reverse cs, e, List.reverse_cons]
      rw [this, List.getLast?_append] at h
      simp at h
      exact ⟨b.reverse, by rw [this, h]⟩
  rw [ic_snoc]
  exact atI_last _ _
theorem kit_tup_tup (K : PySem.W.Frag) : PySem.W.kitOne K (.type "tuple") (.type "tuple") = some true := by first | rfl | (unfold PySem.W.kitOne; rfl)
theorem hu_of {k : Nat} {A : Around} (hr : Room k A) : A.units + 1 < cLine := by have := hr.un; omega
def AllS (xs : List V) : Prop := ∃ ts : List Str, xs = ts.map V.str ∧ ∀ t ∈ ts, t.length ≤ 5000
theorem AllS.nil : AllS [] := ⟨[], rfl, fun _ h => nomatch h⟩
theorem AllS.cons {t : Str} {xs : List V} (h : t.length ≤ 5000) (a : AllS xs) : AllS (.str t :: xs) := by
  obtain ⟨ts, rfl, al⟩ := a
  refine ⟨t :: ts, rfl, fun u hu => ?_⟩
  rcases List.mem_cons.mp hu with rfl | hu
  · exact h
  · exact al u hu
theorem AllS.app {xs ys : List V} (a : AllS xs) (b : AllS ys) : AllS (xs ++ ys) := by
  obtain ⟨ts, rfl, al⟩ := a
  obtain ⟨us, rfl, bl⟩ := b
  refine ⟨ts ++ us, List.map_append.symm, fun u hu => ?_⟩
  rcases List.mem_append.mp hu with hu | hu
  · exact al u hu
  · exact bl u hu
theorem few_end {Q : VK} {H Hn : Hp} {r : Addr} {xs : List V} (q : ∀ (r : Addr) (H' : Hp) (ts : List Str), Same H H' → H r = none → H' r = some (.lst (ts.map V.str)) → ts.length ≤ 100 → (∀ t ∈ ts, t.length ≤ 5000) → Q (.ref r) H') (s : Same H Hn) (f : H r = none) (e : Hn r = some (.lst xs)) (al : AllS xs) (l : xs.length ≤ 100) : Q (.ref r) Hn := by
  obtain ⟨ts, rfl, bl⟩ := al
  exact q r Hn ts s f e (by rw [List.length_map] at l; exact l) bl
theorem lawM_some {t : Str} {x : List (Option Int) × List Nat} (h : lawM t = some x) : ∃ row cuts, readM t = some (row, cuts) ∧ x = (row.map some, cuts) := by
  rw [law_read] at h
  cases e : readM t with
  | none => rw [e] at h; cases h
  | some y =>
    rw [e] at h
    have : somes y = x := Option.some.inj h
    exact ⟨y.1, y.2, rfl, this.symm⟩
theorem lawM_none {t : Str} (h : lawM t = none) : readM t = none := by
  rw [law_read] at h
  cases e : readM t with
  | none => rfl
  | some y => rw [e] at h; cases h
section
variable {P : Program} {w : World} {K : PySem.W.Frag} {mg : Str → Option Value} {base : Heap} {f : Addr} {fd : FuncData} {ca : CA}
theorem sc__law_in : FnScope ["_law_text", "_law_row_here", "_law_cuts", "_law_word"] ["_law_text"] (defScope (top 34)) := ⟨rfl, rfl, rfl, by decide +kernel, rfl, by decide +kernel, by decide +kernel⟩
theorem ok__law_in (T : Txt mg) (C_law_number : Callee P w K mg base "_law_number" ["_law_text"] 1 spNumber) (F : Fun K "_law_in" "_law_in" (top 34) f fd) : FnOk P w K mg base CX0 3 f fd ["_law_text"] spIn := by
  have S := sc__law_in
  refine F.ok S (fun vs H Q E h => ?_) (fun cdv A outer s H vs Q E hr h => ?_)
  · obtain ⟨t, rfl, _⟩ := h
    rfl
  obtain ⟨t, rfl, hl, q, qn⟩ := h
  refine ⟨_, (pss_cons (ps_if (pt_cmpR op_eq (pv 0) pe_str (nomark _))
      (pss_one (ps_ret (pe_tup (pa_cons (pe_lst pa_nil) (pa_cons (pe_lst pa_nil) pa_nil)))))
      pss_nil)
    (pss_cons (ps_par (i := 1) (j := 2) rfl S.nd rfl rfl (by decide) rfl rfl (pa_cons (pe_lst pa_nil) (pa_cons (pe_lst pa_nil) pa_nil)) rfl)
    (pss_cons (ps_for PassesOwn.never rfl (pi_list (pe_bm PySem.F.plainAttrs_str PySem.F.slot_str_split PySem.F.type_str_split mt_split (pv 0) (pa_cons pe_str pa_nil))) (pg_name (i := 3) S.nd rfl (Or.inl rfl))
      (pss_one (ps_if (pt_cmpR op_eq (pv 3) pe_str (nomark _))
        (pss_cons (ps_if (PW.pt (pw_or (pt_cmpR (op_eq0 (hr.units0)) (pv 1) (pe_lst pa_nil) (nomark _)) (pw_or1 (PW.pt (pw_and (pt_cmpR (op_neL' (hr.units0)) (pv 2) (pe_lst pa_nil) (nomark _)) (pw_and1 (pt_cmpR op_eq (pe_ix ix_list (pv 2) (pe_un un_neg pe_int) (fun _ _ => rfl)) (pe_callB call_len' rfl T.b_len PySem.boot_len (pa_cons (pv 1) pa_nil)) (nomark _))))))))
          (pss_one (ps_ret pe_non))
          pss_nil)
        (pss_one (ps_expr (pe_bm PySem.F.plainAttrs_list PySem.F.slot_list_append PySem.F.type_list_append mt_append (pv 2) (pa_cons (pe_callB call_len' rfl T.b_len PySem.boot_len (pa_cons (pv 1) pa_nil)) pa_nil)))))
        (pss_one (ps_expr (pe_bm PySem.F.plainAttrs_list PySem.F.slot_list_append PySem.F.type_list_append mt_append (pv 1) (pa_cons (pe_callC C_law_number (hr.mono (by decide)) rfl (pa_cons (pv 3) pa_nil)) pa_nil)))))))
    (pss_one (ps_ret (pe_ifExp (PW.pt (pw_or (pt_cmpR op_in_seq pe_non (pv 1) (by with_unfolding_all rfl)) (pw_or (pt_cmpR op_in_seq (pe_callB call_len' rfl T.b_len PySem.boot_len (pa_cons (pv 1) pa_nil)) (pv 2) (by with_unfolding_all rfl)) (pw_or1 (pt_cmpR (op_eq0 (hr.units0)) (pv 1) (pe_lst pa_nil) (nomark _)))))) pe_non (pe_tup (pa_cons (pv 1) (pa_cons (pv 2) pa_nil))))))))), ?_⟩
  try dsimp only [cxOf, Cx.nox, Cx.wish]
  walk_at "rd"
  rw [lit_dash]
  by_cases d : t = dash
  · rw [decide_eq_true d]
    walk_at "rd"
    refine ⟨Nat.zero_le _, fun r hr => ?_⟩
    walk_at "rd"
    refine ⟨Nat.zero_le _, fun c' hc => ?_⟩
    walk_at "rd"
    refine ⟨by show 2 ≤ sizeLine; decide, fun p hp => ?_⟩
    have nrc : r ≠ c' := fun z => by rw [← z, upd_same] at hc; cases hc
    have npc : p ≠ c' := fun z => by rw [z, upd_same] at hp; cases hp
    have npr : p ≠ r := fun z => by rw [z, upd_ne nrc, upd_same] at hp; cases hp
    have s1 := same_new hr (.lst [])
    have s2 := s1.trans (same_new hc (.lst []))
    refine q [] [] (by unfold readM; rw [if_pos d]) p r c' _ ⟨s2.trans (same_new hp _), s2.free hp, hr, s1.free hc, nrc, npr, npc, upd_same, ?_, ?_⟩
    · rw [upd_ne npr.symm, upd_ne nrc, upd_same]
      rfl
    · rw [upd_ne npc.symm, upd_same]
      rfl
  rw [decide_eq_false d]
  walk_at "rd"
  refine ⟨Nat.zero_le _, fun r hr' => ?_⟩
  walk_at "rd"
  refine ⟨Nat.zero_le _, fun c' hc => ?_⟩
  have nrc : r ≠ c' := fun z => by rw [← z, upd_same] at hc; cases hc
  have s1 := same_new hr' (.lst [])
  have s2 := s1.trans (same_new hc (.lst []))
  have fc : H c' = none := s1.free hc
  walk_at "rd"
  refine ⟨rfl, ?_⟩
  walk_at "rd"
  refine rd_split spl1 (by omega) fun l hl' => ?_
  rw [lit_sp]
  have ncl : c' ≠ l := fun z => by rw [← z, upd_same] at hl'; cases hl'
  have nrl : r ≠ l := fun z => by rw [← z, upd_ne nrc, upd_same] at hl'; cases hl'
  have s3 := s2.trans (same_new hl' (.lst ((W t).map V.str)))
  have go : lawM t = (lawGo [] [] (W t)).bind lawEnd := by unfold lawM; rw [if_neg d]
  have wl := W_len t
  refine ⟨l, rfl, ⟨_, SqL.of upd_same⟩, for_listF (K := K) (a := l) (xs := (W t).map V.str)
    (fun i σ H2 => ∃ (row : List (Option Int)) (cuts : List Nat) (v : Option V), σ = [some (.str t), some (.ref r), some (.ref c'), v] ∧ Same H H2 ∧ H2 l = some (.lst ((W t).map V.str)) ∧ H2 r = some (.lst (row.map optV)) ∧ H2 c' = some (.lst ((ic cuts).map V.int)) ∧
      row.length ≤ i ∧ cuts.length ≤ i ∧ (lawGo row cuts ((W t).drop i)).bind lawEnd = lawM t)
    ⟨[], [], none, rfl, s3, upd_same, by rw [upd_ne nrl, upd_ne nrc, upd_same]; rfl, by rw [upd_ne ncl, upd_same]; rfl, Nat.le_refl _, Nat.le_refl _, go.symm⟩ (fun i σ H2 _ hh => ?_) ?_ ?_⟩
  · obtain ⟨_, _, _, _, _, h2, _⟩ := hh
    exact SqL.of h2
  · rintro i y σ H2 hi ⟨row, cuts, v, rfl, sm, hl2, hr2, hc2, rl, cl, eq⟩
    obtain ⟨u, rfl, hu⟩ := at_str hi
    have um : u ∈ W t := mem_of_at hu
    have il : i < (W t).length := lt_of_at hu
    rw [drop_at hu, lawGo] at eq
    walk_at "rd"
    rw [lit_bw]
    by_cases b : u = bw
    · rw [if_pos b] at eq
      rw [decide_eq_true b]
      walk_at "rd"
      refine ⟨Nat.zero_le _, fun e0 he0 => ?_⟩
      have n1 : r ≠ e0 := fun z => by rw [← z, hr2] at he0; cases he0
      have n2 : c' ≠ e0 := fun z => by rw [← z, hc2] at he0; cases he0
      have n3 : l ≠ e0 := fun z => by rw [← z, hl2] at he0; cases he0
      have s4 := sm.trans (same_new he0 (.lst []))
      walk_at "rd"
      refine rd_eq0 (xs := row.map optV) (SqL.of (by rw [upd_ne n1]; exact hr2)) (SqL.of upd_same) ?_
      walk_at "rd"
      have refuse : stuck row cuts = true → ∀ H', Same H H' → Q .non H' := fun z => by
        rw [z] at eq
        exact qn (lawM_none eq.symm)
      have goes : stuck row cuts = false → ∀ H3, Same H H3 → H3 l = some (.lst ((W t).map V.str)) → H3 r = some (.lst (row.map optV)) → H3 c' = some (.lst ((ic cuts).map V.int)) →
          ∃ (row' : List (Option Int)) (cuts' : List Nat) (v : Option V), [some (V.str t), some (.ref r), some (.ref c'), some (.str u)] = [some (V.str t), some (.ref r), some (.ref c'), v] ∧ Same H (upd H3 c' (.lst ((ic cuts).map V.int ++ [V.int row.length]))) ∧ upd H3 c' (.lst ((ic cuts).map V.int ++ [V.int row.length])) l = some (.lst ((W t).map V.str)) ∧ upd H3 c' (.lst ((ic cuts).map V.int ++ [V.int row.length])) r = some (.lst (row'.map optV)) ∧ upd H3 c' (.lst ((ic cuts).map V.int ++ [V.int row.length])) c' = some (.lst ((ic cuts').map V.int)) ∧
            row'.length ≤ i + 1 ∧ cuts'.length ≤ i + 1 ∧ (lawGo row' cuts' ((W t).drop (i + 1))).bind lawEnd = lawM t := fun z H3 g1 g2 g3 g4 => by
        rw [z] at eq
        refine ⟨row, cuts ++ [row.length], _, rfl, fun b' o w => ?_, ?_, ?_, ?_, by omega, ?_, eq⟩
        · rw [upd_ne (ne_of_none w fc)]
          exact g1 b' o w
        · rw [upd_ne ncl.symm]
          exact g2
        · rw [upd_ne nrc]
          exact g3
        · rw [upd_same, ic_snoc]
        · rw [List.length_append, List.length_singleton]
          omega
      by_cases c1 : row = []
      · rw [decide_eq_true (show row.map optV = [] by rw [c1]; rfl)]
        walk_at "rd"
        exact refuse (by unfold stuck; rw [decide_eq_true c1]; rfl) _ s4
      rw [decide_eq_false (show ¬ row.map optV = [] from fun z => c1 (List.map_eq_nil_iff.mp z))]
      walk_at "rd"
      refine ⟨Nat.zero_le _, fun e1 he1 => ?_⟩
      have m1 : r ≠ e1 := fun z => by rw [← z, upd_ne n1, hr2] at he1; cases he1
      have m2 : c' ≠ e1 := fun z => by rw [← z, upd_ne n2, hc2] at he1; cases he1
      have m3 : l ≠ e1 := fun z => by rw [← z, upd_ne n3, hl2] at he1; cases he1
      have s5 := s4.trans (same_new he1 (.lst []))
      have hr5 : upd (upd H2 e0 (.lst [])) e1 (.lst []) r = some (.lst (row.map optV)) := by rw [upd_ne m1, upd_ne n1]; exact hr2
      have hc5 : upd (upd H2 e0 (.lst [])) e1 (.lst []) c' = some (.lst ((ic cuts).map V.int)) := by rw [upd_ne m2, upd_ne n2]; exact hc2
      have hl5 : upd (upd H2 e0 (.lst [])) e1 (.lst []) l = some (.lst ((W t).map V.str)) := by rw [upd_ne m3, upd_ne n3]; exact hl2
      walk_at "rd"
      refine rd_neL (ns := ic cuts) (ms := []) (SqL.of hc5) (SqL.of upd_same) ?_
      by_cases c2 : cuts = []
      · have st : stuck row cuts = false := by unfold stuck; rw [decide_eq_false c1, c2]; rfl
        rw [decide_eq_true (show ic cuts = [] from ic_eq_nil.mpr c2)]
        walk_at "rr"
        refine ⟨tyL (SqL.of hc5), ?_⟩
        walk_at "rd"
        refine rd_len (SqL.of hr5) ?_
        walk_at "rd"
        refine rd_append (xs := (ic cuts).map V.int) hc5 (by rw [List.length_map, ic_len]; exact big (by omega)) ?_
        rw [List.length_map]
        exact goes st _ s5 hl5 hr5 hc5
      · rw [decide_eq_false (show ¬ ic cuts = [] from fun z => c2 (ic_eq_nil.mp z))]
        walk_at "rr"
        obtain ⟨k, hk⟩ : ∃ k, cuts.getLast? = some k := by
          cases e : cuts.getLast? with
          | none => exact absurd (List.getLast?_eq_none_iff.mp e) c2
          | some k => exact ⟨k, rfl⟩
        refine rd_ixL (SqL.of hc5) (ic_last hk) ?_
        walk_at "rd"
        refine rd_len (SqL.of hr5) ?_
        rw [List.length_map]
        walk_at "rd"
        have st : stuck row cuts = decide ((k : Int) = (row.length : Int)) := by
          unfold stuck
          rw [decide_eq_false c1, decide_eq_true c2, hk, Bool.false_or, Bool.true_and]
          exact decide_eq_decide.mpr ⟨fun z => by injection z with z; omega, fun z => by congr 1; omega⟩
        by_cases c3 : (k : Int) = (row.length : Int)
        · rw [decide_eq_true c3] at st
          rw [decide_eq_true c3]
          walk_at "rd"
          exact refuse st _ s5
        · rw [decide_eq_false c3] at st
          rw [decide_eq_false c3]
          walk_at "rd"
          refine ⟨tyL (SqL.of hc5), ?_⟩
          walk_at "rd"
          refine rd_len (SqL.of hr5) ?_
          walk_at "rd"
          refine rd_append (xs := (ic cuts).map V.int) hc5 (by rw [List.length_map, ic_len]; exact big (by omega)) ?_
          rw [List.length_map]
          exact goes st _ s5 hl5 hr5 hc5
    · rw [if_neg b] at eq
      rw [decide_eq_false b]
      walk_at "rd"
      refine ⟨tyL (SqL.of hr2), ?_⟩
      walk_at "rd"
      refine ⟨u, rfl, by have := word_len um; omega, ?_⟩
      walk_at "rd"
      refine rd_append (xs := row.map optV) hr2 (by rw [List.length_map]; exact big (by omega)) ?_
      walk_at "rd"
      refine ⟨row ++ [numO u], cuts, _, rfl, fun b' o w => ?_, ?_, ?_, ?_, ?_, by omega, eq⟩
      · rw [upd_ne (ne_of_none w hr')]
        exact sm b' o w
      · rw [upd_ne nrl.symm]
        exact hl2
      · rw [upd_same, List.map_append]
        rfl
      · rw [upd_ne nrc.symm]
        exact hc2
      · rw [List.length_append, List.length_singleton]
        omega
  · rintro σ H2 ⟨row, cuts, v, rfl, sm, hl2, hr2, hc2, rl, cl, eq⟩
    rw [List.length_map, List.drop_eq_nil_of_le (Nat.le_refl _)] at eq
    have eq : lawEnd (row, cuts) = lawM t := eq
    unfold lawEnd at eq
    walk_at "rd"
    refine rd_inV (SqL.of hr2) rfl (opts_flat row) ?_
    rw [opts_none]
    walk_at "rd"
    have eq : (if none ∈ row ∨ row.length ∈ cuts ∨ row = [] then none else some (row, cuts)) = lawM t := eq
    have refuse : (none ∈ row ∨ row.length ∈ cuts ∨ row = []) → ∀ H', Same H H' → Q .non H' := fun z => by
      rw [if_pos z] at eq
      exact qn (lawM_none eq.symm)
    by_cases c1 : none ∈ row
    · rw [decide_eq_true c1]
      walk_at "rd"
      exact refuse (.inl c1) _ sm
    rw [decide_eq_false c1]
    walk_at "rd"
    refine rd_len (SqL.of hr2) ?_
    rw [List.length_map]
    walk_at "rd"
    refine rd_inI (SqL.of hc2) ?_
    rw [ic_mem]
    walk_at "rd"
    by_cases c2 : row.length ∈ cuts
    · rw [decide_eq_true c2]
      walk_at "rd"
      exact refuse (.inr (.inl c2)) _ sm
    rw [decide_eq_false c2]
    walk_at "rd"
    refine ⟨Nat.zero_le _, fun e0 he0 => ?_⟩
    have n1 : r ≠ e0 := fun z => by rw [← z, hr2] at he0; cases he0
    have n2 : c' ≠ e0 := fun z => by rw [← z, hc2] at he0; cases he0
    have s4 := sm.trans (same_new he0 (.lst []))
    walk_at "rd"
    refine rd_eq0 (xs := row.map optV) (SqL.of (by rw [upd_ne n1]; exact hr2)) (SqL.of upd_same) ?_
    walk_at "rd"
    by_cases c3 : row = []
    · rw [decide_eq_true (show row.map optV = [] by rw [c3]; rfl)]
      walk_at "rd"
      exact refuse (.inr (.inr c3)) _ s4
    rw [decide_eq_false (show ¬ row.map optV = [] from fun z => c3 (List.map_eq_nil_iff.mp z))]
    walk_at "rd"
    refine ⟨by show 2 ≤ sizeLine; decide, fun p hp => ?_⟩
    have npr : p ≠ r := fun z => by rw [z, upd_ne n1, hr2] at hp; cases hp
    have npc : p ≠ c' := fun z => by rw [z, upd_ne n2, hc2] at hp; cases hp
    rw [if_neg (fun z => z.elim c1 fun z => z.elim c2 c3)] at eq
    obtain ⟨row', cuts', hm, e⟩ := lawM_some eq.symm
    injection e with e1 e2
    subst e1 e2
    refine q row' cuts hm p r c' _ ⟨s4.trans (same_new hp _), s4.free hp, hr', fc, nrc, npr, npc, upd_same, ?_, ?_⟩
    · rw [upd_ne npr.symm, upd_ne n1, hr2, opts_ints]
    · rw [upd_ne npc.symm, upd_ne n2]
      exact hc2
theorem sc_refused : FnScope ["_law_text", "_law_others", "error"] ["_law_text"] (defScope (top 35)) := ⟨rfl, rfl, rfl, by decide +kernel, rfl, by decide +kernel, by decide +kernel⟩
theorem ok__law_refused (T : Txt mg) (c : Cl K mg ca) (C_read : CalleeE P w K mg base "read" ["text"] 5 (spRead K ca)) (F : Fun K "_law_refused" "_law_refused" (top 35) f fd) : FnOk P w K mg base CX0 6 f fd ["_law_text"] (spRefused K) := by
  have S := sc_refused
  refine F.ok S (fun vs H Q E h => ?_) (fun cdv A outer s H vs Q E hr h => ?_)
  · obtain ⟨v, rfl, _⟩ := h
    rfl
  obtain ⟨v, rfl, bad, q⟩ := h
  obtain ⟨Ec, hE⟩ : ∃ Ec : XK, Ec = fun C' _ H' => C' = .ref ca.BadText ∧ Same H H' := ⟨_, rfl⟩
  refine ⟨_, (pss_cons (by exact ps_try (i := 2) (Ec := Ec) S.nd rfl rfl rfl c.m_CutError c.x_CutError.cls rfl rfl (fun _ => (pss_one (ps_expr (pe_callE C_read (hr.mono (by decide)) (passTry2 rfl) rfl (pa_cons (pv 0) pa_nil))))) (fun _ xx => (pss_cons (ps_set (i := 1) S.nd rfl (Or.inl rfl) (pe_lst (pa_cons (pe_callB (callK call_isiX (K := K) rfl) rfl T.b_isinstance boot_isinstance (pa_cons (pv 2) (pa_cons (pe_globR c.m_BadCuts rfl) pa_nil))) (pa_cons (pe_callB (callK call_isiX (K := K) rfl) rfl T.b_isinstance boot_isinstance (pa_cons (pv 2) (pa_cons (pe_globR c.m_BadNumber rfl) pa_nil))) (pa_cons (pe_callB (callK call_isiX (K := K) rfl) rfl T.b_isinstance boot_isinstance (pa_cons (pv 2) (pa_cons (pe_globR c.m_BadRow rfl) pa_nil))) pa_nil))))) (pss_one (ps_ret (pe_and (pe_callB (callK call_isiX (K := K) rfl) rfl T.b_isinstance boot_isinstance (pa_cons (pv 2) (pa_cons (pe_globR c.m_BadText rfl) pa_nil))) (pe_and (pe_callB (callK call_isiX (K := K) rfl) rfl T.b_isinstance boot_isinstance (pa_cons (pv 2) (pa_cons (pe_bltn (v := .ty "ValueError") rfl T.b_ValueError boot_ValueError rfl) pa_nil))) (pe_one (pe_not (pe_callB (callK (call_anyH (x := xx) rfl) (K := K) rfl) rfl T.b_any boot_any (pa_cons (pv 1) pa_nil)))))))))))
    (pss_one (ps_ret pe_bl))), ?_⟩
  try dsimp only [cxOf, Cx.nox, Cx.wish]
  walk_at "rd"
  refine ⟨?_, ?_⟩
  · walk_at "rd"
    have rf : Refuses ca.BadText H Ec := by rw [hE]; exact fun H' s' => ⟨rfl, s'⟩
    rcases bad with ⟨t, rfl, hl, hn⟩ | ⟨n, ty, kt⟩
    · exact .inl ⟨t, rfl, hl, fun row cuts z => (by rw [hn] at z; cases z), fun _ => rf⟩
    · exact .inr ⟨v, n, rfl, ty, kt, rf⟩
  · intro σ' C' x H' hl hx he
    rw [hE] at he
    obtain ⟨e, s1⟩ := he
    cases e
    refine ⟨c.s_BadText, ?_⟩
    obtain ⟨s0, s1', s2', rfl⟩ : ∃ a b d, σ' = [a, b, d] := by
      match σ', hl with
      | [a, b, d], _ => exact ⟨a, b, d, rfl⟩
    have hX : (upd H' x (excO x ca.BadText)) x = some (excO x ca.BadText) := upd_same
    have xl := c.x_BadText
    have s2 := s1.trans (same_new hx (excO x ca.BadText))
    walk_at "rd"
    refine rd_isiX (C := ca.BadText) rfl hX xl c.k_BadText_BadCuts ?_
    walk_at "rd"
    refine rd_isiX (C := ca.BadText) rfl hX xl c.k_BadText_BadNumber ?_
    walk_at "rd"
    refine rd_isiX (C := ca.BadText) rfl hX xl c.k_BadText_BadRow ?_
    walk_at "rd"
    refine ⟨by show 3 ≤ sizeLine; decide, fun p hp => ?_⟩
    have nxp : x ≠ p := fun z => by rw [← z, upd_same] at hp; cases hp
    have hX2 : upd (upd H' x (excO x ca.BadText)) p (.lst [V.bl false, V.bl false, V.bl false]) x = some (excO x ca.BadText) := by rw [upd_ne nxp]; exact hX
    walk_at "rd"
    refine rd_isiX (C := ca.BadText) rfl hX2 xl c.k_BadText_BadText ?_
    walk_at "rd"
    refine rd_isiX (C := ca.BadText) rfl hX2 xl c.k_BadText_ValueError ?_
    walk_at "rd"
    refine rd_anyH (C := ca.BadText) (bs := [false, false, false]) (SqL.of upd_same) hX2 ?_
    rw [bools3]
    walk_at "rd"
    exact q _ (s2.trans (same_new hp _))
theorem sc__law_right : FnScope ["_law_text", "_law_due", "_law_found"] ["_law_text"] (defScope (top 36)) := ⟨rfl, rfl, rfl, by decide +kernel, rfl, by decide +kernel, by decide +kernel⟩
theorem ok__law_right (T : Txt mg) (c : Cl K mg ca) (C_law_in : Callee P w K mg base "_law_in" ["_law_text"] 3 spIn) (C_law_refused : Callee P w K mg base "_law_refused" ["_law_text"] 6 (spRefused K)) (C_read : CalleeE P w K mg base "read" ["text"] 5 (spRead K ca)) (C_written : Callee P w K mg base "written" ["row", "cuts"] 6 spWritten) (F : Fun K "_law_right" "_law_right" (top 36) f fd) : FnOk P w K mg base CX0 7 f fd ["_law_text"] spRight := by
  have S := sc__law_right
  refine F.ok S (fun vs H Q E h => ?_) (fun cdv A outer s H vs Q E hr h => ?_)
  · obtain ⟨t, rfl, _⟩ := h
    rfl
  obtain ⟨t, rfl, hl, q⟩ := h
  refine ⟨_, (pss_cons (ps_set (i := 1) S.nd rfl (Or.inl rfl) (pe_callC C_law_in (hr.mono (by decide)) rfl (pa_cons (pv 0) pa_nil)))
    (pss_cons (ps_if (pt_cmpR op_isN' (pv 1) pe_non (nomark _))
      (pss_one (ps_ret (pe_callC C_law_refused (hr.mono (by decide)) rfl (pa_cons (pv 0) pa_nil))))
      pss_nil)
    (pss_cons (ps_set (i := 2) S.nd rfl (Or.inl rfl) (pe_callE C_read (hr.mono (by decide)) passE0 rfl (pa_cons (pv 0) pa_nil)))
    (pss_cons (ps_if (PW.pt (pw_or (pt_not (pt_val (pe_callB call_isi' rfl T.b_isinstance boot_isinstance (pa_cons (pv 2) (pa_cons (pe_bltn (v := .ty "tuple") rfl T.b_tuple boot_tuple rfl) pa_nil))))) (pw_or (pt_cmpR (op_neTT (hu_of hr)) (pv 2) (pv 1) (nomark _)) (pw_or1 (pt_cmpR op_ne (pe_callC C_written (hr.mono (by decide)) rfl (pa_cons (pe_ix ix_tup (pv 2) pe_int (fun _ _ => rfl)) (pa_cons (pe_ix ix_tup (pv 2) pe_int (fun _ _ => rfl)) pa_nil))) (pv 0) (nomark _))))))
      (pss_one (ps_ret pe_bl))
      pss_nil)
    (pss_cons (ps_expr (pe_bm PySem.F.plainAttrs_list PySem.F.slot_list_append PySem.F.type_list_append mt_append (pe_ix ix_tup (pv 2) pe_int (fun _ _ => rfl)) (pa_cons pe_int pa_nil)))
    (pss_cons (ps_expr (pe_bm PySem.F.plainAttrs_list PySem.F.slot_list_append PySem.F.type_list_append mt_append (pe_ix ix_tup (pv 2) pe_int (fun _ _ => rfl)) (pa_cons pe_int pa_nil)))
    (pss_one (ps_ret (pe_cmpR (op_eqTT (hu_of hr)) (pe_callE C_read (hr.mono (by decide)) passE0 rfl (pa_cons (pv 0) pa_nil)) (pv 1) (nomark _)))))))))), ?_⟩
  try dsimp only [cxOf, Cx.nox, Cx.wish]
  have det : ∀ {a b : List Int × List Nat}, readM t = some a → readM t = some b → a = b := fun h1 h2 => Option.some.inj (h1.symm.trans h2)
  walk_at "rd"
  refine ⟨t, rfl, hl, fun row cuts hm p r d H1 pr => ?_, fun hn H1 s1 => ?_⟩
  rotate_left
  · walk_at "rd"
    rw [decide_eq_true rfl]
    walk_at "rd"
    exact ⟨.str t, rfl, .inl ⟨t, rfl, hl, hn⟩, fun H2 s2 => q H2 (s1.trans s2)⟩
  obtain ⟨s1, fp, fr, fd', nrd, npr, npd, hp, hr1, hd⟩ := pr
  have facts := read_facts hm
  walk_at "rd"
  rw [decide_eq_false (by intro z; cases z)]
  walk_at "rd"
  refine .inl ⟨t, rfl, hl, fun row2 cuts2 hm2 p2 r2 d2 H2 pr2 => ?_, fun z => (by rw [hm] at z; cases z)⟩
  cases det hm2 hm
  obtain ⟨s2, fp2, fr2, fd2, nrd2, npr2, npd2, hp2, hr2, hd2⟩ := pr2
  have same : SameInts K H2 [.ref r2, .ref d2] [.ref r, .ref d] := ⟨⟨r2, r, row, rfl, rfl, SqL.of hr2, SqL.of (s2 _ _ hr1)⟩, ⟨d2, d, ic cuts, rfl, rfl, SqL.of hd2, SqL.of (s2 _ _ hd)⟩, trivial⟩
  walk_at "rd"
  refine rd_isiTup hp2 (kit_tup_tup K) ?_
  walk_at "rr"
  refine rd_neTT (SqT.of hp2) (SqT.of (s2 _ _ hp)) same ?_
  walk_at "rd"
  refine rd_ixT (SqT.of hp2) (show atI [V.ref r2, V.ref d2] 0 = some (V.ref r2) from rfl) ?_
  walk_at "rd"
  refine rd_ixT (SqT.of hp2) (show atI [V.ref r2, V.ref d2] 1 = some (V.ref d2) from rfl) ?_
  walk_at "rd"
  refine ⟨r2, d2, row, cuts, rfl, hr2, hd2, by have := facts.few; omega, facts.good, facts.rise, fun H3 s3 => ?_⟩
  rw [facts.back]
  walk_at "rd"
  rw [decide_eq_true rfl]
  walk_at "rr"
  have hr3 := s3 _ _ hr2
  have hd3 := s3 _ _ hd2
  have hp3 := s3 _ _ hp2
  have few := facts.few
  have cl : cuts.length ≤ row.length := by
    cases cuts with
    | nil => exact Nat.zero_le _
    | cons k ks => have := facts.rise.len (by have := facts.rise.2.1; omega); omega
  refine rd_ixT (SqT.of hp3) (show atI [V.ref r2, V.ref d2] 0 = some (V.ref r2) from rfl) ?_
  refine ⟨tyL (SqL.of hr3), ?_⟩
  walk_at "rd"
  refine rd_append (xs := row.map V.int) hr3 (by rw [List.length_map]; exact big (by omega)) ?_
  walk_at "rd"
  refine rd_ixT (SqT.of (by rw [upd_ne npr2]; exact hp3)) (show atI [V.ref r2, V.ref d2] 1 = some (V.ref d2) from rfl) ?_
  refine ⟨tyL (SqL.of (by rw [upd_ne nrd2.symm]; exact hd3)), ?_⟩
  walk_at "rd"
  refine rd_append (xs := (ic cuts).map V.int) (by rw [upd_ne nrd2.symm]; exact hd3) (by rw [List.length_map, ic_len]; exact big (by omega)) ?_
  walk_at "rd"
  have s13 : Same H1 H3 := s2.trans s3
  have s4 : Same H1 (upd (upd H3 r2 (.lst (row.map V.int ++ [V.int 0]))) d2 (.lst ((ic cuts).map V.int ++ [V.int 0]))) := fun b o z => by
    rw [upd_ne (ne_of_none z fd2), upd_ne (ne_of_none z fr2)]
    exact s13 b o z
  refine .inl ⟨t, rfl, hl, fun row3 cuts3 hm3 p3 r3 d3 H5 pr3 => ?_, fun z => (by rw [hm] at z; cases z)⟩
  cases det hm3 hm
  obtain ⟨s5, fp3, fr3, fd3, nrd3, npr3, npd3, hp5, hr5, hd5⟩ := pr3
  have s15 := s4.trans s5
  have same2 : SameInts K H5 [.ref r3, .ref d3] [.ref r, .ref d] := ⟨⟨r3, r, row, rfl, rfl, SqL.of hr5, SqL.of (s15 _ _ hr1)⟩, ⟨d3, d, ic cuts, rfl, rfl, SqL.of hd5, SqL.of (s15 _ _ hd)⟩, trivial⟩
  walk_at "rd"
  refine rd_eqTT (SqT.of hp5) (SqT.of (s15 _ _ hp)) same2 ?_
  exact q H5 (s1.trans s15)
theorem sc__law_few : FnScope ["_law_some"] [] (defScope (top 37)) := ⟨rfl, rfl, rfl, by decide +kernel, rfl, by decide +kernel, by decide +kernel⟩
theorem ok__law_few (T : Txt mg)  (F : Fun K "_law_few" "_law_few" (top 37) f fd) : FnOk P w K mg base CX0 1 f fd [] spFew := by
  have S := sc__law_few
  refine F.ok S (fun vs H Q E h => ?_) (fun cdv A outer s H vs Q E hr h => ?_)
  · rcases h with ⟨rfl, _⟩ <;> rfl
  refine ⟨_, (pss_cons (ps_set (i := 0) S.nd rfl (Or.inl rfl) (pe_lst (pa_cons pe_str (pa_cons pe_str (pa_cons pe_str (pa_cons pe_str (pa_cons pe_str (pa_cons pe_str (pa_cons pe_str (pa_cons pe_str (pa_cons pe_str (pa_cons pe_str (pa_cons pe_str (pa_cons pe_str (pa_cons pe_str (pa_cons pe_str (pa_cons pe_str (pa_cons pe_str pa_nil))))))))))))))))))
    (pss_cons (ps_set (i := 0) S.nd rfl (Or.inl rfl) (pe_op op_cat (pv 0) (pe_lst (pa_cons pe_str (pa_cons pe_str (pa_cons pe_str (pa_cons pe_str (pa_cons pe_str (pa_cons pe_str (pa_cons pe_str (pa_cons pe_str (pa_cons pe_str (pa_cons pe_str (pa_cons pe_str pa_nil))))))))))))))
    (pss_cons (ps_set (i := 0) S.nd rfl (Or.inl rfl) (pe_op op_cat (pv 0) (pe_lst (pa_cons pe_str (pa_cons pe_str (pa_cons pe_str (pa_cons pe_str (pa_cons pe_str (pa_cons pe_str (pa_cons pe_str (pa_cons pe_str (pa_cons pe_str (pa_cons (pe_op op_mulS pe_str pe_int) (pa_cons pe_str pa_nil))))))))))))))
    (pss_one (ps_ret (pv 0)))))), ?_⟩
  try dsimp only [cxOf, Cx.nox, Cx.wish]
  obtain ⟨rfl, q⟩ := h
  walk_at "rd"
  refine ⟨by show 16 ≤ sizeLine; decide, fun a1 h1 => ?_⟩
  walk_at "rd"
  refine ⟨by show 11 ≤ sizeLine; decide, fun a2 h2 => ?_⟩
  have n12 : a1 ≠ a2 := fun z => by rw [← z, upd_same] at h2; cases h2
  refine rd_cat (by rw [upd_ne n12, upd_same]) upd_same (by show 27 ≤ sizeLine; decide) fun a3 h3 => ?_
  walk_at "rd"
  refine rd_mulS (by decide) (by decide +kernel) (by decide) fun big hb => ?_
  walk_at "rd"
  refine ⟨by show 11 ≤ sizeLine; decide, fun a4 h4 => ?_⟩
  have n34 : a3 ≠ a4 := fun z => by rw [← z, upd_same] at h4; cases h4
  refine rd_cat (by rw [upd_ne n34, upd_same]) upd_same (by show 38 ≤ sizeLine; decide) fun a5 h5 => ?_
  walk_at "rd"
  refine few_end q ((((same_new h1 _).trans (same_new h2 _)).trans (same_new h3 _)).trans ((same_new h4 _).trans (same_new h5 _))) ((((same_new h1 _).trans (same_new h2 _)).trans (same_new h3 _)).trans (same_new h4 _) |>.free h5) upd_same ?_ (by show 38 ≤ 100; decide)
  refine AllS.app (AllS.app ?_ ?_) ?_
  · repeat (first | exact AllS.nil | refine AllS.cons (by decide +kernel) ?_)
  · repeat (first | exact AllS.nil | refine AllS.cons (by decide +kernel) ?_)
  · repeat (first | exact AllS.nil | refine AllS.cons (by decide +kernel) ?_ | refine AllS.cons (Nat.le_trans hb (by decide)) ?_)
end
theorem rising_pair {n : Nat} : ∀ {lo : Nat} {js : List Nat}, js.Pairwise (· < ·) → (∀ j ∈ js, lo ≤ j ∧ j < n) → Rising lo n js
  | _, [], _, _ => trivial
  | lo, j :: js, hp, hm => by
    rw [List.pairwise_cons] at hp
    refine ⟨(hm j (List.mem_cons_self ..)).1, (hm j (List.mem_cons_self ..)).2, rising_pair hp.2 fun k hk => ⟨hp.1 k hk, (hm k (List.mem_cons_of_mem _ hk)).2⟩⟩
theorem ic_map (js : List Nat) : (js.map fun j : Nat => V.int (j : Int)) = (ic js).map V.int := by
  unfold ic
  rw [List.map_map]
  rfl
theorem mem14 {r : Int} (h0 : 0 ≤ r) (h1 : r < 14) : ∃ c, atI ("0123456789 |-x" : Str).cps.toList r = some c := by
  have e : ("0123456789 |-x" : Str).cps.toList = [48, 49, 50, 51, 52, 53, 54, 55, 56, 57, 32, 124, 45, 120] := by decide +kernel
  rw [e]
  obtain ⟨k, rfl⟩ := Int.eq_ofNat_of_zero_le h0
  have hk : k < 14 := by omega
  refine ⟨[48, 49, 50, 51, 52, 53, 54, 55, 56, 57, 32, 124, 45, 120][k], ?_⟩
  exact atI_nat (by simp [hk])
theorem mem2 {x y : V} {r : Int} (h0 : 0 ≤ r) (h1 : r < 2) : atI [x, y] r = some x ∨ atI [x, y] r = some y := by
  have : r = 0 ∨ r = 1 := by omega
  rcases this with rfl | rfl
  · exact .inl rfl
  · exact .inr rfl
theorem kitS (K : PySem.W.Frag) : PySem.W.kitOne K (.type "NoneType") (.type "str") = some false ∧ PySem.W.kitOne K (.type "int") (.type "str") = some false ∧ PySem.W.kitOne K (.type "list") (.type "str") = some false ∧ PySem.W.kitOne K (.type "bool") (.type "str") = some false := by
  refine ⟨?_, ?_, ?_, ?_⟩ <;> first | rfl | (unfold PySem.W.kitOne; rfl) | (unfold PySem.W.kitOne; decide +kernel)
theorem bar_len : ((" | " : Str)).length = 3 := by decide +kernel
theorem sp_len : ((" " : Str)).length = 1 := by decide +kernel
theorem reps_all (n : Nat) : (List.replicate n (V.bl true)) = (List.replicate n true).map V.bl := by rw [List.map_replicate]
theorem reps_true (n : Nat) : (List.replicate n true).all id = true := by
  rw [List.all_eq_true]
  intro x hx
  exact List.eq_of_mem_replicate hx
section
variable {P : Program} {w : World} {K : PySem.W.Frag} {mg : Str → Option Value} {base : Heap} {f : Addr} {fd : FuncData} {ca : CA}
theorem sc_law : FnScope ["_law_script", "_law_row_here", "_law_cuts", "_law_text", "_law_place", "_law_handed", "_law_cell", "_law_k", "_law_at", "_law_sign"] ["_law_script"] (defScope (top 38)) := ⟨rfl, rfl, rfl, by decide +kernel, rfl, by decide +kernel, by decide +kernel⟩
theorem ok_law (T : Txt mg) (C_law_row : Callee P w K mg base "_law_row" ["_law_script"] 2 (spRow K)) (C_law_draw : Callee P w K mg base "_law_draw" ["_law_cell", "_law_k", "_law_many"] 1 spDraw) (C_law_cell_at : Callee P w K mg base "_law_cell_at" ["_law_script", "_law_k"] 1 (spCell K)) (C_written : Callee P w K mg base "written" ["row", "cuts"] 6 spWritten) (C_law_right : Callee P w K mg base "_law_right" ["_law_text"] 7 spRight) (C_law_few : Callee P w K mg base "_law_few" [] 1 spFew) (C_law_refused : Callee P w K mg base "_law_refused" ["_law_text"] 6 (spRefused K)) (F : Fun K "law" "law" (top 38) f fd) : FnOk P w K mg base CX0 8 f fd ["_law_script"] (spLaw K) := by
  have S := sc_law
  refine F.ok S (fun vs H Q E h => ?_) (fun cdv A outer s H vs Q E hr h => ?_)
  · obtain ⟨a, ns, rfl, _⟩ := h
    rfl
  obtain ⟨a, ns, rfl, hS, hl, q⟩ := h
  refine ⟨_, (pss_cons (ps_set (i := 1) S.nd rfl (Or.inl rfl) (pe_callC C_law_row (hr.mono (by decide)) rfl (pa_cons (pv 0) pa_nil)))
    (pss_cons (ps_setComp (j := 2) S.nd rfl rfl rfl rfl (by decide +kernel) (by decide +kernel) rfl (fr := ["_law_script"]) (by decide +kernel) (.cons (i := 0) rfl rfl (.inl rfl) .nil) (by decide +kernel) (pi_range2 rfl T.b_range (pa_cons pe_int (pa_cons (pe_callB call_len' rfl T.b_len PySem.boot_len (pa_cons (pv 1) pa_nil)) pa_nil))) (fun _ _ _ _ _ => pf_one (pt_cmpR op_eq (pe_callC C_law_draw (hr.mono (by decide)) rfl (pa_cons (pe_ix (ixK ix_list (K := K) rfl) (pv 1) (pv 0) (fun _ _ => rfl)) (pa_cons (pe_op op_add (pe_op op_mod (pv 0) pe_int) pe_int) (pa_cons pe_int pa_nil)))) pe_int (nomark _))) (fun _ _ _ _ _ => (pv 0)))
    (pss_cons (ps_join (ps_set (i := 3) S.nd rfl (Or.inl rfl) (pe_ifExp (pt_cmpR (op_eqL' (hr.units0)) (pv 1) (pe_lst pa_nil) (nomark _)) pe_str (pe_callTy call_strI rfl T.b_str boot_str (pa_cons (pe_ix ix_list (pv 1) pe_int (fun _ _ => rfl)) pa_nil)))))
    (pss_cons (ps_for PassesOwn.never rfl (pi_range2 rfl T.b_range (pa_cons pe_int (pa_cons (pe_callB call_len' rfl T.b_len PySem.boot_len (pa_cons (pv 1) pa_nil)) pa_nil))) (pg_name (i := 4) S.nd rfl (Or.inl rfl))
      (pss_one (ps_set (i := 3) S.nd rfl (Or.inl rfl) (pe_op op_addS (pe_op op_addS (pv 3) (pe_ifExp (pt_cmpR op_in_seq (pv 4) (pv 2) (by with_unfolding_all rfl)) pe_str pe_str)) (pe_callTy call_strI rfl T.b_str boot_str (pa_cons (pe_ix ix_list (pv 1) (pv 4) (fun _ _ => rfl)) pa_nil))))))
    (pss_cons (ps_set (i := 5) S.nd rfl (Or.inl rfl) (pe_lst (pa_cons (pe_callTy call_list' rfl T.b_list boot_list (pa_cons (pv 1) pa_nil)) (pa_cons (pe_callTy call_list' rfl T.b_list boot_list (pa_cons (pv 2) pa_nil)) pa_nil))))
    (pss_cons (ps_if (PW.pt (pw_or (pt_cmpR op_ne (pe_callC C_written (hr.mono (by decide)) rfl (pa_cons (pe_ix ix_list (pv 5) pe_int (fun _ _ => rfl)) (pa_cons (pe_ix ix_list (pv 5) pe_int (fun _ _ => rfl)) pa_nil))) (pv 3) (nomark _)) (pw_or (pt_cmpR (op_neLL' (hu_of hr)) (pv 5) (pe_lst (pa_cons (pv 1) (pa_cons (pv 2) pa_nil))) (nomark _)) (pw_or1 (pt_not (pt_val (pe_callC C_law_right (hr.mono (by decide)) rfl (pa_cons (pv 3) pa_nil))))))))
      (pss_one (ps_ret pe_bl))
      pss_nil)
    (pss_cons (ps_set (i := 6) S.nd rfl (Or.inl rfl) (pe_op op_add (pe_callC C_law_cell_at (hr.mono (by decide)) rfl (pa_cons (pv 0) (pa_cons pe_int pa_nil))) (pe_op op_mul pe_int (pe_callC C_law_cell_at (hr.mono (by decide)) rfl (pa_cons (pv 0) (pa_cons pe_int pa_nil))))))
    (pss_cons (ps_join (ps_for PassesOwn.never rfl (pi_range1 rfl T.b_range (pa_cons pe_int pa_nil)) (pg_name (i := 7) S.nd rfl (Or.inl rfl))
      (pss_cons (ps_set (i := 8) S.nd rfl (Or.inl rfl) (pe_callC C_law_draw (hr.mono (by decide)) rfl (pa_cons (pe_op op_add (pv 6) (pv 7)) (pa_cons pe_int (pa_cons (pe_op op_add (pe_callB call_lenT rfl T.b_len PySem.boot_len (pa_cons (pv 3) pa_nil)) pe_int) pa_nil)))))
      (pss_cons (ps_set (i := 9) S.nd rfl (Or.inl rfl) (pe_ix ix_tup (pe_tup (pa_cons pe_str (pa_cons (pe_ix ix_str pe_str (pe_callC C_law_draw (hr.mono (by decide)) rfl (pa_cons (pe_op op_add (pv 6) (pv 7)) (pa_cons pe_int (pa_cons pe_int pa_nil)))) (fun _ _ => rfl)) pa_nil))) (pe_callC C_law_draw (hr.mono (by decide)) rfl (pa_cons (pe_op op_add (pv 6) (pv 7)) (pa_cons pe_int (pa_cons pe_int pa_nil)))) (fun _ _ => rfl)))
      (pss_one (ps_if (pt_not (pt_val (pe_callC C_law_right (hr.mono (by decide)) rfl (pa_cons (pe_op op_addS (pe_op op_addS (pe_slice sl_str (pv 3) po_none (po_some (pv 8))) (pv 9)) (pe_slice sl_str (pv 3) (po_some (pe_op op_add (pv 8) (pe_callC C_law_draw (hr.mono (by decide)) rfl (pa_cons (pe_op op_add (pv 6) (pv 7)) (pa_cons pe_int (pa_cons pe_int pa_nil)))))) po_none)) pa_nil))))
        (pss_one (ps_ret pe_bl))
        pss_nil))))))
    (pss_cons (ps_if (pt_not (pt_val (pe_callB (call_all' rfl) rfl T.b_all boot_all (pa_cons (pe_comp rfl rfl (by decide +kernel) (by decide +kernel) rfl (fr := []) (by decide +kernel) .nil (by decide +kernel) (pi_list (pe_callC0 C_law_few (hr.mono (by decide)) rfl)) (fun _ _ _ _ _ => pf_nil) (fun _ _ _ _ _ => (pe_callC C_law_right (hr.mono (by decide)) rfl (pa_cons (pv 0) pa_nil)))) pa_nil))))
      (pss_one (ps_ret pe_bl))
      pss_nil)
    (pss_one (ps_ret (pe_callB (call_all' rfl) rfl T.b_all boot_all (pa_cons (pe_comp rfl rfl (by decide +kernel) (by decide +kernel) rfl (fr := []) (by decide +kernel) .nil (by decide +kernel) (pi_list (pe_lst (pa_cons pe_non (pa_cons pe_int (pa_cons (pe_lst (pa_cons pe_str pa_nil)) (pa_cons pe_bl pa_nil)))))) (fun _ _ _ _ _ => pf_nil) (fun _ _ _ _ _ => (pe_callC C_law_refused (hr.mono (by decide)) rfl (pa_cons (pv 0) pa_nil)))) pa_nil))))))))))))), ?_⟩
  try dsimp only [cxOf, Cx.nox, Cx.wish]
  walk_at "rd"
  refine ⟨a, ns, rfl, hS, hl, fun r H1 ms ml gm s1 fr hr1 => ?_⟩
  walk_at "rd"
  refine rd_lenI (SqL.of hr1) ?_
  walk_at "rd"
  refine ⟨1, (ms.length : Int), rfl, ⟨by decide, by decide, by omega, by omega⟩, fun D hD => ?_⟩
  refine comp_rangeT (lo := 1) (k := ((ms.length : Int) - 1).toNat) hD (by omega) (fun i H2 QB hi s2 qb => ?_) (fun i H2 Q2 hi s2 q2 => ?_) fun H2 js s2 hD2 jp jm => ?_
  · obtain ⟨z, _, ez⟩ := at_place (ns := ns) (k := ((1 + i : Nat) : Int)) (by omega) (by omega)
    walk_at "rd"
    refine rd_ixL ((s1.trans s2).seq hS) ez ?_
    walk_at "rd"
    refine rd_I (by decide) ?_
    walk_at "rd"
    refine ⟨_, _, _, rfl, (by have := Int.emod_nonneg ((1 + i : Nat) : Int) (b := 3) (by decide); omega), by decide, fun v H3 _ _ s3 => ?_⟩
    walk_at "rd"
    exact qb _ _ s3
  · walk_at "rd"
    exact q2
  rw [ic_map] at hD2
  have rise : Rising 1 ms.length js := by
    by_cases z : ms.length = 0
    · cases js with
      | nil => exact trivial
      | cons j js => have := jm j (List.mem_cons_self ..); omega
    · exact rising_pair jp fun j hj => by have := jm j hj; omega
  clear jp jm
  have s12 := s1.trans s2
  have hr2 := s2 _ _ hr1
  have nrD : r ≠ D := fun z => by rw [← z, hr1] at hD; cases hD
  generalize hT : writM ms js = full
  walk_at "rd"
  refine rd_joinF (fun σ H3 => ∃ T0 : Str, σ = [some (.ref a), some (.ref r), some (.ref D), some (.str T0), none, none, none, none, none, none] ∧ Same H2 H3 ∧ T0.length ≤ 10 ∧ (ms = [] → T0 = full) ∧ (ms ≠ [] → T0 ++ tailT js 1 (ms.drop 1) = full)) ?_ ?_
  · walk_at "rd"
    refine ⟨Nat.zero_le _, fun e0 he0 => ?_⟩
    have s3 := same_new he0 (.lst [])
    walk_at "rd"
    refine rd_eqL (ns := ms) (ms := []) (SqL.of (s3 _ _ hr2)) (SqL.of upd_same) ?_
    cases ms with
    | nil =>
      rw [decide_eq_true rfl]
      walk_at "rd"
      refine ⟨_, rfl, s3, by decide +kernel, fun _ => ?_, fun z => absurd rfl z⟩
      rw [← hT, lit_dash]
      rfl
    | cons x xs =>
      rw [decide_eq_false (by simp)]
      walk_at "rd"
      refine rd_ixL (SqL.of (s3 _ _ hr2)) (show atI ((x :: xs).map V.int) 0 = some (.int x) from at0) ?_
      walk_at "rd"
      have gx := gm x (List.mem_cons_self ..)
      refine rd_strI (log_small gx.1 gx.2) ?_
      walk_at "rd"
      refine ⟨_, rfl, s3, strI_len gx.1 gx.2, fun z => (by cases z), fun _ => ?_⟩
      rw [← hT, writ_txt rise]
      rfl
  rintro σ' H3 ⟨T0, rfl, s3, t0l, t0n, t0s⟩
  have hr3 := s3 _ _ hr2
  have hD3 := s3 _ _ hD2
  walk_at "rd"
  refine rd_lenI (SqL.of hr3) ?_
  walk_at "rd"
  refine ⟨1, (ms.length : Int), rfl, ⟨by decide, by decide, by omega, by omega⟩, for_rangeF (lo := 1) (k := ((ms.length : Int) - 1).toNat)
    (fun i σ H4 => ∃ (T1 : Str) (v : Option V), σ = [some (.ref a), some (.ref r), some (.ref D), some (.str T1), v, none, none, none, none, none] ∧ Same H3 H4 ∧ T1.length ≤ 10 + 13 * i ∧ (ms = [] → T1 = full) ∧ (ms ≠ [] → T1 ++ tailT js (1 + i) (ms.drop (1 + i)) = full))
    ⟨T0, none, rfl, Same.refl _, by omega, t0n, t0s⟩ ?_ ?_⟩
  · rintro i σ H4 hi ⟨T1, v, rfl, s4, tl, tn, ts⟩
    obtain ⟨z, ez, az⟩ := at_place (ns := ms) (k := ((1 + i : Nat) : Int)) (by omega) (by omega)
    rw [Int.toNat_natCast] at ez
    have gz := gm z (mem_of_at ez)
    have mne : ms ≠ [] := fun w => by rw [w] at ez; cases ez
    have ts := ts mne
    rw [drop_at ez] at ts
    have ts : T1 ++ ((if 1 + i ∈ js then bar else sp) ++ strI z ++ tailT js (1 + i + 1) (ms.drop (1 + i + 1))) = full := ts
    have zl := strI_len gz.1 gz.2
    rw [show (1 : Int) + (i : Nat) = ((1 + i : Nat) : Int) by omega]
    walk_at "rd"
    refine rd_inI (SqL.of (s4 _ _ hD3)) ?_
    rw [ic_mem]
    walk_at "rd"
    by_cases m : 1 + i ∈ js
    · rw [if_pos m] at ts
      rw [decide_eq_true m]
      walk_at "rd"
      refine rd_addS (by rw [bar_len]; exact bigE (by omega)) ?_
      walk_at "rd"
      refine rd_ixL (SqL.of (s4 _ _ hr3)) az ?_
      walk_at "rd"
      refine rd_strI (log_small gz.1 gz.2) ?_
      walk_at "rd"
      have zl : ((toString z : String) : Str).length ≤ 10 := zl
      refine rd_addS (by rw [Str.length_append, bar_len]; exact bigE (by omega)) ?_
      walk_at "rd"
      refine ⟨_, _, rfl, s4, by rw [Str.length_append, Str.length_append, bar_len]; omega, fun w => absurd w mne, fun _ => ?_⟩
      rw [← ts, lit_bar]
      show T1 ++ bar ++ strI z ++ tailT js (1 + (i + 1)) (ms.drop (1 + (i + 1))) = _
      rw [show 1 + (i + 1) = 1 + i + 1 by omega]
      simp only [cat_assoc]
    · rw [if_neg m] at ts
      rw [decide_eq_false m]
      walk_at "rd"
      refine rd_addS (by rw [sp_len]; exact bigE (by omega)) ?_
      walk_at "rd"
      refine rd_ixL (SqL.of (s4 _ _ hr3)) az ?_
      walk_at "rd"
      refine rd_strI (log_small gz.1 gz.2) ?_
      walk_at "rd"
      have zl : ((toString z : String) : Str).length ≤ 10 := zl
      refine rd_addS (by rw [Str.length_append, sp_len]; exact bigE (by omega)) ?_
      walk_at "rd"
      refine ⟨_, _, rfl, s4, by rw [Str.length_append, Str.length_append, sp_len]; omega, fun w => absurd w mne, fun _ => ?_⟩
      rw [← ts, lit_sp]
      show T1 ++ sp ++ strI z ++ tailT js (1 + (i + 1)) (ms.drop (1 + (i + 1))) = _
      rw [show 1 + (i + 1) = 1 + i + 1 by omega]
      simp only [cat_assoc]
  rintro σ H4 ⟨T1, v, rfl, s4, tl, tn, ts⟩
  have tf : T1 = full := by
    by_cases z : ms = []
    · exact tn z
    · have ts := ts z
      have : 0 < ms.length := List.length_pos_iff.mpr z
      rw [show 1 + ((ms.length : Int) - 1).toNat = ms.length by omega, List.drop_length] at ts
      rw [← ts]
      exact (cat_empty T1).symm
  have fl : full.length ≤ 900 := by rw [← tf]; omega
  subst tf
  clear tl tn ts
  have hr4 := s4 _ _ hr3
  have hD4 := s4 _ _ hD3
  have s14 : Same H H4 := s12.trans (s3.trans s4)
  walk_at "rd"
  refine rd_listOf (SqL.of hr4) fun b1 hb1 => ?_
  have t1 := same_new hb1 (.lst (ms.map V.int))
  walk_at "rd"
  refine rd_listOf (SqL.of (t1 _ _ hD4)) fun b2 hb2 => ?_
  have t2 := same_new hb2 (.lst ((ic js).map V.int))
  have n12 : b1 ≠ b2 := fun z => by rw [← z, upd_same] at hb2; cases hb2
  walk_at "rd"
  refine ⟨by show 2 ≤ sizeLine; decide, fun b3 hb3 => ?_⟩
  have t3 := same_new hb3 (.lst [V.ref b1, V.ref b2])
  have t13 := t1.trans (t2.trans t3)
  have g1 : upd (upd (upd H4 b1 (.lst (ms.map V.int))) b2 (.lst ((ic js).map V.int))) b3 (.lst [V.ref b1, V.ref b2]) b1 = some (.lst (ms.map V.int)) := t3 _ _ (t2 _ _ upd_same)
  have g2 : upd (upd (upd H4 b1 (.lst (ms.map V.int))) b2 (.lst ((ic js).map V.int))) b3 (.lst [V.ref b1, V.ref b2]) b2 = some (.lst ((ic js).map V.int)) := t3 _ _ upd_same
  have g3 : upd (upd (upd H4 b1 (.lst (ms.map V.int))) b2 (.lst ((ic js).map V.int))) b3 (.lst [V.ref b1, V.ref b2]) b3 = some (.lst [V.ref b1, V.ref b2]) := upd_same
  generalize upd (upd (upd H4 b1 (.lst (ms.map V.int))) b2 (.lst ((ic js).map V.int))) b3 (.lst [V.ref b1, V.ref b2]) = H5 at t13 g1 g2 g3
  clear t1 t2 t3 hb1 hb2 hb3
  have s15 := s14.trans t13
  have hr5 := t13 _ _ hr4
  have hD5 := t13 _ _ hD4
  walk_at "rd"
  refine rd_ixL (SqL.of g3) (show atI [V.ref b1, V.ref b2] 0 = some (V.ref b1) from rfl) ?_
  walk_at "rd"
  refine rd_ixL (SqL.of g3) (show atI [V.ref b1, V.ref b2] 1 = some (V.ref b2) from rfl) ?_
  walk_at "rd"
  refine ⟨b1, b2, ms, js, rfl, g1, g2, by omega, gm, rise, fun H6 s6 => ?_⟩
  rw [hT]
  walk_at "rd"
  rw [decide_eq_true rfl]
  walk_at "rr"
  refine ⟨by show 2 ≤ sizeLine; decide, fun b4 hb4 => ?_⟩
  have t6 := same_new hb4 (.lst [V.ref r, V.ref D])
  have t56 := s6.trans t6
  walk_at "rd"
  refine rd_neLL (SqL.of (t6 _ _ (s6 _ _ g3))) (SqL.of upd_same) ⟨⟨b1, r, ms, rfl, rfl, SqL.of (t56 _ _ g1), SqL.of (t56 _ _ hr5)⟩, ⟨b2, D, ic js, rfl, rfl, SqL.of (t56 _ _ g2), SqL.of (t56 _ _ hD5)⟩, trivial⟩ ?_
  walk_at "rd"
  refine ⟨T1, rfl, by omega, fun H7 s7 => ?_⟩
  have s17 := s15.trans (t56.trans s7)
  walk_at "rr"
  refine ⟨a, ns, 3, rfl, s17.seq hS, by decide, fun v1 => ?_⟩
  walk_at "rd"
  refine ⟨a, ns, 0, rfl, s17.seq hS, by decide, fun v2 => ?_⟩
  walk_at "rd"
  refine rd_I (.inl ⟨by decide, by decide⟩) ?_
  walk_at "rd"
  generalize v1 + 7 * v2 = ce
  refine rd_joinF (fun σ H8 => ∃ x4 x7 x8 x9 : Option V, σ = [some (.ref a), some (.ref r), some (.ref D), some (.str T1), x4, some (.ref b3), some (.int ce), x7, x8, x9] ∧ Same H H8) ?_ ?_
  · walk_at "rd"
    refine ⟨2, rfl, by decide, by decide, for_rangeF (lo := 0) (k := 2) (fun i σ H8 => ∃ x4 x7 x8 x9 : Option V, σ = [some (.ref a), some (.ref r), some (.ref D), some (.str T1), x4, some (.ref b3), some (.int ce), x7, x8, x9] ∧ Same H H8) ⟨_, _, _, _, rfl, s17⟩ ?_ ?_⟩
    · rintro i σ H8 hi ⟨x4, x7, x8, x9, rfl, s8⟩
      walk_at "rd"
      refine rd_lenS (bigE (by omega)) ?_
      walk_at "rd"
      refine ⟨_, _, _, rfl, by decide, by omega, fun at_ H9 a0 a1 s9 => ?_⟩
      walk_at "rd"
      refine ⟨_, _, _, rfl, by decide, by decide, fun i14 H10 p0 p1 s10 => ?_⟩
      obtain ⟨sg, hsg⟩ := mem14 p0 p1
      refine rd_ixS (by decide +kernel) hsg ?_
      walk_at "rd"
      refine ⟨by show 2 ≤ sizeLine; decide, fun tu htu => ?_⟩
      have s11 := s8.trans (s9.trans (s10.trans (same_new htu (.tup [V.str "", V.str ⟨#[sg]⟩]))))
      walk_at "rd"
      refine ⟨_, _, _, rfl, by decide, by decide, fun i2 H12 q0 q1 s12' => ?_⟩
      obtain ⟨S0, hS0, sl⟩ : ∃ S0 : Str, atI [V.str "", V.str ⟨#[sg]⟩] i2 = some (.str S0) ∧ S0.length ≤ 1 := by
        rcases mem2 (x := V.str "") (y := V.str ⟨#[sg]⟩) q0 q1 with z | z
        · exact ⟨_, z, by decide +kernel⟩
        · exact ⟨_, z, Nat.le_refl _⟩
      refine rd_ixT (SqT.of (s12' _ _ upd_same)) hS0 ?_
      walk_at "rd"
      refine rd_slS (bigE (by omega)) fun A1 hA1 => ?_
      walk_at "rd"
      refine rd_addS (bigE (by omega)) ?_
      walk_at "rd"
      refine ⟨_, _, _, rfl, by decide, by decide, fun i4 H13 _ _ s13 => ?_⟩
      walk_at "rd"
      refine rd_slS (bigE (by omega)) fun A2 hA2 => ?_
      walk_at "rd"
      refine rd_addS (by rw [Str.length_append]; exact bigE (by omega)) ?_
      walk_at "rd"
      refine ⟨_, rfl, by rw [Str.length_append, Str.length_append]; omega, fun H14 s14' => ?_⟩
      walk_at "rr"
      exact ⟨_, _, _, _, rfl, s11.trans (s12'.trans (s13.trans s14'))⟩
    · rintro σ H8 ⟨x4, x7, x8, x9, rfl, s8⟩
      exact ⟨_, _, _, _, rfl, s8⟩
  rintro σ H8 ⟨x4, x7, x8, x9, rfl, s8⟩
  walk_at "rd"
  refine ⟨rfl, fun fw H9 ts s9 ff hf9 tl tb => ?_⟩
  refine ⟨fw, rfl, ⟨_, SqL.of hf9⟩, fun D2 hD2' => comp_listC (.bl true) (SqL.of hf9) hD2' (by rw [List.length_map]; omega) (fun j x H10 Q' hj s10 q' => ?_) (fun H10 s10 hd10 => ?_)⟩
  · obtain ⟨u, rfl, hu⟩ := at_str hj
    walk_at "rd"
    exact ⟨u, rfl, tb u (mem_of_at hu), q'⟩
  walk_at "rd"
  refine rd_all (bs := List.replicate (ts.map V.str).length true) (SqL.of (by rw [hd10, reps_all])) ?_
  rw [reps_true]
  walk_at "rr"
  refine ⟨by show 1 ≤ sizeLine; decide, fun l1 hl1 => ?_⟩
  walk_at "rd"
  refine ⟨by show 4 ≤ sizeLine; decide, fun l2 hl2 => ?_⟩
  obtain ⟨k1, k2, k3, k4⟩ := kitS K
  have u1 := same_new hl2 (.lst [V.non, V.int 5, V.ref l1, V.bl true])
  refine ⟨l2, rfl, ⟨_, SqL.of upd_same⟩, fun D3 hD3' => comp_listC (.bl true) (SqL.of upd_same) hD3' (by show 4 ≤ 1000; decide) (fun j x H11 Q' hj s11 q' => ?_) (fun H11 s11 hd11 => ?_)⟩
  · walk_at "rd"
    refine ⟨x, rfl, .inr ?_, q'⟩
    have m := mem_of_at hj
    simp only [List.mem_cons, List.not_mem_nil, or_false] at m
    rcases m with rfl | rfl | rfl | rfl
    · exact ⟨_, .non, k1⟩
    · exact ⟨_, .int 5, k2⟩
    · exact ⟨_, .lst (s11 _ _ (u1 _ _ upd_same)), k3⟩
    · exact ⟨_, .bl true, k4⟩
  walk_at "rd"
  refine rd_all (bs := List.replicate 4 true) (SqL.of (by rw [hd11]; rfl)) ?_
  exact q _
end
theorem callee_mk {P : Program} {w : World} {K : PySem.W.Frag} {mg : Str → Option Value} {base : Heap} {x qual : Str} {st : Stmt} {ps : List Str} {k : Nat} {sp : Sp} {f : Addr} {fd : FuncData} (F : Fun K x qual st f fd) (hm : mg x = some (.ref f)) (hb : Binds K fd ps []) (G : FnOk P w K mg base CX0 k f fd ps sp) : Callee P w K mg base x ps k sp := ⟨f, fd, G, hm, F.kp, hb⟩
theorem calleeE_mk {P : Program} {w : World} {K : PySem.W.Frag} {mg : Str → Option Value} {base : Heap} {x qual : Str} {st : Stmt} {ps : List Str} {k : Nat} {sp : Sp} {f : Addr} {fd : FuncData} (F : Fun K x qual st f fd) (hm : mg x = some (.ref f)) (hb : Binds K fd ps []) (G : FnOk P w K mg base (CXE P w) k f fd ps sp) : CalleeE P w K mg base x ps k sp := ⟨f, fd, G, hm, F.kp, hb⟩
theorem all_mk {l : PySem.W.OpenLaw} {w : World} {K : PySem.W.Frag} {h : Heap} {mg : Str → Option Value} {fa f0 f1 f2 f3 f4 f5 f6 f7 f8 f9 f10 f11 f12 f13 f14 f15 f16 f17 f18 f19 f20 f21 C_CutError C_BadRow C_BadNumber C_BadCuts C_BadText : Addr} (X : K.In h) (G : h.Ns mainGlobals mg) (hfa : mg "law" = some (.ref fa))
    {od0 an0 od1 an1 od2 an2 od3 an3 od4 an4 od5 an5 od6 an6 od7 an7 od8 an8 od9 an9 od10 an10 od11 an11 od12 an12 od13 an13 od14 an14 od15 an15 od16 an16 od17 an17 od18 an18 od19 an19 od20 an20 od21 an21 : Option Addr} {sl0 sl1 sl2 sl3 sl4 sl5 sl6 sl7 sl8 sl9 sl10 sl11 sl12 sl13 sl14 sl15 sl16 sl17 sl18 sl19 sl20 sl21 : Array (Option Value)} {oc0 kV0 dc0 pm0 cd0 ct0 oc1 kV1 dc1 pm1 cd1 ct1 oc2 kV2 dc2 pm2 cd2 ct2 oc3 kV3 dc3 pm3 cd3 ct3 oc4 kV4 dc4 pm4 cd4 ct4 oc5 kV5 dc5 pm5 cd5 ct5 oc6 kV6 dc6 pm6 cd6 ct6 oc7 kV7 dc7 pm7 cd7 ct7 oc8 kV8 dc8 pm8 cd8 ct8 oc9 kV9 dc9 pm9 cd9 ct9 oc10 kV10 dc10 pm10 cd10 ct10 oc11 kV11 dc11 pm11 cd11 ct11 oc12 kV12 dc12 pm12 cd12 ct12 oc13 kV13 dc13 pm13 cd13 ct13 oc14 kV14 dc14 pm14 cd14 ct14 oc15 kV15 dc15 pm15 cd15 ct15 oc16 kV16 dc16 pm16 cd16 ct16 oc17 kV17 dc17 pm17 cd17 ct17 oc18 kV18 dc18 pm18 cd18 ct18 oc19 kV19 dc19 pm19 cd19 ct19 oc20 kV20 dc20 pm20 cd20 ct20 oc21 kV21 dc21 pm21 cd21 ct21 : Value} {t_MOST_LOAD t_MOST_LOADS t_FIGURES t_NO_LOADS t_BLANK t_BAR : Tok}
    (aC_CutError : PySem.W.nsIn K mainGlobals "CutError" = some (some (.ref C_CutError)))
    (aC_BadRow : PySem.W.nsIn K mainGlobals "BadRow" = some (some (.ref C_BadRow)))
    (aC_BadNumber : PySem.W.nsIn K mainGlobals "BadNumber" = some (some (.ref C_BadNumber)))
    (aC_BadCuts : PySem.W.nsIn K mainGlobals "BadCuts" = some (some (.ref C_BadCuts)))
    (aC_BadText : PySem.W.nsIn K mainGlobals "BadText" = some (some (.ref C_BadText)))
    (a0 : PySem.W.nsIn K mainGlobals "is_whole" = some (some (.ref f0)))
    (l0 : K.lookup f0 = some ⟨oc0, od0, .func (PySem.W.fnOf "is_whole" "is_whole" (defArgs (top 9)) (defBody (top 9)) (defScope (top 9)) .none kV0 dc0 pm0 an0 cd0 ct0), sl0⟩)
    (c0 : PySem.W.codeIn K cd0 "is_whole" = true)
    (k0 : PySem.W.keepIn K (.ref f0) = true)
    (a1 : PySem.W.nsIn K mainGlobals "is_whole_from" = some (some (.ref f1)))
    (l1 : K.lookup f1 = some ⟨oc1, od1, .func (PySem.W.fnOf "is_whole_from" "is_whole_from" (defArgs (top 10)) (defBody (top 10)) (defScope (top 10)) .none kV1 dc1 pm1 an1 cd1 ct1), sl1⟩)
    (c1 : PySem.W.codeIn K cd1 "is_whole_from" = true)
    (k1 : PySem.W.keepIn K (.ref f1) = true)
    (a2 : PySem.W.nsIn K mainGlobals "is_load" = some (some (.ref f2)))
    (l2 : K.lookup f2 = some ⟨oc2, od2, .func (PySem.W.fnOf "is_load" "is_load" (defArgs (top 11)) (defBody (top 11)) (defScope (top 11)) .none kV2 dc2 pm2 an2 cd2 ct2), sl2⟩)
    (c2 : PySem.W.codeIn K cd2 "is_load" = true)
    (k2 : PySem.W.keepIn K (.ref f2) = true)
    (a3 : PySem.W.nsIn K mainGlobals "is_row" = some (some (.ref f3)))
    (l3 : K.lookup f3 = some ⟨oc3, od3, .func (PySem.W.fnOf "is_row" "is_row" (defArgs (top 12)) (defBody (top 12)) (defScope (top 12)) .none kV3 dc3 pm3 an3 cd3 ct3), sl3⟩)
    (c3 : PySem.W.codeIn K cd3 "is_row" = true)
    (k3 : PySem.W.keepIn K (.ref f3) = true)
    (a4 : PySem.W.nsIn K mainGlobals "check_row" = some (some (.ref f4)))
    (l4 : K.lookup f4 = some ⟨oc4, od4, .func (PySem.W.fnOf "check_row" "check_row" (defArgs (top 15)) (defBody (top 15)) (defScope (top 15)) .none kV4 dc4 pm4 an4 cd4 ct4), sl4⟩)
    (c4 : PySem.W.codeIn K cd4 "check_row" = true)
    (k4 : PySem.W.keepIn K (.ref f4) = true)
    (a5 : PySem.W.nsIn K mainGlobals "are_rising_places" = some (some (.ref f5)))
    (l5 : K.lookup f5 = some ⟨oc5, od5, .func (PySem.W.fnOf "are_rising_places" "are_rising_places" (defArgs (top 13)) (defBody (top 13)) (defScope (top 13)) .none kV5 dc5 pm5 an5 cd5 ct5), sl5⟩)
    (c5 : PySem.W.codeIn K cd5 "are_rising_places" = true)
    (k5 : PySem.W.keepIn K (.ref f5) = true)
    (a6 : PySem.W.nsIn K mainGlobals "are_cuts" = some (some (.ref f6)))
    (l6 : K.lookup f6 = some ⟨oc6, od6, .func (PySem.W.fnOf "are_cuts" "are_cuts" (defArgs (top 14)) (defBody (top 14)) (defScope (top 14)) .none kV6 dc6 pm6 an6 cd6 ct6), sl6⟩)
    (c6 : PySem.W.codeIn K cd6 "are_cuts" = true)
    (k6 : PySem.W.keepIn K (.ref f6) = true)
    (a7 : PySem.W.nsIn K mainGlobals "check_cuts" = some (some (.ref f7)))
    (l7 : K.lookup f7 = some ⟨oc7, od7, .func (PySem.W.fnOf "check_cuts" "check_cuts" (defArgs (top 16)) (defBody (top 16)) (defScope (top 16)) .none kV7 dc7 pm7 an7 cd7 ct7), sl7⟩)
    (c7 : PySem.W.codeIn K cd7 "check_cuts" = true)
    (k7 : PySem.W.keepIn K (.ref f7) = true)
    (a8 : PySem.W.nsIn K mainGlobals "written" = some (some (.ref f8)))
    (l8 : K.lookup f8 = some ⟨oc8, od8, .func (PySem.W.fnOf "written" "written" (defArgs (top 22)) (defBody (top 22)) (defScope (top 22)) .none kV8 dc8 pm8 an8 cd8 ct8), sl8⟩)
    (c8 : PySem.W.codeIn K cd8 "written" = true)
    (k8 : PySem.W.keepIn K (.ref f8) = true)
    (a9 : PySem.W.nsIn K mainGlobals "has_needless_nought" = some (some (.ref f9)))
    (l9 : K.lookup f9 = some ⟨oc9, od9, .func (PySem.W.fnOf "has_needless_nought" "has_needless_nought" (defArgs (top 23)) (defBody (top 23)) (defScope (top 23)) .none kV9 dc9 pm9 an9 cd9 ct9), sl9⟩)
    (c9 : PySem.W.codeIn K cd9 "has_needless_nought" = true)
    (k9 : PySem.W.keepIn K (.ref f9) = true)
    (a10 : PySem.W.nsIn K mainGlobals "is_written_load" = some (some (.ref f10)))
    (l10 : K.lookup f10 = some ⟨oc10, od10, .func (PySem.W.fnOf "is_written_load" "is_written_load" (defArgs (top 24)) (defBody (top 24)) (defScope (top 24)) .none kV10 dc10 pm10 an10 cd10 ct10), sl10⟩)
    (c10 : PySem.W.codeIn K cd10 "is_written_load" = true)
    (k10 : PySem.W.keepIn K (.ref f10) = true)
    (a11 : PySem.W.nsIn K mainGlobals "read_part" = some (some (.ref f11)))
    (l11 : K.lookup f11 = some ⟨oc11, od11, .func (PySem.W.fnOf "read_part" "read_part" (defArgs (top 25)) (defBody (top 25)) (defScope (top 25)) .none kV11 dc11 pm11 an11 cd11 ct11), sl11⟩)
    (c11 : PySem.W.codeIn K cd11 "read_part" = true)
    (k11 : PySem.W.keepIn K (.ref f11) = true)
    (a12 : PySem.W.nsIn K mainGlobals "read" = some (some (.ref f12)))
    (l12 : K.lookup f12 = some ⟨oc12, od12, .func (PySem.W.fnOf "read" "read" (defArgs (top 26)) (defBody (top 26)) (defScope (top 26)) .none kV12 dc12 pm12 an12 cd12 ct12), sl12⟩)
    (c12 : PySem.W.codeIn K cd12 "read" = true)
    (k12 : PySem.W.keepIn K (.ref f12) = true)
    (a13 : PySem.W.nsIn K mainGlobals "_law_cell_at" = some (some (.ref f13)))
    (l13 : K.lookup f13 = some ⟨oc13, od13, .func (PySem.W.fnOf "_law_cell_at" "_law_cell_at" (defArgs (top 28)) (defBody (top 28)) (defScope (top 28)) .none kV13 dc13 pm13 an13 cd13 ct13), sl13⟩)
    (c13 : PySem.W.codeIn K cd13 "_law_cell_at" = true)
    (k13 : PySem.W.keepIn K (.ref f13) = true)
    (a14 : PySem.W.nsIn K mainGlobals "_law_draw" = some (some (.ref f14)))
    (l14 : K.lookup f14 = some ⟨oc14, od14, .func (PySem.W.fnOf "_law_draw" "_law_draw" (defArgs (top 29)) (defBody (top 29)) (defScope (top 29)) .none kV14 dc14 pm14 an14 cd14 ct14), sl14⟩)
    (c14 : PySem.W.codeIn K cd14 "_law_draw" = true)
    (k14 : PySem.W.keepIn K (.ref f14) = true)
    (a15 : PySem.W.nsIn K mainGlobals "_law_row" = some (some (.ref f15)))
    (l15 : K.lookup f15 = some ⟨oc15, od15, .func (PySem.W.fnOf "_law_row" "_law_row" (defArgs (top 30)) (defBody (top 30)) (defScope (top 30)) .none kV15 dc15 pm15 an15 cd15 ct15), sl15⟩)
    (c15 : PySem.W.codeIn K cd15 "_law_row" = true)
    (k15 : PySem.W.keepIn K (.ref f15) = true)
    (a16 : PySem.W.nsIn K mainGlobals "_law_number" = some (some (.ref f16)))
    (l16 : K.lookup f16 = some ⟨oc16, od16, .func (PySem.W.fnOf "_law_number" "_law_number" (defArgs (top 33)) (defBody (top 33)) (defScope (top 33)) .none kV16 dc16 pm16 an16 cd16 ct16), sl16⟩)
    (c16 : PySem.W.codeIn K cd16 "_law_number" = true)
    (k16 : PySem.W.keepIn K (.ref f16) = true)
    (a17 : PySem.W.nsIn K mainGlobals "_law_in" = some (some (.ref f17)))
    (l17 : K.lookup f17 = some ⟨oc17, od17, .func (PySem.W.fnOf "_law_in" "_law_in" (defArgs (top 34)) (defBody (top 34)) (defScope (top 34)) .none kV17 dc17 pm17 an17 cd17 ct17), sl17⟩)
    (c17 : PySem.W.codeIn K cd17 "_law_in" = true)
    (k17 : PySem.W.keepIn K (.ref f17) = true)
    (a18 : PySem.W.nsIn K mainGlobals "_law_refused" = some (some (.ref f18)))
    (l18 : K.lookup f18 = some ⟨oc18, od18, .func (PySem.W.fnOf "_law_refused" "_law_refused" (defArgs (top 35)) (defBody (top 35)) (defScope (top 35)) .none kV18 dc18 pm18 an18 cd18 ct18), sl18⟩)
    (c18 : PySem.W.codeIn K cd18 "_law_refused" = true)
    (k18 : PySem.W.keepIn K (.ref f18) = true)
    (a19 : PySem.W.nsIn K mainGlobals "_law_right" = some (some (.ref f19)))
    (l19 : K.lookup f19 = some ⟨oc19, od19, .func (PySem.W.fnOf "_law_right" "_law_right" (defArgs (top 36)) (defBody (top 36)) (defScope (top 36)) .none kV19 dc19 pm19 an19 cd19 ct19), sl19⟩)
    (c19 : PySem.W.codeIn K cd19 "_law_right" = true)
    (k19 : PySem.W.keepIn K (.ref f19) = true)
    (a20 : PySem.W.nsIn K mainGlobals "_law_few" = some (some (.ref f20)))
    (l20 : K.lookup f20 = some ⟨oc20, od20, .func (PySem.W.fnOf "_law_few" "_law_few" (defArgs (top 37)) (defBody (top 37)) (defScope (top 37)) .none kV20 dc20 pm20 an20 cd20 ct20), sl20⟩)
    (c20 : PySem.W.codeIn K cd20 "_law_few" = true)
    (k20 : PySem.W.keepIn K (.ref f20) = true)
    (a21 : PySem.W.nsIn K mainGlobals "law" = some (some (.ref f21)))
    (l21 : K.lookup f21 = some ⟨oc21, od21, .func (PySem.W.fnOf "law" "law" (defArgs (top 38)) (defBody (top 38)) (defScope (top 38)) .none kV21 dc21 pm21 an21 cd21 ct21), sl21⟩)
    (c21 : PySem.W.codeIn K cd21 "law" = true)
    (k21 : PySem.W.keepIn K (.ref f21) = true)
    (z_len : PySem.W.nsIn K mainGlobals "len" = some none)
    (z_any : PySem.W.nsIn K mainGlobals "any" = some none)
    (z_all : PySem.W.nsIn K mainGlobals "all" = some none)
    (z_isinstance : PySem.W.nsIn K mainGlobals "isinstance" = some none)
    (z_int : PySem.W.nsIn K mainGlobals "int" = some none)
    (z_bool : PySem.W.nsIn K mainGlobals "bool" = some none)
    (z_list : PySem.W.nsIn K mainGlobals "list" = some none)
    (z_tuple : PySem.W.nsIn K mainGlobals "tuple" = some none)
    (z_str : PySem.W.nsIn K mainGlobals "str" = some none)
    (z_range : PySem.W.nsIn K mainGlobals "range" = some none)
    (z_ValueError : PySem.W.nsIn K mainGlobals "ValueError" = some none)
    (y_MOST_LOAD : PySem.W.nsIn K mainGlobals "MOST_LOAD" = some (some (.int 1000000 t_MOST_LOAD)))
    (y_MOST_LOADS : PySem.W.nsIn K mainGlobals "MOST_LOADS" = some (some (.int 1000000 t_MOST_LOADS)))
    (y_FIGURES : PySem.W.nsIn K mainGlobals "FIGURES" = some (some (.str "0123456789" t_FIGURES)))
    (y_NO_LOADS : PySem.W.nsIn K mainGlobals "NO_LOADS" = some (some (.str "-" t_NO_LOADS)))
    (y_BLANK : PySem.W.nsIn K mainGlobals "BLANK" = some (some (.str " " t_BLANK)))
    (y_BAR : PySem.W.nsIn K mainGlobals "BAR" = some (some (.str " | " t_BAR)))
    (xc_CutError : PySem.W.excIn K C_CutError [.type "ValueError", .type "Exception", .type "BaseException", .type "object"] "ValueError.__new__" = true)
    (xg_CutError : PySem.W.findIn K (.ref C_CutError) "__getattribute__" = some (some (.builtin "BaseException.__getattribute__")))
    (xh_CutError : PySem.W.findIn K (.ref C_CutError) "__getattr__" = some none)
    (xo_CutError : PySem.W.findIn K (.ref C_CutError) "__class__" = some (some (.builtin "object.__class__")))
    (xm_CutError : PySem.W.mroIn K C_CutError (.type "object") = some true)
    (xb_CutError : PySem.W.mroIn K C_CutError (.type "BaseException") = some true)
    (xc_BadText : PySem.W.excIn K C_BadText [.type "ValueError", .type "Exception", .type "BaseException", .type "object"] "ValueError.__new__" = true)
    (xg_BadText : PySem.W.findIn K (.ref C_BadText) "__getattribute__" = some (some (.builtin "BaseException.__getattribute__")))
    (xh_BadText : PySem.W.findIn K (.ref C_BadText) "__getattr__" = some none)
    (xo_BadText : PySem.W.findIn K (.ref C_BadText) "__class__" = some (some (.builtin "object.__class__")))
    (xm_BadText : PySem.W.mroIn K C_BadText (.type "object") = some true)
    (xb_BadText : PySem.W.mroIn K C_BadText (.type "BaseException") = some true)
    (kk_BadText_BadRow : PySem.W.kitOne K (.ref C_BadText) (.ref C_BadRow) = some false)
    (kk_BadText_BadNumber : PySem.W.kitOne K (.ref C_BadText) (.ref C_BadNumber) = some false)
    (kk_BadText_BadCuts : PySem.W.kitOne K (.ref C_BadText) (.ref C_BadCuts) = some false)
    (kk_BadText_BadText : PySem.W.kitOne K (.ref C_BadText) (.ref C_BadText) = some true)
    (kv_BadText : PySem.W.kitOne K (.ref C_BadText) (.type "ValueError") = some true)
    (ss_BadText : PySem.W.subIn K (.ref C_BadText) (.ref C_CutError) = some true)
    : ∃ fd : FuncData, (∀ (s : Shared) (v : Value), BindsTo s fd ⟨[v], []⟩ [("_law_script", v)]) ∧ ∀ base : Heap, K.In base → base.Ns mainGlobals mg → FnOk l.prog w K mg base CX0 8 fa fd ["_law_script"] (spLaw K) := by
  have e := hfa.symm.trans (PySem.W.mg_of X G a21)
  cases e
  have T : Txt mg := ⟨PySem.W.mg_none_of X G z_len, PySem.W.mg_none_of X G z_any, PySem.W.mg_none_of X G z_all, PySem.W.mg_none_of X G z_isinstance, PySem.W.mg_none_of X G z_int, PySem.W.mg_none_of X G z_bool, PySem.W.mg_none_of X G z_list, PySem.W.mg_none_of X G z_tuple, PySem.W.mg_none_of X G z_str, PySem.W.mg_none_of X G z_range, PySem.W.mg_none_of X G z_ValueError, ⟨_, PySem.W.mg_of X G y_MOST_LOAD⟩, ⟨_, PySem.W.mg_of X G y_MOST_LOADS⟩, ⟨_, PySem.W.mg_of X G y_FIGURES⟩, ⟨_, PySem.W.mg_of X G y_NO_LOADS⟩, ⟨_, PySem.W.mg_of X G y_BLANK⟩, ⟨_, PySem.W.mg_of X G y_BAR⟩⟩
  have c : Cl K mg ⟨C_CutError, C_BadRow, C_BadNumber, C_BadCuts, C_BadText⟩ := ⟨PySem.W.mg_of X G aC_CutError, ⟨xc_CutError, xg_CutError, xh_CutError, xo_CutError, xm_CutError, xb_CutError⟩, PySem.W.mg_of X G aC_BadRow, PySem.W.mg_of X G aC_BadNumber, PySem.W.mg_of X G aC_BadCuts, PySem.W.mg_of X G aC_BadText, ⟨xc_BadText, xg_BadText, xh_BadText, xo_BadText, xm_BadText, xb_BadText⟩, kk_BadText_BadRow, kk_BadText_BadNumber, kk_BadText_BadCuts, kk_BadText_BadText, kv_BadText, ss_BadText⟩
  generalize hca : (⟨C_CutError, C_BadRow, C_BadNumber, C_BadCuts, C_BadText⟩ : CA) = ca at c
  have q_CutError : C_CutError = ca.CutError := by rw [← hca]
  have q_BadRow : C_BadRow = ca.BadRow := by rw [← hca]
  have q_BadNumber : C_BadNumber = ca.BadNumber := by rw [← hca]
  have q_BadCuts : C_BadCuts = ca.BadCuts := by rw [← hca]
  have q_BadText : C_BadText = ca.BadText := by rw [← hca]
  have F0 := fun_mk (st := (top 9)) l0 c0 k0
  have b0 := F0.binds (ps := ["value"]) fun _ _ _ _ _ _ us hl => match us, hl with | [_], _ => rfl
  have F1 := fun_mk (st := (top 10)) l1 c1 k1
  have b1 := F1.binds (ps := ["value", "least"]) fun _ _ _ _ _ _ us hl => match us, hl with | [_, _], _ => rfl
  have F2 := fun_mk (st := (top 11)) l2 c2 k2
  have b2 := F2.binds (ps := ["value"]) fun _ _ _ _ _ _ us hl => match us, hl with | [_], _ => rfl
  have F3 := fun_mk (st := (top 12)) l3 c3 k3
  have b3 := F3.binds (ps := ["value"]) fun _ _ _ _ _ _ us hl => match us, hl with | [_], _ => rfl
  have F4 := fun_mk (st := (top 15)) l4 c4 k4
  have b4 := F4.binds (ps := ["value"]) fun _ _ _ _ _ _ us hl => match us, hl with | [_], _ => rfl
  have F5 := fun_mk (st := (top 13)) l5 c5 k5
  have b5 := F5.binds (ps := ["value", "row", "least"]) fun _ _ _ _ _ _ us hl => match us, hl with | [_, _, _], _ => rfl
  have F6 := fun_mk (st := (top 14)) l6 c6 k6
  have b6 := F6.binds (ps := ["value", "row"]) fun _ _ _ _ _ _ us hl => match us, hl with | [_, _], _ => rfl
  have F7 := fun_mk (st := (top 16)) l7 c7 k7
  have b7 := F7.binds (ps := ["value", "row"]) fun _ _ _ _ _ _ us hl => match us, hl with | [_, _], _ => rfl
  have F8 := fun_mk (st := (top 22)) l8 c8 k8
  have b8 := F8.binds (ps := ["row", "cuts"]) fun _ _ _ _ _ _ us hl => match us, hl with | [_, _], _ => rfl
  have F9 := fun_mk (st := (top 23)) l9 c9 k9
  have b9 := F9.binds (ps := ["word"]) fun _ _ _ _ _ _ us hl => match us, hl with | [_], _ => rfl
  have F10 := fun_mk (st := (top 24)) l10 c10 k10
  have b10 := F10.binds (ps := ["word"]) fun _ _ _ _ _ _ us hl => match us, hl with | [_], _ => rfl
  have F11 := fun_mk (st := (top 25)) l11 c11 k11
  have b11 := F11.binds (ps := ["text"]) fun _ _ _ _ _ _ us hl => match us, hl with | [_], _ => rfl
  have F12 := fun_mk (st := (top 26)) l12 c12 k12
  have b12 := F12.binds (ps := ["text"]) fun _ _ _ _ _ _ us hl => match us, hl with | [_], _ => rfl
  have F13 := fun_mk (st := (top 28)) l13 c13 k13
  have b13 := F13.binds (ps := ["_law_script", "_law_k"]) fun _ _ _ _ _ _ us hl => match us, hl with | [_, _], _ => rfl
  have F14 := fun_mk (st := (top 29)) l14 c14 k14
  have b14 := F14.binds (ps := ["_law_cell", "_law_k", "_law_many"]) fun _ _ _ _ _ _ us hl => match us, hl with | [_, _, _], _ => rfl
  have F15 := fun_mk (st := (top 30)) l15 c15 k15
  have b15 := F15.binds (ps := ["_law_script"]) fun _ _ _ _ _ _ us hl => match us, hl with | [_], _ => rfl
  have F16 := fun_mk (st := (top 33)) l16 c16 k16
  have b16 := F16.binds (ps := ["_law_text"]) fun _ _ _ _ _ _ us hl => match us, hl with | [_], _ => rfl
  have F17 := fun_mk (st := (top 34)) l17 c17 k17
  have b17 := F17.binds (ps := ["_law_text"]) fun _ _ _ _ _ _ us hl => match us, hl with | [_], _ => rfl
  have F18 := fun_mk (st := (top 35)) l18 c18 k18
  have b18 := F18.binds (ps := ["_law_text"]) fun _ _ _ _ _ _ us hl => match us, hl with | [_], _ => rfl
  have F19 := fun_mk (st := (top 36)) l19 c19 k19
  have b19 := F19.binds (ps := ["_law_text"]) fun _ _ _ _ _ _ us hl => match us, hl with | [_], _ => rfl
  have F20 := fun_mk (st := (top 37)) l20 c20 k20
  have b20 := F20.binds (ps := []) fun _ _ _ _ _ _ us hl => match us, hl with | [], _ => rfl
  have F21 := fun_mk (st := (top 38)) l21 c21 k21
  have b21 := F21.binds (ps := ["_law_script"]) fun _ _ _ _ _ _ us hl => match us, hl with | [_], _ => rfl
  refine ⟨PySem.W.fnOf "law" "law" (defArgs (top 38)) (defBody (top 38)) (defScope (top 38)) .none kV21 dc21 pm21 an21 cd21 ct21, fun s v => .of_eq rfl, fun base _ _ => ?_⟩
  have X0 : Callee l.prog w K mg base "is_whole" ["value"] 1 spWhole := callee_mk F0 (PySem.W.mg_of X G a0) b0 (ok_is_whole T  F0)
  have X1 : Callee l.prog w K mg base "is_whole_from" ["value", "least"] 2 spWholeFrom := callee_mk F1 (PySem.W.mg_of X G a1) b1 (ok_is_whole_from T X0 F1)
  have X2 : Callee l.prog w K mg base "is_load" ["value"] 3 spLoad := callee_mk F2 (PySem.W.mg_of X G a2) b2 (ok_is_load T X1 F2)
  have X3 : Callee l.prog w K mg base "is_row" ["value"] 4 (spIsRow K) := callee_mk F3 (PySem.W.mg_of X G a3) b3 (ok_is_row T X2 F3)
  have X4 : Callee l.prog w K mg base "check_row" ["value"] 5 spCheckRow := callee_mk F4 (PySem.W.mg_of X G a4) b4 (ok_check_row T X3 F4)
  have X5 : Callee l.prog w K mg base "are_rising_places" ["value", "row", "least"] 3 (spRisingP K) := callee_mk F5 (PySem.W.mg_of X G a5) b5 (ok_are_rising_places T X1 F5)
  have X6 : Callee l.prog w K mg base "are_cuts" ["value", "row"] 4 (spAreCuts K) := callee_mk F6 (PySem.W.mg_of X G a6) b6 (ok_are_cuts T X5 F6)
  have X7 : Callee l.prog w K mg base "check_cuts" ["value", "row"] 5 spCheckCuts := callee_mk F7 (PySem.W.mg_of X G a7) b7 (ok_check_cuts T X6 F7)
  have X8 : Callee l.prog w K mg base "written" ["row", "cuts"] 6 spWritten := callee_mk F8 (PySem.W.mg_of X G a8) b8 (ok_written T X4 X7 F8)
  have X9 : Callee l.prog w K mg base "has_needless_nought" ["word"] 1 spNought := callee_mk F9 (PySem.W.mg_of X G a9) b9 (ok_has_needless_nought T  F9)
  have X10 : Callee l.prog w K mg base "is_written_load" ["word"] 2 spWrLoad := callee_mk F10 (PySem.W.mg_of X G a10) b10 (ok_is_written_load T X9 F10)
  have X11 : CalleeE l.prog w K mg base "read_part" ["text"] 4 (spReadPart ca) := calleeE_mk F11 (PySem.W.mg_of X G a11) b11 (ok_read_part T c X10 F11)
  have X12 : CalleeE l.prog w K mg base "read" ["text"] 5 (spRead K ca) := calleeE_mk F12 (PySem.W.mg_of X G a12) b12 (ok_read T c X11 F12)
  have X13 : Callee l.prog w K mg base "_law_cell_at" ["_law_script", "_law_k"] 1 (spCell K) := callee_mk F13 (PySem.W.mg_of X G a13) b13 (ok_cell T  F13)
  have X14 : Callee l.prog w K mg base "_law_draw" ["_law_cell", "_law_k", "_law_many"] 1 spDraw := callee_mk F14 (PySem.W.mg_of X G a14) b14 (ok_draw T  F14)
  have X15 : Callee l.prog w K mg base "_law_row" ["_law_script"] 2 (spRow K) := callee_mk F15 (PySem.W.mg_of X G a15) b15 (ok_row T X13 X14 F15)
  have X16 : Callee l.prog w K mg base "_law_number" ["_law_text"] 1 spNumber := callee_mk F16 (PySem.W.mg_of X G a16) b16 (ok__law_number T  F16)
  have X17 : Callee l.prog w K mg base "_law_in" ["_law_text"] 3 spIn := callee_mk F17 (PySem.W.mg_of X G a17) b17 (ok__law_in T X16 F17)
  have X18 : Callee l.prog w K mg base "_law_refused" ["_law_text"] 6 (spRefused K) := callee_mk F18 (PySem.W.mg_of X G a18) b18 (ok__law_refused T c X12 F18)
  have X19 : Callee l.prog w K mg base "_law_right" ["_law_text"] 7 spRight := callee_mk F19 (PySem.W.mg_of X G a19) b19 (ok__law_right T c X17 X18 X12 X8 F19)
  have X20 : Callee l.prog w K mg base "_law_few" [] 1 spFew := callee_mk F20 (PySem.W.mg_of X G a20) b20 (ok__law_few T  F20)
  exact ok_law T X15 X14 X13 X8 X19 X20 X18 F21
theorem walk {l : PySem.W.OpenLaw} {q : Program} {loose : List Str} {XP : (Str → Option Value) → Heap → Prop} {YP : World → Heap → Prop} {d : DefRec} {K : Params → PySem.W.Frag} (hn : l.most = some 63) (hdf : d.params.defaults = [])
    (hY : ∀ (w : World) (h : Heap), YP w h → (K w.params).In h)
    (F : ∀ (w : World) (mg : Str → Option Value) (fa : Addr) (h : Heap), (K w.params).In h → h.Ns mainGlobals mg → mg d.name = some (.ref fa) →
      ∃ fd : FuncData, (∀ (s : Shared) (u : Value), BindsTo s fd ⟨[u], []⟩ [("_law_script", u)]) ∧ ∀ base : Heap, (K w.params).In base → base.Ns mainGlobals mg → FnOk l.prog w (K w.params) mg base CX0 8 fa fd ["_law_script"] (spLaw (K w.params))) :
    PySem.W.WalkO q loose XP YP l.row.toRowW d [] (fun f vs => PySem.call f vs) :=
  L2.walk_of (n := 63) (k := 8) (x := "_law_script") (CX := fun _ => CX0) (sp := fun w => spLaw (K w.params)) hn (by decide) hdf ⟨rfl, by decide, by decide⟩ hY F (fun _ _ a ns hl _ hS => ⟨a, ns, rfl, hS, hl, fun _ => rfl⟩) fun _ _ _ _ _ z => z
end Mine
open PySem PySem.W PyProof.Rows
set_option maxRecDepth 100000 in
set_option maxHeartbeats 0 in
theorem PySem.Challenge.cw_cutrow_k06_written_holds : PySem.Challenge.rw_cutrow_k06_written.Holds := by
  w_on; o_law; k_head; (case hw => w_witness2)
  k_fill
  refine Mine.walk (l := PySem.Challenge.rw_cutrow_k06_written) rfl rfl (fun w h Y => PySem.W.kIn_of Y) ?F
  case F =>
    intro w mg fa h KX G hmg
    refine' Mine.all_mk KX G hmg ?aC_CutError ?aC_BadRow ?aC_BadNumber ?aC_BadCuts ?aC_BadText ?a0 ?l0 ?c0 ?k0 ?a1 ?l1 ?c1 ?k1 ?a2 ?l2 ?c2 ?k2 ?a3 ?l3 ?c3 ?k3 ?a4 ?l4 ?c4 ?k4 ?a5 ?l5 ?c5 ?k5 ?a6 ?l6 ?c6 ?k6 ?a7 ?l7 ?c7 ?k7 ?a8 ?l8 ?c8 ?k8 ?a9 ?l9 ?c9 ?k9 ?a10 ?l10 ?c10 ?k10 ?a11 ?l11 ?c11 ?k11 ?a12 ?l12 ?c12 ?k12 ?a13 ?l13 ?c13 ?k13 ?a14 ?l14 ?c14 ?k14 ?a15 ?l15 ?c15 ?k15 ?a16 ?l16 ?c16 ?k16 ?a17 ?l17 ?c17 ?k17 ?a18 ?l18 ?c18 ?k18 ?a19 ?l19 ?c19 ?k19 ?a20 ?l20 ?c20 ?k20 ?a21 ?l21 ?c21 ?k21 ?z_len ?z_any ?z_all ?z_isinstance ?z_int ?z_bool ?z_list ?z_tuple ?z_str ?z_range ?z_ValueError ?y_MOST_LOAD ?y_MOST_LOADS ?y_FIGURES ?y_NO_LOADS ?y_BLANK ?y_BAR ?xc_CutError ?xg_CutError ?xh_CutError ?xo_CutError ?xm_CutError ?xb_CutError ?xc_BadText ?xg_BadText ?xh_BadText ?xo_BadText ?xm_BadText ?xb_BadText ?kk_BadText_BadRow ?kk_BadText_BadNumber ?kk_BadText_BadCuts ?kk_BadText_BadText ?kv_BadText ?ss_BadText
    (case aC_CutError => k_is)
    (case aC_BadRow => k_is)
    (case aC_BadNumber => k_is)
    (case aC_BadCuts => k_is)
    (case aC_BadText => k_is)
    (case a0 => k_is)
    (case l0 => k_is)
    (case c0 => k_is)
    (case k0 => k_is)
    (case a1 => k_is)
    (case l1 => k_is)
    (case c1 => k_is)
    (case k1 => k_is)
    (case a2 => k_is)
    (case l2 => k_is)
    (case c2 => k_is)
    (case k2 => k_is)
    (case a3 => k_is)
    (case l3 => k_is)
    (case c3 => k_is)
    (case k3 => k_is)
    (case a4 => k_is)
    (case l4 => k_is)
    (case c4 => k_is)
    (case k4 => k_is)
    (case a5 => k_is)
    (case l5 => k_is)
    (case c5 => k_is)
    (case k5 => k_is)
    (case a6 => k_is)
    (case l6 => k_is)
    (case c6 => k_is)
    (case k6 => k_is)
    (case a7 => k_is)
    (case l7 => k_is)
    (case c7 => k_is)
    (case k7 => k_is)
    (case a8 => k_is)
    (case l8 => k_is)
    (case c8 => k_is)
    (case k8 => k_is)
    (case a9 => k_is)
    (case l9 => k_is)
    (case c9 => k_is)
    (case k9 => k_is)
    (case a10 => k_is)
    (case l10 => k_is)
    (case c10 => k_is)
    (case k10 => k_is)
    (case a11 => k_is)
    (case l11 => k_is)
    (case c11 => k_is)
    (case k11 => k_is)
    (case a12 => k_is)
    (case l12 => k_is)
    (case c12 => k_is)
    (case k12 => k_is)
    (case a13 => k_is)
    (case l13 => k_is)
    (case c13 => k_is)
    (case k13 => k_is)
    (case a14 => k_is)
    (case l14 => k_is)
    (case c14 => k_is)
    (case k14 => k_is)
    (case a15 => k_is)
    (case l15 => k_is)
    (case c15 => k_is)
    (case k15 => k_is)
    (case a16 => k_is)
    (case l16 => k_is)
    (case c16 => k_is)
    (case k16 => k_is)
    (case a17 => k_is)
    (case l17 => k_is)
    (case c17 => k_is)
    (case k17 => k_is)
    (case a18 => k_is)
    (case l18 => k_is)
    (case c18 => k_is)
    (case k18 => k_is)
    (case a19 => k_is)
    (case l19 => k_is)
    (case c19 => k_is)
    (case k19 => k_is)
    (case a20 => k_is)
    (case l20 => k_is)
    (case c20 => k_is)
    (case k20 => k_is)
    (case a21 => k_is)
    (case l21 => k_is)
    (case c21 => k_is)
    (case k21 => k_is)
    (case z_len => k_is)
    (case z_any => k_is)
    (case z_all => k_is)
    (case z_isinstance => k_is)
    (case z_int => k_is)
    (case z_bool => k_is)
    (case z_list => k_is)
    (case z_tuple => k_is)
    (case z_str => k_is)
    (case z_range => k_is)
    (case z_ValueError => k_is)
    (case y_MOST_LOAD => k_is)
    (case y_MOST_LOADS => k_is)
    (case y_FIGURES => k_is)
    (case y_NO_LOADS => k_is)
    (case y_BLANK => k_is)
    (case y_BAR => k_is)
    (case xc_CutError => k_exc)
    (case xg_CutError => k_is)
    (case xh_CutError => k_is)
    (case xo_CutError => k_is)
    (case xm_CutError => k_is)
    (case xb_CutError => k_is)
    (case xc_BadText => k_exc)
    (case xg_BadText => k_is)
    (case xh_BadText => k_is)
    (case xo_BadText => k_is)
    (case xm_BadText => k_is)
    (case xb_BadText => k_is)
    (case kk_BadText_BadRow => kit_is)
    (case kk_BadText_BadNumber => kit_is)
    (case kk_BadText_BadCuts => kit_is)
    (case kk_BadText_BadText => kit_is)
    (case kv_BadText => kit_is)
    (case ss_BadText => k_is)
