import PyProof.Rows.All
import Wide.All
import OpenK.AllK
import Wide.FinOn
import HandS.ForMost
import HandS.ForExc
import HandS.Walk
import HandS.TupAny
import HandS.TupMul
import HandS.IsInst
import HandS.Style
import HandS.HeadHook2
import HandS.AnyAll
import HandS.HeadHook4
import HandS.HeadWalk
import HandS.NestedK
import HandS.Strs
import HandS.Words
import HandS.ExcIs
import KE.DatumOrd
import PyProof.FString5
import HandS.HeadEnd
import HandS.Head2
import HandS.Head0
import HandS.Head1
import PySem.Challenge.RW_vancourier_k01_models
set_option Elab.async false
set_option linter.all false
set_option maxRecDepth 100000
set_option maxHeartbeats 4000000
/-! Core: values as trees, a store of objects by number, and what the hand layer's readings say of them -/
namespace Core
open PySem PySem.Spec PyProof.Rows L2

/-! ### values, objects, stores -/
inductive D where
  | non | bl (b : Bool) | int (i : Int) | str (x : Str) | tup (xs : List D) | ref (n : Nat)
inductive Ob where
  | lst (xs : List D)
  | frz (xs : List D)
  | ins (c : Str) (fs : List (Str × D))
  | dK (kvs : List (Key × D))
  | lkK (kvs : List (Key × D))
abbrev Mem := List Ob
abbrev Loc := List (Option D)
inductive R (α : Type) where
  | ok (a : α) (s : Mem)
  | err (c : Str) (s : Mem)
  | no
def R.bind {α β : Type} (r : R α) (f : α → Mem → R β) : R β := match r with
  | .ok a s => f a s
  | .err c s => .err c s
  | .no => .no
inductive RS where
  | nx (l : Loc) (s : Mem)
  | rt (d : D) (s : Mem)
  | bk (l : Loc) (s : Mem)
  | ct (l : Loc) (s : Mem)
  | err (c : Str) (l : Loc) (s : Mem)
  | no
def R.toS {α : Type} (r : R α) (l : Loc) (f : α → Mem → RS) : RS := match r with
  | .ok a s => f a s
  | .err c s => .err c l s
  | .no => .no
abbrev EM := Loc → Mem → R D
abbrev TM := Loc → Mem → R Bool
abbrev AM := Loc → Mem → R (List D)
abbrev SM := Loc → Mem → RS

/-! ### what stands for what -/
/-- the constants of a proof: the written part, the classes' addresses, the code tables -/
structure Gx where
  K : PySem.W.Frag
  cls : Str → Addr
  tabs : List Addr

section
variable (K : PySem.W.Frag) (ι : List Addr) (H : Hp)
mutual
inductive Rep : V → D → Prop
  | non : Rep .non .non
  | bl (b : Bool) : Rep (.bl b) (.bl b)
  | int (i : Int) : Rep (.int i) (.int i)
  | str (x : Str) : Rep (.str x) (.str x)
  | tup {a : Addr} {vs : List V} {ds : List D} : SqT K H a vs → Reps vs ds → Rep (.ref a) (.tup ds)
  | ref {a : Addr} {n : Nat} : ι[n]? = some a → Rep (.ref a) (.ref n)
inductive Reps : List V → List D → Prop
  | nil : Reps [] []
  | cons {v : V} {vs : List V} {d : D} {ds : List D} : Rep v d → Reps vs ds → Reps (v :: vs) (d :: ds)
end
inductive RepF : List (Str × V) → List (Str × D) → Prop
  | nil : RepF [] []
  | cons {x : Str} {v : V} {vs : List (Str × V)} {d : D} {ds : List (Str × D)} : Rep K ι H v d → RepF vs ds → RepF ((x, v) :: vs) ((x, d) :: ds)
inductive RepK : List (Key × V) → List (Key × D) → Prop
  | nil : RepK [] []
  | cons {x : Key} {v : V} {vs : List (Key × V)} {d : D} {ds : List (Key × D)} : Rep K ι H v d → RepK vs ds → RepK ((x, v) :: vs) ((x, d) :: ds)
end

/-- a list that nobody writes -/
def FrzL (K : PySem.W.Frag) (H : Hp) (a : Addr) (vs : List V) : Prop := (∃ o, H a = some (.frz o (.lst vs))) ∨
  ∃ (o : Obj) (its : Array Value) (n : Nat), K.lookup a = some o ∧ o.cls = .type "list" ∧ o.dict = none ∧ o.data = .seq its n ∧ its.size ≤ sizeLine ∧ Vals vs its.toList
theorem FrzL.sql {K : PySem.W.Frag} {H : Hp} {a : Addr} {vs : List V} (h : FrzL K H a vs) : SqL K H a vs := by
  rcases h with ⟨o, h⟩ | h
  · exact .inl (.inr ⟨o, h⟩)
  · exact .inr h
def ObR (G : Gx) (ι : List Addr) (H : Hp) (a : Addr) : Ob → Prop
  | .lst xs => ∃ vs, H a = some (.lst vs) ∧ Reps G.K ι H vs xs
  | .frz xs => ∃ vs, FrzL G.K H a vs ∧ Reps G.K ι H vs xs
  | .ins c fs => ∃ dx ws, H a = some (.ins (G.cls c) dx ws) ∧ RepF G.K ι H ws fs
  | .dK kvs => ∃ ws, H a = some (.dK ws) ∧ RepK G.K ι H ws kvs
  | .lkK kvs => ∃ o ws, H a = some (.frz o (.dK ws)) ∧ RepK G.K ι H ws kvs
/-- may be written -/
def Ob.mut : Ob → Bool
  | .frz _ => false
  | .lkK _ => false
  | _ => true
def TabG (H : Hp) (P : Addr) : Prop := ∃ ps : Array Value, H P = some (.tbl ps) ∧ TriplesOk ps.toList

structure SimH (G : Gx) (ι : List Addr) (s : Mem) (H : Hp) : Prop where
  len : ι.length = s.length
  ob : ∀ (n : Nat) (a : Addr) (o : Ob), ι[n]? = some a → s[n]? = some o → ObR G ι H a o
  inj : ∀ (m n : Nat) (a : Addr) (o o' : Ob), ι[m]? = some a → ι[n]? = some a → s[m]? = some o → s[n]? = some o' → o.mut = true → o'.mut = true → m = n
  tabs : ∀ P ∈ G.tabs, TabG H P
/-- a later state -/
structure Stp (K : PySem.W.Frag) (ι : List Addr) (H : Hp) (ι' : List Addr) (H' : Hp) : Prop where
  pre : ∀ (n : Nat) (a : Addr), ι[n]? = some a → ι'[n]? = some a
  tup : ∀ a vs, SqT K H a vs → SqT K H' a vs
theorem Stp.refl {K : PySem.W.Frag} {ι : List Addr} {H : Hp} : Stp K ι H ι H := ⟨fun _ _ h => h, fun _ _ h => h⟩
theorem Stp.trans {K : PySem.W.Frag} {ι ι1 ι2 : List Addr} {H H1 H2 : Hp} (a : Stp K ι H ι1 H1) (b : Stp K ι1 H1 ι2 H2) : Stp K ι H ι2 H2 :=
  ⟨fun n x h => b.pre n x (a.pre n x h), fun p vs h => b.tup p vs (a.tup p vs h)⟩
section
variable {K : PySem.W.Frag} {ι ι' : List Addr} {H H' : Hp}
mutual
theorem Rep.mono (st : Stp K ι H ι' H') : ∀ {v : V} {d : D}, Rep K ι H v d → Rep K ι' H' v d
  | _, _, .non => .non
  | _, _, .bl b => .bl b
  | _, _, .int i => .int i
  | _, _, .str x => .str x
  | _, _, .tup h r => .tup (st.tup _ _ h) (Reps.mono st r)
  | _, _, .ref h => .ref (st.pre _ _ h)
theorem Reps.mono (st : Stp K ι H ι' H') : ∀ {vs : List V} {ds : List D}, Reps K ι H vs ds → Reps K ι' H' vs ds
  | _, _, .nil => .nil
  | _, _, .cons r t => .cons (Rep.mono st r) (Reps.mono st t)
end
theorem RepF.mono (st : Stp K ι H ι' H') {vs : List (Str × V)} {ds : List (Str × D)} (h : RepF K ι H vs ds) : RepF K ι' H' vs ds := by
  induction h with
  | nil => exact .nil
  | cons r _ ih => exact .cons (r.mono st) ih
theorem RepK.mono (st : Stp K ι H ι' H') {vs : List (Key × V)} {ds : List (Key × D)} (h : RepK K ι H vs ds) : RepK K ι' H' vs ds := by
  induction h with
  | nil => exact .nil
  | cons r _ ih => exact .cons (r.mono st) ih
theorem Reps.length {vs : List V} {ds : List D} (h : Reps K ι H vs ds) : vs.length = ds.length := by
  induction ds generalizing vs with
  | nil => cases h; rfl
  | cons d ds ih => cases h with | cons _ t => simp [ih t]
theorem Reps.get {vs : List V} {ds : List D} (h : Reps K ι H vs ds) {i : Nat} {d : D} (e : ds[i]? = some d) : ∃ v, vs[i]? = some v ∧ Rep K ι H v d := by
  induction ds generalizing vs i with
  | nil => simp at e
  | cons d' ds ih =>
    cases h with
    | cons r t =>
      cases i with
      | zero => simp at e; subst e; exact ⟨_, rfl, r⟩
      | succ i => obtain ⟨v, h1, h2⟩ := ih t (i := i) (by simpa using e); exact ⟨v, by simpa using h1, h2⟩
theorem Reps.getV {vs : List V} {ds : List D} (h : Reps K ι H vs ds) {i : Nat} {v : V} (e : vs[i]? = some v) : ∃ d, ds[i]? = some d ∧ Rep K ι H v d := by
  induction ds generalizing vs i with
  | nil => cases h; simp at e
  | cons d' ds ih =>
    cases h with
    | cons r t =>
      cases i with
      | zero => simp at e; subst e; exact ⟨_, rfl, r⟩
      | succ i => obtain ⟨v, h1, h2⟩ := ih t (i := i) (by simpa using e); exact ⟨v, by simpa using h1, h2⟩
theorem Reps.append {vs ws : List V} {ds es : List D} (h : Reps K ι H vs ds) (h' : Reps K ι H ws es) : Reps K ι H (vs ++ ws) (ds ++ es) := by
  induction ds generalizing vs with
  | nil => cases h; exact h'
  | cons d ds ih => cases h with | cons r t => exact .cons r (ih t)
theorem Reps.take {vs : List V} {ds : List D} (h : Reps K ι H vs ds) (n : Nat) : Reps K ι H (vs.take n) (ds.take n) := by
  induction ds generalizing vs n with
  | nil => cases h; simp; exact .nil
  | cons d ds ih =>
    cases h with
    | cons r t =>
      cases n with
      | zero => exact .nil
      | succ n => exact .cons r (ih t n)
theorem Reps.drop {vs : List V} {ds : List D} (h : Reps K ι H vs ds) (n : Nat) : Reps K ι H (vs.drop n) (ds.drop n) := by
  induction ds generalizing vs n with
  | nil => cases h; simp; exact .nil
  | cons d ds ih =>
    cases h with
    | cons r t =>
      cases n with
      | zero => exact .cons r t
      | succ n => exact ih t n
theorem Reps.set {vs : List V} {ds : List D} (h : Reps K ι H vs ds) (i : Nat) {v : V} {d : D} (r : Rep K ι H v d) : Reps K ι H (vs.set i v) (ds.set i d) := by
  induction ds generalizing vs i with
  | nil => cases h; exact .nil
  | cons d' ds ih =>
    cases h with
    | cons r' t =>
      cases i with
      | zero => exact .cons r t
      | succ i => exact .cons r' (ih t i)
theorem Reps.reverse {vs : List V} {ds : List D} (h : Reps K ι H vs ds) : Reps K ι H vs.reverse ds.reverse := by
  induction ds generalizing vs with
  | nil => cases h; exact .nil
  | cons d ds ih =>
    cases h with
    | cons r t =>
      rw [List.reverse_cons, List.reverse_cons]
      exact (ih t).append (.cons r .nil)
theorem Reps.rep {vs : List V} {ds : List D} (h : Reps K ι H vs ds) (n : Nat) : Reps K ι H (List.replicate n vs).flatten (List.replicate n ds).flatten := by
  induction n with
  | zero => exact .nil
  | succ n ih => rw [List.replicate_succ, List.replicate_succ, List.flatten_cons, List.flatten_cons]; exact h.append ih
theorem Reps.eraseIdx {vs : List V} {ds : List D} (h : Reps K ι H vs ds) (i : Nat) : Reps K ι H (vs.eraseIdx i) (ds.eraseIdx i) := by
  induction ds generalizing vs i with
  | nil => cases h; exact .nil
  | cons d' ds ih =>
    cases h with
    | cons r' t =>
      cases i with
      | zero => exact t
      | succ i => exact .cons r' (ih t i)
theorem Reps.dropLast {vs : List V} {ds : List D} (h : Reps K ι H vs ds) : Reps K ι H vs.dropLast ds.dropLast := by
  rw [List.dropLast_eq_take, List.dropLast_eq_take, h.length]
  exact h.take _
end
section
variable {K : PySem.W.Frag} {ι : List Addr} {H : Hp}
theorem sqT_new {p : Addr} {o : HO} (hp : H p = none) {a : Addr} {vs : List V} (h : SqT K H a vs) : SqT K (upd H p o) a vs := by
  rcases h with (h | ⟨ob, h⟩) | h
  · exact .inl (.inl (by rw [upd_ne (ne_of_none h hp)]; exact h))
  · exact .inl (.inr ⟨ob, by rw [upd_ne (ne_of_none h hp)]; exact h⟩)
  · exact .inr h
theorem sqL_new {p : Addr} {o : HO} (hp : H p = none) {a : Addr} {vs : List V} (h : SqL K H a vs) : SqL K (upd H p o) a vs := by
  rcases h with (h | ⟨ob, h⟩) | h
  · exact .inl (.inl (by rw [upd_ne (ne_of_none h hp)]; exact h))
  · exact .inl (.inr ⟨ob, by rw [upd_ne (ne_of_none h hp)]; exact h⟩)
  · exact .inr h
/-- what stands at p is no tuple, locked or not -/
def NoTup (H : Hp) (p : Addr) : Prop := (∀ vs, H p ≠ some (.tup vs)) ∧ ∀ ob vs, H p ≠ some (.frz ob (.tup vs))
theorem sqT_mut {p : Addr} {o : HO} (hp : NoTup H p) {a : Addr} {vs : List V} (h : SqT K H a vs) : SqT K (upd H p o) a vs := by
  rcases h with (h | ⟨ob, h⟩) | h
  · exact .inl (.inl (by rw [upd_ne (fun e => hp.1 vs (by rw [← e]; exact h))]; exact h))
  · exact .inl (.inr ⟨ob, by rw [upd_ne (fun e => hp.2 ob vs (by rw [← e]; exact h))]; exact h⟩)
  · exact .inr h
theorem Stp.new {ι' : List Addr} {p : Addr} {o : HO} (hp : H p = none) (hι : ∀ (n : Nat) (a : Addr), ι[n]? = some a → ι'[n]? = some a) : Stp K ι H ι' (upd H p o) := ⟨hι, fun _ _ h => sqT_new hp h⟩
theorem Stp.mut {p : Addr} {o : HO} (hp : NoTup H p) : Stp K ι H ι (upd H p o) := ⟨fun _ _ h => h, fun _ _ h => sqT_mut hp h⟩
theorem pre_snoc (p : Addr) : ∀ (n : Nat) (a : Addr), ι[n]? = some a → (ι ++ [p])[n]? = some a := fun n a h => by
  rw [List.getElem?_append_left (List.getElem?_eq_some_iff.mp h).1]; exact h
end
section
variable {G : Gx} {ι : List Addr} {s : Mem} {H : Hp}
theorem NoTup.of {p : Addr} {u : HO} (h : H p = some u) (h1 : ∀ vs, u ≠ .tup vs) (h2 : ∀ ob vs, u ≠ .frz ob (.tup vs)) : NoTup H p :=
  ⟨fun vs e => h1 vs (by rw [h] at e; exact Option.some.inj e), fun ob vs e => h2 ob vs (by rw [h] at e; exact Option.some.inj e)⟩
/-- an object of the store stays where a new thing is laid -/
theorem ObR.new {p : Addr} {u : HO} {ι' : List Addr} (hp : H p = none) (hι : ∀ (n : Nat) (a : Addr), ι[n]? = some a → ι'[n]? = some a) {a : Addr} {o : Ob} (h : ObR G ι H a o) : ObR G ι' (upd H p u) a o := by
  have st : Stp G.K ι H ι' (upd H p u) := Stp.new hp hι
  cases o with
  | lst xs => obtain ⟨vs, h1, h2⟩ := h; exact ⟨vs, by rw [upd_ne (ne_of_none h1 hp)]; exact h1, h2.mono st⟩
  | frz xs =>
    obtain ⟨vs, h1, h2⟩ := h
    rcases h1 with ⟨ob, h1⟩ | h1
    · exact ⟨vs, .inl ⟨ob, by rw [upd_ne (ne_of_none h1 hp)]; exact h1⟩, h2.mono st⟩
    · exact ⟨vs, .inr h1, h2.mono st⟩
  | ins c fs => obtain ⟨dx, ws, h1, h2⟩ := h; exact ⟨dx, ws, by rw [upd_ne (ne_of_none h1 hp)]; exact h1, h2.mono st⟩
  | dK kvs => obtain ⟨ws, h1, h2⟩ := h; exact ⟨ws, by rw [upd_ne (ne_of_none h1 hp)]; exact h1, h2.mono st⟩
  | lkK kvs => obtain ⟨ob, ws, h1, h2⟩ := h; exact ⟨ob, ws, by rw [upd_ne (ne_of_none h1 hp)]; exact h1, h2.mono st⟩
theorem TabG.new {p P : Addr} {u : HO} (hp : H p = none) (h : TabG H P) : TabG (upd H p u) P := by
  obtain ⟨ps, h1, h2⟩ := h
  exact ⟨ps, by rw [upd_ne (ne_of_none h1 hp)]; exact h1, h2⟩
/-- what a store's object stands on is tracked, if it may be written -/
theorem ObR.some {a : Addr} {o : Ob} (h : ObR G ι H a o) (m : o.mut = true) : ∃ u, H a = some u ∧ NoTup H a ∧ (∀ ob w, u ≠ .frz ob w) ∧ (∀ ps, u ≠ .tbl ps) := by
  cases o with
  | lst xs => obtain ⟨vs, h1, h2⟩ := h; exact ⟨_, h1, NoTup.of h1 (fun _ e => by cases e) (fun _ _ e => by cases e), (fun _ _ e => by cases e), (fun _ e => by cases e)⟩
  | frz xs => cases m
  | ins c fs => obtain ⟨dx, ws, h1, h2⟩ := h; exact ⟨_, h1, NoTup.of h1 (fun _ e => by cases e) (fun _ _ e => by cases e), (fun _ _ e => by cases e), (fun _ e => by cases e)⟩
  | dK kvs => obtain ⟨ws, h1, h2⟩ := h; exact ⟨_, h1, NoTup.of h1 (fun _ e => by cases e) (fun _ _ e => by cases e), (fun _ _ e => by cases e), (fun _ e => by cases e)⟩
  | lkK kvs => cases m
/-- a thing is laid that the store does not count -/
theorem SimH.laid (h : SimH G ι s H) {p : Addr} {u : HO} (hp : H p = none) : SimH G ι s (upd H p u) :=
  ⟨h.len, fun n a o h1 h2 => (h.ob n a o h1 h2).new hp fun _ _ z => z, h.inj, fun P hP => (h.tabs P hP).new hp⟩
/-- a new object of the store -/
theorem SimH.push (h : SimH G ι s H) {p : Addr} {u : HO} (hp : H p = none) {o : Ob} (hm : o.mut = true) (ho : ObR G (ι ++ [p]) (upd H p u) p o) : SimH G (ι ++ [p]) (s ++ [o]) (upd H p u) := by
  have lt : ∀ {n : Nat} {a : Addr}, (ι ++ [p])[n]? = some a → (ι[n]? = some a ∧ n < ι.length) ∨ (n = ι.length ∧ a = p) := fun {n a} e => by
    by_cases hn : n < ι.length
    · rw [List.getElem?_append_left hn] at e; exact .inl ⟨e, hn⟩
    · rw [List.getElem?_append_right (by omega)] at e
      have : n - ι.length = 0 := by
        rcases Nat.eq_zero_or_pos (n - ι.length) with z | z
        · exact z
        · rw [List.getElem?_eq_none (by simp; omega)] at e; cases e
      rw [this] at e
      exact .inr ⟨by omega, by simpa using e.symm⟩
  have ls : ∀ {n : Nat} {ob : Ob}, n < ι.length → (s ++ [o])[n]? = some ob → s[n]? = some ob := fun {n ob} hn e => by
    rw [List.getElem?_append_left (by rw [← h.len]; exact hn)] at e; exact e
  have ln : (s ++ [o])[ι.length]? = some o := by rw [h.len]; simp
  refine ⟨by simp [h.len], fun n a ob h1 h2 => ?_, fun m n a o1 o2 h1 h2 h3 h4 m1 m2 => ?_, fun P hP => (h.tabs P hP).new hp⟩
  · rcases lt h1 with ⟨e, hn⟩ | ⟨rfl, rfl⟩
    · exact (h.ob n a ob e (ls hn h2)).new hp (pre_snoc p)
    · rw [ln] at h2; cases h2; exact ho
  · rcases lt h1 with ⟨e1, hm1⟩ | ⟨e1, q1⟩ <;> rcases lt h2 with ⟨e2, hn2⟩ | ⟨e2, q2⟩
    · exact h.inj m n a o1 o2 e1 e2 (ls hm1 h3) (ls hn2 h4) m1 m2
    · obtain ⟨u, hu, _⟩ := (h.ob m a o1 e1 (ls hm1 h3)).some m1
      rw [q2, hp] at hu; cases hu
    · obtain ⟨u, hu, _⟩ := (h.ob n a o2 e2 (ls hn2 h4)).some m2
      rw [q1, hp] at hu; cases hu
    · omega
/-- an object of the store is written -/
theorem SimH.write (h : SimH G ι s H) {n : Nat} {a : Addr} {o o' : Ob} {u : HO} (ha : ι[n]? = some a) (ho : s[n]? = some o) (hm : o.mut = true) (hm' : o'.mut = true) (hu : NoTup (upd H a u) a → ObR G ι (upd H a u) a o') (hu2 : NoTup (upd H a u) a) : SimH G ι (s.set n o') (upd H a u) ∧ Stp G.K ι H ι (upd H a u) := by
  obtain ⟨u0, hu0, nt, nf, ntb⟩ := (h.ob n a o ha ho).some hm
  have st : Stp G.K ι H ι (upd H a u) := Stp.mut nt
  have hn : n < s.length := (List.getElem?_eq_some_iff.mp ho).1
  have sg : ∀ {k : Nat} {ob : Ob}, (s.set n o')[k]? = some ob → (k = n ∧ ob = o') ∨ (k ≠ n ∧ s[k]? = some ob) := fun {k ob} e => by
    by_cases hk : k = n
    · subst hk; rw [List.getElem?_set_self hn] at e; exact .inl ⟨rfl, (Option.some.inj e).symm⟩
    · rw [List.getElem?_set_ne (Ne.symm hk)] at e; exact .inr ⟨hk, e⟩
  refine ⟨⟨by simp [h.len], fun k b ob h1 h2 => ?_, fun m k b o1 o2 h1 h2 h3 h4 m1 m2 => ?_, fun P hP => ?_⟩, st⟩
  · rcases sg h2 with ⟨rfl, rfl⟩ | ⟨hk, h2⟩
    · rw [ha] at h1; cases h1; exact hu hu2
    · have q := h.ob k b ob h1 h2
      have nb : ob.mut = true → b ≠ a := fun mm e => hk (h.inj k n a ob o (e ▸ h1) ha h2 ho mm hm)
      cases ob with
      | lst xs => obtain ⟨vs, q1, q2⟩ := q; exact ⟨vs, by rw [upd_ne (nb rfl)]; exact q1, q2.mono st⟩
      | frz xs =>
        obtain ⟨vs, q1, q2⟩ := q
        rcases q1 with ⟨ob', q1⟩ | q1
        · have : b ≠ a := fun e => nf ob' _ (by rw [← e, q1] at hu0; exact (Option.some.inj hu0).symm)
          exact ⟨vs, .inl ⟨ob', by rw [upd_ne this]; exact q1⟩, q2.mono st⟩
        · exact ⟨vs, .inr q1, q2.mono st⟩
      | ins c fs => obtain ⟨dx, ws, q1, q2⟩ := q; exact ⟨dx, ws, by rw [upd_ne (nb rfl)]; exact q1, q2.mono st⟩
      | dK kvs => obtain ⟨ws, q1, q2⟩ := q; exact ⟨ws, by rw [upd_ne (nb rfl)]; exact q1, q2.mono st⟩
      | lkK kvs =>
        obtain ⟨ob', ws, q1, q2⟩ := q
        have : b ≠ a := fun e => nf ob' _ (by rw [← e, q1] at hu0; exact (Option.some.inj hu0).symm)
        exact ⟨ob', ws, by rw [upd_ne this]; exact q1, q2.mono st⟩
  · rcases sg h3 with ⟨e3, _⟩ | ⟨hm3, h3'⟩ <;> rcases sg h4 with ⟨e4, _⟩ | ⟨hm4, h4'⟩
    · rw [e3, e4]
    · exact h.inj m k b o o2 h1 h2 (by rw [e3]; exact ho) h4' hm m2
    · exact h.inj m k b o1 o h1 h2 h3' (by rw [e4]; exact ho) m1 hm
    · exact h.inj m k b o1 o2 h1 h2 h3' h4' m1 m2
  · obtain ⟨ps, q1, q2⟩ := h.tabs P hP
    have : P ≠ a := fun e => ntb ps (by rw [← e, q1] at hu0; exact (Option.some.inj hu0).symm)
    exact ⟨ps, by rw [upd_ne this]; exact q1, q2⟩
end
end Core

set_option Elab.async false
set_option linter.all false
set_option maxRecDepth 100000
set_option maxHeartbeats 4000000
/-! Core: what a reading says in the store's words; expressions -/
namespace Core
open PySem PySem.Spec PyProof.Rows L2

def Slots (K : PySem.W.Frag) (ι : List Addr) (H : Hp) (l : Loc) (σ : L2.St) : Prop :=
  l.length = σ.length ∧ ∀ (i : Nat) (d : D), l[i]? = some (some d) → ∃ v, σ[i]? = some (some v) ∧ Rep K ι H v d
theorem Slots.mono {K : PySem.W.Frag} {ι ι' : List Addr} {H H' : Hp} {l : Loc} {σ : L2.St} (h : Slots K ι H l σ) (st : Stp K ι H ι' H') : Slots K ι' H' l σ :=
  ⟨h.1, fun i d e => let ⟨v, h1, h2⟩ := h.2 i d e; ⟨v, h1, h2.mono st⟩⟩
theorem Slots.set {K : PySem.W.Frag} {ι : List Addr} {H : Hp} {l : Loc} {σ : L2.St} (h : Slots K ι H l σ) (i : Nat) {v : V} {d : D} (r : Rep K ι H v d) : Slots K ι H (l.set i (some d)) (σ.set i (some v)) := by
  refine ⟨by simp [h.1], fun j e q => ?_⟩
  by_cases hj : j = i
  · subst hj
    by_cases hl : j < l.length
    · rw [List.getElem?_set_self hl] at q
      cases q
      exact ⟨v, List.getElem?_set_self (by rw [← h.1]; exact hl), r⟩
    · rw [List.getElem?_eq_none (by simpa using hl)] at q; cases q
  · rw [List.getElem?_set_ne (Ne.symm hj)] at q
    obtain ⟨w, h1, h2⟩ := h.2 j e q
    exact ⟨w, by rw [List.getElem?_set_ne (Ne.symm hj)]; exact h1, h2⟩
def wipeL (l : Loc) : List Nat → Loc
  | [] => l
  | v :: vs => (wipeL l vs).set v none
theorem Slots.none {K : PySem.W.Frag} {ι : List Addr} {H : Hp} {l : Loc} {σ : L2.St} (h : Slots K ι H l σ) (i : Nat) : Slots K ι H (l.set i none) (σ.set i none) := by
  refine ⟨by simp [h.1], fun j e q => ?_⟩
  by_cases hj : j = i
  · subst hj
    by_cases hl : j < l.length
    · rw [List.getElem?_set_self hl] at q; cases q
    · rw [List.getElem?_eq_none (by simpa using hl)] at q; cases q
  · rw [List.getElem?_set_ne (Ne.symm hj)] at q
    obtain ⟨w, h1, h2⟩ := h.2 j e q
    exact ⟨w, by rw [List.getElem?_set_ne (Ne.symm hj)]; exact h1, h2⟩
theorem Slots.wipe {K : PySem.W.Frag} {ι : List Addr} {H : Hp} {l : Loc} {σ : L2.St} (h : Slots K ι H l σ) : ∀ vs : List Nat, Slots K ι H (wipeL l vs) (wipe σ vs)
  | [] => h
  | v :: vs => (h.wipe vs).none v

/-- the result r reached from (ι, H): what is wanted of its end -/
def Fin {α β : Type} (G : Gx) (W : WX) (ι : List Addr) (H : Hp) (σ : L2.St) (rel : List Addr → Hp → β → α → Prop) (r : R α) (Q : β → Hp → Prop) : Prop := match r with
  | .ok a s' => ∀ ι' b H', Stp G.K ι H ι' H' → SimH G ι' s' H' → rel ι' H' b a → Q b H'
  | .err c s' => ∀ ι' H', Stp G.K ι H ι' H' → SimH G ι' s' H' → W (.ref (G.cls c)) none σ H'
  | .no => False
section
variable {α β γ δ : Type} {G : Gx} {W : WX} {ι ι1 : List Addr} {H H1 : Hp} {σ : L2.St} {rel : List Addr → Hp → β → α → Prop} {rel' : List Addr → Hp → δ → γ → Prop} {r : R α} {Q : β → Hp → Prop} {Q' : δ → Hp → Prop}
theorem Fin.step (h : Fin G W ι H σ rel r Q) (st : Stp G.K ι H ι1 H1) : Fin G W ι1 H1 σ rel r Q := by
  cases r with
  | ok a s' => exact fun ι' b H' st' => h ι' b H' (st.trans st')
  | err c s' => exact fun ι' H' st' => h ι' H' (st.trans st')
  | no => exact h
theorem Fin.bind {f : α → Mem → R γ} (h : Fin G W ι H σ rel' (r.bind f) Q') {Q : β → Hp → Prop}
    (k : ∀ a s1 ι1 b H1, Stp G.K ι H ι1 H1 → SimH G ι1 s1 H1 → rel ι1 H1 b a → Fin G W ι1 H1 σ rel' (f a s1) Q' → Q b H1) : Fin G W ι H σ rel r Q := by
  cases r with
  | ok a s' => exact fun ι' b H' st sm rl => k a s' ι' b H' st sm rl (Fin.step (r := f a s') h st)
  | err c s' => exact h
  | no => exact h
/-- at the end: the result stands here -/
theorem Fin.here {a : α} {s : Mem} (h : Fin G W ι H σ rel (.ok a s) Q) (sm : SimH G ι s H) {b : β} (rl : rel ι H b a) : Q b H := h ι b H .refl sm rl
theorem Fin.there {a : α} {s : Mem} (h : Fin G W ι H σ rel (.ok a s) Q) (st : Stp G.K ι H ι1 H1) (sm : SimH G ι1 s H1) {b : β} (rl : rel ι1 H1 b a) : Q b H1 := h ι1 b H1 st sm rl
end
def relB (_ : List Addr) (_ : Hp) (b a : Bool) : Prop := b = a
def dE (G : Gx) (W : WX) (m : EM) : TE := fun σ H Q => ∃ ι l s, SimH G ι s H ∧ Slots G.K ι H l σ ∧ Fin G W ι H σ (Rep G.K) (m l s) Q
def dT (G : Gx) (W : WX) (m : TM) : TT := fun σ H Q => ∃ ι l s, SimH G ι s H ∧ Slots G.K ι H l σ ∧ Fin G W ι H σ relB (m l s) Q
def dA (G : Gx) (W : WX) (m : AM) : TA := fun σ H Q => ∃ ι l s, SimH G ι s H ∧ Slots G.K ι H l σ ∧ Fin G W ι H σ (Reps G.K) (m l s) Q
theorem PE.imp {X : Cx} {e : Expr} {t t' : TE} (h : PE X e t) (f : ∀ σ H Q, t' σ H Q → t σ H Q) : PE X e t' := ⟨fun pins s σ H Q I hw => h.run pins s σ H Q I (f _ _ _ hw)⟩
theorem PT.imp {X : Cx} {e : Expr} {t t' : TT} (h : PT X e t) (f : ∀ σ H Q, t' σ H Q → t σ H Q) : PT X e t' := ⟨fun pins s σ H Q I hw => h.run pins s σ H Q I (f _ _ _ hw)⟩
theorem PA.imp {X : Cx} {e : List Expr} {t t' : TA} (h : PA X e t) (f : ∀ σ H Q, t' σ H Q → t σ H Q) : PA X e t' := ⟨fun pos pins s σ H Q I hw => h.run pos pins s σ H Q I (f _ _ _ hw)⟩
theorem PS.imp {X : Cx} {e : Stmt} {t t' : TS} (h : PS X e t) (f : ∀ D σ H, t' D σ H → t D σ H) : PS X e t' := ⟨fun pins s σ H D I hw => h.run pins s σ H D I (f _ _ _ hw)⟩
theorem PSs.imp {X : Cx} {e : List Stmt} {t t' : TS} (h : PSs X e t) (f : ∀ D σ H, t' D σ H → t D σ H) : PSs X e t' := ⟨fun pins s σ H D I hw => h.run pins s σ H D I (f _ _ _ hw)⟩

/-! ### operations on values: what a reading by values asks, in the store's words -/
def OpS2 (G : Gx) (r : R2) (g : D → D → Mem → R D) : Prop := ∀ (W : WX) (σ : L2.St) (ι : List Addr) (s : Mem) (H : Hp) (v w : V) (x y : D) (Q : VK), SimH G ι s H → Rep G.K ι H v x → Rep G.K ι H w y → Fin G W ι H σ (Rep G.K) (g x y s) Q → r v w H Q
def OpS1 (G : Gx) (r : V → Hp → VK → Prop) (g : D → Mem → R D) : Prop := ∀ (W : WX) (σ : L2.St) (ι : List Addr) (s : Mem) (H : Hp) (v : V) (x : D) (Q : VK), SimH G ι s H → Rep G.K ι H v x → Fin G W ι H σ (Rep G.K) (g x s) Q → r v H Q
def OpSA (G : Gx) (r : List V → Hp → VK → Prop) (g : List D → Mem → R D) : Prop := ∀ (W : WX) (σ : L2.St) (ι : List Addr) (s : Mem) (H : Hp) (vs : List V) (xs : List D) (Q : VK), SimH G ι s H → Reps G.K ι H vs xs → Fin G W ι H σ (Rep G.K) (g xs s) Q → r vs H Q
def OpSM (G : Gx) (r : V → List V → Hp → VK → Prop) (g : D → List D → Mem → R D) : Prop := ∀ (W : WX) (σ : L2.St) (ι : List Addr) (s : Mem) (H : Hp) (v : V) (x : D) (vs : List V) (xs : List D) (Q : VK), SimH G ι s H → Rep G.K ι H v x → Reps G.K ι H vs xs → Fin G W ι H σ (Rep G.K) (g x xs s) Q → r v vs H Q
theorem OpR.or {X : Cx} {f : Value → Value → Sem Value} {r r' : R2} (h : OpR X f r) (h' : OpR X f r') : OpR X f (fun x y H Q => r x y H Q ∨ r' x y H Q) := by
  intro pins s σ H x y v u Q I rx ry q
  rcases q with q | q
  · exact h pins s σ H x y v u Q I rx ry q
  · exact h' pins s σ H x y v u Q I rx ry q

/-! ### the actions -/
def mVar (i : Nat) : EM := fun l s => match l[i]? with
  | some (some d) => .ok d s
  | _ => .no
def mC (d : D) : EM := fun _ s => .ok d s
def mOp (g : D → D → Mem → R D) (ma mb : EM) : EM := fun l s => (ma l s).bind fun x s1 => (mb l s1).bind fun y s2 => g x y s2
def mUn (g : D → Mem → R D) (ma : EM) : EM := fun l s => (ma l s).bind g
def mNil : AM := fun _ s => .ok [] s
def mCons (me : EM) (ma : AM) : AM := fun l s => (me l s).bind fun x s1 => (ma l s1).bind fun xs s2 => .ok (x :: xs) s2
def mTup (ma : AM) : EM := fun l s => (ma l s).bind fun xs s1 => if xs.length ≤ 100000 then .ok (.tup xs) s1 else .no
def mLst (ma : AM) : EM := fun l s => (ma l s).bind fun xs s1 => if xs.length ≤ 100000 then .ok (.ref s1.length) (s1 ++ [.lst xs]) else .no
def mApp (g : List D → Mem → R D) (ma : AM) : EM := fun l s => (ma l s).bind g
def mMeth (g : D → List D → Mem → R D) (mo : EM) (ma : AM) : EM := fun l s => (mo l s).bind fun x s1 => (ma l s1).bind fun xs s2 => g x xs s2
/-- tests -/
def tstB (me : EM) : TM := fun l s => (me l s).bind fun x s1 => match x with
  | .bl b => .ok b s1
  | _ => .no
def tstAnd (a b : TM) : TM := fun l s => (a l s).bind fun c s1 => if c = true then b l s1 else .ok false s1
def tstOr (a b : TM) : TM := fun l s => (a l s).bind fun c s1 => if c = true then .ok true s1 else b l s1
def tstNot (a : TM) : TM := fun l s => (a l s).bind fun c s1 => .ok (!c) s1
def mIf (t : TM) (a b : EM) : EM := fun l s => (t l s).bind fun c s1 => if c = true then a l s1 else b l s1
def mAnd (a b : EM) : EM := fun l s => (a l s).bind fun x s1 => match x with
  | .bl c => if c = true then b l s1 else .ok (.bl false) s1
  | _ => .no
def mOr (a b : EM) : EM := fun l s => (a l s).bind fun x s1 => match x with
  | .bl c => if c = true then .ok (.bl true) s1 else b l s1
  | _ => .no
def mNot (a : EM) : EM := fun l s => (a l s).bind fun x s1 => match x with
  | .bl c => .ok (.bl (!c)) s1
  | _ => .no

section
variable {G : Gx} {W : WX} {X : Cx} {a b e : Expr} {es : List Expr} {pos : Pos} {ma mb me : EM} {mA : AM} {ta tb : TM}
theorem em_var {i : Nat} (h : PE X e (tVar i)) : PE X e (dE G W (mVar i)) := PE.imp h fun σ H Q ⟨ι, l, s, sm, sl, f⟩ => by
  cases q : l[i]? with
  | none => simp only [mVar, q] at f; exact f.elim
  | some o =>
    cases o with
    | none => simp only [mVar, q] at f; exact f.elim
    | some d =>
      simp only [mVar, q] at f
      obtain ⟨v, h1, h2⟩ := sl.2 i d q
      exact ⟨v, h1, f.here sm h2⟩
theorem em_c {v : V} {d : D} (h : PE X e (tC v)) (hr : ∀ ι H, Rep G.K ι H v d) : PE X e (dE G W (mC d)) := PE.imp h fun σ H Q ⟨ι, l, s, sm, sl, f⟩ => f.here sm (hr ι H)
theorem em_int {i : Int} {j p} : PE X (.Constant (.int i) j p) (dE G W (mC (.int i))) := em_c pe_int fun _ _ => .int i
theorem em_bl {i : Bool} {j p} : PE X (.Constant (.bool i) j p) (dE G W (mC (.bl i))) := em_c pe_bl fun _ _ => .bl i
theorem em_non {j p} : PE X (.Constant .none j p) (dE G W (mC .non)) := em_c pe_non fun _ _ => .non
theorem em_str {i : Str} {j p} : PE X (.Constant (.str i) j p) (dE G W (mC (.str i))) := em_c pe_str fun _ _ => .str i
theorem em_op {op : Operator} {r : R2} {g : D → D → Mem → R D} (ho : OpR X (binaryOp op) r) (hg : OpS2 G r g) (ha : PE X a (dE G W ma)) (hb : PE X b (dE G W mb)) : PE X (.BinOp a op b pos) (dE G W (mOp g ma mb)) :=
  PE.imp (pe_op ho ha hb) fun σ H Q ⟨ι, l, s, sm, sl, f⟩ => ⟨ι, l, s, sm, sl, f.bind fun x s1 ι1 v H1 st1 sm1 r1 f1 => ⟨ι1, l, s1, sm1, sl.mono st1, f1.bind fun y s2 ι2 w H2 st2 sm2 r2 f2 => hg W σ ι2 s2 H2 v w x y Q sm2 (r1.mono st2) r2 f2⟩⟩
theorem em_cmp {op : CmpOp} {r : R2} {g : D → D → Mem → R D} (ho : OpR X (compareOp op) r) (hg : OpS2 G r g) (ha : PE X a (dE G W ma)) (hb : PE X b (dE G W mb)) (h1 : behindInMarks op b = false) : PE X (.Compare a [op] [b] pos) (dE G W (mOp g ma mb)) :=
  PE.imp (pe_cmpR ho ha hb h1) fun σ H Q ⟨ι, l, s, sm, sl, f⟩ => ⟨ι, l, s, sm, sl, f.bind fun x s1 ι1 v H1 st1 sm1 r1 f1 => ⟨ι1, l, s1, sm1, sl.mono st1, f1.bind fun y s2 ι2 w H2 st2 sm2 r2 f2 => hg W σ ι2 s2 H2 v w x y Q sm2 (r1.mono st2) r2 f2⟩⟩
theorem em_un {op : UnaryOp} {r : V → Hp → VK → Prop} {g : D → Mem → R D} (ho : UnR X (unaryOp op) r) (hg : OpS1 G r g) (ha : PE X a (dE G W ma)) : PE X (.UnaryOp op a pos) (dE G W (mUn g ma)) :=
  PE.imp (pe_un ho ha) fun σ H Q ⟨ι, l, s, sm, sl, f⟩ => ⟨ι, l, s, sm, sl, f.bind fun x s1 ι1 v H1 st1 sm1 r1 f1 => hg W σ ι1 s1 H1 v x Q sm1 r1 f1⟩
theorem am_nil : PA X [] (dA G W mNil) := PA.imp pa_nil fun σ H Q ⟨ι, l, s, sm, sl, f⟩ => f.here sm .nil
theorem am_cons (he : PE X e (dE G W me)) (hr : PA X es (dA G W mA)) (hs : starEach (e :: es) X.env = (false, eval e X.env) :: starEach es X.env := by rfl) : PA X (e :: es) (dA G W (mCons me mA)) :=
  PA.imp (pa_cons he hr hs) fun σ H Q ⟨ι, l, s, sm, sl, f⟩ => ⟨ι, l, s, sm, sl, f.bind fun x s1 ι1 v H1 st1 sm1 r1 f1 => ⟨ι1, l, s1, sm1, sl.mono st1, f1.bind fun y s2 ι2 w H2 st2 sm2 r2 f2 => f2.here sm2 (.cons (r1.mono st2) r2)⟩⟩
theorem lim_le {n : Nat} (h : n ≤ 100000) : n ≤ sizeLine := Nat.le_trans h (by rw [sizeLine_eq]; decide)
theorem lim_lt {n : Nat} (h : n < 100000) : n < sizeLine := Nat.lt_of_lt_of_le h (by rw [sizeLine_eq]; decide)
theorem em_tup {x1} (h : PA X es (dA G W mA)) : PE X (.Tuple es x1 pos) (dE G W (mTup mA)) :=
  PE.imp (pe_tup h) fun σ H Q ⟨ι, l, s, sm, sl, f⟩ => ⟨ι, l, s, sm, sl, f.bind fun xs s1 ι1 vs H1 st1 sm1 r1 f1 => by
    by_cases hz : xs.length ≤ 100000
    · rw [if_pos hz] at f1
      have st2 : ∀ p, H1 p = none → Stp G.K ι1 H1 ι1 (upd H1 p (.tup vs)) := fun p hp => Stp.new hp fun _ _ z => z
      exact ⟨lim_le (by rw [r1.length]; exact hz), fun p hp => f1.there (st2 p hp) (sm1.laid hp) (.tup (SqT.of upd_same) (r1.mono (st2 p hp)))⟩
    · rw [if_neg hz] at f1; exact f1.elim⟩
/-- a new list at p -/
theorem newL {ι1 : List Addr} {s1 : Mem} {H1 : Hp} {vs : List V} {xs : List D} {Q : VK} {σ : L2.St} (sm1 : SimH G ι1 s1 H1) (r1 : Reps G.K ι1 H1 vs xs) (f1 : Fin G W ι1 H1 σ (Rep G.K) (.ok (.ref s1.length) (s1 ++ [.lst xs])) Q) (p : Addr) (hp : H1 p = none) : Q (.ref p) (upd H1 p (.lst vs)) := by
  have st2 : Stp G.K ι1 H1 (ι1 ++ [p]) (upd H1 p (.lst vs)) := Stp.new hp (pre_snoc p)
  exact f1.there st2 (sm1.push hp rfl ⟨vs, upd_same, r1.mono st2⟩) (.ref (by rw [← sm1.len]; simp))
theorem em_lst (h : PA X es (dA G W mA)) : PE X (.List es pos) (dE G W (mLst mA)) :=
  PE.imp (pe_lst h) fun σ H Q ⟨ι, l, s, sm, sl, f⟩ => ⟨ι, l, s, sm, sl, f.bind fun xs s1 ι1 vs H1 st1 sm1 r1 f1 => by
    by_cases hz : xs.length ≤ 100000
    · rw [if_pos hz] at f1
      exact ⟨lim_le (by rw [r1.length]; exact hz), newL sm1 r1 f1⟩
    · rw [if_neg hz] at f1; exact f1.elim⟩
/-- built-ins called by name -/
theorem em_callB {x : Str} {p : Pos} {id : String} {r : List V → Hp → VK → Prop} {g : List D → Mem → R D} (hc : CallR X (.builtin id) r) (hS : OpSA G r g) (hg : Gl X x) (hm : X.mg x = none) (hv : bootBuiltins x = some (.builtin id)) (ha : PA X (e :: es) (dA G W mA)) (hn : x ≠ "__name__" := by decide) (hdb : (x == ("__debug__" : Str)) = false := by decide)
    (he : starEach (e :: es) X.env = (false, eval e X.env) :: starEach es X.env := by rfl) (hpl : (backTo pos (starEach es X.env)).any (·.1) = false := by rfl) : PE X (.Call (.Name x p) (e :: es) [] pos) (dE G W (mApp g mA)) :=
  PE.imp (pe_callB hc hg hm hv ha hn hdb he hpl) fun σ H Q ⟨ι, l, s, sm, sl, f⟩ => ⟨ι, l, s, sm, sl, f.bind fun xs s1 ι1 vs H1 st1 sm1 r1 f1 => hS W σ ι1 s1 H1 vs xs Q sm1 r1 f1⟩
theorem em_callTy {x : Str} {p : Pos} {T : String} {r : List V → Hp → VK → Prop} {g : List D → Mem → R D} (hc : CallR X (.type T) r) (hS : OpSA G r g) (hg : Gl X x) (hm : X.mg x = none) (hv : bootBuiltins x = some (.type T)) (ha : PA X (e :: es) (dA G W mA)) (hn : x ≠ "__name__" := by decide) (hdb : (x == ("__debug__" : Str)) = false := by decide)
    (he : starEach (e :: es) X.env = (false, eval e X.env) :: starEach es X.env := by rfl) (hpl : (backTo pos (starEach es X.env)).any (·.1) = false := by rfl) : PE X (.Call (.Name x p) (e :: es) [] pos) (dE G W (mApp g mA)) :=
  PE.imp (pe_callTy hc hg hm hv ha hn hdb he hpl) fun σ H Q ⟨ι, l, s, sm, sl, f⟩ => ⟨ι, l, s, sm, sl, f.bind fun xs s1 ι1 vs H1 st1 sm1 r1 f1 => hS W σ ι1 s1 H1 vs xs Q sm1 r1 f1⟩
/-- subscripts -/
theorem em_ix {r : R2} {g : D → D → Mem → R D} (hr : IxR X r) (hg : OpS2 G r g) (ha : PE X a (dE G W ma)) (hb : PE X b (dE G W mb)) (hs : PlainIx b) : PE X (.Subscript a b pos) (dE G W (mOp g ma mb)) :=
  PE.imp (pe_ix hr ha hb hs) fun σ H Q ⟨ι, l, s, sm, sl, f⟩ => ⟨ι, l, s, sm, sl, f.bind fun x s1 ι1 v H1 st1 sm1 r1 f1 => ⟨ι1, l, s1, sm1, sl.mono st1, f1.bind fun y s2 ι2 w H2 st2 sm2 r2 f2 => hg W σ ι2 s2 H2 v w x y Q sm2 (r1.mono st2) r2 f2⟩⟩

/-! ### tests, and, or, not -/
theorem tm_val (h : PE X e (dE G W me)) (he : ∀ whole, isTrue e X.env whole = (do let v ← whole; standAt e.pos; holding [v] (truthy v)) := by intro _; rfl) : PT X e (dT G W (tstB me)) :=
  PT.imp (pt_val h he) fun σ H Q ⟨ι, l, s, sm, sl, f⟩ => ⟨ι, l, s, sm, sl, f.bind fun x s1 ι1 v H1 st1 sm1 r1 f1 => by
    cases r1 with
    | bl b => exact ⟨b, rfl, f1.here sm1 rfl⟩
    | _ => exact f1.elim⟩
theorem tm_cmp {op : CmpOp} {r : R2} {g : D → D → Mem → R D} (ho : OpR X (compareOp op) r) (hg : OpS2 G r g) (ha : PE X a (dE G W ma)) (hb : PE X b (dE G W mb)) (h1 : behindInMarks op b = false) : PT X (.Compare a [op] [b] pos) (dT G W (tstB (mOp g ma mb))) :=
  PT.imp (pt_cmpR ho ha hb h1) fun σ H Q ⟨ι, l, s, sm, sl, f⟩ => by
    have f : Fin G W ι H σ relB ((ma l s).bind fun x s1 => ((mb l s1).bind fun y s2 => (g x y s2)).bind fun z s3 => match z with | .bl b => .ok b s3 | _ => .no) Q := by
      have e : tstB (mOp g ma mb) l s = ((ma l s).bind fun x s1 => ((mb l s1).bind fun y s2 => (g x y s2)).bind fun z s3 => match z with | .bl b => .ok b s3 | _ => .no) := by
        unfold tstB mOp
        cases ma l s <;> rfl
      rw [← e]; exact f
    refine ⟨ι, l, s, sm, sl, f.bind fun x s1 ι1 v H1 st1 sm1 r1 f1 => ?_⟩
    have f1' : Fin G W ι1 H1 σ relB ((mb l s1).bind fun y s2 => ((g x y s2).bind fun z s3 => match z with | .bl b => .ok b s3 | _ => .no)) Q := by
      cases q : mb l s1 <;> (simp only [q, R.bind] at f1 ⊢; exact f1)
    refine ⟨ι1, l, s1, sm1, sl.mono st1, f1'.bind fun y s2 ι2 w H2 st2 sm2 r2 f2 => ?_⟩
    exact hg W σ ι2 s2 H2 v w x y _ sm2 (r1.mono st2) r2 (f2.bind fun z s3 ι3 u H3 st3 sm3 r3 f3 => by
      cases r3 with
      | bl b => exact ⟨b, rfl, f3.here sm3 rfl⟩
      | _ => exact f3.elim)
theorem tm_not (h : PT X a (dT G W ta)) : PT X (.UnaryOp .Not a pos) (dT G W (tstNot ta)) :=
  PT.imp (pt_not h) fun σ H Q ⟨ι, l, s, sm, sl, f⟩ => ⟨ι, l, s, sm, sl, f.bind fun x s1 ι1 v H1 st1 sm1 r1 f1 => by
    cases r1; exact f1.here sm1 rfl⟩
end
structure TW (G : Gx) (W : WX) (X : Cx) (e : Expr) (m : TM) : Prop where
  w : PW X e (dT G W m)
section
variable {G : Gx} {W : WX} {X : Cx} {a b e : Expr} {rest : List Expr} {pos : Pos} {ma mb me : EM} {mA : AM} {ta tb : TM}
theorem TW.pt (h : TW G W X e ta) : PT X e (dT G W ta) := h.w.pt
theorem tw_and1 (h : PT X a (dT G W ta)) : TW G W X (.BoolOp .And [a] pos) ta := ⟨pw_and1 h⟩
theorem tw_or1 (h : PT X a (dT G W ta)) : TW G W X (.BoolOp .Or [a] pos) ta := ⟨pw_or1 h⟩
theorem PW.imp {X : Cx} {e : Expr} {t t' : TT} (h : PW X e t) (f : ∀ σ H Q, t' σ H Q → t σ H Q) : PW X e t' := ⟨fun wh pins s σ H Q I hw => h.run wh pins s σ H Q I (f _ _ _ hw)⟩
theorem tw_and (ha : PT X a (dT G W ta)) (hb : TW G W X (.BoolOp .And (b :: rest) pos) tb) : TW G W X (.BoolOp .And (a :: b :: rest) pos) (tstAnd ta tb) :=
  ⟨PW.imp (pw_and ha hb.w) fun σ H Q ⟨ι, l, s, sm, sl, f⟩ => ⟨ι, l, s, sm, sl, f.bind fun x s1 ι1 v H1 st1 sm1 r1 f1 => by
    cases r1
    cases x with
    | true => rw [if_pos rfl] at f1 ⊢; exact ⟨ι1, l, s1, sm1, sl.mono st1, f1⟩
    | false => rw [if_neg Bool.false_ne_true] at f1 ⊢; exact f1.here sm1 rfl⟩⟩
theorem tw_or (ha : PT X a (dT G W ta)) (hb : TW G W X (.BoolOp .Or (b :: rest) pos) tb) : TW G W X (.BoolOp .Or (a :: b :: rest) pos) (tstOr ta tb) :=
  ⟨PW.imp (pw_or ha hb.w) fun σ H Q ⟨ι, l, s, sm, sl, f⟩ => ⟨ι, l, s, sm, sl, f.bind fun x s1 ι1 v H1 st1 sm1 r1 f1 => by
    cases r1
    cases x with
    | true => rw [if_pos rfl] at f1 ⊢; exact f1.here sm1 rfl
    | false => rw [if_neg Bool.false_ne_true] at f1 ⊢; exact ⟨ι1, l, s1, sm1, sl.mono st1, f1⟩⟩⟩
theorem em_if {c : Expr} (hc : PT X c (dT G W ta)) (ha : PE X a (dE G W ma)) (hb : PE X b (dE G W mb)) : PE X (.IfExp c a b pos) (dE G W (mIf ta ma mb)) :=
  PE.imp (pe_ifExp hc ha hb) fun σ H Q ⟨ι, l, s, sm, sl, f⟩ => ⟨ι, l, s, sm, sl, f.bind fun x s1 ι1 v H1 st1 sm1 r1 f1 => by
    cases r1
    cases x with
    | true => rw [if_pos rfl] at f1 ⊢; exact ⟨ι1, l, s1, sm1, sl.mono st1, f1⟩
    | false => rw [if_neg Bool.false_ne_true] at f1 ⊢; exact ⟨ι1, l, s1, sm1, sl.mono st1, f1⟩⟩
theorem em_one {op} (h : PE X a (dE G W ma)) : PE X (.BoolOp op [a] pos) (dE G W ma) := pe_one h
theorem em_and (ha : PE X a (dE G W ma)) (hb : PE X (.BoolOp .And (b :: rest) pos) (dE G W mb)) : PE X (.BoolOp .And (a :: b :: rest) pos) (dE G W (mAnd ma mb)) :=
  PE.imp (pe_and ha hb) fun σ H Q ⟨ι, l, s, sm, sl, f⟩ => ⟨ι, l, s, sm, sl, f.bind fun x s1 ι1 v H1 st1 sm1 r1 f1 => by
    cases r1 with
    | bl c =>
      refine ⟨c, rfl, ?_⟩
      cases c with
      | true => simp only [if_pos] at f1 ⊢; exact ⟨ι1, l, s1, sm1, sl.mono st1, f1⟩
      | false => simp only [Bool.false_eq_true, if_false] at f1 ⊢; exact f1.here sm1 (.bl false)
    | _ => exact f1.elim⟩
theorem em_or (ha : PE X a (dE G W ma)) (hb : PE X (.BoolOp .Or (b :: rest) pos) (dE G W mb)) : PE X (.BoolOp .Or (a :: b :: rest) pos) (dE G W (mOr ma mb)) :=
  PE.imp (pe_or ha hb) fun σ H Q ⟨ι, l, s, sm, sl, f⟩ => ⟨ι, l, s, sm, sl, f.bind fun x s1 ι1 v H1 st1 sm1 r1 f1 => by
    cases r1 with
    | bl c =>
      refine ⟨c, rfl, ?_⟩
      cases c with
      | true => simp only [if_pos] at f1 ⊢; exact f1.here sm1 (.bl true)
      | false => simp only [Bool.false_eq_true, if_false] at f1 ⊢; exact ⟨ι1, l, s1, sm1, sl.mono st1, f1⟩
    | _ => exact f1.elim⟩
theorem em_not (ha : PE X a (dE G W ma)) : PE X (.UnaryOp .Not a pos) (dE G W (mNot ma)) :=
  PE.imp (pe_not ha) fun σ H Q ⟨ι, l, s, sm, sl, f⟩ => ⟨ι, l, s, sm, sl, f.bind fun x s1 ι1 v H1 st1 sm1 r1 f1 => by
    cases r1 with
    | bl c => exact ⟨c, rfl, f1.here sm1 (.bl _)⟩
    | _ => exact f1.elim⟩
end
end Core

set_option Elab.async false
set_option linter.all false
set_option maxRecDepth 100000
set_option maxHeartbeats 4000000
/-! Core: operations on values -/
namespace Core
open PySem PySem.Spec PyProof.Rows L2

def rdL (s : Mem) (n : Nat) : Option (List D) := match s[n]? with
  | some (.lst xs) => some xs
  | some (.frz xs) => some xs
  | _ => none
def seqD (s : Mem) : D → Option (List D)
  | .tup xs => some xs
  | .ref n => rdL s n
  | _ => none
section
variable {G : Gx} {ι : List Addr} {s : Mem} {H : Hp} {v : V} {d : D} {xs : List D} {n : Nat} {a : Addr}
theorem SimH.at (sm : SimH G ι s H) {o : Ob} (h : s[n]? = some o) : ∃ a, ι[n]? = some a ∧ ObR G ι H a o := by
  have hn : n < ι.length := by rw [sm.len]; exact (List.getElem?_eq_some_iff.mp h).1
  exact ⟨ι[n], List.getElem?_eq_getElem hn, sm.ob n _ o (List.getElem?_eq_getElem hn) h⟩
theorem SimH.rdL (sm : SimH G ι s H) (h : Core.rdL s n = some xs) (ha : ι[n]? = some a) : ∃ vs, SqL G.K H a vs ∧ Reps G.K ι H vs xs := by
  unfold Core.rdL at h
  cases q : s[n]? with
  | none => rw [q] at h; cases h
  | some o =>
    rw [q] at h
    have r := sm.ob n a o ha q
    cases o with
    | lst ys => cases h; obtain ⟨vs, h1, h2⟩ := r; exact ⟨vs, SqL.of h1, h2⟩
    | frz ys => cases h; obtain ⟨vs, h1, h2⟩ := r; exact ⟨vs, h1.sql, h2⟩
    | _ => cases h
theorem SimH.lst (sm : SimH G ι s H) (h : s[n]? = some (.lst xs)) (ha : ι[n]? = some a) : ∃ vs, H a = some (.lst vs) ∧ Reps G.K ι H vs xs := sm.ob n a _ ha h
theorem SimH.seq (sm : SimH G ι s H) (h : seqD s d = some xs) (r : Rep G.K ι H v d) : ∃ a vs, v = .ref a ∧ (SqL G.K H a vs ∨ SqT G.K H a vs) ∧ Reps G.K ι H vs xs := by
  cases r with
  | tup h1 h2 => cases h; exact ⟨_, _, rfl, .inr h1, h2⟩
  | ref h1 => obtain ⟨vs, q1, q2⟩ := sm.rdL h h1; exact ⟨_, vs, rfl, .inl q1, q2⟩
  | _ => cases h
theorem Reps.atI {K : PySem.W.Frag} {vs : List V} (r : Reps K ι H vs xs) {i : Int} (h : L2.atI xs i = some d) : ∃ v, L2.atI vs i = some v ∧ Rep K ι H v d := by
  unfold L2.atI at h ⊢
  rw [r.length]
  cases q : ixN xs.length i with
  | none => rw [q] at h; cases h
  | some j => rw [q] at h; exact r.get h
end

/-! ### arithmetic -/
def gAdd : D → D → Mem → R D
  | .int i, .int j, s => .ok (.int (i + j)) s
  | .str a, .str b, s => if a.length + b.length ≤ 100000 then .ok (.str (a ++ b)) s else .no
  | .tup a, .tup b, s => if a.length + b.length ≤ 100000 then .ok (.tup (a ++ b)) s else .no
  | .ref m, .ref n, s => match s[m]?, s[n]? with
    | some (.lst a), some (.lst b) => if a.length + b.length ≤ 100000 then .ok (.ref s.length) (s ++ [.lst (a ++ b)]) else .no
    | _, _ => .no
  | _, _, _ => .no
def rAddD (K : PySem.W.Frag) : R2 := fun x y H Q => rI0 (fun i j => .int (i + j)) x y H Q ∨ (∃ i j, x = .str i ∧ y = .str j ∧ i.length + j.length ≤ sizeLine ∧ Q (.str (i ++ j)) H) ∨ rCatA K x y H Q ∨ rCat x y H Q
theorem o_add {X : Cx} : OpR X (binaryOp .Add) (rAddD X.K) := OpR.or op_add (OpR.or op_add_str (OpR.or op_catA op_cat))
theorem s_add {G : Gx} : OpS2 G (rAddD G.K) gAdd := by
  intro W σ ι s H v w x y Q sm rv rw f
  cases rv with
  | int i => cases rw with
    | int j => exact .inl ⟨i, j, rfl, rfl, f.here sm (.int _)⟩
    | _ => exact f.elim
  | str a => cases rw with
    | str b =>
      simp only [gAdd] at f
      by_cases hz : a.length + b.length ≤ 100000
      · rw [if_pos hz] at f; exact .inr (.inl ⟨a, b, rfl, rfl, lim_le hz, f.here sm (.str _)⟩)
      · rw [if_neg hz] at f; exact f.elim
    | _ => exact f.elim
  | tup h1 r1 => cases rw with
    | tup h2 r2 =>
      rename_i a vs xs b ws ys
      simp only [gAdd] at f
      by_cases hz : xs.length + ys.length ≤ 100000
      · rw [if_pos hz] at f
        refine .inr (.inr (.inl ⟨a, b, vs, ws, rfl, rfl, h1, h2, lim_le (by rw [r1.length, r2.length]; exact hz), fun e => ?_, fun _ e => ?_, fun _ _ p hp => ?_⟩))
        · subst e; cases r1; exact f.here sm (.tup h2 r2)
        · subst e; cases r2; rw [List.append_nil] at f; exact f.here sm (.tup h1 r1)
        · have st : Stp G.K ι H ι (upd H p (.tup (vs ++ ws))) := Stp.new hp fun _ _ z => z
          exact f.there st (sm.laid hp) (.tup (SqT.of upd_same) ((r1.append r2).mono st))
      · rw [if_neg hz] at f; exact f.elim
    | _ => exact f.elim
  | ref h1 => cases rw with
    | ref h2 =>
      rename_i a m b n
      simp only [gAdd] at f
      split at f
      · rename_i xs ys e1 e2
        obtain ⟨vs, k1, r1⟩ := sm.lst e1 h1
        obtain ⟨ws, k2, r2⟩ := sm.lst e2 h2
        by_cases hz : xs.length + ys.length ≤ 100000
        · rw [if_pos hz] at f
          exact .inr (.inr (.inr ⟨a, b, vs, ws, rfl, rfl, k1, k2, lim_le (by rw [r1.length, r2.length]; exact hz), newL sm (r1.append r2) f⟩))
        · rw [if_neg hz] at f; exact f.elim
      · exact f.elim
    | _ => exact f.elim
  | _ => exact f.elim
def gI2 (g : Int → Int → D) : D → D → Mem → R D
  | .int i, .int j, s => .ok (g i j) s
  | _, _, _ => .no
theorem s_I0 {G : Gx} {g : Int → Int → V} {g' : Int → Int → D} (hg : ∀ ι H i j, Rep G.K ι H (g i j) (g' i j)) : OpS2 G (rI0 g) (gI2 g') := by
  intro W σ ι s H v w x y Q sm rv rw f
  cases rv with
  | int i => cases rw with
    | int j => exact ⟨i, j, rfl, rfl, f.here sm (hg _ _ _ _)⟩
    | _ => exact f.elim
  | _ => exact f.elim
def gI2C (C : Int → Int → Bool) (g : Int → Int → D) : D → D → Mem → R D
  | .int i, .int j, s => if C i j = true then .ok (g i j) s else .no
  | _, _, _ => .no
theorem s_IC {G : Gx} {Cp : Int → Int → Prop} {C : Int → Int → Bool} {g : Int → Int → V} {g' : Int → Int → D} (hC : ∀ i j, C i j = true → Cp i j) (hg : ∀ ι H i j, Rep G.K ι H (g i j) (g' i j)) : OpS2 G (rI Cp g) (gI2C C g') := by
  intro W σ ι s H v w x y Q sm rv rw f
  cases rv with
  | int i => cases rw with
    | int j =>
      simp only [gI2C] at f
      by_cases hz : C i j = true
      · rw [if_pos hz] at f; exact ⟨i, j, rfl, rfl, hC i j hz, f.here sm (hg _ _ _ _)⟩
      · rw [if_neg hz] at f; exact f.elim
    | _ => exact f.elim
  | _ => exact f.elim
def gSub := gI2 fun i j => .int (i - j)
theorem s_sub {G : Gx} : OpS2 G (rI0 fun i j => .int (i - j)) gSub := s_I0 fun _ _ _ _ => .int _
def gFdiv := gI2C (fun _ j => decide (0 < j ∧ j < 1073741824)) fun i j => .int (i / j)
theorem s_fdiv {G : Gx} : OpS2 G (rI CDiv fun i j => .int (i / j)) gFdiv := s_IC (fun i j h => (of_decide_eq_true h : 0 < j ∧ j < 1073741824)) fun _ _ _ _ => .int _
def gMod := gI2C (fun _ j => decide (0 < j)) fun i j => .int (i % j)
theorem s_mod {G : Gx} : OpS2 G (rI (fun _ j => 0 < j) fun i j => .int (i % j)) gMod := s_IC (fun _ _ h => of_decide_eq_true h) fun _ _ _ _ => .int _
def gPow := gI2C (fun i j => decide (0 ≤ j ∧ j ≤ 1000 ∧ i.natAbs < 100000)) fun i j => .int (i ^ j.toNat)
theorem s_pow {G : Gx} : OpS2 G (rI CPow fun i j => .int (i ^ j.toNat)) gPow := s_IC (fun _ _ h => by have := of_decide_eq_true h; exact ⟨this.1, by omega, Nat.lt_trans this.2.2 (by decide)⟩) fun _ _ _ _ => .int _
/-- products of ints (one of them small), of a list or a tuple by an int -/
def gMul : D → D → Mem → R D
  | .int i, .int j, s => if (-(2 ^ 64) < i ∧ i < 2 ^ 64) ∨ (-(2 ^ 64) < j ∧ j < 2 ^ 64) then .ok (.int (i * j)) s else .no
  | .tup a, .int k, s => if a.isEmpty = false ∧ 2 ≤ k ∧ k ≤ 1000 ∧ a.length ≤ 1000 then .ok (.tup (List.replicate k.toNat a).flatten) s else .no
  | .ref m, .int k, s => match s[m]? with
    | some (.lst a) => if 0 ≤ k ∧ a.length * k.toNat ≤ 100000 ∧ k < 100000 then .ok (.ref s.length) (s ++ [.lst (List.replicate k.toNat a).flatten]) else .no
    | _ => .no
  | _, _, _ => .no
def rMulD (K : PySem.W.Frag) : R2 := fun x y H Q => rI CMul (fun i j => .int (i * j)) x y H Q ∨ rRepT K x y H Q ∨ rRep x y H Q
theorem o_mul {X : Cx} : OpR X (binaryOp .Mult) (rMulD X.K) := OpR.or op_mul (OpR.or op_repT op_rep)
theorem s_mul {G : Gx} : OpS2 G (rMulD G.K) gMul := by
  intro W σ ι s H v w x y Q sm rv rw f
  cases rv with
  | int i => cases rw with
    | int j =>
      simp only [gMul] at f
      by_cases hz : (-(2 ^ 64) < i ∧ i < 2 ^ 64) ∨ (-(2 ^ 64) < j ∧ j < 2 ^ 64)
      · rw [if_pos hz] at f; exact .inl ⟨i, j, rfl, rfl, hz, f.here sm (.int _)⟩
      · rw [if_neg hz] at f; exact f.elim
    | _ => exact f.elim
  | tup h1 r1 => cases rw with
    | int k =>
      rename_i a vs xs
      simp only [gMul] at f
      by_cases hz : xs.isEmpty = false ∧ 2 ≤ k ∧ k ≤ 1000 ∧ xs.length ≤ 1000
      · rw [if_pos hz] at f
        have hl := r1.length
        refine .inr (.inl ⟨a, k, vs, rfl, rfl, h1, fun e => by subst e; cases r1; exact absurd hz.1 (by simp), hz.2.1, hz.2.2.1, by rw [hl]; exact hz.2.2.2, fun p hp => ?_⟩)
        have st : Stp G.K ι H ι (upd H p (.tup (List.replicate k.toNat vs).flatten)) := Stp.new hp fun _ _ z => z
        exact f.there st (sm.laid hp) (.tup (SqT.of upd_same) ((r1.rep _).mono st))
      · rw [if_neg hz] at f; exact f.elim
    | _ => exact f.elim
  | ref h1 => cases rw with
    | int k =>
      rename_i a m
      simp only [gMul] at f
      split at f
      · rename_i xs e1
        obtain ⟨vs, k1, r1⟩ := sm.lst e1 h1
        by_cases hz : 0 ≤ k ∧ xs.length * k.toNat ≤ 100000 ∧ k < 100000
        · rw [if_pos hz] at f
          exact .inr (.inr ⟨a, k, vs, rfl, rfl, k1, by omega, by omega, by rw [r1.length]; exact lim_le hz.2.1, newL sm (r1.rep _) f⟩)
        · rw [if_neg hz] at f; exact f.elim
      · exact f.elim
    | _ => exact f.elim
  | _ => exact f.elim
def gNeg : D → Mem → R D
  | .int i, s => .ok (.int (-i)) s
  | _, _ => .no
theorem s_neg {G : Gx} : OpS1 G (rU fun i => .int (-i)) gNeg := by
  intro W σ ι s H v x Q sm rv f
  cases rv with
  | int i => exact ⟨i, rfl, f.here sm (.int _)⟩
  | _ => exact f.elim

/-! ### order -/
def gOrd (pi : Int → Int → Bool) (ps : Str → Str → Bool) : D → D → Mem → R D
  | .int i, .int j, s => .ok (.bl (pi i j)) s
  | .str i, .str j, s => .ok (.bl (ps i j)) s
  | _, _, _ => .no
def rOrd (pi : Int → Int → Bool) (ps : Str → Str → Bool) : R2 := fun x y H Q => rI0 (fun i j => .bl (pi i j)) x y H Q ∨ ∃ i j, x = .str i ∧ y = .str j ∧ Q (.bl (ps i j)) H
theorem s_ord {G : Gx} {pi : Int → Int → Bool} {ps : Str → Str → Bool} : OpS2 G (rOrd pi ps) (gOrd pi ps) := by
  intro W σ ι s H v w x y Q sm rv rw f
  cases rv with
  | int i => cases rw with
    | int j => exact .inl ⟨i, j, rfl, rfl, f.here sm (.bl _)⟩
    | _ => exact f.elim
  | str i => cases rw with
    | str j => exact .inr ⟨i, j, rfl, rfl, f.here sm (.bl _)⟩
    | _ => exact f.elim
  | _ => exact f.elim
abbrev gLt := gOrd (fun i j => decide (i < j)) fun i j => decide (i.cps.toList < j.cps.toList)
abbrev gLe := gOrd (fun i j => decide (i ≤ j)) fun i j => !decide (j.cps.toList < i.cps.toList)
abbrev gGt := gOrd (fun i j => decide (j < i)) fun i j => decide (j.cps.toList < i.cps.toList)
abbrev gGe := gOrd (fun i j => decide (j ≤ i)) fun i j => !decide (i.cps.toList < j.cps.toList)
theorem o_lt {X : Cx} : OpR X (compareOp .Lt) (rOrd (fun i j => decide (i < j)) fun i j => decide (i.cps.toList < j.cps.toList)) := OpR.or op_lt op_lt_str
theorem o_le {X : Cx} : OpR X (compareOp .LtE) (rOrd (fun i j => decide (i ≤ j)) fun i j => !decide (j.cps.toList < i.cps.toList)) := OpR.or op_le op_le_str
theorem o_gt {X : Cx} : OpR X (compareOp .Gt) (rOrd (fun i j => decide (j < i)) fun i j => decide (j.cps.toList < i.cps.toList)) := OpR.or op_gt op_gt_str
theorem o_ge {X : Cx} : OpR X (compareOp .GtE) (rOrd (fun i j => decide (j ≤ i)) fun i j => !decide (i.cps.toList < j.cps.toList)) := OpR.or op_ge op_ge_str

/-! ### equality -/
def py (s : Mem) : Nat → D → Option PyData
  | 0, _ => none
  | _ + 1, .non => some .none
  | _ + 1, .bl b => some (.bool b)
  | _ + 1, .int i => some (.int i)
  | _ + 1, .str x => if PyData.strOk x = true then some (.str x) else none
  | n + 1, .tup xs => (xs.mapM (py s n)).map .tuple
  | n + 1, .ref a => match rdL s a with
    | some xs => (xs.mapM (py s n)).map .list
    | none => none
def pyL : Nat := 40
def gEqB (s : Mem) : D → D → Option Bool
  | .int i, .int j => some (i == j)
  | .bl i, .bl j => some (i == j)
  | .non, .non => some true
  | .str i, .str j => some (i == j)
  | x, y => match py s pyL x, py s pyL y with
    | some p, some q => some (PyData.eqv p q)
    | _, _ => none
def gEq : D → D → Mem → R D := fun x y s => match gEqB s x y with
  | some b => .ok (.bl b) s
  | none => .no
def gNe : D → D → Mem → R D := fun x y s => match gEqB s x y with
  | some b => .ok (.bl (!b)) s
  | none => .no
section
variable {G : Gx} {ι : List Addr} {s : Mem} {H : Hp}
theorem py_ok (sm : SimH G ι s H) : ∀ (n : Nat) (d : D) (p : PyData), py s n d = some p → ∀ v, Rep G.K ι H v d → Dp G.K H v p ∧ p.canLay0 = true ∧ p.depth ≤ n := by
  intro n
  induction n with
  | zero => intro d p h; cases h
  | succ n ih =>
    have all : ∀ (ds : List D) (ps : List PyData), ds.mapM (py s n) = some ps → ∀ vs, Reps G.K ι H vs ds → DpAll G.K H vs ps ∧ PyData.canLayAll0 ps = true ∧ PyData.depthAll ps ≤ n := by
      intro ds
      induction ds with
      | nil => intro ps h vs r; cases h; cases r; exact ⟨.nil, rfl, Nat.zero_le _⟩
      | cons d ds ihd =>
        intro ps h vs r
        rw [List.mapM_cons] at h
        cases q : py s n d with
        | none => rw [q] at h; cases h
        | some p =>
          rw [q] at h
          cases q2 : ds.mapM (py s n) with
          | none => rw [q2] at h; cases h
          | some ps' =>
            rw [q2] at h
            cases h
            cases r with
            | cons r1 r2 =>
              obtain ⟨a1, a2, a3⟩ := ih d p q _ r1
              obtain ⟨b1, b2, b3⟩ := ihd ps' q2 _ r2
              exact ⟨.cons a1 b1, by rw [PyData.canLayAll0, a2, b2]; rfl, by rw [PyData.depthAll]; omega⟩
    intro d p h v r
    cases r with
    | non => cases h; exact ⟨.non, rfl, Nat.zero_le _⟩
    | bl b => cases h; exact ⟨.bl b, rfl, Nat.zero_le _⟩
    | int i => cases h; exact ⟨.int i, rfl, Nat.zero_le _⟩
    | str x =>
      unfold py at h
      by_cases hx : PyData.strOk x = true
      · rw [if_pos hx] at h; cases h; exact ⟨.str x, hx, Nat.zero_le _⟩
      · rw [if_neg hx] at h; cases h
    | tup h1 h2 =>
      unfold py at h
      rename_i a vs ds
      cases q : ds.mapM (py s n) with
      | none => rw [q] at h; cases h
      | some ps =>
        rw [q] at h
        cases h
        obtain ⟨b1, b2, b3⟩ := all ds ps q _ h2
        exact ⟨.tup h1 b1, b2, by rw [PyData.depth]; omega⟩
    | ref h1 =>
      unfold py at h
      rename_i a m
      cases q0 : rdL s m with
      | none => rw [q0] at h; cases h
      | some ds =>
        rw [q0] at h
        obtain ⟨vs, k1, k2⟩ := sm.rdL q0 h1
        dsimp only at h
        cases q : ds.mapM (py s n) with
        | none => rw [q] at h; cases h
        | some ps =>
          rw [q] at h
          cases h
          obtain ⟨b1, b2, b3⟩ := all ds ps q _ k2
          exact ⟨.lst k1 b1, b2, by rw [PyData.depth]; omega⟩
theorem py_shaped (sm : SimH G ι s H) {d : D} {p : PyData} (h : py s pyL d = some p) {v : V} (r : Rep G.K ι H v d) : Dp G.K H v p ∧ SeqAt.shaped p = true := by
  obtain ⟨a, b, c⟩ := py_ok sm _ d p h v r
  refine ⟨a, ?_⟩
  unfold SeqAt.shaped
  rw [b, decide_eq_true (show p.depth ≤ 64 from Nat.le_trans c (by decide))]; rfl
theorem dp_eq (sm : SimH G ι s H) {x y : D} {b : Bool} (h : gEqB s x y = some b) {v w : V} (rv : Rep G.K ι H v x) (rw : Rep G.K ι H w y) :
    (scal v w = true ∧ decide (v = w) = b) ∨ ∃ p q, Dp G.K H v p ∧ Dp G.K H w q ∧ SeqAt.shaped p = true ∧ SeqAt.shaped q = true ∧ PyData.eqv p q = b := by
  unfold gEqB at h
  split at h
  · cases rv; cases rw; cases h; exact .inl ⟨rfl, dec_int⟩
  · cases rv; cases rw; cases h; exact .inl ⟨rfl, dec_bl⟩
  · cases rv; cases rw; cases h; exact .inl ⟨rfl, rfl⟩
  · cases rv; cases rw; cases h; exact .inl ⟨rfl, dec_str⟩
  · split at h
    · rename_i p q e1 e2
      cases h
      obtain ⟨a1, a2⟩ := py_shaped sm e1 rv
      obtain ⟨b1, b2⟩ := py_shaped sm e2 rw
      exact .inr ⟨p, q, a1, b1, a2, b2, rfl⟩
    · cases h
end
def rEqAll (K : PySem.W.Frag) : R2 := fun x y H Q => rEq x y H Q ∨ rEqD K x y H Q
def rNeAll (K : PySem.W.Frag) : R2 := fun x y H Q => rNe x y H Q ∨ rNeD K x y H Q
theorem o_eq {X : Cx} (hu : X.A.units + 64 < cLine) : OpR X (compareOp .Eq) (rEqAll X.K) := OpR.or op_eq (op_eqD hu)
theorem o_ne {X : Cx} (hu : X.A.units + 64 < cLine) : OpR X (compareOp .NotEq) (rNeAll X.K) := OpR.or op_ne (op_neD hu)
theorem s_eq {G : Gx} : OpS2 G (rEqAll G.K) gEq := by
  intro W σ ι s H v w x y Q sm rv rw f
  unfold gEq at f
  cases q : gEqB s x y with
  | none => rw [q] at f; exact f.elim
  | some b =>
    rw [q] at f
    have fin := f.here sm (.bl b)
    rcases dp_eq sm q rv rw with ⟨h1, h2⟩ | ⟨p, q, h1, h2, h3, h4, h5⟩
    · exact .inl ⟨h1, by rw [h2]; exact fin⟩
    · exact .inr ⟨p, q, h1, h2, h3, h4, by rw [h5]; exact fin⟩
theorem s_ne {G : Gx} : OpS2 G (rNeAll G.K) gNe := by
  intro W σ ι s H v w x y Q sm rv rw f
  unfold gNe at f
  cases q : gEqB s x y with
  | none => rw [q] at f; exact f.elim
  | some b =>
    rw [q] at f
    have fin := f.here sm (.bl (!b))
    rcases dp_eq sm q rv rw with ⟨h1, h2⟩ | ⟨p, q, h1, h2, h3, h4, h5⟩
    · exact .inl ⟨h1, by rw [h2]; exact fin⟩
    · exact .inr ⟨p, q, h1, h2, h3, h4, by rw [h5]; exact fin⟩

/-! ### is None, in -/
def gIsN : D → D → Mem → R D
  | .non, .non, s => .ok (.bl true) s
  | _, .non, s => .ok (.bl false) s
  | _, _, _ => .no
def gNotN : D → D → Mem → R D
  | .non, .non, s => .ok (.bl false) s
  | _, .non, s => .ok (.bl true) s
  | _, _, _ => .no
theorem rep_non {K : PySem.W.Frag} {ι : List Addr} {H : Hp} {v : V} {x : D} (r : Rep K ι H v x) (h : x ≠ .non) : v ≠ .non := by
  cases r <;> first | exact absurd rfl h | (intro e; cases e)
theorem s_isN {G : Gx} : OpS2 G (fun x y H Q => y = .non ∧ Q (.bl (decide (x = .non))) H) gIsN := by
  intro W σ ι s H v w x y Q sm rv rw f
  cases rw with
  | non =>
    refine ⟨rfl, ?_⟩
    by_cases hx : x = .non
    · subst hx; cases rv; exact f.here sm (.bl true)
    · rw [decide_eq_false (rep_non rv hx)]
      cases x <;> first | exact absurd rfl hx | exact f.here sm (.bl false)
  | _ => cases x <;> exact f.elim
theorem s_notN {G : Gx} : OpS2 G (fun x y H Q => y = .non ∧ Q (.bl (!decide (x = .non))) H) gNotN := by
  intro W σ ι s H v w x y Q sm rv rw f
  cases rw with
  | non =>
    refine ⟨rfl, ?_⟩
    by_cases hx : x = .non
    · subst hx; cases rv; exact f.here sm (.bl false)
    · rw [decide_eq_false (rep_non rv hx)]
      cases x <;> first | exact absurd rfl hx | exact f.here sm (.bl true)
  | _ => cases x <;> exact f.elim
/-- flat data as values -/
def toV : D → Option V
  | .non => some .non
  | .bl b => some (.bl b)
  | .int i => some (.int i)
  | .str x => some (.str x)
  | _ => none
section
variable {K : PySem.W.Frag} {ι : List Addr} {H : Hp}
theorem toV_ok {v w : V} {d : D} (r : Rep K ι H v d) (h : toV d = some w) : v = w ∧ flatV w = true := by
  cases r <;> first | (cases h; exact ⟨rfl, rfl⟩) | cases h
theorem toVs_ok : ∀ {vs ws : List V} {ds : List D}, Reps K ι H vs ds → ds.mapM toV = some ws → vs = ws ∧ ws.all flatV = true
  | [], _, [], .nil, h => by cases h; exact ⟨rfl, rfl⟩
  | v :: vs, ws, d :: ds, .cons r t, h => by
    rw [List.mapM_cons] at h
    cases q : toV d with
    | none => rw [q] at h; cases h
    | some w =>
      rw [q] at h
      cases q2 : ds.mapM toV with
      | none => rw [q2] at h; cases h
      | some ws' =>
        rw [q2] at h
        cases h
        obtain ⟨a1, a2⟩ := toV_ok r q
        obtain ⟨b1, b2⟩ := toVs_ok t q2
        exact ⟨by rw [a1, b1], by rw [List.all_cons, a2, b2]; rfl⟩
end
def gInB (x y : D) (s : Mem) : Option Bool := match toV x, seqD s y with
  | some v, some ys => (ys.mapM toV).map (inV v)
  | _, _ => none
def gIn : D → D → Mem → R D := fun x y s => match gInB x y s with
  | some b => .ok (.bl b) s
  | none => .no
def gNotIn : D → D → Mem → R D := fun x y s => match gInB x y s with
  | some b => .ok (.bl (!b)) s
  | none => .no
theorem in_ok {G : Gx} {ι : List Addr} {s : Mem} {H : Hp} (sm : SimH G ι s H) {x y : D} {b : Bool} (h : gInB x y s = some b) {v w : V} (rv : Rep G.K ι H v x) (rw : Rep G.K ι H w y) :
    ∃ p xs, w = .ref p ∧ (SqL G.K H p xs ∨ SqT G.K H p xs) ∧ flatV v = true ∧ xs.all flatV = true ∧ inV v xs = b := by
  unfold gInB at h
  split at h
  · rename_i v' ys e1 e2
    obtain ⟨a, vs, rfl, hs, r⟩ := sm.seq e2 rw
    cases q : ys.mapM toV with
    | none => rw [q] at h; cases h
    | some ws =>
      rw [q] at h
      cases h
      obtain ⟨h1, h2⟩ := toV_ok rv e1
      obtain ⟨h3, h4⟩ := toVs_ok r q
      subst h1; subst h3
      exact ⟨a, vs, rfl, hs, h2, h4, rfl⟩
  · cases h
theorem s_in {G : Gx} : OpS2 G (rIn G.K false) gIn := by
  intro W σ ι s H v w x y Q sm rv rw f
  unfold gIn at f
  cases q : gInB x y s with
  | none => rw [q] at f; exact f.elim
  | some b =>
    rw [q] at f
    obtain ⟨p, xs, e, hs, h1, h2, h3⟩ := in_ok sm q rv rw
    refine ⟨p, xs, e, hs, h1, h2, ?_⟩
    rw [if_neg Bool.false_ne_true, h3]; exact f.here sm (.bl b)
theorem s_notIn {G : Gx} : OpS2 G (rIn G.K true) gNotIn := by
  intro W σ ι s H v w x y Q sm rv rw f
  unfold gNotIn at f
  cases q : gInB x y s with
  | none => rw [q] at f; exact f.elim
  | some b =>
    rw [q] at f
    obtain ⟨p, xs, e, hs, h1, h2, h3⟩ := in_ok sm q rv rw
    refine ⟨p, xs, e, hs, h1, h2, ?_⟩
    rw [if_pos rfl, h3]; exact f.here sm (.bl _)

/-! ### subscripts -/
def gIx : D → D → Mem → R D := fun x y s => match y with
  | .int i => match x with
    | .str z => if z.length ≤ 100000 then match atI z.cps.toList i with
        | some c => .ok (.str ⟨#[c]⟩) s
        | none => .no
      else .no
    | _ => match seqD s x with
      | some xs => match atI xs i with
        | some d => .ok d s
        | none => .no
      | none => .no
  | _ => .no
theorem s_ix {G : Gx} : OpS2 G (rIx G.K) gIx := by
  intro W σ ι s H v w x y Q sm rv rw f
  cases rw with
  | int i =>
    have seq : ∀ xs, seqD s x = some xs → Fin G W ι H σ (Rep G.K) (match atI xs i with | some d => .ok d s | none => .no) Q → rIx G.K v (.int i) H Q := fun xs e f => by
      obtain ⟨a, vs, rfl, hs, r⟩ := sm.seq e rv
      cases q : atI xs i with
      | none => rw [q] at f; exact f.elim
      | some d =>
        rw [q] at f
        obtain ⟨u, h1, h2⟩ := r.atI q
        rcases hs with hs | hs
        · exact .inl ⟨a, vs, i, u, rfl, rfl, hs, h1, f.here sm h2⟩
        · exact .inr (.inl ⟨a, vs, i, u, rfl, rfl, hs, h1, f.here sm h2⟩)
    cases rv with
    | str z =>
      simp only [gIx] at f

      by_cases hz : z.length ≤ 100000
      · rw [if_pos hz] at f
        cases q : atI z.cps.toList i with
        | none => rw [q] at f; exact f.elim
        | some c => rw [q] at f; exact .inr (.inr ⟨z, i, c, rfl, rfl, lim_le hz, q, f.here sm (.str _)⟩)
      · rw [if_neg hz] at f; exact f.elim
    | tup h1 h2 => exact seq _ rfl f
    | ref h1 =>
      rename_i aa mm
      simp only [gIx] at f
      cases q : seqD s (.ref mm) with
      | none => rw [q] at f; exact f.elim
      | some xs => rw [q] at f; exact seq xs q f
    | _ => exact f.elim
  | _ => cases x <;> exact f.elim

/-! ### built-ins -/
def gLen : List D → Mem → R D
  | [.str z], s => if z.length ≤ 100000 then .ok (.int z.length) s else .no
  | [x], s => match seqD s x with
    | some xs => .ok (.int xs.length) s
    | none => .no
  | _, _ => .no
def rLenD (K : PySem.W.Frag) : List V → Hp → VK → Prop := fun xs H Q => (∃ p ys, xs = [.ref p] ∧ (SqL K H p ys ∨ SqT K H p ys) ∧ Q (.int ys.length) H) ∨ ∃ z, xs = [.str z] ∧ z.length ≤ sizeLine ∧ Q (.int z.length) H
theorem c_len {X : Cx} : CallR X (.builtin "len") (rLenD X.K) := CallR.or call_len_seq call_len_str
theorem s_len {G : Gx} : OpSA G (rLenD G.K) gLen := by
  intro W σ ι s H vs xs Q sm rs f
  cases rs with
  | nil => exact f.elim
  | cons r t =>
    cases t with
    | cons _ _ => cases r <;> exact f.elim
    | nil =>
      rename_i v x
      have seq : ∀ xs, seqD s x = some xs → Q (.int xs.length) H → rLenD G.K [v] H Q := fun xs e f => by
        obtain ⟨a, ws, rfl, hs, r⟩ := sm.seq e r
        exact .inl ⟨a, ws, rfl, hs, by rw [r.length]; exact f⟩
      cases r with
      | str z =>
        simp only [gLen] at f
        by_cases hz : z.length ≤ 100000
        · rw [if_pos hz] at f; exact .inr ⟨z, rfl, lim_le hz, f.here sm (.int _)⟩
        · rw [if_neg hz] at f; exact f.elim
      | tup h1 h2 => exact seq _ rfl (f.here sm (.int _))
      | ref h1 =>
        rename_i aa mm
        simp only [gLen] at f
        cases q : seqD s (.ref mm) with
        | none => simp only [q] at f; exact f.elim
        | some xs => simp only [q] at f; exact seq xs q (f.here sm (.int _))
      | _ => exact f.elim
def gInt1 : List D → Mem → R D
  | [.int i], s => .ok (.int i) s
  | [.bl k], s => .ok (.int (if k then 1 else 0)) s
  | _, _ => .no
theorem s_int1 {G : Gx} : OpSA G (fun xs H Q => (∃ i, xs = [.int i] ∧ Q (.int i) H) ∨ ∃ k, xs = [.bl k] ∧ Q (.int (if k then 1 else 0)) H) gInt1 := by
  intro W σ ι s H vs xs Q sm rs f
  cases rs with
  | nil => exact f.elim
  | cons r t =>
    cases t with
    | cons _ _ => cases r <;> exact f.elim
    | nil =>
      cases r with
      | int i => exact .inl ⟨i, rfl, f.here sm (.int _)⟩
      | bl k => exact .inr ⟨k, rfl, f.here sm (.int _)⟩
      | _ => exact f.elim
def gAbs : List D → Mem → R D
  | [.int i], s => .ok (.int (if i < 0 then -i else i)) s
  | _, _ => .no
theorem s_abs {G : Gx} : OpSA G (fun xs H Q => ∃ i, xs = [.int i] ∧ Q (.int (if i < 0 then -i else i)) H) gAbs := by
  intro W σ ι s H vs xs Q sm rs f
  cases rs with
  | nil => exact f.elim
  | cons r t =>
    cases t with
    | cons _ _ => cases r <;> exact f.elim
    | nil =>
      cases r with
      | int i => exact ⟨i, rfl, f.here sm (.int _)⟩
      | _ => exact f.elim
def gM2 (g : Int → Int → Int) : List D → Mem → R D
  | [.int i, .int j], s => .ok (.int (g i j)) s
  | _, _ => .no
theorem s_m2 {G : Gx} {g : Int → Int → Int} : OpSA G (fun xs H Q => ∃ i j, xs = [.int i, .int j] ∧ Q (.int (g i j)) H) (gM2 g) := by
  intro W σ ι s H vs xs Q sm rs f
  cases rs with
  | nil => exact f.elim
  | cons r t =>
    cases t with
    | nil => cases r <;> exact f.elim
    | cons r2 t2 =>
      cases t2 with
      | cons _ _ => cases r <;> cases r2 <;> exact f.elim
      | nil =>
        cases r with
        | int i =>
          cases r2 with
          | int j => exact ⟨i, j, rfl, f.here sm (.int _)⟩
          | _ => exact f.elim
        | _ => cases r2 <;> exact f.elim
def gTuple : List D → Mem → R D
  | [x], s => match seqD s x with
    | some xs => .ok (.tup xs) s
    | none => .no
  | _, _ => .no
def rTupleD (K : PySem.W.Frag) : List V → Hp → VK → Prop := fun xs H Q => ∃ p ys, xs = [.ref p] ∧ ((SqL K H p ys ∧ ∀ l, H l = none → Q (.ref l) (upd H l (.tup ys))) ∨ (SqT K H p ys ∧ Q (.ref p) H))
theorem s_tuple {G : Gx} : OpSA G (rTupleD G.K) gTuple := by
  intro W σ ι s H vs xs Q sm rs f
  cases rs with
  | nil => exact f.elim
  | cons r t =>
    cases t with
    | cons _ _ => exact f.elim
    | nil =>
      rename_i v x
      simp only [gTuple] at f
      cases r with
      | tup h1 h2 => exact ⟨_, _, rfl, .inr ⟨h1, f.here sm (.tup h1 h2)⟩⟩
      | ref h1 =>
        rename_i aa mm
        cases q : seqD s (.ref mm) with
        | none => simp only [q] at f; exact f.elim
        | some xs =>
          simp only [q] at f
          obtain ⟨ws, k1, k2⟩ := sm.rdL q h1
          refine ⟨_, ws, rfl, .inl ⟨k1, fun l hl => ?_⟩⟩
          have st : Stp G.K ι H ι (upd H l (.tup ws)) := Stp.new hl fun _ _ z => z
          exact f.there st (sm.laid hl) (.tup (SqT.of upd_same) (k2.mono st))
      | _ => exact f.elim
def gList : List D → Mem → R D
  | [x], s => match seqD s x with
    | some xs => .ok (.ref s.length) (s ++ [.lst xs])
    | none => .no
  | _, _ => .no
theorem s_list {G : Gx} : OpSA G (fun xs H Q => ∃ p ys, xs = [.ref p] ∧ (SqL G.K H p ys ∨ SqT G.K H p ys) ∧ ∀ l, H l = none → Q (.ref l) (upd H l (.lst ys))) gList := by
  intro W σ ι s H vs xs Q sm rs f
  cases rs with
  | nil => exact f.elim
  | cons r t =>
    cases t with
    | cons _ _ => exact f.elim
    | nil =>
      rename_i v x
      simp only [gList] at f
      cases q : seqD s x with
      | none => simp only [q] at f; exact f.elim
      | some xs =>
        simp only [q] at f
        obtain ⟨a, ws, rfl, hs, r2⟩ := sm.seq q r
        exact ⟨a, ws, rfl, hs, newL sm r2 f⟩
/-- isinstance -/
def tyN (s : Mem) : D → Option String
  | .non => some "NoneType"
  | .bl _ => some "bool"
  | .int _ => some "int"
  | .str _ => some "str"
  | .tup _ => some "tuple"
  | .ref n => match s[n]? with
    | some (.lst _) => some "list"
    | some (.frz _) => some "list"
    | some (.dK _) => some "dict"
    | some (.lkK _) => some "dict"
    | _ => none
def isT (a b : String) : Bool := a == b || (a == "bool" && b == "int")
def gIs (T : String) : List D → Mem → R D
  | [x], s => match tyN s x with
    | some a => .ok (.bl (isT a T)) s
    | none => .no
  | _, _ => .no
end Core

set_option Elab.async false
set_option linter.all false
set_option maxRecDepth 100000
set_option maxHeartbeats 4000000
/-! Core: isinstance, fields, calls -/
namespace Core
open PySem PySem.Spec PyProof.Rows L2

/-! ### isinstance against built-in classes -/
def tyNames : List String := ["NoneType", "bool", "int", "str", "tuple", "list", "dict"]
def isNames : List String := ["tuple", "str", "int", "bool", "list"]
theorem kit_all : (tyNames.all fun a => isNames.all fun b => decide (kitB a b = some (isT a b))) = true := by decide +kernel
theorem kit_at {a b : String} (ha : a ∈ tyNames) (hb : b ∈ isNames) : kitB a b = some (isT a b) :=
  of_decide_eq_true (List.all_eq_true.mp (List.all_eq_true.mp kit_all a ha) b hb)
def gIsT (T : String) : D → Mem → R D := fun x s => match tyN s x with
  | some a => .ok (.bl (isT a T)) s
  | none => .no
theorem tyN_ok {G : Gx} {ι : List Addr} {s : Mem} {H : Hp} (sm : SimH G ι s H) {v : V} {x : D} (r : Rep G.K ι H v x) {a : String} (h : tyN s x = some a) : TyX G.K H v (.type a) ∧ a ∈ tyNames := by
  cases r with
  | non => cases h; exact ⟨.base .non, by decide⟩
  | bl b => cases h; exact ⟨.base (.bl b), by decide⟩
  | int i => cases h; exact ⟨.base (.int i), by decide⟩
  | str z => cases h; exact ⟨.base (.str z), by decide⟩
  | tup h1 h2 =>
    cases h
    refine ⟨?_, by decide⟩
    rcases h1 with (h1 | ⟨o, h1⟩) | ⟨o, its, n, h1, h3, _⟩
    · exact .base (.tup h1)
    · exact .fTuple h1
    · exact .kTuple h1 h3
  | ref h1 =>
    rename_i p n
    unfold tyN at h
    cases q : s[n]? with
    | none => simp only [q] at h; cases h
    | some o =>
      simp only [q] at h
      have ob := sm.ob n p o h1 q
      cases o with
      | lst xs => cases h; obtain ⟨vs, k1, k2⟩ := ob; exact ⟨.base (.lst k1), by decide⟩
      | frz xs =>
        cases h
        obtain ⟨vs, k1, k2⟩ := ob
        refine ⟨?_, by decide⟩
        rcases k1 with ⟨o, k1⟩ | ⟨o, its, m, k1, k3, _⟩
        · exact .base (.frz k1)
        · exact .kList k1 k3
      | dK kvs => cases h; obtain ⟨vs, k1, k2⟩ := ob; exact ⟨.base (.dK k1), by decide⟩
      | lkK kvs => cases h; obtain ⟨o, vs, k1, k2⟩ := ob; exact ⟨.fDict k1, by decide⟩
      | _ => cases h
theorem em_isT {G : Gx} {W : WX} {X : Cx} {e : Expr} {me : EM} {T : Str} {Ts : String} {p p2 pos : Pos} (hK : X.K = G.K) (hT : Ts ∈ isNames) (hg : Gl X "isinstance") (hm : X.mg "isinstance" = none) (hg2 : Gl X T) (hm2 : X.mg T = none) (hv : bootBuiltins T = some (.type Ts)) (he : PE X e (dE G W me))
    (hn : T ≠ "__name__" := by decide) (hd : (T == ("__debug__" : Str)) = false := by decide)
    (hs : starEach [e, .Name T p2] X.env = (false, eval e X.env) :: starEach [.Name T p2] X.env := by rfl) (hs2 : starEach [.Name T p2] X.env = (false, eval (.Name T p2) X.env) :: starEach [] X.env := by rfl)
    (hpl : (backTo pos (starEach [.Name T p2] X.env)).any (·.1) = false := by rfl) :
    PE X (.Call (.Name "isinstance" p) [e, .Name T p2] [] pos) (dE G W (mUn (gIsT Ts) me)) :=
  PE.imp (pe_callB call_isi hg hm boot_isinstance (pa_cons he (pa_cons (pe_bltn (v := .ty Ts) hg2 hm2 hv rfl hn hd) pa_nil hs2) hs) (by decide) (by decide) hs hpl) fun σ H Q ⟨ι, l, s, sm, sl, f⟩ => ⟨ι, l, s, sm, sl, f.bind fun x s1 ι1 v H1 st1 sm1 r1 f1 => by
    unfold gIsT at f1
    cases q : tyN s1 x with
    | none => simp only [q] at f1; exact f1.elim
    | some a =>
      simp only [q] at f1
      obtain ⟨h1, h2⟩ := tyN_ok sm1 r1 q
      exact ⟨v, .ty Ts, .type a, .type Ts, isT a Ts, rfl, .ty Ts, by rw [hK]; exact h1, kit_ty (kit_at h2 hT), f1.here sm1 (.bl _)⟩⟩

/-! ### fields of instances -/
def putD (f : Str) (d : D) : List (Str × D) → List (Str × D)
  | [] => [(f, d)]
  | (g, e) :: r => if g = f then (g, d) :: r else (g, e) :: putD f d r
section
variable {K : PySem.W.Frag} {ι : List Addr} {H : Hp} {ws : List (Str × V)} {fs : List (Str × D)} {f : Str} {d : D} {v : V}
theorem RepF.lookup (h : RepF K ι H ws fs) (e : fs.lookup f = some d) : ∃ v, ws.lookup f = some v ∧ Rep K ι H v d := by
  induction h with
  | nil => cases e
  | cons r t ih =>
    rename_i x v vs d' ds
    rw [List.lookup_cons] at e ⊢
    cases q : f == x with
    | true => rw [q] at e; cases e; exact ⟨_, rfl, r⟩
    | false => rw [q] at e; exact ih e
theorem RepF.lookup_none (h : RepF K ι H ws fs) (e : fs.lookup f = none) : ws.lookup f = none := by
  induction h with
  | nil => rfl
  | cons r t ih =>
    rename_i x v vs d' ds
    rw [List.lookup_cons] at e ⊢
    cases q : f == x with
    | true => rw [q] at e; cases e
    | false => rw [q] at e; exact ih e
theorem RepF.length (h : RepF K ι H ws fs) : ws.length = fs.length := by
  induction h with
  | nil => rfl
  | cons r t ih => simp [ih]
theorem RepF.put (h : RepF K ι H ws fs) (r : Rep K ι H v d) : RepF K ι H (putF f v ws) (putD f d fs) := by
  induction h with
  | nil => exact .cons r .nil
  | cons r0 t ih =>
    rename_i x v0 vs d0 ds
    show RepF K ι H (if x = f then (x, v) :: vs else (x, v0) :: putF f v vs) (if x = f then (x, d) :: ds else (x, d0) :: putD f d ds)
    by_cases e : x = f
    · rw [if_pos e, if_pos e]; exact .cons r t
    · rw [if_neg e, if_neg e]; exact .cons r0 ih
end
def gFld (cs : List Str) (f : Str) : D → Mem → R D := fun x s => match x with
  | .ref n => match s[n]? with
    | some (.ins c fs) => if c ∈ cs then match fs.lookup f with
        | some d => .ok d s
        | none => .no
      else .no
    | _ => .no
  | _ => .no
/-- what the text has of the classes that are read: their instances have plain fields of that name -/
def FldOk (G : Gx) (cs : List Str) (f : Str) : Prop := ∀ c ∈ cs, Cls G.K (G.cls c) ∧ NoAttr G.K (G.cls c) f
section
variable {G : Gx} {W : WX} {X : Cx} {e o value : Expr} {f : Str} {pos pos' tpos : Pos} {me mv mo : EM} {cs : List Str}
theorem em_fld (hK : X.K = G.K) (hF : FldOk G cs f) (he : PE X e (dE G W me)) (hb : attributeBase e f X.env (eval e X.env) = eval e X.env) : PE X (.Attribute e f pos) (dE G W (mUn (gFld cs f) me)) :=
  PE.imp (pe_fld he hb) fun σ H Q ⟨ι, l, s, sm, sl, f0⟩ => ⟨ι, l, s, sm, sl, f0.bind fun x s1 ι1 v H1 st1 sm1 r1 f1 => by
    cases r1 with
    | ref h1 =>
      rename_i a n
      simp only [gFld] at f1
      split at f1
      · rename_i c fs q
        by_cases hc : c ∈ cs
        · rw [if_pos hc] at f1
          cases q2 : fs.lookup f with
          | none => simp only [q2] at f1; exact f1.elim
          | some d =>
            simp only [q2] at f1
            obtain ⟨dx, ws, k1, k2⟩ := sm1.ob n a _ h1 q
            obtain ⟨w, k3, k4⟩ := k2.lookup q2
            obtain ⟨c1, c2⟩ := hF c hc
            exact ⟨a, G.cls c, dx, ws, w, rfl, k1, by rw [hK]; exact c1, by rw [hK]; exact c2, k3, f1.here sm1 k4⟩
        · rw [if_neg hc] at f1; exact f1.elim
      · exact f1.elim
    | _ => exact f1.elim⟩
end

/-! ### calls -/
/-- what a def whose meaning is c promises -/
def spOf (G : Gx) (n : Nat) (c : List D → Mem → R D) : Sp := fun vs H Q E => ∃ ι s ds, SimH G ι s H ∧ Reps G.K ι H vs ds ∧ ds.length = n ∧
  match c ds s with
  | .ok d s' => ∀ ι' v H', Stp G.K ι H ι' H' → SimH G ι' s' H' → Rep G.K ι' H' v d → Q v H'
  | .err cl s' => ∀ ι' H', Stp G.K ι H ι' H' → SimH G ι' s' H' → E (.ref (G.cls cl)) none H'
  | .no => False
theorem spOf_len {G : Gx} {n : Nat} {c : List D → Mem → R D} : ∀ vs H Q E, spOf G n c vs H Q E → vs.length = n := fun vs H Q E ⟨ι, s, ds, sm, r, hl, _⟩ => by rw [r.length, hl]
theorem spOf_fin {G : Gx} {W : WX} {n : Nat} {c : List D → Mem → R D} {ι : List Addr} {s : Mem} {H : Hp} {σ : L2.St} {vs : List V} {ds : List D} {Q : VK} (sm : SimH G ι s H) (r : Reps G.K ι H vs ds) (hl : ds.length = n) (f : Fin G W ι H σ (Rep G.K) (c ds s) Q) :
    spOf G n c vs H Q (WE W σ) := by
  refine ⟨ι, s, ds, sm, r, hl, ?_⟩
  cases q : c ds s with
  | ok d s' => rw [q] at f; exact f
  | err cl s' => rw [q] at f; exact f
  | no => rw [q] at f; exact f
def mCall (n : Nat) (c : List D → Mem → R D) (ma : AM) : EM := fun l s => (ma l s).bind fun ds s1 => if ds.length = n then c ds s1 else .no
def mMethC (cl : Str) (m : Str) (n : Nat) (c : List D → Mem → R D) (mo : EM) (ma : AM) : EM := fun l s => (mo l s).bind fun x s1 => match x with
  | .ref k => match s1[k]? with
    | some (.ins c' fs) => if c' = cl ∧ fs.lookup m = none then (ma l s1).bind fun ds s2 => if ds.length + 1 = n then c (.ref k :: ds) s2 else .no else .no
    | _ => .no
  | _ => .no
def mMake (cl : Str) (n : Nat) (c : List D → Mem → R D) (ma : AM) : EM := fun l s => (ma l s).bind fun ds s1 => if ds.length + 1 = n then (c (.ref s1.length :: ds) (s1 ++ [.ins cl []])).bind fun v s2 => match v with
  | .non => .ok (.ref s1.length) s2
  | _ => .no else .no
section
variable {X : Cx} {CX : CXT} {k : Nat} {f C : Addr} {fd : FuncData} {ps : List Str} {sp : Sp} {E : L2.St → XK} {x m : Str} {p pos apos : Pos} {e o : Expr} {es : List Expr} {ta : TE} {t : TA}
def tMethS (C : Addr) (m : Str) (sp : Sp) (E : L2.St → XK) (ta : TE) (t : TA) : TE := fun σ H Q => ta σ H fun x H1 => ∃ a dx fs, x = .ref a ∧ H1 a = some (.ins C dx fs) ∧ fs.lookup m = none ∧ t σ H1 fun vs H2 => sp (x :: vs) H2 Q (E σ)
def tMakeS (C : Addr) (sp : Sp) (E : L2.St → XK) (t : TA) : TE := fun σ H Q => t σ H fun vs H1 => ∀ x dx, H1 x = none → H1 dx = none → dx ≠ x →
  sp (.ref x :: vs) (upd (upd H1 dx (.own x)) x (.ins C dx [])) (fun v H2 => v = .non ∧ Q (.ref x) H2) (E σ)
theorem pe_callS0 (F : FnOk X.prog X.w X.K X.mg X.base CX k f fd ps sp) (hr : Room k X.A) (hg : Gl X x) (hm : X.mg x = some (.ref f)) (hk : PySem.W.keepIn X.K (.ref f) = true) (hb : Binds X.K fd ps []) (hx : ∀ σ, PassesAt CX X σ (E σ))
    (hdb : (x == ("__debug__" : Str)) = false := by decide) : PE X (.Call (.Name x p) [] [] pos) (tCallS sp E tNil) := by
  refine ⟨fun pins s σ H Q I h => ?_⟩
  refine wpAny_Call_Name_kw (ld_glob I hg hm ?_ hdb)
  exact PySem.W.callWith_K0 I.kIn hk (run_fnS (us := []) F hr hb (hx σ) I .nil h)
theorem pe_methS {pl : Sem Bool} (he : PE X o ta) (c : Cls X.K C) (hm : Meth X.K C m f) (F : FnOk X.prog X.w X.K X.mg X.base CX k f fd ps sp) (hr : Room k X.A) (hb : Binds X.K fd ps []) (hx : ∀ σ, PassesAt CX X σ (E σ)) (ha : PA X (e :: es) t)
    (hst : starEach (e :: es) X.env = (false, eval e X.env) :: starEach es X.env := by rfl) (hpl : (backTo pos (starEach es X.env)).any (·.1) = false := by rfl)
    (ht : eval (.Call (.Attribute o m apos) (e :: es) [] pos) X.env = (do
      let ov ← eval o X.env
      standAt apos.atName
      let (f, first) ← holding [ov] (getMethod ov m pl)
      callWith pos f first (backTo pos (starEach (e :: es) X.env)) (backToKw pos (keywordEach [] X.env))) := by rfl) :
    PE X (.Call (.Attribute o m apos) (e :: es) [] pos) (tMethS C m sp E ta t) := by
  refine ⟨fun pins s σ H Q I h => ?_⟩
  refine PySem.W.methodCall_KW (pl := pl) (thn (he.run pins s σ H _ I h) fun u s1 ⟨x, H1, I1, rx, a, dx, fs, ex, ea, l, q⟩ => ?_) ht
  subst ex
  obtain rfl : u = Value.ref a := rx
  refine getmeth_ok I1 ea c hm l ?_
  refine PySem.W.callWith_K (first := [.ref a]) (h₀ := X.base) I.ok.mod.kin hm.kp (thn (ha.run pos pins s1 σ H1 _ I1 q) fun us s2 ⟨vs, H2, I2, r, q2⟩ => ⟨I2.kIn, ?_⟩) hst hpl
  exact run_fnS (us := .ref a :: us) (vs := .ref a :: vs) F hr hb (hx σ) I2 (.cons rfl r) q2
theorem pe_methS0 {pl : Sem Bool} (he : PE X o ta) (c : Cls X.K C) (hm : Meth X.K C m f) (F : FnOk X.prog X.w X.K X.mg X.base CX k f fd ps sp) (hr : Room k X.A) (hb : Binds X.K fd ps []) (hx : ∀ σ, PassesAt CX X σ (E σ))
    (ht : eval (.Call (.Attribute o m apos) [] [] pos) X.env = (do
      let ov ← eval o X.env
      standAt apos.atName
      let (f, first) ← holding [ov] (getMethod ov m pl)
      callWith pos f first (backTo pos (starEach [] X.env)) (backToKw pos (keywordEach [] X.env))) := by rfl) :
    PE X (.Call (.Attribute o m apos) [] [] pos) (tMethS C m sp E ta tNil) := by
  refine ⟨fun pins s σ H Q I h => ?_⟩
  refine PySem.W.methodCall_KW (pl := pl) (thn (he.run pins s σ H _ I h) fun u s1 ⟨x, H1, I1, rx, a, dx, fs, ex, ea, l, q⟩ => ?_) ht
  subst ex
  obtain rfl : u = Value.ref a := rx
  refine getmeth_ok I1 ea c hm l ?_
  exact PySem.W.callWith_K0 (first := [.ref a]) I1.kIn hm.kp (run_fnS (us := [.ref a]) (vs := [.ref a]) F hr hb (hx σ) I1 (.cons rfl .nil) q)
theorem run_makeS {pins : List (Addr × Obj)} {σ : L2.St} {H : Hp} {s : Shared} {Q : VK} {us : List Value} {vs : List V} (M : Mk X.K C f) (F : FnOk X.prog X.w X.K X.mg X.base CX k f fd ps sp) (hr : Room (k + 1) X.A) (hb : Binds X.K fd ps [])
    (hx : PassesAt CX X σ (E σ)) (I : Inv X pins σ H s) (r : Vals vs us)
    (h : ∀ x dx, H x = none → H dx = none → dx ≠ x → sp (.ref x :: vs) (upd (upd H dx (.own x)) x (.ins C dx [])) (fun v H2 => v = .non ∧ Q (.ref x) H2) (E σ)) :
    wpAny (model X.prog X.w) X.A (call (.ref C) us) (EP X pins σ Q) X.xe s := by
  have hq := h (s.heap.objs.size + 1) s.heap.objs.size (I.hok.fresh (Nat.le_succ _)) (I.hok.fresh (Nat.le_refl _)) (Nat.ne_of_lt (Nat.lt_succ_self _))
  have I2 := Inv.made (C := C) I
  have r2 : Vals (V.ref (s.heap.objs.size + 1) :: vs) (Value.ref (s.heap.objs.size + 1) :: us) := .cons rfl r
  have hl : (Value.ref (s.heap.objs.size + 1) :: us).length = ps.length := by
    have e := r2.length
    rw [F.len _ _ _ _ hq] at e
    exact e.symm
  have b := hb _ (Value.ref (s.heap.objs.size + 1) :: us) I2.kIn (by rw [List.append_nil]; exact hl)
  rw [List.append_nil] at b
  refine wpAny_call (make_map (f := f) I.kIn M.makes M.init (beq_iff_eq.mp M.fn) (codeAny_mono (F.run _ X.stack _ _ ⟨Value.ref (s.heap.objs.size + 1) :: us, []⟩ (Value.ref (s.heap.objs.size + 1) :: us) _ _ (E σ) (hr.make C us [])
    (I2.env0.make C us []) b r2 hq) fun r s' hq' => ?_))
  cases r with
  | error e => exact hx pins _ _ e s' I2 hq'
  | ok fl =>
    cases fl with
    | ret u =>
      obtain ⟨v, H', I3, rv, ev, q3⟩ := I2.after hq'
      subst ev
      exact ⟨rv, ⟨V.ref (s.heap.objs.size + 1), H', I3, rfl, q3⟩⟩
    | next => exact False.elim hq'
    | brk => exact False.elim hq'
    | cont => exact False.elim hq'
theorem pe_makeS (M : Mk X.K C f) (F : FnOk X.prog X.w X.K X.mg X.base CX k f fd ps sp) (hr : Room (k + 1) X.A) (hg : Gl X x) (hm : X.mg x = some (.ref C)) (hb : Binds X.K fd ps []) (hx : ∀ σ, PassesAt CX X σ (E σ))
    (ha : PA X (e :: es) t) (hdb : (x == ("__debug__" : Str)) = false := by decide) (he : starEach (e :: es) X.env = (false, eval e X.env) :: starEach es X.env := by rfl) (hpl : (backTo pos (starEach es X.env)).any (·.1) = false := by rfl) :
    PE X (.Call (.Name x p) (e :: es) [] pos) (tMakeS C sp E t) := by
  refine ⟨fun pins s σ H Q I h => ?_⟩
  refine wpAny_Call_Name_kw (ld_glob I hg hm ?_ hdb)
  refine PySem.W.callWith_K (h₀ := X.base) I.ok.mod.kin M.kp (thn (ha.run pos pins s σ H _ I h) fun us s1 ⟨vs, H1, I1, r, q⟩ => ⟨I1.kIn, ?_⟩) he hpl
  exact run_makeS M F hr hb (hx σ) I1 r q
end
section
variable {G : Gx} {W : WX} {X : Cx} {k : Nat} {f C : Addr} {fd : FuncData} {ps : List Str} {n : Nat} {c : List D → Mem → R D} {x m cl : Str} {p pos apos : Pos} {e o : Expr} {es : List Expr} {mo : EM} {mA : AM}
theorem em_call (F : FnOk X.prog X.w X.K X.mg X.base (L2.CX X.prog X.w) k f fd ps (spOf G n c)) (hr : Room k X.A) (tk : Takes X W) (hg : Gl X x) (hm : X.mg x = some (.ref f)) (hk : PySem.W.keepIn X.K (.ref f) = true) (hb : Binds X.K fd ps [])
    (ha : PA X (e :: es) (dA G W mA)) (hdb : (x == ("__debug__" : Str)) = false := by decide) (he : starEach (e :: es) X.env = (false, eval e X.env) :: starEach es X.env := by rfl) (hpl : (backTo pos (starEach es X.env)).any (·.1) = false := by rfl) :
    PE X (.Call (.Name x p) (e :: es) [] pos) (dE G W (mCall n c mA)) :=
  PE.imp (pe_callS (E := WE W) F hr hg hm hk hb (fun σ => passAt tk σ) ha hdb he hpl) fun σ H Q ⟨ι, l, s, sm, sl, f⟩ => ⟨ι, l, s, sm, sl, f.bind fun xs s1 ι1 vs H1 st1 sm1 r1 f1 => by
    by_cases hl : xs.length = n
    · rw [if_pos hl] at f1; exact spOf_fin sm1 r1 hl f1
    · rw [if_neg hl] at f1; exact f1.elim⟩
theorem em_call0 (F : FnOk X.prog X.w X.K X.mg X.base (L2.CX X.prog X.w) k f fd ps (spOf G n c)) (hr : Room k X.A) (tk : Takes X W) (hg : Gl X x) (hm : X.mg x = some (.ref f)) (hk : PySem.W.keepIn X.K (.ref f) = true) (hb : Binds X.K fd ps [])
    (hn : n = 0) (hdb : (x == ("__debug__" : Str)) = false := by decide) : PE X (.Call (.Name x p) [] [] pos) (dE G W (mCall n c mNil)) :=
  PE.imp (pe_callS0 (E := WE W) F hr hg hm hk hb (fun σ => passAt tk σ) hdb) fun σ H Q ⟨ι, l, s, sm, sl, f⟩ => by
    have f' : Fin G W ι H σ (Rep G.K) (if ([] : List D).length = n then c [] s else .no) Q := f
    rw [if_pos (by rw [hn]; rfl)] at f'
    exact spOf_fin sm .nil (by rw [hn]; rfl) f'
theorem em_meth {pl : Sem Bool} (hK : X.K = G.K) (ho : PE X o (dE G W mo)) (cC : Cls G.K (G.cls cl)) (hm : Meth G.K (G.cls cl) m f) (F : FnOk X.prog X.w X.K X.mg X.base (L2.CX X.prog X.w) k f fd ps (spOf G n c)) (hr : Room k X.A) (tk : Takes X W) (hb : Binds X.K fd ps [])
    (ha : PA X (e :: es) (dA G W mA)) (hst : starEach (e :: es) X.env = (false, eval e X.env) :: starEach es X.env := by rfl) (hpl : (backTo pos (starEach es X.env)).any (·.1) = false := by rfl)
    (ht : eval (.Call (.Attribute o m apos) (e :: es) [] pos) X.env = (do
      let ov ← eval o X.env
      standAt apos.atName
      let (f, first) ← holding [ov] (getMethod ov m pl)
      callWith pos f first (backTo pos (starEach (e :: es) X.env)) (backToKw pos (keywordEach [] X.env))) := by rfl) :
    PE X (.Call (.Attribute o m apos) (e :: es) [] pos) (dE G W (mMethC cl m n c mo mA)) :=
  PE.imp (pe_methS (E := WE W) (C := G.cls cl) ho (by rw [hK]; exact cC) (by rw [hK]; exact hm) F hr hb (fun σ => passAt tk σ) ha hst hpl ht) fun σ H Q ⟨ι, l, s, sm, sl, f⟩ => ⟨ι, l, s, sm, sl, f.bind fun x s1 ι1 v H1 st1 sm1 r1 f1 => by
    cases r1 with
    | ref h1 =>
      rename_i a j
      dsimp only at f1
      split at f1
      · rename_i c' fs q
        by_cases hc : c' = cl ∧ fs.lookup m = none
        · rw [if_pos hc] at f1
          obtain ⟨rfl, hc2⟩ := hc
          obtain ⟨dx, ws, k1, k2⟩ := sm1.ob j a _ h1 q
          refine ⟨a, dx, ws, rfl, k1, k2.lookup_none hc2, ι1, l, s1, sm1, sl.mono st1, f1.bind fun xs s2 ι2 vs H2 st2 sm2 r2 f2 => ?_⟩
          by_cases hl : xs.length + 1 = n
          · rw [if_pos hl] at f2; exact spOf_fin sm2 (.cons (.ref (st2.pre _ _ h1)) r2) hl f2
          · rw [if_neg hl] at f2; exact f2.elim
        · rw [if_neg hc] at f1; exact f1.elim
      · exact f1.elim
    | _ => exact f1.elim⟩
theorem em_meth0 {pl : Sem Bool} (hK : X.K = G.K) (ho : PE X o (dE G W mo)) (cC : Cls G.K (G.cls cl)) (hm : Meth G.K (G.cls cl) m f) (F : FnOk X.prog X.w X.K X.mg X.base (L2.CX X.prog X.w) k f fd ps (spOf G n c)) (hr : Room k X.A) (tk : Takes X W) (hb : Binds X.K fd ps []) (hn : n = 1)
    (ht : eval (.Call (.Attribute o m apos) [] [] pos) X.env = (do
      let ov ← eval o X.env
      standAt apos.atName
      let (f, first) ← holding [ov] (getMethod ov m pl)
      callWith pos f first (backTo pos (starEach [] X.env)) (backToKw pos (keywordEach [] X.env))) := by rfl) :
    PE X (.Call (.Attribute o m apos) [] [] pos) (dE G W (mMethC cl m n c mo mNil)) :=
  PE.imp (pe_methS0 (E := WE W) (C := G.cls cl) ho (by rw [hK]; exact cC) (by rw [hK]; exact hm) F hr hb (fun σ => passAt tk σ) ht) fun σ H Q ⟨ι, l, s, sm, sl, f⟩ => ⟨ι, l, s, sm, sl, f.bind fun x s1 ι1 v H1 st1 sm1 r1 f1 => by
    cases r1 with
    | ref h1 =>
      rename_i a j
      dsimp only at f1
      split at f1
      · rename_i c' fs q
        by_cases hc : c' = cl ∧ fs.lookup m = none
        · rw [if_pos hc] at f1
          obtain ⟨rfl, hc2⟩ := hc
          obtain ⟨dx, ws, k1, k2⟩ := sm1.ob j a _ h1 q
          have f2 : Fin G W ι1 H1 σ (Rep G.K) (if ([] : List D).length + 1 = n then c [.ref j] s1 else .no) Q := f1
          rw [if_pos (by rw [hn]; rfl)] at f2
          exact ⟨a, dx, ws, rfl, k1, k2.lookup_none hc2, spOf_fin sm1 (.cons (.ref h1) .nil) (by rw [hn]; rfl) f2⟩
        · rw [if_neg hc] at f1; exact f1.elim
      · exact f1.elim
    | _ => exact f1.elim⟩
theorem em_make (hK : X.K = G.K) (M : Mk G.K (G.cls cl) f) (F : FnOk X.prog X.w X.K X.mg X.base (L2.CX X.prog X.w) k f fd ps (spOf G n c)) (hr : Room (k + 1) X.A) (tk : Takes X W) (hg : Gl X x) (hm : X.mg x = some (.ref (G.cls cl))) (hb : Binds X.K fd ps [])
    (ha : PA X (e :: es) (dA G W mA)) (hdb : (x == ("__debug__" : Str)) = false := by decide) (he : starEach (e :: es) X.env = (false, eval e X.env) :: starEach es X.env := by rfl) (hpl : (backTo pos (starEach es X.env)).any (·.1) = false := by rfl) :
    PE X (.Call (.Name x p) (e :: es) [] pos) (dE G W (mMake cl n c mA)) :=
  PE.imp (pe_makeS (E := WE W) (C := G.cls cl) (by rw [hK]; exact M) F hr hg hm hb (fun σ => passAt tk σ) ha hdb he hpl) fun σ H Q ⟨ι, l, s, sm, sl, f⟩ => ⟨ι, l, s, sm, sl, f.bind fun xs s1 ι1 vs H1 st1 sm1 r1 f1 => fun y dx hy hdx hne => by
    by_cases hl : xs.length + 1 = n
    · rw [if_pos hl] at f1
      have smd : SimH G ι1 s1 (upd H1 dx (.own y)) := sm1.laid hdx
      have hy2 : upd H1 dx (.own y) y = none := by rw [upd_ne (Ne.symm hne)]; exact hy
      have std : Stp G.K ι1 H1 ι1 (upd H1 dx (.own y)) := Stp.new hdx fun _ _ z => z
      have sty : Stp G.K ι1 (upd H1 dx (.own y)) (ι1 ++ [y]) (upd (upd H1 dx (.own y)) y (.ins (G.cls cl) dx [])) := Stp.new hy2 (pre_snoc y)
      have smy : SimH G (ι1 ++ [y]) (s1 ++ [.ins cl []]) (upd (upd H1 dx (.own y)) y (.ins (G.cls cl) dx [])) := smd.push hy2 rfl ⟨dx, [], upd_same, .nil⟩
      have st := std.trans sty
      have ry : Rep G.K (ι1 ++ [y]) (upd (upd H1 dx (.own y)) y (.ins (G.cls cl) dx [])) (.ref y) (.ref s1.length) := .ref (by rw [← sm1.len]; simp)
      have f2 := Fin.step f1 st
      refine spOf_fin smy (.cons ry (r1.mono st)) hl (f2.bind fun v s2 ι2 u H2 st2 sm2 r2 f3 => ?_)
      cases r2 with
      | non => exact ⟨rfl, f3.here sm2 (ry.mono st2)⟩
      | _ => exact f3.elim
    · rw [if_neg hl] at f1; exact f1.elim⟩
end
end Core

set_option Elab.async false
set_option linter.all false
set_option maxRecDepth 100000
set_option maxHeartbeats 4000000
/-! Core: statements, loops, comprehensions -/
namespace Core
open PySem PySem.Spec PyProof.Rows L2

def FinS (G : Gx) (W : WX) (ι : List Addr) (H : Hp) (r : RS) (D : Ends) : Prop := match r with
  | .nx l s => ∀ ι' σ' H', Stp G.K ι H ι' H' → SimH G ι' s H' → Slots G.K ι' H' l σ' → D.nx σ' H'
  | .rt d s => ∀ ι' v H', Stp G.K ι H ι' H' → SimH G ι' s H' → Rep G.K ι' H' v d → D.rt v H'
  | .bk l s => ∀ ι' σ' H', Stp G.K ι H ι' H' → SimH G ι' s H' → Slots G.K ι' H' l σ' → D.bk σ' H'
  | .ct l s => ∀ ι' σ' H', Stp G.K ι H ι' H' → SimH G ι' s H' → Slots G.K ι' H' l σ' → D.ct σ' H'
  | .err c l s => ∀ ι' σ' H', Stp G.K ι H ι' H' → SimH G ι' s H' → Slots G.K ι' H' l σ' → W (.ref (G.cls c)) none σ' H'
  | .no => False
def dS (G : Gx) (W : WX) (m : SM) : TS := fun D σ H => ∃ ι l s, SimH G ι s H ∧ Slots G.K ι H l σ ∧ FinS G W ι H (m l s) D
section
variable {α β : Type} {G : Gx} {W : WX} {ι ι1 : List Addr} {H H1 : Hp} {σ : L2.St} {rel : List Addr → Hp → β → α → Prop} {r : R α} {q : RS} {D : Ends} {l : Loc}
theorem FinS.step (h : FinS G W ι H q D) (st : Stp G.K ι H ι1 H1) : FinS G W ι1 H1 q D := by
  cases q with
  | nx l s => exact fun ι' σ' H' st' => h ι' σ' H' (st.trans st')
  | rt d s => exact fun ι' σ' H' st' => h ι' σ' H' (st.trans st')
  | bk l s => exact fun ι' σ' H' st' => h ι' σ' H' (st.trans st')
  | ct l s => exact fun ι' σ' H' st' => h ι' σ' H' (st.trans st')
  | err c l s => exact fun ι' σ' H' st' => h ι' σ' H' (st.trans st')
  | no => exact h
theorem FinS.toS {f : α → Mem → RS} (h : FinS G W ι H (r.toS l f) D) (sl : Slots G.K ι H l σ) {Q : β → Hp → Prop}
    (k : ∀ a s1 ι1 b H1, Stp G.K ι H ι1 H1 → SimH G ι1 s1 H1 → rel ι1 H1 b a → FinS G W ι1 H1 (f a s1) D → Q b H1) : Fin G W ι H σ rel r Q := by
  cases r with
  | ok a s' => exact fun ι' b H' st sm rl => k a s' ι' b H' st sm rl (FinS.step (q := f a s') h st)
  | err c s' => exact fun ι' H' st sm => h ι' σ H' st sm (sl.mono st)
  | no => exact h
end

/-! ### targets -/
abbrev TGm := D → Loc → Option Loc
def dG (G : Gx) (vs : List Nat) (gt : TGm) : TG := fun v σ H Q => ∃ ι l s d, SimH G ι s H ∧ Slots G.K ι H l σ ∧ Rep G.K ι H v d ∧ match gt d l with
  | some l' => ∀ σ', Slots G.K ι H l' σ' → wipe σ' vs = wipe σ vs → Q σ' H
  | none => False
abbrev TGms := List D → Loc → Option Loc
def dGs (G : Gx) (vs : List Nat) (gt : TGms) : TGs := fun us σ H Q => ∃ ι l s ds, SimH G ι s H ∧ Slots G.K ι H l σ ∧ Reps G.K ι H us ds ∧ match gt ds l with
  | some l' => ∀ σ', Slots G.K ι H l' σ' → wipe σ' vs = wipe σ vs → Q σ' H
  | none => False
def gmName (i : Nat) : TGm := fun d l => some (l.set i (some d))
def gmNil : TGms := fun ds l => match ds with
  | [] => some l
  | _ => none
def gmCons (g : TGm) (gs : TGms) : TGms := fun ds l => match ds with
  | d :: r => match g d l with
    | some l' => gs r l'
    | none => none
  | [] => none
def gmTup (n : Nat) (gs : TGms) : TGm := fun d l => match d with
  | .tup ds => if ds.length = n then gs ds l else none
  | _ => none
theorem wipe_set {σ : L2.St} {i : Nat} {x : Option V} : ∀ {vs : List Nat}, i ∈ vs → wipe (σ.set i x) vs = wipe σ vs
  | [], h => by cases h
  | v :: vs, h => by
    unfold wipe
    by_cases e : i = v
    · subst e
      by_cases hm : i ∈ vs
      · rw [wipe_set hm]
      · have c : ∀ vs : List Nat, i ∉ vs → wipe (σ.set i x) vs = (wipe σ vs).set i x := by
          intro vs
          induction vs with
          | nil => intro _; rfl
          | cons w ws ih =>
            intro hn
            unfold wipe
            rw [ih (fun z => hn (List.mem_cons_of_mem _ z)), List.set_comm _ _ (fun e => hn (by rw [e]; exact List.mem_cons_self))]
        rw [c vs hm, List.set_set]
    · have hm : i ∈ vs := by
        rcases List.mem_cons.mp h with z | z
        · exact absurd z e
        · exact z
      rw [wipe_set hm]
theorem wipe_wipe (σ : L2.St) : ∀ vs : List Nat, wipe (wipe σ vs) vs = wipe σ vs
  | vs => by
    have c : ∀ ws : List Nat, (∀ i ∈ ws, i ∈ vs) → wipe (wipe σ ws) vs = wipe σ vs := by
      intro ws
      induction ws with
      | nil => intro _; rfl
      | cons w ws ih =>
        intro hs
        show wipe ((wipe σ ws).set w none) vs = wipe σ vs
        rw [wipe_set (hs w List.mem_cons_self), ih fun i hi => hs i (List.mem_cons_of_mem _ hi)]
    exact c vs fun _ z => z
theorem PG.imp {X : Cx} {e : Expr} {t t' : TG} (h : PG X e t) (f : ∀ v σ H Q, t' v σ H Q → t v σ H Q) : PG X e t' := ⟨fun pins s σ H v u Q I r hw => h.run pins s σ H v u Q I r (f _ _ _ _ hw)⟩
theorem PGs.imp {X : Cx} {e : List Expr} {t t' : TGs} (h : PGs X e t) (f : ∀ v σ H Q, t' v σ H Q → t v σ H Q) : PGs X e t' := ⟨fun pins s σ H v u Q I r hw => h.run pins s σ H v u Q I r (f _ _ _ _ hw)⟩
section
variable {G : Gx} {X : Cx} {vs : List Nat} {pos : Pos} {e : Expr} {es : List Expr} {g : TGm} {gs : TGms}
theorem gm_name {i : Nat} {x : Str} (hv : i ∈ vs) (hN : X.N.Nodup) (hi : X.N[i]? = some x) (hx : L2.Loc X.env.scope x) (hf : X.fn x = true ∨ X.env.scope.names.lookup x = some .local := by first | exact .inl rfl | exact .inr rfl | assumption) : PG X (.Name x pos) (dG G vs (gmName i)) :=
  PG.imp (pg_name hN hi hx hf) fun v σ H Q ⟨ι, l, s, d, sm, sl, r, k⟩ => k _ (sl.set i r) (wipe_set hv)
theorem gms_nil : PGs X [] (dGs G vs gmNil) := PGs.imp pgs_nil fun us σ H Q ⟨ι, l, s, ds, sm, sl, r, k⟩ => by
  cases r with
  | nil => exact ⟨rfl, k σ sl rfl⟩
  | cons _ _ => exact k.elim
theorem gms_cons (h1 : PG X e (dG G vs g)) (h2 : PGs X es (dGs G vs gs)) (hs : (assignEach (e :: es) X.env).map (·.2) = assign e X.env :: (assignEach es X.env).map (·.2) := by rfl) : PGs X (e :: es) (dGs G vs (gmCons g gs)) :=
  PGs.imp (pgs_cons h1 h2 hs) fun us σ H Q ⟨ι, l, s, ds, sm, sl, r, k⟩ => by
    cases r with
    | nil => exact k.elim
    | @cons v us d ds r t =>
      refine ⟨v, us, rfl, ι, l, s, d, sm, sl, r, ?_⟩
      simp only [gmCons] at k
      cases q : g d l with
      | none => simp only [q] at k
      | some l' =>
        simp only [q] at k
        intro σ' sl' hw
        refine ⟨ι, l', s, ds, sm, sl', t, ?_⟩
        cases q2 : gs ds l' with
        | none => rw [q2] at k; exact k.elim
        | some l2 => rw [q2] at k; exact fun σ2 sl2 hw2 => k σ2 sl2 (hw2.trans hw)
theorem gm_tup {k n : Nat} (hK : X.K = G.K) (hc : X.calm = true) (h : PGs X es (dGs G vs gs)) (hn : (assignEach es X.env).length = n := by rfl) (hst : (assignEach es X.env).findIdx? (·.1) = none := by rfl) : PG X (.Tuple es k pos) (dG G vs (gmTup n gs)) :=
  PG.imp (pg_tup hc h hn hst) fun v σ H Q ⟨ι, l, s, d, sm, sl, r, kk⟩ => by
    cases r with
    | @tup a us ds h1 h2 =>
      simp only [gmTup] at kk
      by_cases hl : ds.length = n
      · rw [if_pos hl] at kk; exact ⟨a, us, rfl, by rw [hK]; exact h1, by rw [h2.length, hl], ι, l, s, ds, sm, sl, h2, kk⟩
      · rw [if_neg hl] at kk; exact kk.elim
    | _ => exact kk.elim
end

/-! ### small statements -/
def mNx : SM := fun l s => .nx l s
def mSeq (a b : SM) : SM := fun l s => match a l s with
  | .nx l1 s1 => b l1 s1
  | x => x
def mExpr (me : EM) : SM := fun l s => (me l s).toS l fun _ s1 => .nx l s1
def mRet (me : EM) : SM := fun l s => (me l s).toS l fun d s1 => .rt d s1
def mRetN : SM := fun _ s => .rt .non s
def mIfS (t : TM) (a b : SM) : SM := fun l s => (t l s).toS l fun c s1 => if c = true then a l s1 else b l s1
def mAsg (me : EM) (g : TGm) : SM := fun l s => (me l s).toS l fun d s1 => match g d l with
  | some l' => .nx l' s1
  | none => .no
def mSet (i : Nat) (me : EM) : SM := fun l s => (me l s).toS l fun d s1 => .nx (l.set i (some d)) s1
def mAug (i : Nat) (g : D → D → Mem → R D) (me : EM) : SM := fun l s => match l[i]? with
  | some (some x) => (me l s).toS l fun y s1 => (g x y s1).toS l fun z s2 => .nx (l.set i (some z)) s2
  | _ => .no
/-- o.f = e: the value first -/
def mSetF (cs : List Str) (f : Str) (mo mv : EM) : SM := fun l s => (mv l s).toS l fun d s1 => (mo l s1).toS l fun x s2 => match x with
  | .ref n => match s2[n]? with
    | some (.ins c fs) => if c ∈ cs ∧ fs.length < 900 then .nx l (s2.set n (.ins c (putD f d fs))) else .no
    | _ => .no
  | _ => .no
def clsAt (s : Mem) (n : Nat) : Option Str := match s[n]? with
  | some (.ins c _) => some c
  | _ => none
/-- o.f op= e -/
def mAugF (cs : List Str) (f : Str) (g : D → D → Mem → R D) (mo mv : EM) : SM := fun l s => (mo l s).toS l fun x s1 => match x with
  | .ref n => (gFld cs f (.ref n) s1).toS l fun d s1' => (mv l s1').toS l fun y s2 => (g d y s2).toS l fun z s3 => match s3[n]? with
    | some (.ins c fs) => if c ∈ cs ∧ fs.length < 900 ∧ clsAt s1 n = some c then .nx l (s3.set n (.ins c (putD f z fs))) else .no
    | _ => .no
  | _ => .no
/-- xs[i] = e: value, object, index -/
def mSub (mv mo mi : EM) : SM := fun l s => (mv l s).toS l fun d s1 => (mo l s1).toS l fun x s2 => (mi l s2).toS l fun y s3 => match x, y with
  | .ref n, .int i => match s3[n]? with
    | some (.lst xs) => match ixN xs.length i with
      | some j => .nx l (s3.set n (.lst (xs.set j d)))
      | none => .no
    | _ => .no
  | _, _ => .no
section
variable {G : Gx} {W : WX} {X : Cx} {st : Stmt} {rest a b : List Stmt} {e o i value c : Expr} {pos pos' tpos : Pos} {me mo mv mi : EM} {m1 m2 : SM} {tm : TM} {f : Str} {cs : List Str}
theorem smm_nil : PSs X [] (dS G W mNx) := PSs.imp pss_nil fun D σ H ⟨ι, l, s, sm, sl, f⟩ => f ι σ H .refl sm sl
theorem smm_cons (h1 : PS X st (dS G W m1)) (h2 : PSs X rest (dS G W m2)) : PSs X (st :: rest) (dS G W (mSeq m1 m2)) :=
  PSs.imp (pss_cons h1 h2) fun D σ H ⟨ι, l, s, sm, sl, f⟩ => ⟨ι, l, s, sm, sl, by
    unfold mSeq at f
    cases q : m1 l s with
    | nx l1 s1 => simp only [q] at f; exact fun ι' σ' H' st' sm' sl' => ⟨ι', l1, s1, sm', sl', f.step st'⟩
    | rt d s1 => simp only [q] at f; exact f
    | bk l1 s1 => simp only [q] at f; exact f
    | ct l1 s1 => simp only [q] at f; exact f
    | err c l1 s1 => simp only [q] at f; exact f
    | no => simp only [q] at f; exact f⟩
theorem smm_one (h1 : PS X st (dS G W m1)) : PSs X [st] (dS G W m1) := pss_one h1
theorem sm_pass : PS X (.Pass pos) (dS G W mNx) := PS.imp ps_pass fun D σ H ⟨ι, l, s, sm, sl, f⟩ => f ι σ H .refl sm sl
theorem sm_expr (he : PE X e (dE G W me)) (hs : swapsWith e none pos.line X.env = pure false := by rfl) : PS X (.Expr e pos) (dS G W (mExpr me)) :=
  PS.imp (ps_expr he hs) fun D σ H ⟨ι, l, s, sm, sl, f⟩ => ⟨ι, l, s, sm, sl, f.toS sl fun d s1 ι1 v H1 st1 sm1 r1 f1 => f1 ι1 σ H1 .refl sm1 (sl.mono st1)⟩
theorem sm_ret (he : PE X e (dE G W me)) : PS X (.Return (some e) pos) (dS G W (mRet me)) :=
  PS.imp (ps_ret he) fun D σ H ⟨ι, l, s, sm, sl, f⟩ => ⟨ι, l, s, sm, sl, f.toS sl fun d s1 ι1 v H1 st1 sm1 r1 f1 => f1 ι1 v H1 .refl sm1 r1⟩
theorem sm_retN : PS X (.Return none pos) (dS G W mRetN) := PS.imp ps_retN fun D σ H ⟨ι, l, s, sm, sl, f⟩ => f ι _ H .refl sm .non
theorem sm_if (hc : PT X c (dT G W tm)) (ha : PSs X a (dS G W m1)) (hb : PSs X b (dS G W m2)) : PS X (.If c a b pos) (dS G W (mIfS tm m1 m2)) :=
  PS.imp (ps_if hc ha hb) fun D σ H ⟨ι, l, s, sm, sl, f⟩ => ⟨ι, l, s, sm, sl, f.toS sl fun d s1 ι1 v H1 st1 sm1 r1 f1 => by
    cases r1
    cases d with
    | true => rw [if_pos rfl] at f1 ⊢; exact ⟨ι1, l, s1, sm1, sl.mono st1, f1⟩
    | false => rw [if_neg Bool.false_ne_true] at f1 ⊢; exact ⟨ι1, l, s1, sm1, sl.mono st1, f1⟩⟩
theorem sm_asg {tg : Expr} {vs : List Nat} {g : TGm} (he : PE X e (dE G W me)) (hg : PG X tg (dG G vs g)) (hs : swapsWithSole [tg] e pos.line X.env = pure false := by rfl) (hw : swappedStores [tg] e X.env = pure none := by rfl)
    (h1 : (assignEach [tg] X.env).map (·.2) = [assign tg X.env] := by rfl) : PS X (.Assign [tg] e pos) (dS G W (mAsg me g)) :=
  PS.imp (ps_asg he hg hs hw h1) fun D σ H ⟨ι, l, s, sm, sl, f⟩ => ⟨ι, l, s, sm, sl, f.toS sl fun d s1 ι1 v H1 st1 sm1 r1 f1 => by
    refine ⟨ι1, l, s1, d, sm1, sl.mono st1, r1, ?_⟩
    cases q : g d l with
    | none => rw [q] at f1; exact f1.elim
    | some l' => rw [q] at f1; exact fun σ' sl' _ => f1 ι1 σ' H1 .refl sm1 sl'⟩
theorem sm_set {j : Nat} {x : Str} (hN : X.N.Nodup) (hi : X.N[j]? = some x) (hx : L2.Loc X.env.scope x) (he : PE X e (dE G W me)) (hs : swapsWith e (some (.Name x pos')) pos.line X.env = pure false := by rfl) (hf : X.fn x = true ∨ X.env.scope.names.lookup x = some .local := by first | exact .inl rfl | exact .inr rfl | assumption) :
    PS X (.Assign [.Name x pos'] e pos) (dS G W (mSet j me)) :=
  PS.imp (ps_set hN hi hx he hs hf) fun D σ H ⟨ι, l, s, sm, sl, f⟩ => ⟨ι, l, s, sm, sl, f.toS sl fun d s1 ι1 v H1 st1 sm1 r1 f1 => f1 ι1 _ H1 .refl sm1 ((sl.mono st1).set j r1)⟩
/-- x op= e -/
def IpS (G : Gx) (r : TIp) (g : D → D → Mem → R D) : Prop := OpS2 G r g
theorem sm_aug {j : Nat} {x : Str} {op : Operator} {r : TIp} {g : D → D → Mem → R D} (hN : X.N.Nodup) (hi : X.N[j]? = some x) (hx : L2.Loc X.env.scope x) (he : PE X e (dE G W me)) (ho : PIp X op r) (hg : OpS2 G r g) (hf : X.fn x = true ∨ X.env.scope.names.lookup x = some .local := by first | exact .inl rfl | exact .inr rfl | assumption) :
    PS X (.AugAssign (.Name x pos') op e pos) (dS G W (mAug j g me)) :=
  PS.imp (ps_aug hN hi hx he ho hf) fun D σ H ⟨ι, l, s, sm, sl, f⟩ => by
    unfold mAug at f
    cases q : l[j]? with
    | none => simp only [q] at f; exact f.elim
    | some od =>
      cases od with
      | none => simp only [q] at f; exact f.elim
      | some d =>
        simp only [q] at f
        obtain ⟨v, h1, h2⟩ := sl.2 j d q
        refine ⟨v, h1, ι, l, s, sm, sl, f.toS sl fun y s1 ι1 w H1 st1 sm1 r1 f1 => ?_⟩
        exact hg W σ ι1 s1 H1 v w d y _ sm1 (h2.mono st1) r1 (f1.toS (sl.mono st1) fun z s2 ι2 u H2 st2 sm2 r2 f2 => f2 ι2 _ H2 .refl sm2 (((sl.mono st1).mono st2).set j r2))
theorem sm_fld (hK : X.K = G.K) (hF : FldOk G cs f) (ho : PE X o (dE G W mo)) (hv : PE X value (dE G W mv)) (hs : swapsWith value (some (.Attribute o f pos')) pos.line X.env = pure false) : PS X (.Assign [.Attribute o f pos'] value pos) (dS G W (mSetF cs f mo mv)) :=
  PS.imp (ps_fld ho hv hs) fun D σ H ⟨ι, l, s, sm, sl, f0⟩ => ⟨ι, l, s, sm, sl, f0.toS sl fun d s1 ι1 v H1 st1 sm1 r1 f1 => ⟨ι1, l, s1, sm1, sl.mono st1, f1.toS (sl.mono st1) fun x s2 ι2 w H2 st2 sm2 r2 f2 => by
    cases r2 with
    | ref h1 =>
      rename_i a n
      dsimp only at f2
      split at f2
      · rename_i c fs q
        by_cases hc : c ∈ cs ∧ fs.length < 900
        · rw [if_pos hc] at f2
          obtain ⟨dx, ws, k1, k2⟩ := sm2.ob n a _ h1 q
          obtain ⟨c1, c2⟩ := hF c hc.1
          refine ⟨a, G.cls c, dx, ws, rfl, k1, by rw [hK]; exact c1, by rw [hK]; exact c2, by rw [k2.length]; omega, ?_⟩
          have nt : NoTup (upd H2 a (.ins (G.cls c) dx (putF f v ws))) a := NoTup.of upd_same (fun _ e => by cases e) (fun _ _ e => by cases e)
          obtain ⟨w1, w2⟩ := sm2.write (o' := .ins c (putD f d fs)) (u := .ins (G.cls c) dx (putF f v ws)) h1 q rfl rfl (fun _ => ⟨dx, _, upd_same, (k2.put (r1.mono st2)).mono (Stp.mut (NoTup.of k1 (fun _ e => by cases e) (fun _ _ e => by cases e)))⟩) nt
          exact f2 ι2 σ _ w2 w1 (((sl.mono st1).mono st2).mono w2)
        · rw [if_neg hc] at f2; exact f2.elim
      · exact f2.elim
    | _ => exact f2.elim⟩⟩
theorem sm_sub (hs : swapsWithSole [.Subscript o i tpos] value pos.line X.env = pure false := by rfl) (hw : swappedStores [.Subscript o i tpos] value X.env = pure none := by rfl)
    (h1 : (assignEach [.Subscript o i tpos] X.env).map (·.2) = [assign (.Subscript o i tpos) X.env] := by rfl)
    (ha : ∀ v, assign (.Subscript o i tpos) X.env v = (do
      let ov ← holding [v] (eval o X.env)
      let iv ← holding [v, ov] (eval i X.env)
      standAt tpos
      holding [v, ov, iv] (setItem ov iv v)
      release [v, ov, iv] []) := by intro _; rfl)
    (hv : PE X value (dE G W mv)) (ho : PE X o (dE G W mo)) (hi : PE X i (dE G W mi)) : PS X (.Assign [.Subscript o i tpos] value pos) (dS G W (mSub mv mo mi)) :=
  PS.imp (ps_asg hv (pg_sub ho hi set_list ha) hs hw h1) fun D σ H ⟨ι, l, s, sm, sl, f0⟩ => ⟨ι, l, s, sm, sl, f0.toS sl fun d s1 ι1 v H1 st1 sm1 r1 f1 => ⟨ι1, l, s1, sm1, sl.mono st1, f1.toS (sl.mono st1) fun x s2 ι2 w H2 st2 sm2 r2 f2 =>
    ⟨ι2, l, s2, sm2, (sl.mono st1).mono st2, f2.toS ((sl.mono st1).mono st2) fun y s3 ι3 u H3 st3 sm3 r3 f3 => by
    cases r2 with
    | ref h1 =>
      cases r3 with
      | int k =>
        rename_i a n
        dsimp only at f3
        split at f3
        · rename_i xs q
          have h1' := st3.pre _ _ h1
          obtain ⟨vs, k1, k2⟩ := sm3.lst q h1'
          cases q2 : ixN xs.length k with
          | none => simp only [q2] at f3; exact f3.elim
          | some j =>
            simp only [q2] at f3
            refine ⟨a, vs, k, j, rfl, rfl, k1, by rw [k2.length]; exact q2, ?_⟩
            have nt : NoTup (upd H3 a (.lst (vs.set j v))) a := NoTup.of upd_same (fun _ e => by cases e) (fun _ _ e => by cases e)
            obtain ⟨w1, w2⟩ := sm3.write (o' := .lst (xs.set j d)) (u := .lst (vs.set j v)) h1' q rfl rfl (fun _ => ⟨_, upd_same, (k2.set j ((r1.mono st2).mono st3)).mono (Stp.mut (NoTup.of k1 (fun _ e => by cases e) (fun _ _ e => by cases e)))⟩) nt
            exact f3 ι3 σ _ w2 w1 ((((sl.mono st1).mono st2).mono st3).mono w2)
        · exact f3.elim
      | _ => exact f3.elim
    | _ => cases y <;> exact f3.elim⟩⟩⟩
end

/-! ### loops -/
structure ItD where
  ds : List D
  ok : Mem → Bool
def WalkD (G : Gx) (ι : List Addr) (H : Hp) (J : It) (it : ItD) : Prop := ∃ (Gd : Hp → Prop) (Y : Nat → Hp → V → Hp → Prop), Walk J it.ds.length Gd Y ∧
  (∀ ι1 s1 H1, Stp G.K ι H ι1 H1 → SimH G ι1 s1 H1 → it.ok s1 = true → Gd H1) ∧
  ∀ i ι1 s1 H1 x H2 d, it.ds[i]? = some d → Stp G.K ι H ι1 H1 → SimH G ι1 s1 H1 → it.ok s1 = true → Y i H1 x H2 → SimH G ι1 s1 H2 ∧ Stp G.K ι1 H1 ι1 H2 ∧ Rep G.K ι1 H2 x d
abbrev IM := Loc → Mem → R ItD
def dI (G : Gx) (W : WX) (m : IM) : TI := fun σ H Q => ∃ ι l s, SimH G ι s H ∧ Slots G.K ι H l σ ∧ Fin G W ι H σ (WalkD G) (m l s) Q
theorem PI.imp {X : Cx} {tg e : Expr} {t t' : TI} (h : PI X tg e t) (f : ∀ σ H Q, t' σ H Q → t σ H Q) : PI X tg e t' := ⟨fun pins s σ H Q I hw => h.run pins s σ H Q I (f _ _ _ hw)⟩
mutual
def D.beq : D → D → Bool
  | .non, .non => true
  | .bl a, .bl b => a == b
  | .int a, .int b => a == b
  | .str a, .str b => a == b
  | .tup a, .tup b => D.beqs a b
  | .ref a, .ref b => a == b
  | _, _ => false
def D.beqs : List D → List D → Bool
  | [], [] => true
  | a :: r, b :: t => D.beq a b && D.beqs r t
  | _, _ => false
end
mutual
theorem D.beq_eq : ∀ {a b : D}, D.beq a b = true → a = b
  | .non, .non, _ => rfl
  | .bl a, .bl b, h => by rw [eq_of_beq (show (a == b) = true from h)]
  | .int a, .int b, h => by rw [eq_of_beq (show (a == b) = true from h)]
  | .str a, .str b, h => by rw [eq_of_beq (show (a == b) = true from h)]
  | .tup a, .tup b, h => by rw [D.beqs_eq (show D.beqs a b = true from h)]
  | .ref a, .ref b, h => by rw [eq_of_beq (show (a == b) = true from h)]
theorem D.beqs_eq : ∀ {a b : List D}, D.beqs a b = true → a = b
  | [], [], _ => rfl
  | a :: r, b :: t, h => by
    have h2 := Bool.and_eq_true_iff.mp (show (D.beq a b && D.beqs r t) = true from h)
    rw [D.beq_eq h2.1, D.beqs_eq h2.2]
end
mutual
theorem D.beq_refl : ∀ a : D, D.beq a a = true
  | .non => rfl
  | .bl a => beq_self_eq_true a
  | .int a => beq_self_eq_true a
  | .str a => beq_self_eq_true a
  | .tup a => D.beqs_refl a
  | .ref a => beq_self_eq_true a
theorem D.beqs_refl : ∀ a : List D, D.beqs a a = true
  | [] => rfl
  | a :: r => by show (D.beq a a && D.beqs r r) = true; rw [D.beq_refl a, D.beqs_refl r]; rfl
end
/-- over a tuple, a list that stays as it is -/
def okL (n : Nat) (ds : List D) (s : Mem) : Bool := match rdL s n with
  | some ys => D.beqs ys ds
  | none => false
theorem okL_of {n : Nat} {ds : List D} {s : Mem} (h : rdL s n = some ds) : okL n ds s = true := by unfold okL; rw [h]; exact D.beqs_refl ds
theorem okL_is {n : Nat} {ds : List D} {s : Mem} (h : okL n ds s = true) : rdL s n = some ds := by
  unfold okL at h
  cases q : rdL s n with
  | none => rw [q] at h; cases h
  | some ys => rw [q] at h; rw [D.beqs_eq h]
def iSeq (me : EM) : IM := fun l s => (me l s).bind fun x s1 => match x with
  | .tup ds => .ok ⟨ds, fun _ => true⟩ s1
  | .ref n => match rdL s1 n with
    | some ds => .ok ⟨ds, okL n ds⟩ s1
    | none => .no
  | _ => .no
def iRange1 (ma : AM) : IM := fun l s => (ma l s).bind fun xs s1 => match xs with
  | [.int j] => if j < 100000 ∧ -100000 < j then .ok ⟨(List.range j.toNat).map fun (i : Nat) => D.int (0 + (i : Int)), fun _ => true⟩ s1 else .no
  | _ => .no
def iRange2 (ma : AM) : IM := fun l s => (ma l s).bind fun xs s1 => match xs with
  | [.int a, .int j] => if a < 100000 ∧ -100000 < a ∧ j < 100000 ∧ -100000 < j then .ok ⟨(List.range (j - a).toNat).map fun (i : Nat) => D.int (a + (i : Int)), fun _ => true⟩ s1 else .no
  | _ => .no
section
variable {G : Gx} {W : WX} {X : Cx} {tg e : Expr} {me : EM} {mA : AM}
/-- a list or a tuple is walked -/
def iSq (K : PySem.W.Frag) (tl : TE) : TI := fun σ H R => tl σ H fun x H1 => ∃ a, x = .ref a ∧ (((∃ xs, SqL K H1 a xs) ∧ R (Itl K a) H1) ∨ ((∃ xs, SqT K H1 a xs) ∧ R (Itt K a) H1))
theorem pi_sq {l : Expr} {tl : TE} (hl : PE X l tl) : PI X tg l (iSq X.K tl) := by
  refine ⟨fun pins s σ H R I h => ?_⟩
  refine thn (hl.run pins s σ H _ I h) fun v s1 ⟨x, H1, I1, r1, q1⟩ => ?_
  obtain ⟨a, e, q⟩ := q1
  subst e
  cases r1
  rcases q with ⟨⟨xs, hq⟩, q⟩ | ⟨⟨xs, hq⟩, q⟩
  · obtain ⟨its, rv, p, hz⟩ := I1.list hq
    refine wpAny_pyIter_list p.isList ?_
    refine ⟨s1.heap.objs.size, [s1.heap.objs.size], _, _, H1, rfl, I1.kept (t' := s1.toks) fun b o e => Heap.get?_push_of_some _ e, turn_list a _, ⟨_, Heap.get?_push_size _ rfl, rfl, rfl⟩, fun b hb => ?_, q⟩
    have e : b = s1.heap.objs.size := by simpa using hb
    subst e
    exact I1.fpOk (Nat.le_refl _) (I1.hok.fresh (Nat.le_refl _))
  · obtain ⟨its, rv, p, hz⟩ := I1.tuple hq
    refine wpAny_pyIter_tuple (show s1.heap.IsTuple a its.toArray from p) ?_
    refine ⟨s1.heap.objs.size, [s1.heap.objs.size], _, _, H1, rfl, I1.kept (t' := s1.toks) fun b o e => Heap.get?_push_of_some _ e, turn_tuple a _, ⟨_, Heap.get?_push_size _ rfl, rfl, rfl⟩, fun b hb => ?_, q⟩
    have e : b = s1.heap.objs.size := by simpa using hb
    subst e
    exact I1.fpOk (Nat.le_refl _) (I1.hok.fresh (Nat.le_refl _))
/-- the i-th of the list as it stands -/
def YCur (K : PySem.W.Frag) (a : Addr) : Nat → Hp → V → Hp → Prop := fun i H x H' => H' = H ∧ ∀ vs, SqL K H a vs → vs[i]? = some x
theorem walk_cur {K : PySem.W.Frag} {a : Addr} {n : Nat} : Walk (Itl K a) n (fun H => ∃ vs, SqL K H a vs ∧ vs.length = n) (YCur K a) :=
  ⟨fun i _ hi ⟨vs, q, e⟩ => ⟨vs, vs[i]'(by rw [e]; exact hi), q, by simp [e, hi]⟩, fun _ ⟨vs, q, e⟩ => ⟨vs, q, by rw [e]; exact Nat.le_refl _⟩, fun _ _ _ _ _ _ y => y⟩
theorem im_seq (hK : X.K = G.K) (he : PE X e (dE G W me)) : PI X tg e (dI G W (iSeq me)) :=
  PI.imp (pi_sq he) fun σ H Q ⟨ι, l, s, sm, sl, f⟩ => ⟨ι, l, s, sm, sl, f.bind fun x s1 ι1 v H1 st1 sm1 r1 f1 => by
    cases r1 with
    | @tup a vs ds h1 h2 =>
      refine ⟨a, rfl, .inr ⟨⟨vs, by rw [hK]; exact h1⟩, f1.here sm1 ⟨fun H => SqT X.K H a vs, YAt vs, ?_, fun ι2 s2 H2 st2 sm2 _ => by rw [hK]; exact st2.tup _ _ h1, fun i ι2 s2 H2 x H3 d hd st2 sm2 _ hy => ?_⟩⟩⟩
      · show Walk (Itt X.K a) ds.length _ _
        rw [← h2.length]; exact walk_tup
      · obtain ⟨e3, hx⟩ := hy
        subst e3
        obtain ⟨d', h3, h4⟩ := h2.getV hx
        have e4 : ds[i]? = some d := hd
        rw [e4] at h3; cases h3
        exact ⟨sm2, .refl, h4.mono st2⟩
    | @ref a n h1 =>
      dsimp only at f1
      cases q : rdL s1 n with
      | none => rw [q] at f1; exact f1.elim
      | some ds =>
        rw [q] at f1
        obtain ⟨vs, k1, k2⟩ := sm1.rdL q h1
        refine ⟨a, rfl, .inl ⟨⟨vs, by rw [hK]; exact k1⟩, f1.here sm1 ⟨fun H => ∃ vs, SqL X.K H a vs ∧ vs.length = ds.length, YCur X.K a, walk_cur, fun ι2 s2 H2 st2 sm2 hok => ?_, fun i ι2 s2 H2 x H3 d hd st2 sm2 hok hy => ?_⟩⟩⟩
        · obtain ⟨ws, w1, w2⟩ := sm2.rdL (okL_is hok) (st2.pre _ _ h1)
          exact ⟨ws, by rw [hK]; exact w1, w2.length⟩
        · obtain ⟨ws, w1, w2⟩ := sm2.rdL (okL_is hok) (st2.pre _ _ h1)
          obtain ⟨e3, hx⟩ := hy
          subst e3
          have hx2 := hx ws (by rw [hK]; exact w1)
          obtain ⟨d', h3, h4⟩ := w2.getV hx2
          have e4 : ds[i]? = some d := hd
          rw [e4] at h3; cases h3
          exact ⟨sm2, .refl, h4⟩
    | _ => exact f1.elim⟩
theorem im_range1 {a : Expr} {p pos : Pos} (hg : Gl X "range") (hm : X.mg "range" = none) (ha : PA X [a] (dA G W mA)) (hs : starEach [a] X.env = [(false, eval a X.env)] := by rfl) : PI X tg (.Call (.Name "range" p) [a] [] pos) (dI G W (iRange1 mA)) :=
  PI.imp (pi_range1 hg hm ha hs) fun σ H Q ⟨ι, l, s, sm, sl, f⟩ => ⟨ι, l, s, sm, sl, f.bind fun xs s1 ι1 vs H1 st1 sm1 r1 f1 => by
    split at f1
    · rename_i j
      cases r1 with
      | cons r t =>
        cases t
        cases r
        by_cases hj : j < 100000 ∧ -100000 < j
        · rw [if_pos hj] at f1
          refine ⟨j, rfl, by omega, by omega, f1.here sm1 ⟨fun _ => True, YFn fun i => .int (0 + (i : Int)), ?_, fun _ _ _ _ _ _ => trivial, fun i ι2 s2 H2 x H3 d hd st2 sm2 hok hy => ?_⟩⟩
          · show Walk (Itr 0 j.toNat) ((List.range j.toNat).map fun (i : Nat) => D.int (0 + (i : Int))).length _ _
            rw [List.length_map, List.length_range]; exact walk_range
          · obtain ⟨e3, hx⟩ := hy
            subst e3; subst hx
            have e4 : ((List.range j.toNat).map fun (i : Nat) => D.int (0 + (i : Int)))[i]? = some d := hd
            rw [List.getElem?_map] at e4
            cases q : (List.range j.toNat)[i]? with
            | none => rw [q] at e4; cases e4
            | some k =>
              rw [q] at e4
              have := (List.getElem?_eq_some_iff.mp q).2
              rw [List.getElem_range] at this
              subst this
              cases e4
              exact ⟨sm2, .refl, .int _⟩
        · rw [if_neg hj] at f1; exact f1.elim
    · exact f1.elim⟩
theorem im_range2 {a b : Expr} {p pos : Pos} (hg : Gl X "range") (hm : X.mg "range" = none) (ha : PA X [a, b] (dA G W mA)) (hs : starEach [a, b] X.env = [(false, eval a X.env), (false, eval b X.env)] := by rfl) (hs2 : starEach [b] X.env = [(false, eval b X.env)] := by rfl) : PI X tg (.Call (.Name "range" p) [a, b] [] pos) (dI G W (iRange2 mA)) :=
  PI.imp (pi_range2 hg hm ha hs hs2) fun σ H Q ⟨ι, l, s, sm, sl, f⟩ => ⟨ι, l, s, sm, sl, f.bind fun xs s1 ι1 vs H1 st1 sm1 r1 f1 => by
    split at f1
    · rename_i a j
      cases r1 with
      | cons r t =>
        cases t with
        | cons r' t' =>
        cases t'
        cases r
        cases r'
        by_cases hj : a < 100000 ∧ -100000 < a ∧ j < 100000 ∧ -100000 < j
        · rw [if_pos hj] at f1
          refine ⟨a, j, rfl, by omega, f1.here sm1 ⟨fun _ => True, YFn fun i => .int (a + (i : Int)), ?_, fun _ _ _ _ _ _ => trivial, fun i ι2 s2 H2 x H3 d hd st2 sm2 hok hy => ?_⟩⟩
          · show Walk (Itr a (j - a).toNat) ((List.range (j - a).toNat).map fun (i : Nat) => D.int (a + (i : Int))).length _ _
            rw [List.length_map, List.length_range]; exact walk_range
          · obtain ⟨e3, hx⟩ := hy
            subst e3; subst hx
            have e4 : ((List.range (j - a).toNat).map fun (i : Nat) => D.int (a + (i : Int)))[i]? = some d := hd
            rw [List.getElem?_map] at e4
            cases q : (List.range (j - a).toNat)[i]? with
            | none => rw [q] at e4; cases e4
            | some k =>
              rw [q] at e4
              have := (List.getElem?_eq_some_iff.mp q).2
              rw [List.getElem_range] at this
              subst this
              cases e4
              exact ⟨sm2, .refl, .int _⟩
        · rw [if_neg hj] at f1; exact f1.elim
    · exact f1.elim⟩
end
def loopS (ok : Mem → Bool) (g : TGm) (body : SM) : List D → SM
  | [], l, s => if ok s = true then .nx l s else .no
  | d :: r, l, s => if ok s = true then match g d l with
      | some l1 => match body l1 s with
        | .nx l2 s2 => loopS ok g body r l2 s2
        | .ct l2 s2 => loopS ok g body r l2 s2
        | .bk l2 s2 => .nx l2 s2
        | x => x
      | none => .no
    else .no
def mFor (mi : IM) (g : TGm) (body : SM) : SM := fun l s => (mi l s).toS l fun it s1 => loopS it.ok g body it.ds l s1
theorem loopS_ok {G : Gx} {W : WX} {ι : List Addr} {H : Hp} {En : Ends} {ok : Mem → Bool} {g : TGm} {body : SM} {ds : List D} {l : Loc} {s : Mem} (f : FinS G W ι H (loopS ok g body ds l s) En) : ok s = true := by
  cases ds with
  | nil => unfold loopS at f; by_cases h : ok s = true
           · exact h
           · rw [if_neg h] at f; exact f.elim
  | cons d r => unfold loopS at f; by_cases h : ok s = true
                · exact h
                · rw [if_neg h] at f; exact f.elim
theorem sm_for {G : Gx} {W : WX} {X : Cx} {tg iter : Expr} {body : List Stmt} {vs : List Nat} {mi : IM} {g : TGm} {mb : SM} {pos : Pos} (hp : PassesOwn (model X.prog X.w) X.A X.env X.xe) (hc : X.calm = true) (hi : PI X tg iter (dI G W mi)) (hg : PG X tg (dG G vs g)) (hb : PSs X body (dS G W mb)) (hs : ∀ x, foldedSetIterable iter X.env x = pure x := by intro _; rfl) :
    PS X (.For tg iter body [] pos) (dS G W (mFor mi g mb)) :=
  PS.imp (ps_for hp hc hi hg hb hs) fun D σ H ⟨ι, l, s, sm, sl, f⟩ => ⟨ι, l, s, sm, sl, f.toS sl fun it s1 ι1 J H1 st1 sm1 r1 f1 => by
    obtain ⟨Gd, Y, wk, hG, hY⟩ := r1
    refine for_it wk (fun i σ' H' => ∃ ι' l' s', Stp G.K ι1 H1 ι' H' ∧ SimH G ι' s' H' ∧ Slots G.K ι' H' l' σ' ∧ FinS G W ι' H' (loopS it.ok g mb (it.ds.drop i) l' s') D) ⟨ι1, l, s1, .refl, sm1, sl.mono st1, f1⟩ (fun i σ' H' _ ⟨ι', l', s', st', sm', sl', f'⟩ => hG ι' s' H' st' sm' (loopS_ok f')) ?_ ?_
    · rintro i x σ' H' H2 hi ⟨ι', l', s', st', sm', sl', f'⟩ hy
      have hd : it.ds[i]? = some it.ds[i] := List.getElem?_eq_getElem hi
      rw [List.drop_eq_getElem_cons hi] at f'
      have hok := loopS_ok f'
      obtain ⟨sm2, st2, r2⟩ := hY i ι' s' H' x H2 _ hd st' sm' hok hy
      unfold loopS at f'
      rw [if_pos hok] at f'
      refine ⟨ι', l', s', it.ds[i], sm2, sl'.mono st2, r2, ?_⟩
      cases q : g it.ds[i] l' with
      | none => rw [q] at f'; exact f'.elim
      | some l1 =>
        rw [q] at f'
        dsimp only at f' ⊢
        intro σ2 sl2 _
        refine ⟨ι', l1, s', sm2, sl2, ?_⟩
        cases q2 : mb l1 s' with
        | nx l2 s2 => rw [q2] at f'; exact fun ι3 σ3 H3 st3 sm3 sl3 => ⟨ι3, l2, s2, (st'.trans st2).trans st3, sm3, sl3, f'.step (st2.trans st3)⟩
        | ct l2 s2 => rw [q2] at f'; exact fun ι3 σ3 H3 st3 sm3 sl3 => ⟨ι3, l2, s2, (st'.trans st2).trans st3, sm3, sl3, f'.step (st2.trans st3)⟩
        | bk l2 s2 => rw [q2] at f'; exact f'.step st2
        | rt d s2 => rw [q2] at f'; exact f'.step st2
        | err c l2 s2 => rw [q2] at f'; exact f'.step st2
        | no => rw [q2] at f'; exact f'
    · rintro σ' H' ⟨ι', l', s', st', sm', sl', f'⟩
      rw [List.drop_length] at f'
      have hok := loopS_ok f'
      unfold loopS at f'
      rw [if_pos hok] at f'
      exact f' ι' σ' H' .refl sm' sl'⟩
/-- while, with so many turns at most -/
def whileS (t : TM) (body : SM) : Nat → SM
  | 0, _, _ => .no
  | n + 1, l, s => (t l s).toS l fun b s1 => if b = true then match body l s1 with
      | .nx l2 s2 => whileS t body n l2 s2
      | .ct l2 s2 => whileS t body n l2 s2
      | .bk l2 s2 => .nx l2 s2
      | x => x
    else .nx l s1
theorem sm_while {G : Gx} {W : WX} {X : Cx} {c : Expr} {body : List Stmt} {t : TM} {mb : SM} {pos : Pos} (n : Nat) (hp : PassesOwn (model X.prog X.w) X.A X.env X.xe) (hc : PT X c (dT G W t)) (hb : PSs X body (dS G W mb)) : PS X (.While c body [] pos) (dS G W (whileS t mb n)) :=
  PS.imp (ps_while hp hc hb) fun D σ H ⟨ι, l, s, sm, sl, f⟩ => by
    refine ⟨fun m σ' H' => ∃ ι' l' s', Stp G.K ι H ι' H' ∧ SimH G ι' s' H' ∧ Slots G.K ι' H' l' σ' ∧ FinS G W ι' H' (whileS t mb m l' s') D, ⟨n, ι, l, s, .refl, sm, sl, f⟩, ?_⟩
    rintro m σ' H' ⟨ι', l', s', st', sm', sl', f'⟩
    cases m with
    | zero => exact f'.elim
    | succ m =>
      refine ⟨ι', l', s', sm', sl', FinS.toS f' sl' fun b s1 ι1 b' H1 st1 sm1 r1 f1 => ?_⟩
      cases r1
      cases b with
      | false => rw [if_neg Bool.false_ne_true] at f1 ⊢; exact f1 ι1 σ' H1 .refl sm1 (sl'.mono st1)
      | true =>
        rw [if_pos rfl] at f1 ⊢
        refine ⟨fun σ2 H2 => ∃ ι2 l2 s2, Stp G.K ι H ι2 H2 ∧ SimH G ι2 s2 H2 ∧ Slots G.K ι2 H2 l2 σ2 ∧ FinS G W ι2 H2 (whileS t mb m l2 s2) D, fun σ2 H2 h => ⟨m, Nat.lt_succ_self m, h⟩, ι1, l', s1, sm1, sl'.mono st1, ?_⟩
        cases q : mb l' s1 with
        | nx l2 s2 => rw [q] at f1; exact fun ι3 σ3 H3 st3 sm3 sl3 => ⟨ι3, l2, s2, (st'.trans st1).trans st3, sm3, sl3, f1.step st3⟩
        | ct l2 s2 => rw [q] at f1; exact fun ι3 σ3 H3 st3 sm3 sl3 => ⟨ι3, l2, s2, (st'.trans st1).trans st3, sm3, sl3, f1.step st3⟩
        | bk l2 s2 => rw [q] at f1; exact f1
        | rt d s2 => rw [q] at f1; exact f1
        | err c l2 s2 => rw [q] at f1; exact f1
        | no => rw [q] at f1; exact f1
end Core

set_option Elab.async false
set_option linter.all false
set_option maxRecDepth 100000
set_option maxHeartbeats 4000000
/-! Core: comprehensions, slices, methods of lists, chains, module constants, raise, try -/
namespace Core
open PySem PySem.Spec PyProof.Rows L2

/-! ### list comprehensions -/
abbrev W0 : WX := fun _ _ _ _ => False
/-- no error may come out -/
def R.nox {α β : Type} (r : R α) (f : α → Mem → R β) : R β := match r with
  | .ok a s => f a s
  | _ => .no
def loopC (ok : Mem → Bool) (g : TGm) (vs : List Nat) (l : Loc) (tt : TM) (me : EM) (n : Nat) : List D → Mem → R D
  | [], s => if ok s = true then .ok (.ref n) s else .no
  | d :: r, s => if ok s = true then match g d (wipeL l vs) with
      | some l1 => (tt l1 s).nox fun b s2 => if b = true then (me l1 s2).nox fun y s3 => match s3[n]? with
          | some (.lst acc) => if acc.length < 100000 then loopC ok g vs l tt me n r (s3.set n (.lst (acc ++ [y]))) else .no
          | _ => .no
        else loopC ok g vs l tt me n r s2
      | none => .no
    else .no
def mLc (mi : IM) (g : TGm) (vs : List Nat) (tt : TM) (me : EM) : EM := fun l s => (mi l s).bind fun it s1 => loopC it.ok g vs l tt me s1.length it.ds (s1 ++ [.lst []])
def tYes' : TM := fun _ s => .ok true s
theorem Fin.nox {α β γ δ : Type} {G : Gx} {W : WX} {ι : List Addr} {H : Hp} {σ σ2 : L2.St} {rel : List Addr → Hp → β → α → Prop} {rel' : List Addr → Hp → δ → γ → Prop} {r : R α} {f : α → Mem → R γ} {Q' : δ → Hp → Prop} (h : Fin G W ι H σ rel' (r.nox f) Q') {Q : β → Hp → Prop}
    (k : ∀ a s1 ι1 b H1, Stp G.K ι H ι1 H1 → SimH G ι1 s1 H1 → rel ι1 H1 b a → Fin G W ι1 H1 σ rel' (f a s1) Q' → Q b H1) : Fin G W0 ι H σ2 rel r Q := by
  cases r with
  | ok a s' => exact fun ι' b H' st sm rl => k a s' ι' b H' st sm rl (Fin.step (r := f a s') h st)
  | err c s' => exact h.elim
  | no => exact h
theorem loopC_ok {G : Gx} {W : WX} {ι : List Addr} {H : Hp} {σ : L2.St} {Q : VK} {ok : Mem → Bool} {g : TGm} {vs : List Nat} {l : Loc} {tt : TM} {me : EM} {n : Nat} {ds : List D} {s : Mem} (f : Fin G W ι H σ (Rep G.K) (loopC ok g vs l tt me n ds s) Q) : ok s = true := by
  cases ds with
  | nil => unfold loopC at f; by_cases h : ok s = true
           · exact h
           · rw [if_neg h] at f; exact f.elim
  | cons d r => unfold loopC at f; by_cases h : ok s = true
                · exact h
                · rw [if_neg h] at f; exact f.elim
theorem lc_imp {G : Gx} {W : WX} {mi : IM} {g : TGm} {vs : List Nat} {tt : TM} {me : EM} {σ : L2.St} {H : Hp} {Q : VK} (h : dE G W (mLc mi g vs tt me) σ H Q) : tLc (dI G W mi) (dG G vs g) (dT G W0 tt) (dE G W0 me) vs σ H Q := by
  obtain ⟨ι, l, s, sm, sl, f⟩ := h
  refine ⟨ι, l, s, sm, sl, f.bind fun it s1 ι1 J H1 st1 sm1 r1 f1 => fun Da hD => ?_⟩
  obtain ⟨Gd, Y, wk, hG, hY⟩ := r1
  have stD : Stp G.K ι1 H1 (ι1 ++ [Da]) (upd H1 Da (.lst [])) := Stp.new hD (pre_snoc Da)
  have smD : SimH G (ι1 ++ [Da]) (s1 ++ [.lst []]) (upd H1 Da (.lst [])) := sm1.push hD rfl ⟨[], upd_same, .nil⟩
  have hDn : (ι1 ++ [Da])[s1.length]? = some Da := by rw [← sm1.len]; simp
  refine lc_it wk (fun i H' => ∃ ι' s', Stp G.K ι1 H1 ι' H' ∧ SimH G ι' s' H' ∧ Slots G.K ι' H' l σ ∧ ι'[s1.length]? = some Da ∧ Fin G W ι' H' σ (Rep G.K) (loopC it.ok g vs l tt me s1.length (it.ds.drop i) s') Q)
    ⟨ι1 ++ [Da], s1 ++ [.lst []], stD, smD, (sl.mono st1).mono stD, hDn, by rw [List.drop_zero]; exact f1.step stD⟩ (fun i H' _ ⟨ι', s', st', sm', sl', hn, f'⟩ => hG ι' s' H' st' sm' (loopC_ok f')) ?_ ?_
  · rintro i x H' H2 hi ⟨ι', s', st', sm', sl', hn, f'⟩ hy
    have hd : it.ds[i]? = some it.ds[i] := List.getElem?_eq_getElem hi
    rw [List.drop_eq_getElem_cons hi] at f'
    have hok := loopC_ok f'
    obtain ⟨sm2, st2, r2⟩ := hY i ι' s' H' x H2 _ hd st' sm' hok hy
    unfold loopC at f'
    rw [if_pos hok] at f'
    refine ⟨ι', wipeL l vs, s', it.ds[i], sm2, (sl'.mono st2).wipe vs, r2, ?_⟩
    cases q : g it.ds[i] (wipeL l vs) with
    | none => rw [q] at f'; exact f'.elim
    | some l1 =>
      rw [q] at f'
      dsimp only at f' ⊢
      intro σ2 sl2 hw
      refine ⟨hw.trans (wipe_wipe σ vs), ι', l1, s', sm2, sl2, (f'.step st2).nox fun b s2 ι2 b' H3 st3 sm3 r3 f3 => ?_⟩
      cases r3
      cases b with
      | false =>
        rw [if_neg Bool.false_ne_true] at f3 ⊢
        exact ⟨ι2, s2, (st'.trans st2).trans st3, sm3, (sl'.mono st2).mono st3, st3.pre _ _ (st2.pre _ _ hn), f3⟩
      | true =>
        rw [if_pos rfl] at f3 ⊢
        refine ⟨ι2, l1, s2, sm3, sl2.mono st3, f3.nox fun y s3 ι3 v H4 st4 sm4 r4 f4 => ?_⟩
        have hn4 := st4.pre _ _ (st3.pre _ _ (st2.pre _ _ hn))
        split at f4
        · rename_i acc q2
          by_cases hz : acc.length < 100000
          · rw [if_pos hz] at f4
            obtain ⟨ws, k1, k2⟩ := sm4.lst q2 hn4
            have ntD : NoTup H4 Da := NoTup.of k1 (fun _ e => by cases e) (fun _ _ e => by cases e)
            have nt : NoTup (upd H4 Da (.lst (ws ++ [v]))) Da := NoTup.of upd_same (fun _ e => by cases e) (fun _ _ e => by cases e)
            obtain ⟨w1, w2⟩ := sm4.write (o' := .lst (acc ++ [y])) (u := .lst (ws ++ [v])) hn4 q2 rfl rfl (fun _ => ⟨_, upd_same, (k2.append (.cons r4 .nil)).mono (Stp.mut ntD)⟩) nt
            exact ⟨ws, k1, by rw [k2.length]; exact lim_lt hz, ι3, _, (((st'.trans st2).trans st3).trans st4).trans w2, w1, (((sl'.mono st2).mono st3).mono st4).mono w2, hn4, f4.step w2⟩
          · rw [if_neg hz] at f4; exact f4.elim
        · exact f4.elim
  · rintro H' ⟨ι', s', st', sm', sl', hn, f'⟩
    rw [List.drop_length] at f'
    have hok := loopC_ok f'
    unfold loopC at f'
    rw [if_pos hok] at f'
    exact f'.here sm' (.ref hn)
section
variable {G : Gx} {W : WX} {X : Cx} {elt tg iter : Expr} {ifs : List Expr} {scope : Scope} {own : List (Str × Nat)} {pos spos : Pos} {mi : IM} {g : TGm} {tt : TM} {me : EM}
theorem pts_yes {X : Cx} : PTs X [] (dT G W0 tYes') := ⟨fun pins s σ H Q I h => by
  obtain ⟨ι, l, s0, sm, sl, f⟩ := h
  exact wpAny_tests_nil ⟨H, I, f.here sm rfl⟩⟩
theorem pts_if {X : Cx} {c : Expr} {t : TM} (h : PT X c (dT G W0 t)) : PTs X [c] (dT G W0 t) := pts_one h
theorem em_lc (hc : X.calm = true) (hN : X.N.Nodup) (hi : PI X tg iter (dI G W mi)) (ok : BlkOk X.N X.env.scope scope own)
    (hg : ∀ (s : Shared) (H : Hp) (C : Addr) (cl : List (Str × Addr)) (fp : List Addr), PG (X.blk s H scope (compEnvC scope cl C X.env) fp) tg (dG G (own.map (·.2)) g)) (ht : ∀ (s : Shared) (H : Hp) (C : Addr) (cl : List (Str × Addr)) (fp : List Addr), PTs (X.blk s H scope (compEnvC scope cl C X.env) fp) ifs (dT G W0 tt))
    (he : ∀ (s : Shared) (H : Hp) (C : Addr) (cl : List (Str × Addr)) (fp : List Addr), PE (X.blk s H scope (compEnvC scope cl C X.env) fp) elt (dE G W0 me)) (hs : ∀ x, foldedSetIterable iter X.env x = pure x := by intro _; rfl) :
    PE X (.ListComp elt [⟨tg, iter, ifs, 0⟩] scope pos) (dE G W (mLc mi g (own.map (·.2)) tt me)) :=
  PE.imp (pe_lc hc hN hi ok hg ht he hs) fun σ H Q h => lc_imp h
theorem sm_setLc {i : Nat} {y : Str} {py : Pos} (hc : X.calm = true) (hN : X.N.Nodup) (hy : X.N[i]? = some y) (hyl : X.env.scope.names.lookup y = some .local)
    (hsw : swapsWith (.ListComp elt [⟨tg, iter, ifs, 0⟩] scope pos) (some (.Name y py)) spos.line X.env = pure true) (hi : PI X tg iter (dI G W mi)) (ok : BlkOk X.N X.env.scope scope own)
    (hg : ∀ (s : Shared) (H : Hp) (C : Addr) (cl : List (Str × Addr)) (fp : List Addr), PG (X.blk s H scope (compEnvC scope cl C X.env) fp) tg (dG G (own.map (·.2)) g)) (ht : ∀ (s : Shared) (H : Hp) (C : Addr) (cl : List (Str × Addr)) (fp : List Addr), PTs (X.blk s H scope (compEnvC scope cl C X.env) fp) ifs (dT G W0 tt))
    (he : ∀ (s : Shared) (H : Hp) (C : Addr) (cl : List (Str × Addr)) (fp : List Addr), PE (X.blk s H scope (compEnvC scope cl C X.env) fp) elt (dE G W0 me)) (hs : ∀ x, foldedSetIterable iter X.env x = pure x := by intro _; rfl) :
    PS X (.Assign [.Name y py] (.ListComp elt [⟨tg, iter, ifs, 0⟩] scope pos) spos) (dS G W (mSet i (mLc mi g (own.map (·.2)) tt me))) :=
  PS.imp (ps_setLc hc hN hy hyl hsw hi ok hg ht he hs) fun D σ H ⟨ι, l, s, sm, sl, f⟩ => lc_imp ⟨ι, l, s, sm, sl, f.toS sl fun d s1 ι1 v H1 st1 sm1 r1 f1 => f1 ι1 _ H1 .refl sm1 ((sl.mono st1).set i r1)⟩
end
theorem takesW0 {X : Cx} : Takes X W0 := fun _ _ x => by
  obtain ⟨_, _, _, _, _, _, _, _, _, _, _, _, _, _, _, _, z⟩ := x
  exact z.elim

/-! ### slices -/
def cutD (xs : List D) (lo hi : Option Int) : List D := (xs.drop (HT.sIx xs.length 0 lo)).take (HT.sIx xs.length xs.length hi - HT.sIx xs.length 0 lo)
def gSl (lo hi : Option Int) : D → Mem → R D := fun x s => match x with
  | .tup xs => .ok (.tup (cutD xs lo hi)) s
  | .ref n => match rdL s n with
    | some xs => .ok (.ref s.length) (s ++ [.lst (cutD xs lo hi)])
    | none => .no
  | _ => .no
abbrev OM := Loc → Mem → R (Option Int)
def dO (G : Gx) (W : WX) (m : OM) : TO := fun σ H Q => ∃ ι l s, SimH G ι s H ∧ Slots G.K ι H l σ ∧ Fin G W ι H σ (fun _ _ b a => b = a) (m l s) Q
def oNone : OM := fun _ s => .ok none s
def oSome (me : EM) : OM := fun l s => (me l s).bind fun x s1 => match x with
  | .int i => .ok (some i) s1
  | _ => .no
def mSl (me : EM) (lo hi : OM) : EM := fun l s => (me l s).bind fun x s1 => (lo l s1).bind fun a s2 => (hi l s2).bind fun b s3 => gSl a b x s3
section
variable {G : Gx} {W : WX} {X : Cx} {e : Expr} {lo hi : Option Expr} {me : EM} {ml mh : OM} {pos p2 : Pos}
theorem om_none : PO X none (dO G W oNone) := ⟨fun pins s σ H Q I h => by
  obtain ⟨ι, l, s0, sm, sl, f⟩ := h
  exact po_none.run pins s σ H Q I (f.here sm rfl)⟩
theorem om_some {e : Expr} (h : PE X e (dE G W me)) : PO X (some e) (dO G W (oSome me)) := ⟨fun pins s σ H Q I hw => by
  obtain ⟨ι, l, s0, sm, sl, f⟩ := hw
  exact (po_some h).run pins s σ H Q I ⟨ι, l, s0, sm, sl, f.bind fun x s1 ι1 v H1 st1 sm1 r1 f1 => by
    cases r1 with
    | int i => exact ⟨i, rfl, f1.here sm1 rfl⟩
    | _ => exact f1.elim⟩⟩
def rSlD (K : PySem.W.Frag) : V → Option Int → Option Int → Hp → VK → Prop := fun x lo hi H Q => rSlL K x lo hi H Q ∨ rSlA K x lo hi H Q
theorem em_slice (hK : X.K = G.K) (he : PE X e (dE G W me)) (hl : PO X lo (dO G W ml)) (hu : PO X hi (dO G W mh)) : PE X (.Subscript e (.Slice lo hi none p2) pos) (dE G W (mSl me ml mh)) :=
  PE.imp (pe_slice (r := rSlD X.K) (SlR.or sl_list sl_tupA) he hl hu) fun σ H Q ⟨ι, l, s, sm, sl, f⟩ => ⟨ι, l, s, sm, sl, f.bind fun x s1 ι1 v H1 st1 sm1 r1 f1 => ⟨ι1, l, s1, sm1, sl.mono st1, f1.bind fun a s2 ι2 a' H2 st2 sm2 e2 f2 => ⟨ι2, l, s2, sm2, (sl.mono st1).mono st2, f2.bind fun b s3 ι3 b' H3 st3 sm3 e3 f3 => by
    cases e2
    cases e3
    have r3 := (r1.mono st2).mono st3
    unfold gSl at f3
    cases r3 with
    | @tup p vs xs h1 h2 =>
      dsimp only at f3
      have hc : Reps G.K ι3 H3 (cutV vs a b) (cutD xs a b) := by
        unfold cutV cutD; rw [h2.length]; exact (h2.drop _).take _
      refine .inr ⟨p, vs, rfl, by rw [hK]; exact h1, fun hw => ?_, fun hw q hq => ?_⟩
      · have e : cutD xs a b = xs := by
          unfold cutD
          rw [← h2.length, hw.1, hw.2, h2.length]
          simp
        rw [e] at f3
        exact f3.here sm3 (.tup h1 h2)
      · have st : Stp G.K ι3 H3 ι3 (upd H3 q (.tup (cutV vs a b))) := Stp.new hq fun _ _ z => z
        exact f3.there st (sm3.laid hq) (.tup (SqT.of upd_same) (hc.mono st))
    | @ref p n h1 =>
      dsimp only at f3
      cases q : rdL s3 n with
      | none => rw [q] at f3; exact f3.elim
      | some xs =>
        rw [q] at f3
        obtain ⟨vs, k1, k2⟩ := sm3.rdL q h1
        have hc : Reps G.K ι3 H3 (cutV vs a b) (cutD xs a b) := by
          unfold cutV cutD; rw [k2.length]; exact (k2.drop _).take _
        exact .inl ⟨p, vs, rfl, by rw [hK]; exact k1, newL sm3 hc f3⟩
    | _ => exact f3.elim⟩⟩⟩
def gRevL : D → Mem → R D := fun x s => match x with
  | .ref n => match rdL s n with
    | some xs => .ok (.ref s.length) (s ++ [.lst xs.reverse])
    | none => .no
  | _ => .no
theorem em_revL {e : Expr} {k : Nat} {p1 p2 p3 pos : Pos} (hK : X.K = G.K) (he : PE X e (dE G W me)) : PE X (.Subscript e (.Slice none none (some (.UnaryOp .USub (.Constant (.int 1) k p1) p2)) p3) pos) (dE G W (mUn gRevL me)) :=
  PE.imp (pe_revL he) fun σ H Q ⟨ι, l, s, sm, sl, f⟩ => ⟨ι, l, s, sm, sl, f.bind fun x s1 ι1 v H1 st1 sm1 r1 f1 => by
    unfold gRevL at f1
    cases r1 with
    | @ref p n h1 =>
      dsimp only at f1
      cases q : rdL s1 n with
      | none => rw [q] at f1; exact f1.elim
      | some xs =>
        rw [q] at f1
        obtain ⟨vs, k1, k2⟩ := sm1.rdL q h1
        exact ⟨p, vs, rfl, by rw [hK]; exact k1, newL sm1 k2.reverse f1⟩
    | _ => exact f1.elim⟩
end

/-! ### methods of lists -/
/-- o.m(..) of a list that may be written -/
def mLm (g : D → List D → Mem → R D) (mo : EM) (ma : AM) : EM := fun l s => (mo l s).bind fun x s1 => match x with
  | .ref n => match s1[n]? with
    | some (.lst _) => (ma l s1).bind fun xs s2 => g x xs s2
    | _ => .no
  | _ => .no
def gAppend : D → List D → Mem → R D := fun x vs s => match x, vs with
  | .ref n, [y] => match s[n]? with
    | some (.lst xs) => if xs.length < 100000 then .ok .non (s.set n (.lst (xs ++ [y]))) else .no
    | _ => .no
  | _, _ => .no
section
variable {G : Gx} {W : WX} {X : Cx} {o e : Expr} {es : List Expr} {mo : EM} {mA : AM} {name : Str} {apos cpos : Pos} {id : String} {r : V → List V → Hp → VK → Prop} {g : D → List D → Mem → R D}
theorem tyL {G : Gx} {ι : List Addr} {s : Mem} {H : Hp} (sm : SimH G ι s H) {n : Nat} {a : Addr} {xs : List D} (h : ι[n]? = some a) (q : s[n]? = some (.lst xs)) : tyV G.K "list" (.ref a) H := by
  obtain ⟨vs, k1, _⟩ := sm.lst q h
  exact .inl ⟨rfl, vs, SqL.of k1⟩
theorem em_lm (hK : X.K = G.K) (slot : Slot "list" name id) (hty : typeOf (.builtin id) = pure (.type "method_descriptor")) (hm : MtR X id r) (hS : OpSM G r g) (ho : PE X o (dE G W mo)) (ha : PA X (e :: es) (dA G W mA))
    (hbase : attributeBase o name X.env (eval o X.env) = eval o X.env := by rfl)
    (hfew : ((backTo cpos (starEach (e :: es) X.env)).all (fun x => !x.1) && (backToKw cpos (keywordEach [] X.env)).all (fun x => x.1.isSome)
      && decide ((e :: es).length + ([] : List Keyword).length + (if ([] : List Keyword).isEmpty then 0 else 1) < 30)) = true := by rfl)
    (hline : (apos.endLine == cpos.line) = true := by rfl) (hs : starEach (e :: es) X.env = (false, eval e X.env) :: starEach es X.env := by rfl) (hplain : (backTo cpos (starEach es X.env)).any (·.1) = false := by rfl) :
    PE X (.Call (.Attribute o name apos) (e :: es) [] cpos) (dE G W (mLm g mo mA)) :=
  PE.imp (pe_bm PySem.F.plainAttrs_list slot hty hm ho ha hbase hfew hline hs hplain) fun σ H Q ⟨ι, l, s, sm, sl, f⟩ => ⟨ι, l, s, sm, sl, f.bind fun x s1 ι1 v H1 st1 sm1 r1 f1 => by
    cases r1 with
    | @ref a n h1 =>
      dsimp only at f1
      split at f1
      · rename_i xs q
        exact ⟨by rw [hK]; exact tyL sm1 h1 q, ι1, l, s1, sm1, sl.mono st1, f1.bind fun ys s2 ι2 ws H2 st2 sm2 r2 f2 => hS W σ ι2 s2 H2 _ _ ws ys Q sm2 (.ref (st2.pre _ _ h1)) r2 f2⟩
      · exact f1.elim
    | _ => exact f1.elim⟩
theorem s_append : OpSM G rAppend gAppend := by
  intro W σ ι s H v x vs xs Q sm rv rs f
  unfold gAppend at f
  split at f
  · rename_i n y
    cases rv with
    | ref h1 =>
      cases rs with
      | cons r t =>
        cases t
        rename_i a w
        split at f
        · rename_i ys q
          by_cases hz : ys.length < 100000
          · rw [if_pos hz] at f
            obtain ⟨ws, k1, k2⟩ := sm.lst q h1
            have nt0 : NoTup H a := NoTup.of k1 (fun _ e => by cases e) (fun _ _ e => by cases e)
            have nt : NoTup (upd H a (.lst (ws ++ [w]))) a := NoTup.of upd_same (fun _ e => by cases e) (fun _ _ e => by cases e)
            obtain ⟨w1, w2⟩ := sm.write (o' := .lst (ys ++ [y])) (u := .lst (ws ++ [w])) h1 q rfl rfl (fun _ => ⟨_, upd_same, (k2.append (.cons r .nil)).mono (Stp.mut nt0)⟩) nt
            exact ⟨a, ws, w, rfl, rfl, k1, by rw [k2.length]; exact lim_lt hz, f.there w2 w1 .non⟩
          · rw [if_neg hz] at f; exact f.elim
        · exact f.elim
  · exact f.elim
end

/-! ### chains of two comparisons -/
def mChain (g g' : D → D → Mem → R D) (ma mb mc : EM) : EM := fun l s => (ma l s).bind fun x s1 => (mb l s1).bind fun y s2 => (g x y s2).bind fun z s3 => match z with
  | .bl b => if b = true then (mc l s3).bind fun u s4 => g' y u s4 else .ok (.bl false) s3
  | _ => .no
section
variable {G : Gx} {W : WX} {X : Cx} {a b c : Expr} {pos : Pos} {ma mb mc : EM} {op op' : CmpOp} {r r' : R2} {g g' : D → D → Mem → R D}
end
end Core

set_option Elab.async false
set_option linter.all false
set_option maxRecDepth 100000
set_option maxHeartbeats 4000000
/-! Core: chains, constants of the module, raise, try, match -/
namespace Core
open PySem PySem.Spec PyProof.Rows L2

section
variable {G : Gx} {W : WX} {X : Cx} {a b c : Expr} {pos : Pos} {ma mb mc : EM} {op op' : CmpOp} {r r' : R2} {g g' : D → D → Mem → R D}
theorem em_chain (ho : OpR X (compareOp op) r) (ho' : OpR X (compareOp op') r') (hg : OpS2 G r g) (hg' : OpS2 G r' g') (ha : PE X a (dE G W ma)) (hb : PE X b (dE G W mb)) (hc : PE X c (dE G W mc))
    (hm : lastMarks [op, op'] [b, c] = false := by with_unfolding_all rfl) : PE X (.Compare a [op, op'] [b, c] pos) (dE G W (mChain g g' ma mb mc)) :=
  PE.imp (pe_chain ho ho' ha hb hc hm) fun σ H Q ⟨ι, l, s, sm, sl, f⟩ => ⟨ι, l, s, sm, sl, f.bind fun x s1 ι1 v H1 st1 sm1 r1 f1 => ⟨ι1, l, s1, sm1, sl.mono st1, f1.bind fun y s2 ι2 w H2 st2 sm2 r2 f2 => by
    refine hg W σ ι2 s2 H2 v w x y _ sm2 (r1.mono st2) r2 (f2.bind fun z s3 ι3 u H3 st3 sm3 r3 f3 => ?_)
    cases r3 with
    | bl b =>
      refine ⟨b, rfl, ?_⟩
      cases b with
      | true =>
        dsimp only at f3
        rw [if_pos rfl] at f3 ⊢
        exact ⟨ι3, l, s3, sm3, ((sl.mono st1).mono st2).mono st3, f3.bind fun t s4 ι4 v4 H4 st4 sm4 r4 f4 => hg' W σ ι4 s4 H4 w v4 y t Q sm4 ((r2.mono st3).mono st4) r4 f4⟩
      | false =>
        dsimp only at f3
        rw [if_neg Bool.false_ne_true] at f3 ⊢
        exact f3.here sm3 (.bl false)
    | _ => exact f3.elim⟩⟩
/-- an int that the module's top binds -/
theorem em_glob {x : Str} {i : Int} {t : Tok} (hg : Gl X x) (hm : X.mg x = some (.int i t)) (hd : (x == ("__debug__" : Str)) = false := by decide) : PE X (.Name x pos) (dE G W (mC (.int i))) := em_c (pe_glob (v := .int i) hg hm ⟨t, rfl⟩ hd) fun _ _ => .int i

/-! ### raise -/
def mRaise (cl : Str) : SM := fun l s => .err cl l s
theorem pmk_own0 {C : Addr} {bmB : List Value} {B newId initId : String} {x : Str} {p : Pos} (F : ExcBaseFacts B newId initId bmB) (q : PySem.W.excIn X.K C bmB newId = true) (gC : X.mg x = some (.ref C)) (kC : PySem.W.keepIn X.K (.ref C) = true) (r : Raises X (.ref C)) (hg : Gl X x)
    (hdb : (x == ("__debug__" : Str)) = false := by decide) : PMk X (.Call (.Name x p) [] [] pos) (fun _ H Q => Q (.ref C) none H) := by
  intro pins s σ H Q I h
  refine wpAny_Call_Name_kw (ld_glob I hg gC ?_ hdb)
  refine PySem.W.callWith_K0 I.kIn kC ?_
  show wpAny _ _ (call (.ref C) []) _ _ _
  obtain ⟨bm, N, nm, qn, bs, hdct, sn, sub, ab, col, dd, k0, k1, k2, k3, k5, mN, hC, hN, hni, T⟩ := exc_obj I.kIn q
  exact wpAny_call_exc_subT F T hC hN hni (fun h' e hm => mk_of I hm r h (I.hok.gone hm.new)) (Nat.zero_le _)
/-- what the text has of an error class of its own over ValueError -/
structure ExcOk (K : PySem.W.Frag) (C : Addr) : Prop where
  exc : PySem.W.excIn K C He.veBase "ValueError.__new__" = true
  kp : PySem.W.keepIn K (.ref C) = true
  sb : PySem.W.subIn K (.ref C) (.type "BaseException") = some true
  ty : PySem.W.typeIn K (.ref C) = some (.type "type")
theorem sm_raise {x cl : Str} {p p2 : Pos} (hK : X.K = G.K) (hc : X.calm = true) (tk : Takes X W) (eo : ExcOk G.K (G.cls cl)) (hg : Gl X x) (hm : X.mg x = some (.ref (G.cls cl))) (hdb : (x == ("__debug__" : Str)) = false := by decide) :
    PS X (.Raise (some (.Call (.Name x p) [] [] p2)) none pos) (dS G W (mRaise cl)) :=
  PS.imp (ps_raise hc tk (pmk_own0 PySem.F.excBase_ValueError (by rw [hK]; exact eo.exc) hm (by rw [hK]; exact eo.kp) (raises_own (by rw [hK]; exact eo.sb) (by rw [hK]; exact eo.ty)) hg hdb)) fun D σ H ⟨ι, l, s, sm, sl, f⟩ => f ι σ H .refl sm sl

/-! ### try -/
def noErr (r : RS) : RS := match r with
  | .err _ _ _ => .no
  | x => x
/-- errs: the errors that may come; sub: which of them the clause takes -/
def mTry (errs : List Str) (sub : Str → Bool) (mb ms : SM) : SM := fun l s => match mb l s with
  | .err c l1 s1 => if c ∈ errs then if sub c = true then noErr (ms l1 s1) else .err c l1 s1 else .no
  | x => x
theorem FinS.noErr {G : Gx} {W W' : WX} {ι : List Addr} {H : Hp} {r : RS} {D : Ends} (h : FinS G W ι H (noErr r) D) : FinS G W' ι H r D := by
  cases r with
  | err c l s => exact h.elim
  | nx l s => exact h
  | rt d s => exact h
  | bk l s => exact h
  | ct l s => exact h
  | no => exact h
theorem sm_try {x : Str} {body suite : List Stmt} {b₀ : Stmt} {np pos' : Pos} {errs : List Str} {sub : Str → Bool} {cl : Str} {mb ms : SM} (hK : X.K = G.K) (hs : X.stack = X.env :: X.outer) (hf : X.env.frame = some X.env.locals) (hc : Names X x (.ref (G.cls cl))) (tk : Takes X W)
    (hx : ∀ c ∈ errs, PySem.W.exmOne G.K (.ref (G.cls c)) (.ref (G.cls cl)) = some (sub c))
    (hb : ∀ (W : WX) (pn : List (Addr × Obj)) (xe : Value → Shared → Prop), Takes (X.tr pn xe) W → PassesOwn (model X.prog X.w) X.A X.env xe → PSs (X.tr pn xe) body (dS G W mb))
    (hsu : ∀ (a : Addr) (oe : Obj) (pn : List (Addr × Obj)), PSs (X.suite a ((a, oe) :: pn)) (b₀ :: suite) (dS G W0 ms)) :
    PS X (.Try body [.ExceptHandler (some (.Name x np)) none (b₀ :: suite) pos'] [] [] pos) (dS G W (mTry errs sub mb ms)) :=
  PS.imp (ps_try_only (tb := fun W => dS G W mb) (ts := fun _ _ _ => dS G W0 ms) (Wout := W) hs hf hc tk hb fun a oe _ _ pn _ _ => hsu a oe pn) fun D σ H ⟨ι, l, s, sm, sl, f⟩ => ⟨ι, l, s, sm, sl, by
    unfold mTry at f
    cases q : mb l s with
    | nx l1 s1 => simp only [q] at f; exact f
    | rt d s1 => simp only [q] at f; exact f
    | bk l1 s1 => simp only [q] at f; exact f
    | ct l1 s1 => simp only [q] at f; exact f
    | no => simp only [q] at f; exact f
    | err c l1 s1 =>
      simp only [q] at f
      by_cases hce : c ∈ errs
      · rw [if_pos hce] at f
        intro ι' σ' H' st sm' sl'
        refine ⟨sub c, by rw [hK]; exact hx c hce, fun hy a ha => ?_, fun hn => ?_⟩
        · rw [if_pos hy] at f; exact ⟨ι', l1, s1, sm', sl', (FinS.noErr f).step st⟩
        · rw [if_neg (by rw [hn]; decide)] at f; exact f ι' σ' H' st sm' sl'
      · rw [if_neg hce] at f; exact f.elim⟩
/-- .. except X as n: what the suite does hangs on the error's class; n is not seen by the store -/
theorem sm_tryAs {x n : Str} {i : Nat} {body suite : List Stmt} {b₀ : Stmt} {np pos' : Pos} {errs : List Str} {sub : Str → Bool} {cl : Str} {mb : SM} {ms : Str → SM} (hK : X.K = G.K) (hs : X.stack = X.env :: X.outer) (hf : X.env.frame = some X.env.locals) (hN : X.N.Nodup) (hi : X.N[i]? = some n) (hln : X.env.kindOf n = some .local) (hc : Names X x (.ref (G.cls cl))) (tk : Takes X W)
    (hx : ∀ c ∈ errs, PySem.W.exmOne G.K (.ref (G.cls c)) (.ref (G.cls cl)) = some (sub c))
    (hb : ∀ (W : WX) (pn : List (Addr × Obj)) (xe : Value → Shared → Prop), Takes (X.tr pn xe) W → PassesOwn (model X.prog X.w) X.A X.env xe → PSs (X.tr pn xe) body (dS G W mb))
    (ts : Addr → Value → Option Addr → TS)
    (hsu : ∀ (a : Addr) (oe : Obj) (cls : Value) (d : Option Addr) (pn : List (Addr × Obj)), Zc cls d oe → (∃ vs, oe.data = .fields vs) → PSs (X.suite a ((a, oe) :: pn)) (b₀ :: suite) (ts a cls d))
    (hts : ∀ (a : Addr) (c : Str) (D : Ends) (σ : L2.St) (H : Hp) (ι : List Addr) (l : Loc) (s : Mem), c ∈ errs → H a = none → SimH G ι s H → Slots G.K ι H l σ → i < σ.length → FinS G W0 ι H (ms c l s) D → ts a (.ref (G.cls c)) none D (σ.set i (some (.ref a))) H) :
    PS X (.Try body [.ExceptHandler (some (.Name x np)) (some n) (b₀ :: suite) pos'] [] [] pos) (dS G W fun l s => match mb l s with
      | .err c l1 s1 => if c ∈ errs ∧ i < l1.length then if sub c = true then (match ms c (l1.set i none) s1 with
          | .nx l2 s2 => .nx (l2.set i none) s2
          | .bk l2 s2 => .bk (l2.set i none) s2
          | .ct l2 s2 => .ct (l2.set i none) s2
          | .rt d s2 => .rt d s2
          | _ => .no) else .err c l1 s1 else .no
      | x => x) :=
  PS.imp (ps_try_as (tb := fun W => dS G W mb) (ts := ts) (Wout := W) hs hf hN hi hln hc tk hb hsu) fun D σ H ⟨ι, l, s, sm, sl, f⟩ => ⟨ι, l, s, sm, sl, by
    cases q : mb l s with
    | nx l1 s1 => simp only [q] at f; exact f
    | rt d s1 => simp only [q] at f; exact f
    | bk l1 s1 => simp only [q] at f; exact f
    | ct l1 s1 => simp only [q] at f; exact f
    | no => simp only [q] at f
            exact f
    | err c l1 s1 =>
      simp only [q] at f
      by_cases hce : c ∈ errs ∧ i < l1.length
      · rw [if_pos hce] at f
        intro ι' σ' H' st sm' sl'
        refine ⟨sub c, by rw [hK]; exact hx c hce.1, fun hy a ha => ?_, fun hn => ?_⟩
        · rw [if_pos hy] at f
          have sl2 := sl'.none i
          have e : σ'.set i (some (V.ref a)) = (σ'.set i none).set i (some (V.ref a)) := by rw [List.set_set]
          rw [e]
          refine hts a c _ _ H' ι' (l1.set i none) s1 hce.1 ha sm' sl2 (by rw [List.length_set, ← sl'.1]; exact hce.2) ?_
          cases q2 : ms c (l1.set i none) s1 with
          | nx l2 s2 => simp only [q2] at f; exact fun ι3 σ3 H3 st3 sm3 sl3 => f ι3 _ H3 (st.trans st3) sm3 (sl3.none i)
          | bk l2 s2 => simp only [q2] at f; exact fun ι3 σ3 H3 st3 sm3 sl3 => f ι3 _ H3 (st.trans st3) sm3 (sl3.none i)
          | ct l2 s2 => simp only [q2] at f; exact fun ι3 σ3 H3 st3 sm3 sl3 => f ι3 _ H3 (st.trans st3) sm3 (sl3.none i)
          | rt d s2 => simp only [q2] at f; exact fun ι3 v H3 st3 sm3 r3 => f ι3 v H3 (st.trans st3) sm3 r3
          | err c' l2 s2 => simp only [q2] at f; exact f.elim
          | no => simp only [q2] at f; exact f.elim
        · rw [if_neg (by rw [hn]; decide)] at f; exact f ι' σ' H' st sm' sl'
      · rw [if_neg hce] at f; exact f.elim⟩
end

/-! ### match -/
abbrev MPm := Mem → D → Option (Option (List (Nat × D)))
def Bnd (G : Gx) (X : Cx) (ι : List Addr) (H : Hp) : List (Str × Value) → List (Nat × D) → Prop := Paired fun (p : Str × Value) (q : Nat × D) =>
  X.N[q.1]? = some p.1 ∧ L2.Loc X.env.scope p.1 ∧ (X.fn p.1 = true ∨ X.env.scope.names.lookup p.1 = some .local) ∧ ∃ v, RelV v p.2 ∧ Rep G.K ι H v q.2
def BndO (G : Gx) (X : Cx) (ι : List Addr) (H : Hp) : Option (List (Str × Value)) → Option (List (Nat × D)) → Prop
  | none, none => True
  | some a, some b => Bnd G X ι H a b
  | _, _ => False
structure MPat (G : Gx) (X : Cx) (p : Pattern) (m : MPm) : Prop where
  run : ∀ (pins : List (Addr × Obj)) (s : Shared) (σ : L2.St) (H : Hp) (ι : List Addr) (st : Mem) (v : V) (u : Value) (d : D) (r : Option (List (Nat × D))) (Q : Option (List (Str × Value)) → Shared → Prop), Inv X pins σ H s → SimH G ι st H → RelV v u → Rep G.K ι H v d → m st d = some r →
    (∀ s' r', Inv X pins σ H s' → BndO G X ι H r' r → Q r' s') → wpAny (model X.prog X.w) X.A (matchPattern p X.env u) Q X.xe s
abbrev MPms := Mem → List D → Option (Option (List (Nat × D)))
structure MPats (G : Gx) (X : Cx) (ps : List Pattern) (m : MPms) : Prop where
  run : ∀ (pins : List (Addr × Obj)) (s : Shared) (σ : L2.St) (H : Hp) (ι : List Addr) (st : Mem) (vs : List V) (us : List Value) (ds : List D) (r : Option (List (Nat × D))) (Q : Option (List (Str × Value)) → Shared → Prop), Inv X pins σ H s → SimH G ι st H → Vals vs us → Reps G.K ι H vs ds → m st ds = some r →
    (∀ s' r', Inv X pins σ H s' → BndO G X ι H r' r → Q r' s') → wpAny (model X.prog X.w) X.A (matchEach ps X.env us) Q X.xe s
def mpLit (z : Str) : MPm := fun st d => match gEqB st d (.str z) with
  | some true => some (some [])
  | some false => some none
  | none => none
def mpCap (i : Nat) : MPm := fun _ d => some (some [(i, d)])
def mpWild : MPm := fun _ _ => some (some [])
def mpOr : List Str → MPm
  | [], _, _ => some none
  | z :: zs, st, d => match gEqB st d (.str z) with
    | some true => some (some [])
    | some false => mpOr zs st d
    | none => none
def mpNil : MPms := fun _ _ => some (some [])
def mpCons (p : MPm) (ps : MPms) : MPms := fun st ds => match ds with
  | d :: r => match p st d with
    | some none => some none
    | some (some bs) => match ps st r with
      | some none => some none
      | some (some more) => some (some (bs ++ more))
      | none => none
    | none => none
  | [] => some (some [])
def mpSeq (n : Nat) (ps : MPms) : MPm := fun st d => match d with
  | .tup ds => if ds.length = n then ps st ds else some none
  | _ => none
theorem eq_read {G : Gx} {ι : List Addr} {s : Mem} {H : Hp} (sm : SimH G ι s H) {x y : D} {b : Bool} (h : gEqB s x y = some b) {v w : V} (rv : Rep G.K ι H v x) (rw : Rep G.K ι H w y) {Q : VK} (q : Q (.bl b) H) : rEqAll G.K v w H Q := by
  rcases dp_eq sm h rv rw with ⟨h1, h2⟩ | ⟨p, q', h1, h2, h3, h4, h5⟩
  · exact .inl ⟨h1, by rw [h2]; exact q⟩
  · exact .inr ⟨p, q', h1, h2, h3, h4, by rw [h5]; exact q⟩
section
variable {G : Gx} {W : WX} {X : Cx} {p : Pattern} {ps : List Pattern} {m : MPm} {ms : MPms} {pos p2 : Pos}
/-- a text compared with the subject: the answer, the state as it was but for tokens -/
theorem lit_run (hK : X.K = G.K) (hu : X.A.units + 64 < cLine) {z : Str} {j : Nat} {pins : List (Addr × Obj)} {s : Shared} {σ : L2.St} {H : Hp} {ι : List Addr} {st : Mem} {v : V} {u : Value} {d : D} {b : Bool} {Q : Option (List (Str × Value)) → Shared → Prop} (I : Inv X pins σ H s) (sm : SimH G ι st H) (rv : RelV v u) (rd : Rep G.K ι H v d) (q : gEqB st d (.str z) = some b)
    (k : ∀ s', Inv X pins σ H s' → if b = true then Q (some []) s' else Q none s') : wpAny (model X.prog X.w) X.A (matchPattern (.MatchValue (.Constant (.str z) j p2) pos) X.env u) Q X.xe s := by
  refine wpAny_matchPattern_Value (Calls.Constant_str ?_)
  have h := eq_read (Q := fun x H' => x = .bl b ∧ H' = H) sm q rd (.str z) ⟨rfl, rfl⟩
  rw [← hK] at h
  refine thn (o_eq hu pins _ σ H v (.str z) u (.str z s.toks) _ (I.tok _) rv ⟨_, rfl⟩ h) fun c s2 ⟨x, H2, I2, r2, e2, e3⟩ => ?_
  subst e2
  subst e3
  cases r2
  refine wpAny_truthy_bool ?_
  exact k s2 I2
theorem mp_lit (hK : X.K = G.K) (hu : X.A.units + 64 < cLine) {z : Str} {j : Nat} : MPat G X (.MatchValue (.Constant (.str z) j p2) pos) (mpLit z) := by
  refine ⟨fun pins s σ H ι st v u d r Q I sm rv rd hm k => ?_⟩
  unfold mpLit at hm
  cases q : gEqB st d (.str z) with
  | none => rw [q] at hm; cases hm
  | some b =>
    rw [q] at hm
    refine lit_run hK hu I sm rv rd q fun s' I' => ?_
    cases b with
    | true => cases hm; rw [if_pos rfl]; exact k s' (some []) I' .nil
    | false => cases hm; rw [if_neg Bool.false_ne_true]; exact k s' none I' trivial
theorem mp_cap {i : Nat} {x : Str} (hi : X.N[i]? = some x) (hx : L2.Loc X.env.scope x) (hf : X.fn x = true ∨ X.env.scope.names.lookup x = some .local := by first | exact .inl rfl | exact .inr rfl) : MPat G X (.MatchAs none (some x) pos) (mpCap i) :=
  ⟨fun pins s σ H ι st v u d r Q I sm rv rd hm k => by
    cases hm
    exact wpAny_matchPattern_Capture (k s (some [(x, u)]) I (.cons ⟨hi, hx, hf, v, rv, rd⟩ .nil))⟩
theorem mp_wild : MPat G X (.MatchAs none none pos) mpWild :=
  ⟨fun pins s σ H ι st v u d r Q I sm rv rd hm k => by
    cases hm
    exact wpAny_matchPattern_Capture (k s (some []) I .nil)⟩
/-- one of some texts -/
structure MFirst (G : Gx) (X : Cx) (ps : List Pattern) (zs : List Str) : Prop where
  run : ∀ (pins : List (Addr × Obj)) (s : Shared) (σ : L2.St) (H : Hp) (ι : List Addr) (st : Mem) (v : V) (u : Value) (d : D) (r : Option (List (Nat × D))) (Q : Option (List (Str × Value)) → Shared → Prop), Inv X pins σ H s → SimH G ι st H → RelV v u → Rep G.K ι H v d → mpOr zs st d = some r →
    (∀ s', Inv X pins σ H s' → (r = none → Q none s') ∧ (r = some [] → Q (some []) s')) → wpAny (model X.prog X.w) X.A (matchFirst ps X.env u) Q X.xe s
theorem mf_nil : MFirst G X [] [] := ⟨fun pins s σ H ι st v u d r Q I sm rv rd hm k => by cases hm; exact wpAny_matchFirst_nil ((k s I).1 rfl)⟩
theorem mf_cons (hK : X.K = G.K) (hu : X.A.units + 64 < cLine) {z : Str} {zs : List Str} {j : Nat} (h : MFirst G X ps zs) : MFirst G X (.MatchValue (.Constant (.str z) j p2) pos :: ps) (z :: zs) := by
  refine ⟨fun pins s σ H ι st v u d r Q I sm rv rd hm k => ?_⟩
  unfold mpOr at hm
  cases q : gEqB st d (.str z) with
  | none => rw [q] at hm; cases hm
  | some b =>
    rw [q] at hm
    refine wpAny_matchFirst_cons (lit_run hK hu I sm rv rd q fun s' I' => ?_)
    cases b with
    | true => cases hm; rw [if_pos rfl]; exact (k s' I').2 rfl
    | false => rw [if_neg Bool.false_ne_true]; exact h.run pins s' σ H ι st v u d r Q I' sm rv rd hm k
theorem mpOr_is {zs : List Str} {st : Mem} {d : D} {r : Option (List (Nat × D))} (h : mpOr zs st d = some r) : r = none ∨ r = some [] := by
  induction zs with
  | nil => cases h; exact .inl rfl
  | cons z zs ih =>
    unfold mpOr at h
    split at h
    · cases h; exact .inr rfl
    · exact ih h
    · cases h
theorem mp_or {zs : List Str} (h : MFirst G X ps zs) (hn : namesOfAll (ps.take 1) = [] := by rfl) : MPat G X (.MatchOr ps pos) (mpOr zs) :=
  ⟨fun pins s σ H ι st v u d r Q I sm rv rd hm k => by
    refine wpAny_matchPattern_Or (h.run pins s σ H ι st v u d r _ I sm rv rd hm fun s' I' => ⟨fun e => ?_, fun e => ?_⟩)
    · subst e; exact k s' none I' trivial
    · subst e
      show Q (some ((namesOfAll (ps.take 1)).filterMap _)) s'
      rw [hn]
      exact k s' (some []) I' .nil⟩
theorem mps_nil : MPats G X [] mpNil := ⟨fun pins s σ H ι st vs us ds r Q I sm rv rd hm k => by
  cases hm
  have e : matchEach [] X.env us = pure (some []) := by cases us <;> rfl
  rw [e]
  exact wpAny_pure (k s (some []) I .nil)⟩
theorem Bnd.append {ι : List Addr} {H : Hp} : ∀ {a b : List (Str × Value)} {a' b' : List (Nat × D)}, Bnd G X ι H a a' → Bnd G X ι H b b' → Bnd G X ι H (a ++ b) (a' ++ b')
  | _, _, _, _, .nil, h => h
  | _, _, _, _, .cons r t, h => .cons r (Bnd.append t h)
theorem mps_cons (hns : p.isStar = false) (h1 : MPat G X p m) (h2 : MPats G X ps ms) : MPats G X (p :: ps) (mpCons m ms) := by
  refine ⟨fun pins s σ H ι st vs us ds r Q I sm rv rd hm k => ?_⟩
  cases rd with
  | nil =>
    cases hm
    cases rv
    have e : matchEach (p :: ps) X.env [] = pure (some []) := by cases p <;> rfl
    rw [e]
    exact wpAny_pure (k s (some []) I .nil)
  | @cons v vs d ds rd rds =>
    cases rv with
    | cons rv rvs =>
      rename_i u us
      simp only [mpCons] at hm
      have e : matchEach (p :: ps) X.env (u :: us) = (do
          match ← holding (u :: us) (matchPattern p X.env u) with
          | none => pure none
          | some bs =>
            match ← holding (bs.map (·.2)) (matchEach ps X.env us) with
            | none => pure none
            | some more => pure (some (bs ++ more))) := by
        cases p <;> first | rfl | cases hns
      rw [e]
      cases q : m st d with
      | none => rw [q] at hm; cases hm
      | some r1 =>
        rw [q] at hm
        refine wpAny_bind (wpAny_holding (h1.run pins s σ H ι st v u d r1 _ I sm rv rd q fun s1 r1' I1 hb => ?_))
        cases r1 with
        | none =>
          cases hm
          cases r1' with
          | none => exact wpAny_pure (k s1 none I1 trivial)
          | some _ => exact hb.elim
        | some bs =>
          cases r1' with
          | none => exact hb.elim
          | some bs' =>
            dsimp only at hm ⊢
            cases q2 : ms st ds with
            | none => rw [q2] at hm; cases hm
            | some r2 =>
              rw [q2] at hm
              refine wpAny_bind (wpAny_holding (h2.run pins s1 σ H ι st vs us ds r2 _ I1 sm rvs rds q2 fun s2 r2' I2 hb2 => ?_))
              cases r2 with
              | none =>
                cases hm
                cases r2' with
                | none => exact wpAny_pure (k s2 none I2 trivial)
                | some _ => exact hb2.elim
              | some more =>
                cases hm
                cases r2' with
                | none => exact hb2.elim
                | some more' => exact wpAny_pure (k s2 (some (bs' ++ more')) I2 (Bnd.append hb hb2))
theorem mp_seq {n : Nat} (hK : X.K = G.K) (hc : X.calm = true) (h : MPats G X ps ms) (hn : ps.length = n := by rfl) (hstar : ps.findIdx? (·.isStar) = none := by rfl) (hwild : (ps.all fun p => p.isWildcard || (p.isStar && p.names.isEmpty)) = false := by rfl) : MPat G X (.MatchSequence ps pos) (mpSeq n ms) := by
  refine ⟨fun pins s σ H ι st v u d r Q I sm rv rd hm k => ?_⟩
  cases rd with
  | @tup a vs ds h1 h2 =>
    cases rv
    simp only [mpSeq] at hm
    obtain ⟨its, rv, ht, hz⟩ := I.tuple (by rw [hK]; exact h1)
    have hsz : its.toArray.size = ds.length := by rw [List.size_toArray, ← rv.length, h2.length]
    have hfit : (its.toArray.size : Int) < 2 ^ 63 := by
      have : vs.length ≤ 16777216 := by rw [← sizeLine_eq]; exact hz
      rw [hsz, ← h2.length]; omega
    by_cases hl : ds.length = n
    · rw [if_pos hl] at hm
      refine PyProof.Rows.matchSeq_tuple_hit ht hfit (by rw [hsz, hl, hn]) ?_ hstar hwild
      rw [show ps.length = its.toArray.size by rw [hsz, hl, hn]]
      refine unpackItems_tuple (I.ok.hd hc) ht fun h' hx => ?_
      have I3 : Inv X pins σ H { s with heap := h', toks := s.toks + 1 + 1 } := I.kept fun b o e => hx b o (Nat.ne_of_lt (Heap.lt_size e)) e
      exact h.run pins _ σ H ι st vs its ds r Q I3 sm rv h2 hm k
    · rw [if_neg hl] at hm
      cases hm
      exact PyProof.Rows.matchSeq_tuple_miss ht hfit (by rw [hsz, hn]; exact hl) (k _ none (I.tok _) trivial) hstar hwild
  | _ => cases hm
end
/-- the bound names' slots -/
def setAll (bs : List (Nat × D)) (l : Loc) : Loc := bs.foldl (fun l p => l.set p.1 (some p.2)) l
def mCases : List (MPm × SM) → D → SM
  | [], _, l, s => .nx l s
  | (mp, b) :: r, d, l, s => match mp s d with
    | none => .no
    | some none => mCases r d l s
    | some (some bs) => b (setAll bs l) s
def mMatch (me : EM) (cs : List (MPm × SM)) : SM := fun l s => (me l s).toS l fun d s1 => mCases cs d l s1
structure MCs (G : Gx) (W : WX) (X : Cx) (cases : List MatchCase) (cs : List (MPm × SM)) : Prop where
  run : ∀ (pins : List (Addr × Obj)) (s : Shared) (σ : L2.St) (H : Hp) (En : Ends) (ι : List Addr) (l : Loc) (st : Mem) (v : V) (u : Value) (d : D) (first : Bool), Inv X pins σ H s → SimH G ι st H → Slots G.K ι H l σ → RelV v u → Rep G.K ι H v d → FinS G W ι H (mCases cs d l st) En →
    wpAny (model X.prog X.w) X.A (matchCases cases X.env u first) (fun f s' => SP X pins En f s') X.xe s
section
variable {G : Gx} {W : WX} {X : Cx} {p : Pattern} {m : MPm} {pos : Pos}
theorem bnd_assign {pins : List (Addr × Obj)} {H : Hp} {ι : List Addr} {E : Value → Shared → Prop} (hN : X.N.Nodup) : ∀ {bs' : List (Str × Value)} {bs : List (Nat × D)} {s : Shared} {σ : L2.St} {l : Loc} {Q : Unit → Shared → Prop}, Bnd G X ι H bs' bs → Inv X pins σ H s → Slots G.K ι H l σ →
    (∀ s' σ', Inv X pins σ' H s' → Slots G.K ι H (setAll bs l) σ' → Q () s') → wpAny (model X.prog X.w) X.A (assignInOrder (bs'.map fun (n, _) => bindName X.env n) (bs'.map (·.2))) Q E s
  | _, _, s, σ, l, Q, .nil, I, sl, k => wpAny_assignInOrder_none (k s σ I sl)
  | _, _, s, σ, l, Q, .cons (a := a) (b := b) r t, I, sl, k => by
    obtain ⟨h1, h2, h3, v, h4, h5⟩ := r
    exact wpAny_assignInOrder_more (wpAny_bindName (store_ok I hN h1 h2 h4 (fun s' I' => bnd_assign hN t I' (sl.set b.1 h5) k) h3))
theorem mcs_nil : MCs G W X [] [] := ⟨fun pins s σ H En ι l st v u d first I sm sl rv rd f => wpAny_matchCases_nil ⟨σ, H, I, f ι σ H .refl sm sl⟩⟩
theorem mcs_cons {body : List Stmt} {rest : List MatchCase} {mb : SM} {cs : List (MPm × SM)} (hN : X.N.Nodup) (hp : MPat G X p m) (hb : PSs X body (dS G W mb)) (hr : MCs G W X rest cs) : MCs G W X (⟨p, none, body⟩ :: rest) ((m, mb) :: cs) := by
  refine ⟨fun pins s σ H En ι l st v u d first I sm sl rv rd f => ?_⟩
  simp only [mCases] at f
  cases q : m st d with
  | none => rw [q] at f; exact f.elim
  | some r =>
    rw [q] at f
    refine wpAny_matchCases_cons (hp.run pins s σ H ι st v u d r _ I sm rv rd q fun s1 r1 I1 hbd => ?_)
    cases r with
    | none =>
      cases r1 with
      | none => exact hr.run pins s1 σ H En ι l st v u d false I1 sm sl rv rd f
      | some _ => exact hbd.elim
    | some bs =>
      cases r1 with
      | none => exact hbd.elim
      | some bs' => exact bnd_assign hN hbd I1 sl fun s2 σ2 I2 sl2 => hb.run pins s2 σ2 H En I2 ⟨ι, _, st, sm, sl2, f⟩
theorem sm_match {e : Expr} {me : EM} {cases : List MatchCase} {cs : List (MPm × SM)} (he : PE X e (dE G W me)) (hc : MCs G W X cases cs) : PS X (.Match e cases pos) (dS G W (mMatch me cs)) := by
  refine ⟨fun pins s σ H En I h => ?_⟩
  obtain ⟨ι, l, st, sm, sl, f⟩ := h
  refine wpAny_Match (thn (he.run pins s σ H (fun v H1 => ∃ d ι1 st1, Stp G.K ι H ι1 H1 ∧ SimH G ι1 st1 H1 ∧ Rep G.K ι1 H1 v d ∧ FinS G W ι1 H1 (mCases cs d l st1) En) I ⟨ι, l, st, sm, sl, f.toS sl fun d s1 ι1 v H1 st1 sm1 r1 f1 => ⟨d, ι1, s1, st1, sm1, r1, f1⟩⟩) fun u s1 ⟨v, H1, I1, rv, d, ι1, st1, stp, sm1, rd, f1⟩ => ?_)
  exact hc.run pins s1 σ H1 En ι1 l st1 v u d true I1 sm1 (sl.mono stp) rv rd f1
end
end Core

set_option Elab.async false
set_option linter.all false
set_option maxRecDepth 100000
set_option maxHeartbeats 4000000
/-! Core: a def by its body; what the top has left -/
namespace Core
open PySem PySem.Spec PyProof.Rows L2

def fin (r : RS) : R D := match r with
  | .nx _ s => .ok .non s
  | .rt d s => .ok d s
  | .err c _ s => .err c s
  | _ => .no
def startL (n : Nat) (ds : List D) : Loc := ds.map some ++ List.replicate (n - ds.length) none
theorem slots_start {K : PySem.W.Frag} {ι : List Addr} {H : Hp} {N : List Str} : ∀ {vs : List V} {ds : List D}, Reps K ι H vs ds → Slots K ι H (startL N.length ds) (L2.start N vs) := by
  intro vs ds r
  unfold startL L2.start
  rw [r.length]
  refine ⟨by simp [r.length], fun i d e => ?_⟩
  by_cases hi : i < ds.length
  · rw [List.getElem?_append_left (by simpa using hi), List.getElem?_map] at e
    cases q : ds[i]? with
    | none => rw [q] at e; cases e
    | some d' =>
      rw [q] at e
      cases e
      obtain ⟨v, h1, h2⟩ := r.get q
      exact ⟨v, by rw [List.getElem?_append_left (by rw [List.length_map, r.length]; exact hi), List.getElem?_map, h1]; rfl, h2⟩
  · rw [List.getElem?_append_right (by simpa using hi), List.getElem?_replicate] at e
    split at e <;> cases e
/-- a def's meaning: so many arguments, so many slots, its body -/
def defM (n sl : Nat) (m : SM) : List D → Mem → R D := fun ds s => if ds.length = n then Core.fin (m (startL sl ds) s) else .no
section
variable {P : Program} {w : World} {K : PySem.W.Frag} {mg : Str → Option Value} {base : Heap} {G : Gx} {x qual : Str} {st : Stmt} {f : Addr} {fd : FuncData} {N ps : List Str} {n k : Nat} {m : SM}
theorem def_ok (F : FunD K x qual (defArgs st) (defBody st) (defScope st) [] [] f fd) (S : FnScope N ps (defScope st)) (hl : ps.length = n)
    (hb : ∀ (cdv : Value) (A : Around) (outer : List Env) (s : Shared) (H : Hp) (E : XK), (∃ oc od osl, K.lookup f = some ⟨oc, od, .func fd, osl⟩ ∧ fd.code = cdv ∧ PySem.W.codeIn K cdv qual = true) → Room k (A.deeper (envOfC qual (defScope st) s.heap.objs.size f cdv)) →
      Takes (cxOf (L2.CX P w) P w K mg base N qual (defScope st) f cdv A outer s H E) (fun cls d _ H => E cls d H) → PassesOwn (model P w) (A.deeper (envOfC qual (defScope st) s.heap.objs.size f cdv)) (envOfC qual (defScope st) s.heap.objs.size f cdv) (cxOf (L2.CX P w) P w K mg base N qual (defScope st) f cdv A outer s H E).xe →
      PSs (cxOf (L2.CX P w) P w K mg base N qual (defScope st) f cdv A outer s H E) (defBody st) (dS G (fun cls d _ H => E cls d H) m)) :
    FnOk P w K mg base (L2.CX P w) (k + 1) f fd ps (spOf G n (defM n N.length m)) := by
  obtain ⟨oc, od, dV, kV, doc, pm, an, cdv, ct, osl, rfl, lk, hcd, _, _⟩ := F.ex
  refine fn_of lk hcd S (fun vs H Q E h => (spOf_len vs H Q E h).trans hl.symm) fun A outer s H vs Q E hr hsp => ⟨_, hb cdv A outer s H E ⟨oc, od, osl, lk, rfl, hcd⟩ hr (takes_of rfl rfl rfl rfl) (passes_of rfl), ?_⟩
  obtain ⟨ι, s0, ds, sm, r, hlen, h⟩ := hsp
  refine ⟨ι, startL N.length ds, s0, sm, slots_start r, ?_⟩
  unfold defM at h
  rw [if_pos hlen] at h
  cases q : m (startL N.length ds) s0 with
  | nx l s1 => simp only [q, Core.fin] at h; exact fun ι' σ' H' st' sm' sl' => h ι' _ H' st' sm' .non
  | rt d s1 => simp only [q, Core.fin] at h; exact h
  | err c l s1 => simp only [q, Core.fin] at h; exact fun ι' σ' H' st' sm' sl' => h ι' H' st' sm'
  | bk l s1 => simp only [q, Core.fin] at h
  | ct l s1 => simp only [q, Core.fin] at h
  | no => simp only [q, Core.fin] at h
theorem no_ok {c : List D → Mem → R D} (hc : ∀ ds s, c ds s = .no) (hl : ps.length = n) {CX : CXT} {fd : FuncData} {f : Addr} : FnOk P w K mg base CX k f fd ps (spOf G n c) :=
  ⟨fun vs H Q E h => (spOf_len vs H Q E h).trans hl.symm, fun A outer s H args us vs Q E hr he hb hv hs => by
    obtain ⟨ι, s0, ds, sm, r, hlen, h⟩ := hs
    rw [hc] at h
    exact h.elim⟩
end
/-- a def that may be called: its promise, that it may be kept, how its arguments are bound -/
def CallOk (P : Program) (w : World) (K : PySem.W.Frag) (mg : Str → Option Value) (base : Heap) (G : Gx) (k : Nat) (f : Addr) (ps : List Str) (n : Nat) (c : List D → Mem → R D) : Prop :=
  ∃ fd, FnOk P w K mg base (L2.CX P w) k f fd ps (spOf G n c) ∧ PySem.W.keepIn K (.ref f) = true ∧ Binds K fd ps []
section
variable {G : Gx} {W : WX} {X : Cx} {k : Nat} {f : Addr} {ps : List Str} {n : Nat} {c : List D → Mem → R D} {x m cl : Str} {p pos apos : Pos} {e o : Expr} {es : List Expr} {mo : EM} {mA : AM}
theorem em_callE (F : CallOk X.prog X.w X.K X.mg X.base G k f ps n c) (hr : Room k X.A) (tk : Takes X W) (hg : Gl X x) (hm : X.mg x = some (.ref f))
    (ha : PA X (e :: es) (dA G W mA)) (hdb : (x == ("__debug__" : Str)) = false := by decide) (he : starEach (e :: es) X.env = (false, eval e X.env) :: starEach es X.env := by rfl) (hpl : (backTo pos (starEach es X.env)).any (·.1) = false := by rfl) :
    PE X (.Call (.Name x p) (e :: es) [] pos) (dE G W (mCall n c mA)) := let ⟨_, F1, hk, hb⟩ := F; em_call F1 hr tk hg hm hk hb ha hdb he hpl
theorem em_call0E (F : CallOk X.prog X.w X.K X.mg X.base G k f ps n c) (hr : Room k X.A) (tk : Takes X W) (hg : Gl X x) (hm : X.mg x = some (.ref f)) (hn : n = 0)
    (hdb : (x == ("__debug__" : Str)) = false := by decide) : PE X (.Call (.Name x p) [] [] pos) (dE G W (mCall n c mNil)) := let ⟨_, F1, hk, hb⟩ := F; em_call0 F1 hr tk hg hm hk hb hn hdb
theorem em_methE {pl : Sem Bool} (F : CallOk X.prog X.w X.K X.mg X.base G k f ps n c) (hK : X.K = G.K) (ho : PE X o (dE G W mo)) (cC : Cls G.K (G.cls cl)) (hm : Meth G.K (G.cls cl) m f) (hr : Room k X.A) (tk : Takes X W)
    (ha : PA X (e :: es) (dA G W mA)) (hst : starEach (e :: es) X.env = (false, eval e X.env) :: starEach es X.env := by rfl) (hpl : (backTo pos (starEach es X.env)).any (·.1) = false := by rfl)
    (ht : eval (.Call (.Attribute o m apos) (e :: es) [] pos) X.env = (do
      let ov ← eval o X.env
      standAt apos.atName
      let (f, first) ← holding [ov] (getMethod ov m pl)
      callWith pos f first (backTo pos (starEach (e :: es) X.env)) (backToKw pos (keywordEach [] X.env))) := by rfl) :
    PE X (.Call (.Attribute o m apos) (e :: es) [] pos) (dE G W (mMethC cl m n c mo mA)) := let ⟨_, F1, hk, hb⟩ := F; em_meth hK ho cC hm F1 hr tk hb ha hst hpl ht
theorem em_meth0E {pl : Sem Bool} (F : CallOk X.prog X.w X.K X.mg X.base G k f ps n c) (hK : X.K = G.K) (ho : PE X o (dE G W mo)) (cC : Cls G.K (G.cls cl)) (hm : Meth G.K (G.cls cl) m f) (hr : Room k X.A) (tk : Takes X W) (hn : n = 1)
    (ht : eval (.Call (.Attribute o m apos) [] [] pos) X.env = (do
      let ov ← eval o X.env
      standAt apos.atName
      let (f, first) ← holding [ov] (getMethod ov m pl)
      callWith pos f first (backTo pos (starEach [] X.env)) (backToKw pos (keywordEach [] X.env))) := by rfl) :
    PE X (.Call (.Attribute o m apos) [] [] pos) (dE G W (mMethC cl m n c mo mNil)) := let ⟨_, F1, hk, hb⟩ := F; em_meth0 hK ho cC hm F1 hr tk hb hn ht
theorem em_makeE (F : CallOk X.prog X.w X.K X.mg X.base G k f ps n c) (hK : X.K = G.K) (M : Mk G.K (G.cls cl) f) (hr : Room (k + 1) X.A) (tk : Takes X W) (hg : Gl X x) (hm : X.mg x = some (.ref (G.cls cl)))
    (ha : PA X (e :: es) (dA G W mA)) (hdb : (x == ("__debug__" : Str)) = false := by decide) (he : starEach (e :: es) X.env = (false, eval e X.env) :: starEach es X.env := by rfl) (hpl : (backTo pos (starEach es X.env)).any (·.1) = false := by rfl) :
    PE X (.Call (.Name x p) (e :: es) [] pos) (dE G W (mMake cl n c mA)) := let ⟨_, F1, hk, hb⟩ := F; em_make hK M F1 hr tk hg hm hb ha hdb he hpl
theorem sm_break : PS X (.Break pos) (dS G W fun l s => .bk l s) := PS.imp ps_break fun D σ H ⟨ι, l, s, sm, sl, f⟩ => f ι σ H .refl sm sl
theorem sm_continue : PS X (.Continue pos) (dS G W fun l s => .ct l s) := PS.imp ps_continue fun D σ H ⟨ι, l, s, sm, sl, f⟩ => f ι σ H .refl sm sl
theorem s_ipI {g : Int → Int → Int} : OpS2 G (ipI g) (gI2 fun i j => .int (g i j)) := by
  intro W σ ι s H v w x y Q sm rv rw f
  cases rv with
  | int i => cases rw with
    | int j => exact ⟨i, j, rfl, rfl, f.here sm (.int _)⟩
    | _ => exact f.elim
  | _ => exact f.elim
/-- o.f op= e -/
theorem sm_fldaug {op : Operator} {rd : V → V → Hp → VK → Prop} {g : D → D → Mem → R D} {value : Expr} {f : Str} {tpos : Pos} {cs : List Str} {mv : EM} (hK : X.K = G.K) (hF : FldOk G cs f) (ho : PE X o (dE G W mo)) (hv : PE X value (dE G W mv)) (hop : InOp X op rd) (hg : OpS2 G rd g) :
    PS X (.AugAssign (.Attribute o f tpos) op value pos) (dS G W (mAugF cs f g mo mv)) :=
  PS.imp (ps_fldaug ho hv hop) fun D σ H ⟨ι, l, s, sm, sl, f0⟩ => ⟨ι, l, s, sm, sl, f0.toS sl fun x s1 ι1 v H1 st1 sm1 r1 f1 => by
    cases r1 with
    | @ref a n h1 =>
      simp only [gFld] at f1
      split at f1
      · rename_i c fs q
        by_cases hc : c ∈ cs
        · rw [if_pos hc] at f1
          cases q2 : fs.lookup f with
          | none => simp only [q2] at f1; exact f1.elim
          | some d =>
            simp only [q2, R.toS] at f1
            obtain ⟨dx, ws, k1, k2⟩ := sm1.ob n a _ h1 q
            obtain ⟨w, k3, k4⟩ := k2.lookup q2
            obtain ⟨c1, c2⟩ := hF c hc
            refine ⟨a, G.cls c, dx, ws, w, rfl, k1, by rw [hK]; exact c1, by rw [hK]; exact c2, k3, ι1, l, s1, sm1, sl.mono st1, FinS.toS f1 (sl.mono st1) fun y s2 ι2 u H2 st2 sm2 r2 f2 => ?_⟩
            refine hg W σ ι2 s2 H2 w u d y _ sm2 (k4.mono st2) r2 (f2.toS ((sl.mono st1).mono st2) fun z s3 ι3 t H3 st3 sm3 r3 f3 => ?_)
            have h3 := st3.pre _ _ (st2.pre _ _ h1)
            split at f3
            · rename_i c' fs' q3
              by_cases hc' : c' ∈ cs ∧ fs'.length < 900 ∧ clsAt s1 n = some c'
              · rw [if_pos hc'] at f3
                obtain ⟨h4, h5, h6⟩ := hc'
                have e : c = c' := by unfold clsAt at h6; rw [q] at h6; exact Option.some.inj h6
                subst e
                obtain ⟨dx', ws', j1, j2⟩ := sm3.ob n a _ h3 q3
                refine ⟨dx', ws', j1, by rw [j2.length]; omega, ?_⟩
                have nt : NoTup (upd H3 a (.ins (G.cls c) dx' (putF f t ws'))) a := NoTup.of upd_same (fun _ e => by cases e) (fun _ _ e => by cases e)
                obtain ⟨w1, w2⟩ := sm3.write (o' := .ins c (putD f z fs')) (u := .ins (G.cls c) dx' (putF f t ws')) h3 q3 rfl rfl (fun _ => ⟨dx', _, upd_same, (j2.put r3).mono (Stp.mut (NoTup.of j1 (fun _ e => by cases e) (fun _ _ e => by cases e)))⟩) nt
                exact f3 ι3 σ _ w2 w1 ((((sl.mono st1).mono st2).mono st3).mono w2)
              · rw [if_neg hc'] at f3; exact f3.elim
            · exact f3.elim
        · rw [if_neg hc] at f1; exact f1.elim
      · exact f1.elim
    | _ => exact f1.elim⟩
end
/-- what the top has left: the facts, the functions, where the names stand -/
structure Top (K : PySem.W.Frag) (mg : Str → Option Value) (fa : List He.Fa) (fn : List He.DefD) : Prop where
  says : He.SaysD fa fn K
  ns : ∃ h : Heap, K.In h ∧ h.Ns mainGlobals mg
section
variable {K : PySem.W.Frag} {mg : Str → Option Value} {fa : List He.Fa} {fn : List He.DefD}
theorem Top.glo (T : Top K mg fa fn) (i : Nat) {x : Str} (h : fa[i]? = some (.glo x)) : mg x = some (.ref (He.ga K x)) := let ⟨_, X, g⟩ := T.ns; He.glo_ok X g (T.says.fact i h)
theorem Top.free (T : Top K mg fa fn) (i : Nat) {x : Str} (h : fa[i]? = some (.free x)) : mg x = none := let ⟨_, X, g⟩ := T.ns; He.free_ok X g (T.says.fact i h)
theorem Top.int (T : Top K mg fa fn) (i : Nat) {x : Str} {z : Int} (h : fa[i]? = some (.int x z)) : ∃ t, mg x = some (.int z t) := let ⟨_, X, g⟩ := T.ns; He.int_ok X g (T.says.fact i h)
theorem Top.cls (T : Top K mg fa fn) (i : Nat) {x : Str} (h : fa[i]? = some (.cls x)) : Cls K (He.ga K x) := He.cls_ok (T.says.fact i h)
theorem Top.noat (T : Top K mg fa fn) (i : Nat) {x f : Str} (h : fa[i]? = some (.noat x f)) : NoAttr K (He.ga K x) f := He.noat_ok (T.says.fact i h)
theorem Top.meth (T : Top K mg fa fn) (i : Nat) {x m : Str} (h : fa[i]? = some (.meth x m)) : Meth K (He.ga K x) m (He.ma K (He.ga K x) m) := He.meth_ok (T.says.fact i h)
theorem Top.mkr (T : Top K mg fa fn) (i : Nat) {x : Str} (h : fa[i]? = some (.mkr x)) : Mk K (He.ga K x) (He.ma K (He.ga K x) "__init__") := He.mkr_ok (T.says.fact i h)
theorem Top.exc (T : Top K mg fa fn) (i : Nat) {x : Str} (h : fa[i]? = some (.exc x)) : ExcOk K (He.ga K x) := let ⟨a, b, c, d⟩ := He.exc_ok (T.says.fact i h); ⟨a, b, c, d⟩
theorem Top.exm (T : Top K mg fa fn) (i : Nat) {x y : Str} {b : Bool} (h : fa[i]? = some (.exm x y b)) : PySem.W.exmOne K (.ref (He.ga K x)) (.ref (He.ga K y)) = some b := He.exm_ok (T.says.fact i h)
theorem Top.keep (T : Top K mg fa fn) (i : Nat) {x : Str} (h : fa[i]? = some (.keep x)) : PySem.W.keepIn K (.ref (He.ga K x)) = true := He.keep_ok (T.says.fact i h)
end
end Core

set_option Elab.async false
set_option linter.all false
set_option maxRecDepth 100000
set_option maxHeartbeats 4000000
/-! Core: the number of the different ones among texts -/
namespace Core
open PySem PySem.Spec PyProof.Rows L2

def addS (l : List Str) (x : Str) : List Str := if l.any (· == x) then l else l ++ [x]
def metS (xs : List Str) : List Str := xs.foldl addS []
theorem metS_snoc (xs : List Str) (x : Str) : metS (xs ++ [x]) = addS (metS xs) x := by unfold metS; rw [List.foldl_append]; rfl
theorem addS_any (l : List Str) (x k : Str) : (addS l x).any (· == k) = (l.any (· == k) || decide (k = x)) := by
  unfold addS
  by_cases h : l.any (· == x) = true
  · rw [if_pos h]
    by_cases e : k = x
    · subst e; rw [h]; simp
    · simp [e]
  · rw [if_neg h, List.any_append]
    by_cases e : k = x
    · subst e; simp
    · have hb : (x == k) = false := beq_eq_false_iff_ne.mpr fun h' => e h'.symm
      simp [hb, e]
theorem addS_len (l : List Str) (x : Str) : (addS l x).length = if l.any (· == x) then l.length else l.length + 1 := by unfold addS; split <;> simp
theorem metS_le (xs : List Str) : ∀ l : List Str, (xs.foldl addS l).length ≤ l.length + xs.length := by
  induction xs with
  | nil => intro l; exact Nat.le_refl _
  | cons x r ih =>
    intro l
    have h := ih (addS l x)
    have e : (addS l x).length ≤ l.length + 1 := by rw [addS_len]; split <;> omega
    simp only [List.foldl_cons, List.length_cons]
    omega
section
variable {P : Program} {w : World} {A : Around} {R : Result → Shared → Prop} {I : Addr} {fp wr : List Addr} {G : Array GenState → Array GenState → Prop} {n : Nat} {Pv : Nat → Value → Prop} {St : Nat → Shared → Prop}
theorem setLoop (W : WalksS P w A.in1 I fp wr G n Pv St) (S : Addr) (hSf : S ∉ fp) (xs : List Str) (hsz : xs.length = n) (hb : n + 1 < scanBound) (hval : ∀ i v, Pv i v → ∃ t, v = .str (xs.getD i Str.empty) t) :
    ∀ (k i : Nat) (s : Shared), i + k = n → St i s → s.heap.SetOf (PySem.strKind P w) S (fun z => (metS (xs.take i)).any (· == z)) (metS (xs.take i)).length →
      (∀ s', Moved (S :: wr) G s s' → s'.heap.SetOf (PySem.strKind P w) S (fun z => (metS xs).any (· == z)) (metS xs).length → R (.ok (.ret .none)) s') →
      codeAny (model P w) A (.builtin "set.update.loop" ⟨[.ref S, .ref I], []⟩) R s
  | 0, i, s, hk, hst, hS, hR => by
    have hi : i = n := hk
    subst hi
    have hSw : S ∉ wr := fun h => hSf (W.sub _ h)
    rw [← hsz, List.take_length] at hS
    refine codeAny_builtin PyProof.Rows.F.entry_set_update_loop ?_
    rw [Around.under_plainId PyProof.Rows.F.plain_set_update_loop _]
    refine wpAny_bind (m := pyNext (.ref I)) (W.done s _ _ hst fun s' hm => ?_)
    have hm' : Moved (S :: wr) G s s' := hm.mono fun b q => List.mem_cons_of_mem _ q
    show wpAny _ A.in1 (ret Value.none) _ _ s'
    exact wpAny_pure (hR s' hm' (let ⟨o, es, ep, t, ho, rest⟩ := hS; ⟨o, es, ep, t, hm.heap S _ hSw ho, rest⟩))
  | k + 1, i, s, hk, hst, hS, hR => by
    have hlt : i < n := by omega
    have hSw : S ∉ wr := fun h => hSf (W.sub _ h)
    refine codeAny_builtin PyProof.Rows.F.entry_set_update_loop ?_
    rw [Around.under_plainId PyProof.Rows.F.plain_set_update_loop _]
    refine wpAny_bind (m := pyNext (.ref I)) (W.item i s _ _ hlt hst fun v s' hP hst' hm => ?_)
    obtain ⟨t, rfl⟩ := hval i v hP
    have hS1 : s'.heap.SetOf (PySem.strKind P w) S (fun z => (metS (xs.take i)).any (· == z)) (metS (xs.take i)).length := let ⟨o, es, ep, tb, ho, rest⟩ := hS; ⟨o, es, ep, tb, hm.heap S _ hSw ho, rest⟩
    have hil : i < xs.length := by omega
    have hx : xs.getD i Str.empty = xs[i] := by rw [List.getD_eq_getElem?_getD, List.getElem?_eq_getElem hil]; rfl
    have htk : metS (xs.take (i + 1)) = addS (metS (xs.take i)) (xs.getD i Str.empty) := by rw [List.take_succ, List.getElem?_eq_getElem hil, hx]; exact metS_snoc _ _
    have hroom : (metS (xs.take i)).length + 1 < scanBound := by
      have := metS_le (xs.take i) []
      have e : (xs.take i).length = i := by rw [List.length_take]; omega
      unfold metS
      simp only [List.length_nil] at this
      omega
    refine wpAny_bind (m := holding [Value.str (xs.getD i Str.empty) t] (setAdd S (.str (xs.getD i Str.empty) t))) (wpAny_holding ?_)
    unfold setAdd
    refine wpAny_holding (wpAny_bind ((PySem.strKind P w).pyHash (k := xs.getD i Str.empty) (strKind_is _ _ _ _) ?_))
    refine wpAny_setAddHashed_of (knd := PySem.strKind P w) (s := { s' with toks := s'.toks + 1 }) (strKind_is _ _ _ _) rfl hS1 hroom fun h' hsb hS2 => ?_
    have same : ∀ b, b ≠ S → h'.get? b = s'.heap.get? b := fun b q => hsb.2 b q
    have hS3 := SetOf_congr (S' := fun z => (metS (xs.take (i + 1))).any (· == z)) (n' := (metS (xs.take (i + 1))).length) hS2 (fun z => by rw [htk, addS_any]) (by rw [htk, addS_len])
    refine wpAny_pure ⟨plainId_quiet PyProof.Rows.F.plain_set_update_loop _, setLoop W S hSf xs hsz hb hval k (i + 1) _ (by omega) (W.frame _ s' _ _ hst' (Nat.le_succ _) fun b q o e => ?_) hS3 fun s2 hm2 hS4 => hR s2 (Moved.trans W.gtrans ((hm.mono fun b q => List.mem_cons_of_mem _ q).then_heap (Nat.le_succ _) fun b o q e => ?_) hm2) hS4⟩
    · rw [same b fun z => hSf (z ▸ q)]; exact e
    · rw [same b fun z => q (z ▸ List.mem_cons_self)]; exact e
end
section
variable {P : Program} {w : World} {A : Around} {E : Value → Shared → Prop} {s : Shared}
/-- an empty set, new -/
def set0 (led : Bool) : Obj := { cls := .type "set", dict := none, data := .set #[] 0 (.fresh 0 0 led) }
/-- set(xs) of texts in a sequence of the type T, walked by the iterator type IT -/
structure SeqWay (P : Program) (w : World) (T IT : String) : Prop where
  set : isSubtype (.type T) (.type "set") = pure false
  froz : isSubtype (.type T) (.type "frozenset") = pure false
  dict : (Value.type T == Value.type "dict") = false
  way : ∀ {A A' : Around} {E : Value → Shared → Prop} {s : Shared} {l : Addr} {o : Obj} {items : Array Value} {n : Nat} {Q : Value → Shared → Prop}, A'.handled = none → s.heap.get? l = some o → o.cls = .type T → o.data = .seq items n →
    (∀ St : Nat → Shared → Prop, WalksS P w A' s.heap.objs.size [s.heap.objs.size, l] [s.heap.objs.size] (fun a b => b = a) items.size (fun i v => items[i]? = some v) St → St 0 { s with heap := s.heap.push { cls := .type IT, data := .fields #[.ref l, .int 0 0] } } →
      Q (.ref s.heap.objs.size) { s with heap := s.heap.push { cls := .type IT, data := .fields #[.ref l, .int 0 0] } }) → wpAny (model P w) A (pyIter (.ref l)) Q E s
theorem wayL : SeqWay P w "list" "list_iterator" where
  set := PySem.F.sub_list_set
  froz := PySem.F.sub_list_frozenset
  dict := by decide
  way := fun {A A' E s l o items n Q} hh ho hc hd h => by
    have hl : s.heap.IsList l items := ⟨o, ho, hc, n, hd⟩
    have hne : l ≠ s.heap.objs.size := Nat.ne_of_lt (Heap.lt_size ho)
    exact wpAny_pyIter_list hl (h _ ((Walks.list hh _ l hne items).toS) ⟨⟨_, Heap.get?_push_size _ rfl, rfl, rfl⟩, hl.push _⟩)
theorem wayT : SeqWay P w "tuple" "tuple_iterator" where
  set := PySem.F.sub_tuple_set
  froz := PySem.F.sub_tuple_frozenset
  dict := by decide
  way := fun {A A' E s l o items n Q} hh ho hc hd h => by
    have hl : s.heap.IsTuple l items := ⟨o, ho, hc, n, hd⟩
    have hne : l ≠ s.heap.objs.size := Nat.ne_of_lt (Heap.lt_size ho)
    exact wpAny_pyIter_tuple hl (h _ ((Walks.tuple hh _ l hne items).toS) ⟨⟨_, Heap.get?_push_size _ rfl, rfl, rfl⟩, hl.push _⟩)
theorem setSeq {T IT : String} (y : SeqWay P w T IT) {l : Addr} {o : Obj} {items : Array Value} {n : Nat} {xs : List Str} {Q : Value → Shared → Prop} (hh : A.handled = none) (ho : s.heap.get? l = some o) (hc : o.cls = .type T) (hd : o.data = .seq items n)
    (hi : StrsAre items.toList xs) (hb : xs.length + 1 < scanBound)
    (h : ∀ (h' : Heap) (tk : Nat), h'.SetOf (PySem.strKind P w) s.heap.objs.size (fun z => (metS xs).any (· == z)) (metS xs).length → (∀ b o, b < s.heap.objs.size → s.heap.get? b = some o → h'.get? b = some o) →
      Q (.ref s.heap.objs.size) { s with heap := h', toks := tk }) :
    wpAny (model P w) A (call (.type "set") [.ref l]) Q E s := by
  obtain ⟨c, tl, hmro⟩ := PySem.F.called_set.mro
  have made := PySem.F.called_set.made
  have self := PySem.F.called_set.sub
  have notT := PySem.F.called_set.notType
  have can := PySem.F.called_set.canCreate
  have chk := PySem.F.typeCall_set_1 (.ref l)
  have ini := PySem.F.called_set.init.lookup
  have bnd := PySem.F.called_set.init.bind (.ref s.heap.objs.size)
  have ys := y.set
  have yf := y.froz
  have yd := y.dict
  obtain ⟨ocls, odict, odata, oslots⟩ := o
  cases hc
  cases hd
  refine wpAny_call (codeAny_of_tree ?_)
  show wpAny _ _ (callAny (.type "set") _) _ _ _
  refine wpAny_pure ⟨Code.quiet_builtin _ (by decide +kernel), codeAny_builtin PySem.F.entry_type_call ?_⟩
  rw [Around.under_plain (weight_type_call_type "set" [.ref l] []) rfl]
  repeat (any_goals (first | assumption | wp_step))
  have lt : l < s.heap.objs.size := Heap.lt_size ho
  refine codeAny_mono (code_set_new_1 (.ref l) (E := E) (Q₁ := fun r s1 => ∃ led : Bool, r = .ref s.heap.objs.size ∧ s1 = { s with heap := s.heap.push (set0 led) }) fun led => ⟨led, rfl, rfl⟩) fun r s1 hr => ?_
  rcases r with e | fl
  case error => exact hr
  cases fl with
  | ret r =>
    obtain ⟨led, rfl, rfl⟩ := hr
    have g0 : (s.heap.push (set0 led)).get? s.heap.objs.size = some (set0 led) := Heap.get?_push_size _ rfl
    have ty0 : Shared.TypeIs { s with heap := s.heap.push (set0 led) } (.ref s.heap.objs.size) "set" := ⟨_, g0, rfl⟩
    repeat (any_goals (first | assumption | wp_step))
    refine codeAny_mono (codeAny_call_builtin (R := wants (fun r s2 => r = .none ∧ ∃ h' tk, s2 = { s with heap := h', toks := tk } ∧ h'.SetOf (PySem.strKind P w) s.heap.objs.size (fun z => (metS xs).any (· == z)) (metS xs).length ∧
        ∀ b o, b < s.heap.objs.size → s.heap.get? b = some o → h'.get? b = some o) E) PySem.F.called_set.init.plain PySem.F.entry_set_init (check_set_init_1 ty0 ?_)) fun r2 s2 hr2 => ?_
    · have gl : (s.heap.push (set0 led)).get? l = some { cls := .type T, dict := odict, data := .seq items n, slots := oslots } := Heap.get?_push_of_some _ ho
      unfold set0 at g0 gl
      unfold Builtin.«set.__init__» noKeywords Builtin.Frozenset.updateFrom set0
      generalize hPI : pyIter = PI
      wp_walk
      subst hPI
      refine y.way (A' := A.in1.in1.in1) (by simp [hh]) gl rfl rfl fun St W st => ?_
      refine wpAny_bind (wpAny_runValue ?_)
      have n1 : s.heap.objs.size ≠ (s.heap.push (set0 led)).objs.size := by rw [Heap.size_push]; exact Nat.ne_of_lt (Nat.lt_succ_self _)
      have hsz : xs.length = items.size := by rw [← StrsAre.len_eq hi, Array.length_toList]
      refine setLoop W s.heap.objs.size (fun q => ?_) xs hsz (by rw [← hsz]; exact hb) (fun i v hv => SS.strs_at hi i v (by rw [Array.getElem?_toList]; exact hv)) items.size 0 _ (Nat.zero_add _) st ?_ fun s3 hm hS => ?_
      · rcases List.mem_cons.mp q with q | q
        · exact n1 q
        · exact absurd (List.mem_singleton.mp q) (Nat.ne_of_gt lt)
      · exact SetOf_congr ((setObjOf_fresh (knd := PySem.strKind P w) led).setOf (Heap.get?_push_of_some _ g0) (by unfold scanBound; omega)) (fun _ => rfl) rfl
      · obtain ⟨h3, g3, d3, t3, o3⟩ := s3
        cases hm.gens
        cases hm.drawn
        cases hm.os
        show wpAny _ _ _ _ _ _
        refine wpAny_pure ?_
        show wpAny _ _ (ret Value.none) _ _ _
        refine wpAny_pure ⟨rfl, h3, t3, rfl, hS, fun b o hb e => hm.heap b o (fun q => ?_) (Heap.get?_push_of_some _ (Heap.get?_push_of_some _ e))⟩
        rcases List.mem_cons.mp q with q | q
        · exact absurd q (Nat.ne_of_lt hb)
        · have : b = (s.heap.push (set0 led)).objs.size := List.mem_singleton.mp q
          rw [Heap.size_push] at this
          omega
    · rcases r2 with e | fl2
      case error => exact hr2
      cases fl2 with
      | ret r =>
        obtain ⟨rfl, h', tk, rfl, hS, hk⟩ := hr2
        repeat (any_goals (first | assumption | wp_step))
        exact h _ _ hS hk
      | _ => exact hr2.elim
  | _ => exact hr.elim
end
end Core

set_option Elab.async false
set_option linter.all false
set_option maxRecDepth 100000
set_option maxHeartbeats 4000000
/-! Core: len(set(..)), all(.. for ..), max of a sequence, texts repeated, classes of fields, an error that is looked at -/
namespace Core
open PySem PySem.Spec PyProof.Rows L2
open PySem.W (HoldAll max_tuple_datum maxOf)

/-! ### len(set(xs)), xs texts -/
def strsD : List D → Option (List Str)
  | [] => some []
  | .str x :: r => (strsD r).map (x :: ·)
  | _ :: _ => none
def gLenSet : D → Mem → R D := fun d s => match seqD s d with
  | some ds => match strsD ds with
    | some xs => if xs.length ≤ 1000 then .ok (.int (metS xs).length) s else .no
    | none => .no
  | none => .no
theorem strsD_vals {K : PySem.W.Frag} {ι : List Addr} {H : Hp} : ∀ {ds : List D} {xs : List Str} {vs : List V}, strsD ds = some xs → Reps K ι H vs ds → vs = xs.map V.str
  | [], xs, vs, h, rs => by cases h; cases rs; rfl
  | .str x :: r, xs, vs, h, rs => by
    cases rs with
    | cons r1 t =>
    cases r1
    cases q : strsD r with
    | none => simp only [strsD, q] at h; cases h
    | some ys =>
      simp only [strsD, q] at h
      cases h
      rw [strsD_vals q t]; rfl
def tLenS (K : PySem.W.Frag) (ta : TE) : TE := fun σ H Q => ta σ H fun x H1 => ∃ l, ∃ xs : List Str, x = .ref l ∧ (SqL K H1 l (xs.map V.str) ∨ SqT K H1 l (xs.map V.str)) ∧ xs.length ≤ 1000 ∧ Q (.int (metS xs).length) H1
theorem pe_lenS {X : Cx} {a : Expr} {ta : TE} {p p2 q pos : Pos} (hc : X.calm = true) (hg : Gl X "len") (hm : X.mg "len" = none) (hg2 : Gl X "set") (hm2 : X.mg "set" = none) (ha : PE X a ta)
    (na : starEach [a] X.env = (false, eval a X.env) :: starEach [] X.env := by rfl) : PE X (.Call (.Name "len" p) [.Call (.Name "set" p2) [a] [] q] [] pos) (tLenS X.K ta) := by
  refine ⟨fun pins s σ H Q I h => ?_⟩
  refine Call_ (ld_blt I hg hm boot_len ?_)
  refine callWith_builtin1 (args_cons ?_ rfl) rfl rfl
  refine Call_ (ld_blt I hg2 hm2 boot_set ?_)
  refine callWith_type1 (args_cons (thn (ha.run pins s σ H _ I h) fun v s1 ⟨x, H1, I1, r1, q1⟩ => args_nil ?_) na) na rfl
  obtain ⟨l, xs, rfl, hq, h1, q1⟩ := q1
  cases r1
  have fin : ∀ (h' : Heap) (tk : Nat), h'.SetOf (PySem.strKind X.prog X.w) s1.heap.objs.size (fun z => (metS xs).any (· == z)) (metS xs).length → (∀ b o, b < s1.heap.objs.size → s1.heap.get? b = some o → h'.get? b = some o) →
      wpAny (model X.prog X.w) X.A (spliced (backTo pos (starEach [] X.env))) (fun vs s2 => wpAny (model X.prog X.w) X.A (call (.builtin "len") (Value.ref s1.heap.objs.size :: vs)) (EP X pins σ Q) X.xe s2) X.xe { s1 with heap := h', toks := tk } := fun h' tk hS hk => by
    refine args_nil ?_
    obtain ⟨o, es, ep, t, ho, hex, hd, _, _, _, hf, hn⟩ := hS
    have I2 : Inv X pins σ H1 { s1 with heap := h', toks := tk } := I1.kept fun b o e => hk b o (Heap.lt_size e) e
    have hl : (metS xs).length ≤ xs.length := by have := metS_le xs []; simpa [metS] using this
    exact call_len_set ho hex hd hf (by rw [hn]; omega) ⟨.int (metS xs).length, H1, I2.tok _, ⟨_, by rw [hn]⟩, q1⟩
  have hb : xs.length + 1 < scanBound := by unfold scanBound; omega
  rcases hq with hq | hq
  · obtain ⟨its, r, pl, hz⟩ := I1.list hq
    obtain ⟨o, ho, hcl, n, hd⟩ := pl.isList
    exact setSeq wayL (I1.ok.hd hc) ho hcl hd (by simpa using strsAre_of r) hb fin
  · obtain ⟨its, r, pl, hz⟩ := I1.tuple hq
    obtain ⟨o, ho, hcl, n, hd⟩ := pl
    exact setSeq wayT (I1.ok.hd hc) ho hcl hd (by simpa using strsAre_of r) hb fin
theorem em_lenSet {G : Gx} {W : WX} {X : Cx} {a : Expr} {ma : EM} {p p2 q pos : Pos} (hK : X.K = G.K) (hc : X.calm = true) (hg : Gl X "len") (hm : X.mg "len" = none) (hg2 : Gl X "set") (hm2 : X.mg "set" = none) (ha : PE X a (dE G W ma))
    (na : starEach [a] X.env = (false, eval a X.env) :: starEach [] X.env := by rfl) : PE X (.Call (.Name "len" p) [.Call (.Name "set" p2) [a] [] q] [] pos) (dE G W (mUn gLenSet ma)) :=
  PE.imp (pe_lenS hc hg hm hg2 hm2 ha na) fun σ H Q ⟨ι, l, s, sm, sl, f⟩ => ⟨ι, l, s, sm, sl, f.bind fun x s1 ι1 v H1 st1 sm1 r1 f1 => by
    unfold gLenSet at f1
    cases q : seqD s1 x with
    | none => simp only [q] at f1; exact f1.elim
    | some ds =>
      simp only [q] at f1
      cases q2 : strsD ds with
      | none => simp only [q2] at f1; exact f1.elim
      | some xs =>
        simp only [q2] at f1
        by_cases h : xs.length ≤ 1000
        · rw [if_pos h] at f1
          obtain ⟨b, vs, rfl, hs, rs⟩ := sm1.seq q r1
          rw [hK]
          have e := strsD_vals q2 rs
          subst e
          exact ⟨b, xs, rfl, hs, h, f1.here sm1 (.int _)⟩
        · rw [if_neg h] at f1; exact f1.elim⟩

/-! ### all(test for x in text) -/
def gAll (pb : Nat → Bool) : D → Mem → R D := fun d s => match d with
  | .str x => .ok (.bl (x.cps.toList.all pb)) s
  | _ => .no
theorem SimH.tabbed {G : Gx} {ι : List Addr} {s : Mem} {H H' : Hp} {P : Addr} (sm : SimH G ι s H) (hP : P ∈ G.tabs) (h : GxR.Tabbed P H H') : SimH G ι s H' ∧ Stp G.K ι H ι H' := by
  obtain ⟨⟨ps, hp, ht⟩, hk⟩ := h
  obtain ⟨qs, hq, _⟩ := sm.tabs P hP
  have ne : ∀ b o, H b = some o → (∀ z, o ≠ .tbl z) → H' b = some o := fun b o e hn => by
    rw [hk b fun z => ?_]
    · exact e
    · rw [z, hq] at e; exact hn qs (Option.some.inj e).symm
  have rd : ∀ b o, (∀ z, o ≠ .tbl z) → Rd H b o → Rd H' b o := fun b o hn h => by
    rcases h with h | ⟨u, h⟩
    · exact .inl (ne b o h hn)
    · exact .inr ⟨u, ne b _ h fun z e => by cases e⟩
  have st : Stp G.K ι H ι H' := ⟨fun _ _ e => e, fun b vs h => by
    rcases h with h | h
    · exact .inl (rd b _ (fun z e => by cases e) h)
    · exact .inr h⟩
  refine ⟨⟨sm.len, fun n a o h1 h2 => ?_, sm.inj, fun P' hP' => ?_⟩, st⟩
  · have ob := sm.ob n a o h1 h2
    cases o with
    | lst xs => obtain ⟨vs, k1, k2⟩ := ob; exact ⟨vs, ne _ _ k1 (fun z e => by cases e), k2.mono st⟩
    | frz xs =>
      obtain ⟨vs, k1, k2⟩ := ob
      refine ⟨vs, ?_, k2.mono st⟩
      rcases k1 with ⟨o, k1⟩ | k1
      · exact .inl ⟨o, ne _ _ k1 fun z e => by cases e⟩
      · exact .inr k1
    | ins c fs => obtain ⟨dx, ws, k1, k2⟩ := ob; exact ⟨dx, ws, ne _ _ k1 (fun z e => by cases e), k2.mono st⟩
    | dK kvs => obtain ⟨ws, k1, k2⟩ := ob; exact ⟨ws, ne _ _ k1 (fun z e => by cases e), k2.mono st⟩
    | lkK kvs => obtain ⟨o, ws, k1, k2⟩ := ob; exact ⟨o, ws, ne _ _ k1 (fun z e => by cases e), k2.mono st⟩
  · by_cases e : P' = P
    · rw [e]; exact ⟨ps, hp, ht⟩
    · obtain ⟨rs, hr, ht'⟩ := sm.tabs P' hP'
      exact ⟨rs, by rw [hk P' e]; exact hr, ht'⟩
theorem em_all {G : Gx} {W : WX} {X : Cx} {c Pt : Addr} {elt iter : Expr} {x : Str} {px p pos gpos : Pos} {scope : Scope} {pb : Nat → Bool} {me : EM} {k : Nat}
    (hr : Room k X.A) (hg : Gl X "all") (hm : X.mg "all" = none) (hb : bootBuiltins "all" = some (.builtin "all")) (TB : GxR.TabB X.base X.mg c Pt) (hP : Pt ∈ G.tabs) (hcode : X.env.code = .ref c) (S : GxR.GenS X.env scope x) (hi : PE X iter (dE G W me)) (hel : GxR.EltP X.prog X.w scope x elt pb)
    (hs : ∀ v, genFold iter X.env v = pure v)
    (he : starEach [.GeneratorExp elt [⟨.Name x px, iter, [], 0⟩] scope gpos] X.env = (false, eval (.GeneratorExp elt [⟨.Name x px, iter, [], 0⟩] scope gpos) X.env) :: starEach [] X.env := by rfl) :
    PE X (.Call (.Name "all" p) [.GeneratorExp elt [⟨.Name x px, iter, [], 0⟩] scope gpos] [] pos) (dE G W (mUn (gAll pb) me)) :=
  PE.imp (GxR.pe_allS hr hg hm hb TB hcode S hi hel hs he) fun σ H Q ⟨ι, l, s, sm, sl, f⟩ => ⟨ι, l, s, sm, sl, f.bind fun x s1 ι1 v H1 st1 sm1 r1 f1 => by
    cases r1 with
    | str z =>
      obtain ⟨ps, h1, h2⟩ := sm1.tabs Pt hP
      refine ⟨z, rfl, ⟨ps, h1, h2⟩, fun H2 ht => ?_⟩
      obtain ⟨sm2, st2⟩ := sm1.tabbed hP ht
      exact f1.there st2 sm2 (.bl _)
    | _ => exact f1.elim⟩
def rngB (a b : Str) (c : Nat) : Bool := !decide ([c] < a.cps.toList) && !decide (b.cps.toList < [c])
/-- 'a' <= x <= 'b' -/
theorem elt_rng {P : Program} {w : World} {scope : Scope} {x a b : Str} {j1 j2 : Nat} {p1 p2 p3 p4 : Pos} (hk : scope.kind = .function) (hl : scope.names.lookup x = some .local) (hd : (x == ("__debug__" : Str)) = false := by decide)
    (hm : lastMarks [CmpOp.LtE, CmpOp.LtE] [.Name x p2, .Constant (.str b) j2 p3] = false := by with_unfolding_all rfl) :
    GxR.EltP P w scope x (.Compare (.Constant (.str a) j1 p1) [.LtE, .LtE] [.Name x p2, .Constant (.str b) j2 p3] p4) (rngB a b) := by
  intro cenv A' E' c t s₂ m₂ hs hn hm2
  refine Compare_chain (Calls.Constant_str (chain_link (wpAny_Name (wpAny_loadName_local (by rw [hs]; exact hk) (show cenv.scope.names.lookup x = some .local by rw [hs]; exact hl) hn hm2 ?_) hd))) hm
  refine PySem.P.le_str ?_
  refine wpAny_truthy_bool ?_
  have tok : ∀ k, Keeps s₂ { s₂ with toks := k } := fun k => GxR.keeps_tok _ _
  cases q : !decide ((⟨#[c]⟩ : Str).cps.toList < a.cps.toList) with
  | false =>
    refine ite_ff ⟨?_, tok _⟩
    show Value.bool false = Value.bool (!decide ((⟨#[c]⟩ : Str).cps.toList < a.cps.toList) && !decide (b.cps.toList < [c]))
    rw [q]; rfl
  | true =>
    refine ite_tt (chain_last (Calls.Constant_str ?_))
    refine PySem.P.le_str ⟨?_, tok _⟩
    show Value.bool (!decide (b.cps.toList < [c])) = Value.bool (!decide ((⟨#[c]⟩ : Str).cps.toList < a.cps.toList) && !decide (b.cps.toList < [c]))
    rw [q]; rfl

/-! ### max(xs), xs ints -/
def intsD : List D → Option (List Int)
  | [] => some []
  | .int x :: r => (intsD r).map (x :: ·)
  | _ :: _ => none
theorem intsD_vals {K : PySem.W.Frag} {ι : List Addr} {H : Hp} : ∀ {ds : List D} {xs : List Int} {vs : List V}, intsD ds = some xs → Reps K ι H vs ds → vs = xs.map V.int
  | [], xs, vs, h, rs => by cases h; cases rs; rfl
  | .int x :: r, xs, vs, h, rs => by
    cases rs with
    | cons r1 t =>
    cases r1
    cases q : intsD r with
    | none => simp only [intsD, q] at h; cases h
    | some ys =>
      simp only [intsD, q] at h
      cases h
      rw [intsD_vals q t]; rfl
def maxI (x : Int) (xs : List Int) : Int := xs.foldl (fun a y => if decide (a < y) = true then y else a) x
theorem maxI_mem : ∀ (xs : List Int) (x : Int), maxI x xs ∈ x :: xs
  | [], x => List.mem_cons_self
  | y :: r, x => by
    show maxI (if decide (x < y) = true then y else x) r ∈ _
    have h := maxI_mem r (if decide (x < y) = true then y else x)
    rcases List.mem_cons.mp h with h | h
    · rw [h]; split
      · exact List.mem_cons_of_mem _ List.mem_cons_self
      · exact List.mem_cons_self
    · exact List.mem_cons_of_mem _ (List.mem_cons_of_mem _ h)
theorem maxI_ge : ∀ (xs : List Int) (x : Int), x ≤ maxI x xs ∧ ∀ y ∈ xs, y ≤ maxI x xs
  | [], x => ⟨Int.le_refl _, fun y h => absurd h List.not_mem_nil⟩
  | y :: r, x => by
    show x ≤ maxI (if decide (x < y) = true then y else x) r ∧ _
    obtain ⟨h1, h2⟩ := maxI_ge r (if decide (x < y) = true then y else x)
    have e : x ≤ (if decide (x < y) = true then y else x) ∧ y ≤ (if decide (x < y) = true then y else x) := by
      by_cases h : x < y
      · rw [if_pos (decide_eq_true h)]; omega
      · rw [if_neg (by simpa using h)]; omega
    refine ⟨Int.le_trans e.1 h1, fun z hz => ?_⟩
    rcases List.mem_cons.mp hz with rfl | hz
    · exact Int.le_trans e.2 h1
    · exact h2 z hz
def gMaxI : List D → Mem → R D
  | [x], s => match seqD s x with
    | some ds => match intsD ds with
      | some (y :: ys) => .ok (.int (maxI y ys)) s
      | _ => .no
    | none => .no
  | _, _ => .no
def rMaxA (K : PySem.W.Frag) : List V → Hp → VK → Prop := fun vs H Q => ∃ (a : Addr) (y : Int) (ys : List Int), vs = [V.ref a] ∧ (SqL K H a ((y :: ys).map V.int) ∨ SqT K H a ((y :: ys).map V.int)) ∧ Q (.int (maxI y ys)) H
theorem c_max1 {X : Cx} (hc : X.calm = true) (hu : X.A.units + 64 < cLine) : CallR X (.builtin "max") (rMaxA X.K) := by
  intro pins s σ H vs us Q I r h
  obtain ⟨a, y, ys, rfl, hs, q⟩ := h
  rcases hs with hs | hs
  · refine cr_max hc pins s σ H [.ref a] us Q I r ⟨a, y :: ys, rfl, hs, Nat.succ_pos _, fun m h1 h2 => ?_⟩
    obtain ⟨k1, k2⟩ := maxI_ge ys y
    have e : m = maxI y ys := by
      have e1 := h2 _ (maxI_mem ys y)
      have e2 : m ≤ maxI y ys := by
        rcases List.mem_cons.mp h1 with rfl | h1
        · exact k1
        · exact k2 m h1
      omega
    rw [e]; exact q
  · obtain ⟨its, rv, hl, _⟩ := I.tuple hs
    rw [Vals.ref1 r]
    have ha : ∀ {xs : List Int} {us : List Value} {h : Heap}, Vals (xs.map V.int) us → HoldAll h us xs := by
      intro xs
      induction xs with
      | nil => intro us h r; cases r; exact PySem.W.HoldAll.nil
      | cons x xs ih =>
        intro us h r
        cases r with
        | cons r1 t =>
          obtain ⟨k, rfl⟩ := r1
          exact PySem.W.HoldAll.cons ⟨_, .int x k⟩ (ih t)
    refine max_tuple_datum (x := y) (xs := ys) (I.ok.hd hc) hl (by simpa using ha rv) (by show X.A.units + 1 + 0 < cLine; omega) fun i v h' tk hi hv hk => ?_
    obtain ⟨as, hv⟩ := hv
    have e : maxOf y ys = maxI y ys := rfl
    rw [e] at hv
    cases hv
    exact ⟨.int (maxI y ys), H, I.kept hk, ⟨_, rfl⟩, q⟩
theorem s_max1 {G : Gx} : OpSA G (rMaxA G.K) gMaxI := by
  intro W σ ι s H vs xs Q sm rs f
  cases rs with
  | nil => exact f.elim
  | cons r t =>
    cases t with
    | cons _ _ => exact f.elim
    | nil =>
      rename_i v x
      simp only [gMaxI] at f
      cases q : seqD s x with
      | none => simp only [q] at f; exact f.elim
      | some ds =>
        simp only [q] at f
        cases q2 : intsD ds with
        | none => simp only [q2] at f; exact f.elim
        | some zs =>
          cases zs with
          | nil => simp only [q2] at f; exact f.elim
          | cons y ys =>
            simp only [q2] at f
            obtain ⟨b, ws, rfl, hs, rs⟩ := sm.seq q r
            have e := intsD_vals q2 rs
            subst e
            exact ⟨b, y, ys, rfl, hs, f.here sm (.int _)⟩

/-! ### a text so many times; with the other products -/
def repS (x : Str) (n : Nat) : Str := ⟨(List.replicate n x.cps).foldl (· ++ ·) #[]⟩
def gMulA : D → D → Mem → R D := fun x y s => match x, y with
  | .str z, .int i => if 2 ≤ i ∧ i ≤ 1000 ∧ 1 ≤ z.length ∧ z.length ≤ 1000 then .ok (.str (repS z i.toNat)) s else .no
  | _, _ => gMul x y s
theorem rep_len (c : Array Nat) : ∀ (n : Nat) (acc : Array Nat), ((List.replicate n c).foldl (· ++ ·) acc).size = acc.size + n * c.size
  | 0, acc => by simp
  | n + 1, acc => by
    rw [List.replicate_succ, List.foldl_cons, rep_len c n, Array.size_append, Nat.succ_mul]; omega
theorem repS_len (x : Str) (n : Nat) : (repS x n).length = n * x.length := by
  show ((List.replicate n x.cps).foldl (· ++ ·) #[]).size = _
  rw [rep_len]; show 0 + _ = _; rw [Nat.zero_add]; rfl
def rMulS : R2 := fun x y H Q => ∃ z i, x = .str z ∧ y = .int i ∧ 2 ≤ i ∧ i ≤ 1000 ∧ 1 ≤ z.length ∧ z.length ≤ 1000 ∧ Q (.str (repS z i.toNat)) H
theorem op_mulS {X : Cx} : OpR X (binaryOp .Mult) rMulS := by
  intro pins s σ H x y v u Q I rx ry q
  obtain ⟨z, i, rfl, rfl, h1, h2, h3, h4, q⟩ := q
  obtain ⟨t, rfl⟩ := _root_.id rx
  obtain ⟨t', rfl⟩ := _root_.id ry
  have n1 : ¬ i < 1 := by omega
  have n2 : (i == 1 || z.length == 0) = false := by
    have e1 : (i == 1) = false := beq_eq_false_iff_ne.mpr (by omega)
    have e2 : (z.length == 0) = false := beq_eq_false_iff_ne.mpr (by omega)
    rw [e1, e2]; rfl
  have big : z.length * i.toNat ≤ sizeLine := by
    have e : i.toNat ≤ 1000 := by omega
    have := Nat.mul_le_mul h4 e
    rw [sizeLine_eq]; omega
  refine PySem.P.mul_str (by rw [decide_eq_false (by omega), decide_eq_false (by omega)]; rfl) (fun _ _ => ?_) (fun _ _ => decide_eq_false (by omega)) ?_
  · have : (1000 : Int) ≤ (2 ^ 63 - 1) / i := Int.le_ediv_of_mul_le (by omega) (by omega)
    omega
  · rw [if_neg n1, n2, if_neg Bool.false_ne_true]
    refine ⟨?_, ⟨.str (repS z i.toNat), H, I.tok _, ⟨_, rfl⟩, q⟩⟩
    show (repS z i.toNat).length ≤ sizeLine
    rw [repS_len, Nat.mul_comm]; exact big
theorem o_mulA {X : Cx} : OpR X (binaryOp .Mult) (fun x y H Q => rMulD X.K x y H Q ∨ rMulS x y H Q) := OpR.or o_mul op_mulS
theorem s_mulA {G : Gx} : OpS2 G (fun x y H Q => rMulD G.K x y H Q ∨ rMulS x y H Q) gMulA := by
  intro W σ ι s H v w x y Q sm rv rw f
  have old : gMulA x y s = gMul x y s → rMulD G.K v w H Q ∨ rMulS v w H Q := fun e => by rw [e] at f; exact .inl (s_mul W σ ι s H v w x y Q sm rv rw f)
  cases rv with
  | str z => cases rw with
    | int i =>
      simp only [gMulA] at f
      by_cases h : 2 ≤ i ∧ i ≤ 1000 ∧ 1 ≤ z.length ∧ z.length ≤ 1000
      · rw [if_pos h] at f; exact .inr ⟨z, i, rfl, rfl, h.1, h.2.1, h.2.2.1, h.2.2.2, f.here sm (.str _)⟩
      · rw [if_neg h] at f; exact f.elim
    | _ => exact old (by rfl)
  | _ => exact old (by cases rw <;> rfl)

/-! ### classes of fields, kinds of errors -/
theorem fld_nil {G : Gx} {f : Str} : FldOk G [] f := fun c h => absurd h List.not_mem_nil
theorem fld_cons {G : Gx} {f c : Str} {cs : List Str} (h1 : Cls G.K (G.cls c)) (h2 : NoAttr G.K (G.cls c) f) (h : FldOk G cs f) : FldOk G (c :: cs) f := fun d q => by
  rcases List.mem_cons.mp q with rfl | q
  · exact ⟨h1, h2⟩
  · exact h d q
theorem exm_nil {G : Gx} {cl : Str} {sub : Str → Bool} : ∀ c ∈ ([] : List Str), PySem.W.exmOne G.K (.ref (G.cls c)) (.ref (G.cls cl)) = some (sub c) := fun c h => absurd h List.not_mem_nil
theorem exm_cons {G : Gx} {cl e : Str} {es : List Str} {sub : Str → Bool} {b : Bool} (h1 : PySem.W.exmOne G.K (.ref (G.cls e)) (.ref (G.cls cl)) = some b) (hb : b = sub e) (h : ∀ c ∈ es, PySem.W.exmOne G.K (.ref (G.cls c)) (.ref (G.cls cl)) = some (sub c)) :
    ∀ c ∈ e :: es, PySem.W.exmOne G.K (.ref (G.cls c)) (.ref (G.cls cl)) = some (sub c) := fun d q => by
  rcases List.mem_cons.mp q with rfl | q
  · rw [h1, hb]
  · exact h d q

/-! ### except X as n: return isinstance(n, A) and isinstance(n, B) -/
def mTryAs (i : Nat) (errs : List Str) (sub : Str → Bool) (mb : SM) (ms : Str → SM) : SM := fun l s => match mb l s with
      | .err c l1 s1 => if c ∈ errs ∧ i < l1.length then if sub c = true then (match ms c (l1.set i none) s1 with
          | .nx l2 s2 => .nx (l2.set i none) s2
          | .bk l2 s2 => .bk (l2.set i none) s2
          | .ct l2 s2 => .ct (l2.set i none) s2
          | .rt d s2 => .rt d s2
          | _ => .no) else .err c l1 s1 else .no
      | x => x
/-- what a class of errors must say, so that both questions are answered yes -/
structure Asked (K : PySem.W.Frag) (c y1 : Addr) (y2 : String) : Prop where
  exc : ExcC K c
  one : PySem.W.kitOne K (.ref c) (.ref y1) = some true
  two : PySem.W.kitOne K (.ref c) (.type y2) = some true
section
variable {G : Gx} {W : WX} {X : Cx}
theorem sm_tryAs2 {x n y1 y2 : Str} {y2s : String} {i : Nat} {body : List Stmt} {np pos' p pr pa q1 q2 q3 q4 q5 q6 q7 q8 : Pos} {errs : List Str} {sub : Str → Bool} {cl : Str} {mb : SM} (hK : X.K = G.K) (hs : X.stack = X.env :: X.outer) (hf : X.env.frame = some X.env.locals) (hN : X.N.Nodup) (hi : X.N[i]? = some n) (hln : X.env.kindOf n = some .local) (hc : Names X x (.ref (G.cls cl))) (tk : Takes X W)
    (hx : ∀ c ∈ errs, PySem.W.exmOne G.K (.ref (G.cls c)) (.ref (G.cls cl)) = some (sub c))
    (hb : ∀ (W : WX) (pn : List (Addr × Obj)) (xe : Value → Shared → Prop), Takes (X.tr pn xe) W → PassesOwn (model X.prog X.w) X.A X.env xe → PSs (X.tr pn xe) body (dS G W mb))
    (m0 : X.mg "isinstance" = none) (m1 : X.mg y1 = some (.ref (G.cls y1))) (m2 : X.mg y2 = none) (b2 : bootBuiltins y2 = some (.type y2s)) (hA : ∀ c ∈ errs, sub c = true → Asked G.K (G.cls c) (G.cls y1) y2s)
    (g0 : ∀ a pn, Gl (X.suite a pn) "isinstance") (g1 : ∀ a pn, Gl (X.suite a pn) y1) (g2 : ∀ a pn, Gl (X.suite a pn) y2) (hv : ∀ a pn p, PE (X.suite a pn) (.Name n p) (tVar i))
    (d1 : (y1 == ("__debug__" : Str)) = false := by decide) (d2 : (y2 == ("__debug__" : Str)) = false := by decide) (nn : y2 ≠ "__name__" := by decide) :
    PS X (.Try body [.ExceptHandler (some (.Name x np)) (some n) [.Return (some (.BoolOp .And [.Call (.Name "isinstance" q1) [.Name n q2, .Name y1 q3] [] q4, .Call (.Name "isinstance" q5) [.Name n q6, .Name y2 q7] [] q8] pa)) pr] pos'] [] [] p)
      (dS G W (mTryAs i errs sub mb fun c => if sub c = true then mRet (mC (.bl true)) else fun _ _ => .no)) :=
  sm_tryAs hK hs hf hN hi hln hc tk hx hb
    (ts := fun a cls d D σ H => ∃ E, cls = .ref E ∧ d = none ∧ Asked G.K E (G.cls y1) y2s ∧ σ[i]? = some (some (.ref a)) ∧ D.rt (.bl true) H)
    (fun a oe cls d pn hz hfs => ⟨fun pins s σ H D I ⟨E, h1, h2, hA, hsl, hq⟩ => by
      subst h1 h2
      have cI := call_isE (X := X) (a := a) (pn := pn) (by rw [hK]; exact hA.exc) hz hfs
      have A1 : PE (X.suite a ((a, oe) :: pn)) (.Call (.Name "isinstance" q1) [.Name n q2, .Name y1 q3] [] q4) _ := pe_callB cI (g0 _ _) m0 boot_isinstance (pa_cons (hv _ _ _) (pa_cons (pe_glob (v := .ref (G.cls y1)) (g1 _ _) m1 rfl d1) pa_nil rfl) rfl) (by decide) (by decide) rfl rfl
      have A2 : PE (X.suite a ((a, oe) :: pn)) (.Call (.Name "isinstance" q5) [.Name n q6, .Name y2 q7] [] q8) _ := pe_callB cI (g0 _ _) m0 boot_isinstance (pa_cons (hv _ _ _) (pa_cons (pe_bltn (v := .ty y2s) (g2 _ _) m2 b2 rfl nn d2) pa_nil rfl) rfl) (by decide) (by decide) rfl rfl
      have big := pss_one (ps_ret (pos := pr) (pe_and (pos := pa) A1 (pe_one A2)))
      refine big.run pins s σ H D I ?_
      have o1 : PySem.W.kitOne X.K (.ref E) (.ref (G.cls y1)) = some true := by rw [hK]; exact hA.one
      have o2 : PySem.W.kitOne X.K (.ref E) (.type y2s) = some true := by rw [hK]; exact hA.two
      refine ⟨.ref a, hsl, ⟨.ref (G.cls y1), .ref (G.cls y1), true, rfl, fun u e => e, o1, ⟨true, rfl, ?_⟩⟩⟩
      rw [if_pos rfl]
      exact ⟨.ref a, hsl, ⟨.ty y2s, .type y2s, true, rfl, fun u e => e, o2, hq⟩⟩⟩)
    (fun a c D σ H ι l s hce ha sm sl hl f => by
      by_cases h : sub c = true
      · rw [if_pos h] at f
        exact ⟨_, rfl, rfl, hA c hce h, List.getElem?_set_self hl, f ι (.bl true) H .refl sm (.bl true)⟩
      · rw [if_neg h] at f; exact f.elim)
end

theorem gs_of {env : Env} {scope : Scope} {x : Str} (h1 : scope.kind = .function) (h2 : scope.isCoroutine = false) (h3 : ∀ y ∈ scope.names, y.2 ≠ .cell ∧ y.2 ≠ .free) (h4 : scope.names.lookup (".0" : Str) = some NameKind.local) (h5 : scope.names.lookup x = some .local) : GxR.GenS env scope x :=
  ⟨h1, h2, fun y h => (h3 y h).1, h4, h5, fun y h e => absurd e (h3 y h).2⟩
theorem code_of {K : PySem.W.Frag} {f : Addr} {fd : FuncData} {cdv : Value} {qual : Str} {p : Str × Option Str} (hf : f = He.fAd K p) (h : ∃ oc od osl, K.lookup f = some ⟨oc, od, .func fd, osl⟩ ∧ fd.code = cdv ∧ PySem.W.codeIn K cdv qual = true) : cdv = .ref (He.cT K p).1 := by
  obtain ⟨oc, od, osl, h1, h2, h3⟩ := h
  obtain ⟨c, rfl⟩ := He.codeIn_ref h3
  subst hf
  show Value.ref c = .ref (He.codeOf K p)
  rw [He.codeOf_eq h1 h2]
def isBu (o : Option (Option Value)) (s : String) : Bool := match o with
  | some (some (.builtin t)) => decide (t = s)
  | _ => false
theorem isBu_ok {o : Option (Option Value)} {s : String} (h : isBu o s = true) : o = some (some (.builtin s)) := by
  unfold isBu at h
  split at h
  · rw [of_decide_eq_true h]
  · cases h
def isNn (o : Option (Option Value)) : Bool := match o with
  | some none => true
  | _ => false
theorem isNn_ok {o : Option (Option Value)} (h : isNn o = true) : o = some none := by
  unfold isNn at h
  split at h
  · rfl
  · cases h
def isTr (o : Option Bool) : Bool := match o with
  | some true => true
  | _ => false
theorem isTr_ok {o : Option Bool} (h : isTr o = true) : o = some true := by
  unfold isTr at h
  split at h
  · rfl
  · cases h
abbrev Ask := Str × Str × String
def askB (K : PySem.W.Frag) (q : Ask) : Bool :=
  let D := He.ga K q.1
  isBu (PySem.W.findIn K (.ref D) "__getattribute__") "BaseException.__getattribute__" && (isNn (PySem.W.findIn K (.ref D) "__getattr__") && (isTr (PySem.W.subIn K (.ref D) (.type "BaseException")) && (PySem.W.hasDictIn K D &&
  (isBu (PySem.W.findIn K (.ref D) "__class__") "object.__class__" && (isBu (PySem.W.specialIn K (.builtin "object.__class__") "__get__") "getset_descriptor.__get__" && (isTr (PySem.W.takesIn K (.builtin "object.__class__")) && (isTr (PySem.W.mroIn K D (.type "object")) &&
  (isTr (PySem.W.kitOne K (.ref D) (.ref (He.ga K q.2.1))) && isTr (PySem.W.kitOne K (.ref D) (.type q.2.2))))))))))
theorem askB_ok {K : PySem.W.Frag} {q : Ask} (h : askB K q = true) : Asked K (He.ga K q.1) (He.ga K q.2.1) q.2.2 := by
  unfold askB at h
  simp only [Bool.and_eq_true] at h
  obtain ⟨h1, h2, h3, h4, h5, h6, h7, h8, h9, h10⟩ := h
  exact ⟨⟨isBu_ok h1, isNn_ok h2, isTr_ok h3, h4, isBu_ok h5, isBu_ok h6, isTr_ok h7, isTr_ok h8⟩, isTr_ok h9, isTr_ok h10⟩
theorem ask_nil {G : Gx} {sub : Str → Bool} {y1 : Str} {y2 : String} : ∀ c ∈ ([] : List Str), sub c = true → Asked G.K (G.cls c) (G.cls y1) y2 := fun c h => absurd h List.not_mem_nil
theorem ask_cons {G : Gx} {sub : Str → Bool} {y1 e : Str} {es : List Str} {y2 : String} (h1 : sub e = true → Asked G.K (G.cls e) (G.cls y1) y2) (h : ∀ c ∈ es, sub c = true → Asked G.K (G.cls c) (G.cls y1) y2) : ∀ c ∈ e :: es, sub c = true → Asked G.K (G.cls c) (G.cls y1) y2 := fun d q => by
  rcases List.mem_cons.mp q with rfl | q
  · exact h1
  · exact h d q
end Core

set_option Elab.async false
set_option linter.all false
set_option maxRecDepth 100000
set_option maxHeartbeats 4000000
/-! Core: the end: from what the law's def does on a store of its script alone -/
namespace Core
open PySem PySem.Spec PyProof.Rows L2
theorem intsD_reps {K : PySem.W.Frag} {ι : List Addr} {H : Hp} : ∀ ns : List Int, Reps K ι H (ns.map V.int) (ns.map D.int)
  | [] => .nil
  | n :: r => .cons (.int n) (intsD_reps r)
theorem cx_end {P : Program} {w : World} {H : Hp} {s : Shared} {e : Value} {s' : Shared} (h : L2.CX P w [] H s (fun _ _ _ => False) e s') : False := by
  obtain ⟨_, _, _, _, _, _, _, _, _, _, _, _, _, _, _, _, z⟩ := h
/-- the promise of the law, over a store that holds the script alone -/
theorem sp_end {G : Gx} {c : List D → Mem → R D} {n : Nat} {H : Hp} {a : Addr} {ns : List Int} (hl : ns.length ≤ n) (ht : ∀ P ∈ G.tabs, H P = some (.tbl #[])) (hS : SqL G.K H a (ns.map V.int))
    (pureL : ∀ o : Ob, (o = .lst (ns.map D.int) ∨ o = .frz (ns.map D.int)) → ∃ s', c [.ref 0] [o] = .ok (.bl true) s') : spOf G 1 c [.ref a] H (fun v _ => v = .bl true) fun _ _ _ => False := by
  have main : ∀ o : Ob, (o = .lst (ns.map D.int) ∨ o = .frz (ns.map D.int)) → ObR G [a] H a o → spOf G 1 c [.ref a] H (fun v _ => v = .bl true) fun _ _ _ => False := fun o ho ob => by
    obtain ⟨s', e⟩ := pureL o ho
    refine ⟨[a], [o], [.ref 0], ⟨rfl, fun m b o' h1 h2 => ?_, fun m k b o1 o2 h1 h2 h3 h4 h5 h6 => ?_, fun P hP => ⟨#[], ht P hP, trivial⟩⟩, .cons (.ref rfl) .nil, rfl, ?_⟩
    · cases m with
      | zero => cases h1; cases h2; exact ob
      | succ m => cases h2
    · cases m with
      | zero => cases k with
        | zero => rfl
        | succ k => cases h4
      | succ m => cases h3
    · rw [e]
      intro ι' v H' st sm r
      cases r
      rfl
  rcases hS with (hS | ⟨o, hS⟩) | hS
  · exact main _ (.inl rfl) ⟨_, hS, intsD_reps ns⟩
  · exact main _ (.inr rfl) ⟨_, .inl ⟨o, hS⟩, intsD_reps ns⟩
  · exact main _ (.inr rfl) ⟨_, .inr hS, intsD_reps ns⟩
end Core

set_option Elab.async false
set_option linter.all false
set_option maxRecDepth 100000
set_option maxHeartbeats 4000000
/-! Core: reckoning with the actions -/
namespace Core
open PySem PySem.Spec PyProof.Rows L2
theorem bind_ok {α β : Type} (a : α) (s : Mem) (f : α → Mem → Core.R β) : (Core.R.ok a s).bind f = f a s := rfl
theorem bind_err {α β : Type} (c : Str) (s : Mem) (f : α → Mem → Core.R β) : (Core.R.err c s).bind f = .err c s := rfl
theorem bind_no {α β : Type} (f : α → Mem → Core.R β) : (Core.R.no : Core.R α).bind f = .no := rfl
theorem toS_ok {α : Type} (a : α) (s : Mem) (l : Core.Loc) (f : α → Mem → RS) : (Core.R.ok a s).toS l f = f a s := rfl
theorem toS_err {α : Type} (c : Str) (s : Mem) (l : Core.Loc) (f : α → Mem → RS) : (Core.R.err c s).toS l f = .err c l s := rfl
theorem nox_ok {α β : Type} (a : α) (s : Mem) (f : α → Mem → Core.R β) : (Core.R.ok a s).nox f = f a s := rfl
theorem fin_nx (l : Core.Loc) (s : Mem) : Core.fin (.nx l s) = .ok .non s := rfl
theorem fin_rt (d : D) (s : Mem) : Core.fin (.rt d s) = .ok d s := rfl
theorem fin_err (c : Str) (l : Core.Loc) (s : Mem) : Core.fin (.err c l s) = .err c s := rfl
theorem gIsT_at {T : String} {d : D} {s : Mem} {a : String} (h : tyN s d = some a) : gIsT T d s = .ok (.bl (isT a T)) s := by unfold gIsT; rw [h]
end Core

set_option Elab.async false
set_option linter.all false
set_option maxRecDepth 100000
set_option maxHeartbeats 4000000
/-! the program and the law, def by def, printed by gen.py -/
namespace Pr
open PySem PySem.Spec PyProof.Rows L2 Core
def top (i : Nat) : Stmt := PySem.Challenge.pw_vancourier_k01_models.main.body.getD i (.Pass ⟨0, 0, 0, 0⟩)
inductive Fn where
  | check_model
  | check_placing
  | first_state
  | kind_of
  | nearest
  | require
  | require_tuple
  | require_different_names
  | is_name
  | is_integer
  | check_kinds
  | check_kind
  | check_fields
  | check_field
  | check_handlers
  | check_program
  | check_objects
  | check_start
  | ProgramCheck_init
  | ProgramCheck_program
  | ProgramCheck_statement
  | ProgramCheck_expression
  | ProgramCheck_enter
  | law_draws
  | law_next
  | law_big
  | law_expression
  | law_send
  | law_program
  | law_kind
  | law_model
  | law_refused
  | law_placed
  | law_deep
  | law_statement
  | law_changed
  | law
  deriving DecidableEq
def Fn.ar : Fn → Nat
  | .check_model => 1
  | .check_placing => 2
  | .first_state => 2
  | .kind_of => 2
  | .nearest => 3
  | .require => 1
  | .require_tuple => 3
  | .require_different_names => 1
  | .is_name => 1
  | .is_integer => 3
  | .check_kinds => 1
  | .check_kind => 1
  | .check_fields => 1
  | .check_field => 1
  | .check_handlers => 2
  | .check_program => 2
  | .check_objects => 2
  | .check_start => 3
  | .ProgramCheck_init => 2
  | .ProgramCheck_program => 3
  | .ProgramCheck_statement => 3
  | .ProgramCheck_expression => 3
  | .ProgramCheck_enter => 3
  | .law_draws => 1
  | .law_next => 3
  | .law_big => 3
  | .law_expression => 4
  | .law_send => 3
  | .law_program => 3
  | .law_kind => 3
  | .law_model => 2
  | .law_refused => 1
  | .law_placed => 2
  | .law_deep => 1
  | .law_statement => 2
  | .law_changed => 3
  | .law => 1
def Fn.ps : Fn → List Str
  | .check_model => ["value"]
  | .check_placing => ["model", "placing"]
  | .first_state => ["model", "number"]
  | .kind_of => ["model", "number"]
  | .nearest => ["value", "low", "high"]
  | .require => ["holds"]
  | .require_tuple => ["value", "least", "most"]
  | .require_different_names => ["names"]
  | .is_name => ["value"]
  | .is_integer => ["value", "low", "high"]
  | .check_kinds => ["kinds"]
  | .check_kind => ["kind"]
  | .check_fields => ["fields"]
  | .check_field => ["field"]
  | .check_handlers => ["handlers", "fields"]
  | .check_program => ["program", "fields"]
  | .check_objects => ["objects", "kinds"]
  | .check_start => ["start", "many", "end"]
  | .ProgramCheck_init => ["self", "fields"]
  | .ProgramCheck_program => ["self", "value", "depth"]
  | .ProgramCheck_statement => ["self", "value", "depth"]
  | .ProgramCheck_expression => ["self", "value", "depth"]
  | .ProgramCheck_enter => ["self", "value", "depth"]
  | .law_draws => ["script"]
  | .law_next => ["draws", "at", "many"]
  | .law_big => ["draws", "at", "many"]
  | .law_expression => ["draws", "at", "names", "depth"]
  | .law_send => ["draws", "at", "names"]
  | .law_program => ["draws", "at", "names"]
  | .law_kind => ["draws", "at", "name"]
  | .law_model => ["draws", "at"]
  | .law_refused => ["value"]
  | .law_placed => ["model", "placing"]
  | .law_deep => ["depth"]
  | .law_statement => ["draws", "at"]
  | .law_changed => ["model", "draws", "at"]
  | .law => ["script"]
def Fn.at_ : Fn → Str × Option Str
  | .check_model => ("check_model", none)
  | .check_placing => ("check_placing", none)
  | .first_state => ("first_state", none)
  | .kind_of => ("kind_of", none)
  | .nearest => ("nearest", none)
  | .require => ("require", none)
  | .require_tuple => ("require_tuple", none)
  | .require_different_names => ("require_different_names", none)
  | .is_name => ("is_name", none)
  | .is_integer => ("is_integer", none)
  | .check_kinds => ("check_kinds", none)
  | .check_kind => ("check_kind", none)
  | .check_fields => ("check_fields", none)
  | .check_field => ("check_field", none)
  | .check_handlers => ("check_handlers", none)
  | .check_program => ("check_program", none)
  | .check_objects => ("check_objects", none)
  | .check_start => ("check_start", none)
  | .ProgramCheck_init => ("ProgramCheck", some "__init__")
  | .ProgramCheck_program => ("ProgramCheck", some "program")
  | .ProgramCheck_statement => ("ProgramCheck", some "statement")
  | .ProgramCheck_expression => ("ProgramCheck", some "expression")
  | .ProgramCheck_enter => ("ProgramCheck", some "enter")
  | .law_draws => ("_law_draws", none)
  | .law_next => ("_law_next", none)
  | .law_big => ("_law_big", none)
  | .law_expression => ("_law_expression", none)
  | .law_send => ("_law_send", none)
  | .law_program => ("_law_program", none)
  | .law_kind => ("_law_kind", none)
  | .law_model => ("_law_model", none)
  | .law_refused => ("_law_refused", none)
  | .law_placed => ("_law_placed", none)
  | .law_deep => ("_law_deep", none)
  | .law_statement => ("_law_statement", none)
  | .law_changed => ("_law_changed", none)
  | .law => ("law", none)
abbrev st_check_model : Stmt := top 19
/-- check_model -/
def m_check_model (c : Fn → List D → Mem → R D) : SM :=
  (mSeq (mExpr (mCall 3 (c .require_tuple) (mCons (mVar 0) (mCons (mC (.int 4)) (mCons (mC (.int 4)) mNil)))))
  (mSeq (mAsg (mVar 0) (gmTup 4 (gmCons (gmName 1) (gmCons (gmName 2) (gmCons (gmName 3) (gmCons (gmName 4) gmNil))))))
  (mSeq (mExpr (mCall 1 (c .check_kinds) (mCons (mVar 1) mNil)))
  (mSeq (mExpr (mCall 2 (c .check_objects) (mCons (mVar 2) (mCons (mVar 1) mNil))))
  (mSeq (mExpr (mCall 1 (c .require) (mCons (mCall 3 (c .is_integer) (mCons (mVar 4) (mCons (mC (.int 0)) (mCons (mC (.int 1000)) mNil)))) mNil)))
  (mSeq (mExpr (mCall 3 (c .check_start) (mCons (mVar 3) (mCons (mApp gLen (mCons (mVar 2) mNil)) (mCons (mVar 4) mNil)))))
  (mRet (mVar 0))))))))
abbrev st_check_placing : Stmt := top 20
/-- check_placing -/
def m_check_placing (c : Fn → List D → Mem → R D) : SM :=
  (mSeq (mSet 2 (mOp gIx (mVar 0) (mC (.int 1))))
  (mSeq (mExpr (mCall 3 (c .require_tuple) (mCons (mVar 1) (mCons (mApp gLen (mCons (mVar 2) mNil)) (mCons (mApp gLen (mCons (mVar 2) mNil)) mNil)))))
  (mSeq (mFor (iSeq (mVar 1)) (gmName 3)
    (mExpr (mCall 1 (c .require) (mCons (mCall 3 (c .is_integer) (mCons (mVar 3) (mCons (mC (.int 0)) (mCons (mOp gSub (mC (.int 8)) (mC (.int 1))) mNil)))) mNil))))
  (mRet (mOp gAdd (mApp gMaxI (mCons (mVar 1) mNil)) (mC (.int 1)))))))
abbrev st_first_state : Stmt := top 21
/-- first_state -/
def m_first_state (c : Fn → List D → Mem → R D) : SM :=
  (mSeq (mSet 2 (mOp gIx (mCall 2 (c .kind_of) (mCons (mVar 0) (mCons (mVar 1) mNil))) (mC (.int 1))))
  (mRet (mApp gTuple (mCons (mLc (iSeq (mVar 2)) (gmTup 3 (gmCons (gmName 3) (gmCons (gmName 4) (gmCons (gmName 5) gmNil)))) [3, 4, 5] tYes' (mCall 3 (c .nearest) (mCons (mC (.int 0)) (mCons (mVar 4) (mCons (mVar 5) mNil))))) mNil))))
abbrev st_kind_of : Stmt := top 22
/-- kind_of -/
def m_kind_of (c : Fn → List D → Mem → R D) : SM :=
  (mSeq (mSet 2 (mOp gIx (mOp gIx (mVar 0) (mC (.int 1))) (mVar 1)))
  (mRet (mOp gIx (mLc (iSeq (mOp gIx (mVar 0) (mC (.int 0)))) (gmName 3) [3] (tstB (mOp gEq (mOp gIx (mVar 3) (mC (.int 0))) (mVar 2))) (mVar 3)) (mC (.int 0)))))
abbrev st_nearest : Stmt := top 23
/-- nearest -/
def m_nearest (c : Fn → List D → Mem → R D) : SM :=
  (mRet (mApp (gM2 fun i j => if j > i then j else i) (mCons (mVar 1) (mCons (mApp (gM2 fun i j => if j < i then j else i) (mCons (mVar 2) (mCons (mVar 0) mNil))) mNil))))
abbrev st_require : Stmt := top 24
/-- require -/
def m_require (c : Fn → List D → Mem → R D) : SM :=
  (mIfS (tstNot (tstB (mVar 0)))
    (mRaise "BadModel")
    mNx)
abbrev st_require_tuple : Stmt := top 25
/-- require_tuple -/
def m_require_tuple (c : Fn → List D → Mem → R D) : SM :=
  (mExpr (mCall 1 (c .require) (mCons (mAnd (mUn (gIsT "tuple") (mVar 0)) (mChain gLe gLe (mVar 1) (mApp gLen (mCons (mVar 0) mNil)) (mVar 2))) mNil)))
abbrev st_require_different_names : Stmt := top 26
/-- require_different_names -/
def m_require_different_names (c : Fn → List D → Mem → R D) : SM :=
  (mSeq (mFor (iSeq (mVar 0)) (gmName 1)
    (mExpr (mCall 1 (c .require) (mCons (mCall 1 (c .is_name) (mCons (mVar 1) mNil)) mNil))))
  (mExpr (mCall 1 (c .require) (mCons (mOp gEq (mUn gLenSet (mVar 0)) (mApp gLen (mCons (mVar 0) mNil))) mNil))))
abbrev st_is_name : Stmt := top 27
/-- is_name -/
def m_is_name (c : Fn → List D → Mem → R D) : SM :=
  (mRet (mAnd (mUn (gIsT "str") (mVar 0)) (mAnd (mChain gLe gLe (mC (.int 1)) (mApp gLen (mCons (mVar 0) mNil)) (mC (.int 12))) (mUn (gAll (rngB "a" "z")) (mVar 0)))))
abbrev st_is_integer : Stmt := top 28
/-- is_integer -/
def m_is_integer (c : Fn → List D → Mem → R D) : SM :=
  (mRet (mAnd (mUn (gIsT "int") (mVar 0)) (mAnd (mNot (mUn (gIsT "bool") (mVar 0))) (mChain gLe gLe (mVar 1) (mVar 0) (mVar 2)))))
abbrev st_check_kinds : Stmt := top 29
/-- check_kinds -/
def m_check_kinds (c : Fn → List D → Mem → R D) : SM :=
  (mSeq (mExpr (mCall 3 (c .require_tuple) (mCons (mVar 0) (mCons (mC (.int 1)) (mCons (mC (.int 4)) mNil)))))
  (mSeq (mFor (iSeq (mVar 0)) (gmName 1)
    (mExpr (mCall 1 (c .check_kind) (mCons (mVar 1) mNil))))
  (mExpr (mCall 1 (c .require_different_names) (mCons (mLc (iSeq (mVar 0)) (gmTup 3 (gmCons (gmName 2) (gmCons (gmName 3) (gmCons (gmName 4) gmNil)))) [2, 3, 4] tYes' (mVar 2)) mNil)))))
abbrev st_check_kind : Stmt := top 30
/-- check_kind -/
def m_check_kind (c : Fn → List D → Mem → R D) : SM :=
  (mSeq (mExpr (mCall 3 (c .require_tuple) (mCons (mVar 0) (mCons (mC (.int 3)) (mCons (mC (.int 3)) mNil)))))
  (mSeq (mSet 1 (mOp gIx (mVar 0) (mC (.int 1))))
  (mSeq (mSet 2 (mOp gIx (mVar 0) (mC (.int 2))))
  (mSeq (mExpr (mCall 1 (c .check_fields) (mCons (mVar 1) mNil)))
  (mExpr (mCall 2 (c .check_handlers) (mCons (mVar 2) (mCons (mLc (iSeq (mVar 1)) (gmTup 3 (gmCons (gmName 3) (gmCons (gmName 4) (gmCons (gmName 5) gmNil)))) [3, 4, 5] tYes' (mVar 3)) mNil))))))))
abbrev st_check_fields : Stmt := top 31
/-- check_fields -/
def m_check_fields (c : Fn → List D → Mem → R D) : SM :=
  (mSeq (mExpr (mCall 3 (c .require_tuple) (mCons (mVar 0) (mCons (mC (.int 1)) (mCons (mC (.int 4)) mNil)))))
  (mSeq (mFor (iSeq (mVar 0)) (gmName 1)
    (mExpr (mCall 1 (c .check_field) (mCons (mVar 1) mNil))))
  (mExpr (mCall 1 (c .require_different_names) (mCons (mLc (iSeq (mVar 0)) (gmTup 3 (gmCons (gmName 2) (gmCons (gmName 3) (gmCons (gmName 4) gmNil)))) [2, 3, 4] tYes' (mVar 2)) mNil)))))
abbrev st_check_field : Stmt := top 32
/-- check_field -/
def m_check_field (c : Fn → List D → Mem → R D) : SM :=
  (mSeq (mExpr (mCall 3 (c .require_tuple) (mCons (mVar 0) (mCons (mC (.int 3)) (mCons (mC (.int 3)) mNil)))))
  (mSeq (mSet 1 (mOp gIx (mVar 0) (mC (.int 1))))
  (mSeq (mSet 2 (mOp gIx (mVar 0) (mC (.int 2))))
  (mSeq (mExpr (mCall 1 (c .require) (mCons (mCall 3 (c .is_integer) (mCons (mVar 1) (mCons (mUn gNeg (mC (.int 1000000))) (mCons (mC (.int 1000000)) mNil)))) mNil)))
  (mExpr (mCall 1 (c .require) (mCons (mCall 3 (c .is_integer) (mCons (mVar 2) (mCons (mVar 1) (mCons (mC (.int 1000000)) mNil)))) mNil)))))))
abbrev st_check_handlers : Stmt := top 33
/-- check_handlers -/
def m_check_handlers (c : Fn → List D → Mem → R D) : SM :=
  (mSeq (mExpr (mCall 3 (c .require_tuple) (mCons (mVar 0) (mCons (mC (.int 0)) (mCons (mC (.int 4)) mNil)))))
  (mSeq (mFor (iSeq (mVar 0)) (gmName 2)
    (mSeq (mExpr (mCall 3 (c .require_tuple) (mCons (mVar 2) (mCons (mC (.int 2)) (mCons (mC (.int 2)) mNil)))))
    (mExpr (mCall 2 (c .check_program) (mCons (mOp gIx (mVar 2) (mC (.int 1))) (mCons (mVar 1) mNil))))))
  (mExpr (mCall 1 (c .require_different_names) (mCons (mLc (iSeq (mVar 0)) (gmTup 2 (gmCons (gmName 3) (gmCons (gmName 4) gmNil))) [3, 4] tYes' (mVar 3)) mNil)))))
abbrev st_check_program : Stmt := top 34
/-- check_program -/
def m_check_program (c : Fn → List D → Mem → R D) : SM :=
  (mSeq (mSet 2 (mMethC "ProgramCheck" "program" 3 (c .ProgramCheck_program) (mMake "ProgramCheck" 2 (c .ProgramCheck_init) (mCons (mVar 1) mNil)) (mCons (mVar 0) (mCons (mC (.int 1)) mNil))))
  (mExpr (mCall 1 (c .require) (mCons (mOp gLe (mVar 2) (mC (.int 4))) mNil))))
abbrev st_check_objects : Stmt := top 35
/-- check_objects -/
def m_check_objects (c : Fn → List D → Mem → R D) : SM :=
  (mSeq (mSet 2 (mLc (iSeq (mVar 1)) (gmName 4) [4] tYes' (mOp gIx (mVar 4) (mC (.int 0)))))
  (mSeq (mExpr (mCall 3 (c .require_tuple) (mCons (mVar 0) (mCons (mC (.int 1)) (mCons (mC (.int 8)) mNil)))))
  (mFor (iSeq (mVar 0)) (gmName 3)
    (mExpr (mCall 1 (c .require) (mCons (mOp gIn (mVar 3) (mVar 2)) mNil))))))
abbrev st_check_start : Stmt := top 36
/-- check_start -/
def m_check_start (c : Fn → List D → Mem → R D) : SM :=
  (mSeq (mExpr (mCall 3 (c .require_tuple) (mCons (mVar 0) (mCons (mC (.int 0)) (mCons (mC (.int 12)) mNil)))))
  (mFor (iSeq (mVar 0)) (gmName 3)
    (mSeq (mExpr (mCall 3 (c .require_tuple) (mCons (mVar 3) (mCons (mC (.int 4)) (mCons (mC (.int 4)) mNil)))))
    (mSeq (mAsg (mVar 3) (gmTup 4 (gmCons (gmName 4) (gmCons (gmName 5) (gmCons (gmName 6) (gmCons (gmName 7) gmNil))))))
    (mSeq (mExpr (mCall 1 (c .require) (mCons (mCall 3 (c .is_integer) (mCons (mVar 4) (mCons (mC (.int 0)) (mCons (mVar 2) mNil)))) mNil)))
    (mSeq (mExpr (mCall 1 (c .require) (mCons (mCall 3 (c .is_integer) (mCons (mVar 5) (mCons (mC (.int 0)) (mCons (mOp gSub (mVar 1) (mC (.int 1))) mNil)))) mNil)))
    (mSeq (mExpr (mCall 1 (c .require) (mCons (mCall 1 (c .is_name) (mCons (mVar 6) mNil)) mNil)))
    (mExpr (mCall 1 (c .require) (mCons (mCall 3 (c .is_integer) (mCons (mVar 7) (mCons (mUn gNeg (mC (.int 999))) (mCons (mC (.int 999)) mNil)))) mNil))))))))))
abbrev st_ProgramCheck_init : Stmt := inClass (top 37) 0
/-- ProgramCheck.__init__ -/
def m_ProgramCheck_init (c : Fn → List D → Mem → R D) : SM :=
  (mSeq (mSetF ["ProgramCheck"] "fields" (mVar 0) (mVar 1))
  (mSetF ["ProgramCheck"] "nodes" (mVar 0) (mC (.int 0))))
abbrev st_ProgramCheck_program : Stmt := inClass (top 37) 1
/-- ProgramCheck.program -/
def m_ProgramCheck_program (c : Fn → List D → Mem → R D) : SM :=
  (mSeq (mExpr (mCall 1 (c .require) (mCons (mAnd (mUn (gIsT "tuple") (mVar 1)) (mOp gGt (mApp gLen (mCons (mVar 1) mNil)) (mC (.int 0)))) mNil)))
  (mSeq (mSet 3 (mC (.int 0)))
  (mSeq (mFor (iSeq (mVar 1)) (gmName 4)
    (mAug 3 (gI2 fun i j => .int (i + j)) (mMethC "ProgramCheck" "statement" 3 (c .ProgramCheck_statement) (mVar 0) (mCons (mVar 4) (mCons (mVar 2) mNil)))))
  (mRet (mVar 3)))))
abbrev st_ProgramCheck_statement : Stmt := inClass (top 37) 2
/-- ProgramCheck.statement -/
def m_ProgramCheck_statement (c : Fn → List D → Mem → R D) : SM :=
  (mSeq (mExpr (mMethC "ProgramCheck" "enter" 3 (c .ProgramCheck_enter) (mVar 0) (mCons (mVar 1) (mCons (mVar 2) mNil))))
  (mMatch (mVar 1)
  (((mpSeq 3 (mpCons (mpLit "set") (mpCons (mpCap 3) (mpCons (mpCap 4) mpNil)))), (mSeq (mExpr (mCall 1 (c .require) (mCons (mOp gIn (mVar 3) (mUn (gFld ["ProgramCheck"] "fields") (mVar 0))) mNil)))
    (mSeq (mExpr (mMethC "ProgramCheck" "expression" 3 (c .ProgramCheck_expression) (mVar 0) (mCons (mVar 4) (mCons (mOp gAdd (mVar 2) (mC (.int 1))) mNil))))
    (mRet (mC (.int 0)))))) ::
  (((mpSeq 5 (mpCons (mpLit "send") (mpCons (mpCap 5) (mpCons (mpCap 6) (mpCons (mpCap 3) (mpCons (mpCap 7) mpNil)))))), (mSeq (mExpr (mCall 1 (c .require) (mCons (mCall 1 (c .is_name) (mCons (mVar 3) mNil)) mNil)))
    (mSeq (mExpr (mMethC "ProgramCheck" "expression" 3 (c .ProgramCheck_expression) (mVar 0) (mCons (mVar 5) (mCons (mOp gAdd (mVar 2) (mC (.int 1))) mNil))))
    (mSeq (mExpr (mMethC "ProgramCheck" "expression" 3 (c .ProgramCheck_expression) (mVar 0) (mCons (mVar 6) (mCons (mOp gAdd (mVar 2) (mC (.int 1))) mNil))))
    (mSeq (mExpr (mMethC "ProgramCheck" "expression" 3 (c .ProgramCheck_expression) (mVar 0) (mCons (mVar 7) (mCons (mOp gAdd (mVar 2) (mC (.int 1))) mNil))))
    (mRet (mC (.int 1)))))))) ::
  (((mpSeq 4 (mpCons (mpLit "if") (mpCons (mpCap 4) (mpCons (mpCap 8) (mpCons (mpCap 9) mpNil))))), (mSeq (mExpr (mMethC "ProgramCheck" "expression" 3 (c .ProgramCheck_expression) (mVar 0) (mCons (mVar 4) (mCons (mOp gAdd (mVar 2) (mC (.int 1))) mNil))))
    (mRet (mApp (gM2 fun i j => if j > i then j else i) (mCons (mMethC "ProgramCheck" "program" 3 (c .ProgramCheck_program) (mVar 0) (mCons (mVar 8) (mCons (mOp gAdd (mVar 2) (mC (.int 1))) mNil))) (mCons (mMethC "ProgramCheck" "program" 3 (c .ProgramCheck_program) (mVar 0) (mCons (mVar 9) (mCons (mOp gAdd (mVar 2) (mC (.int 1))) mNil))) mNil)))))) ::
  (((mpSeq 1 (mpCons (mpLit "skip") mpNil)), (mRet (mC (.int 0)))) ::
  ((mpWild, (mRaise "BadModel")) ::
  [])))))))
abbrev st_ProgramCheck_expression : Stmt := inClass (top 37) 3
/-- ProgramCheck.expression -/
def m_ProgramCheck_expression (c : Fn → List D → Mem → R D) : SM :=
  (mSeq (mExpr (mMethC "ProgramCheck" "enter" 3 (c .ProgramCheck_enter) (mVar 0) (mCons (mVar 1) (mCons (mVar 2) mNil))))
  (mMatch (mVar 1)
  (((mpSeq 2 (mpCons (mpLit "int") (mpCons (mpCap 3) mpNil))), (mExpr (mCall 1 (c .require) (mCons (mCall 3 (c .is_integer) (mCons (mVar 3) (mCons (mUn gNeg (mC (.int 999))) (mCons (mC (.int 999)) mNil)))) mNil)))) ::
  (((mpSeq 2 (mpCons (mpLit "field") (mpCons (mpCap 4) mpNil))), (mExpr (mCall 1 (c .require) (mCons (mOp gIn (mVar 4) (mUn (gFld ["ProgramCheck"] "fields") (mVar 0))) mNil)))) ::
  (((mpSeq 1 (mpCons (mpOr ["arg", "now", "self"]) mpNil)), mNx) ::
  (((mpSeq 2 (mpCons (mpLit "not") (mpCons (mpCap 5) mpNil))), (mExpr (mMethC "ProgramCheck" "expression" 3 (c .ProgramCheck_expression) (mVar 0) (mCons (mVar 5) (mCons (mOp gAdd (mVar 2) (mC (.int 1))) mNil))))) ::
  (((mpSeq 3 (mpCons (mpOr ["div", "mod"]) (mpCons (mpCap 5) (mpCons (mpCap 3) mpNil)))), (mSeq (mExpr (mMethC "ProgramCheck" "expression" 3 (c .ProgramCheck_expression) (mVar 0) (mCons (mVar 5) (mCons (mOp gAdd (mVar 2) (mC (.int 1))) mNil))))
    (mExpr (mCall 1 (c .require) (mCons (mCall 3 (c .is_integer) (mCons (mVar 3) (mCons (mC (.int 1)) (mCons (mC (.int 999)) mNil)))) mNil))))) ::
  (((mpSeq 3 (mpCons (mpOr ["add", "sub", "mul", "min", "max", "less", "same", "both", "either"]) (mpCons (mpCap 5) (mpCons (mpCap 6) mpNil)))), (mSeq (mExpr (mMethC "ProgramCheck" "expression" 3 (c .ProgramCheck_expression) (mVar 0) (mCons (mVar 5) (mCons (mOp gAdd (mVar 2) (mC (.int 1))) mNil))))
    (mExpr (mMethC "ProgramCheck" "expression" 3 (c .ProgramCheck_expression) (mVar 0) (mCons (mVar 6) (mCons (mOp gAdd (mVar 2) (mC (.int 1))) mNil)))))) ::
  ((mpWild, (mRaise "BadModel")) ::
  [])))))))))
abbrev st_ProgramCheck_enter : Stmt := inClass (top 37) 4
/-- ProgramCheck.enter -/
def m_ProgramCheck_enter (c : Fn → List D → Mem → R D) : SM :=
  (mSeq (mAugF ["ProgramCheck"] "nodes" (gI2 fun i j => .int (i + j)) (mVar 0) (mC (.int 1)))
  (mSeq (mExpr (mCall 1 (c .require) (mCons (mAnd (mOp gLe (mUn (gFld ["ProgramCheck"] "nodes") (mVar 0)) (mC (.int 80))) (mOp gLe (mVar 2) (mC (.int 8)))) mNil)))
  (mExpr (mCall 1 (c .require) (mCons (mUn (gIsT "tuple") (mVar 1)) mNil)))))
abbrev st_law_draws : Stmt := top 39
/-- _law_draws -/
def m_law_draws (c : Fn → List D → Mem → R D) : SM :=
  (mSeq (mSet 1 (mLst mNil))
  (mSeq (mFor (iRange1 (mCons (mApp gLen (mCons (mVar 0) mNil)) mNil)) (gmName 2)
    (mSeq (mSet 3 (mApp gAbs (mCons (mOp gIx (mVar 0) (mVar 2)) mNil)))
    (mIfS (tstB (mOp gGe (mVar 3) (mOp gPow (mC (.int 10)) (mC (.int 18)))))
      (mFor (iRange1 (mCons (mC (.int 40)) mNil)) (gmName 4)
        (mSeq (mExpr (mLm gAppend (mVar 1) (mCons (mOp gMod (mApp gInt1 (mCons (mVar 3) mNil)) (mC (.int 1000))) mNil)))
        (mSet 3 (mOp gFdiv (mVar 3) (mC (.int 1000))))))
      (mSeq (mSet 5 (mOp gAdd (mVar 3) (mC (.int 1))))
      (mFor (iRange1 (mCons (mC (.int 8)) mNil)) (gmName 4)
        (mSeq (mSet 5 (mOp gMod (mApp gInt1 (mCons (mOp gAdd (mOp gAdd (mOp gMulA (mVar 5) (mC (.int 48271))) (mOp gMulA (mC (.int 7919)) (mOp gAdd (mVar 2) (mVar 4)))) (mC (.int 11))) mNil)) (mC (.int 2147483647))))
        (mSeq (mSet 5 (mOp gMod (mApp gInt1 (mCons (mOp gAdd (mOp gMulA (mVar 5) (mC (.int 69621))) (mC (.int 13))) mNil)) (mC (.int 2147483629))))
        (mExpr (mLm gAppend (mVar 1) (mCons (mOp gMod (mApp gInt1 (mCons (mOp gFdiv (mVar 5) (mC (.int 5))) mNil)) (mC (.int 1000))) mNil))))))))))
  (mRet (mVar 1))))
abbrev st_law_next : Stmt := top 40
/-- _law_next -/
def m_law_next (c : Fn → List D → Mem → R D) : SM :=
  (mSeq (mSet 3 (mOp gIx (mVar 1) (mC (.int 0))))
  (mSeq (mSub (mOp gAdd (mVar 3) (mC (.int 1))) (mVar 1) (mC (.int 0)))
  (mSeq (mIfS (tstB (mOp gLt (mVar 3) (mApp gLen (mCons (mVar 0) mNil))))
    (mRet (mOp gMod (mApp gInt1 (mCons (mOp gIx (mVar 0) (mVar 3)) mNil)) (mVar 2)))
    mNx)
  (mRet (mC (.int 0))))))
abbrev st_law_big : Stmt := top 41
/-- _law_big -/
def m_law_big (c : Fn → List D → Mem → R D) : SM :=
  (mSeq (mSet 3 (mC (.int 0)))
  (mSeq (mFor (iRange1 (mCons (mC (.int 21)) mNil)) (gmName 4)
    (mSet 3 (mOp gAdd (mOp gMulA (mC (.int 1000)) (mVar 3)) (mCall 3 (c .law_next) (mCons (mVar 0) (mCons (mVar 1) (mCons (mC (.int 1000)) mNil)))))))
  (mRet (mOp gMod (mApp gInt1 (mCons (mVar 3) mNil)) (mVar 2)))))
abbrev st_law_expression : Stmt := top 42
/-- _law_expression -/
def m_law_expression (c : Fn → List D → Mem → R D) : SM :=
  (mSeq (mSet 4 (mCall 3 (c .law_next) (mCons (mVar 0) (mCons (mVar 1) (mCons (mC (.int 16)) mNil)))))
  (mSeq (mIfS (tstOr (tstB (mOp gEq (mVar 3) (mC (.int 0)))) (tstB (mOp gLt (mVar 4) (mC (.int 4)))))
    (mSeq (mSet 5 (mLst (mCons (mTup (mCons (mC (.str "int")) (mCons (mOp gSub (mCall 3 (c .law_next) (mCons (mVar 0) (mCons (mVar 1) (mCons (mC (.int 19)) mNil)))) (mC (.int 9))) mNil))) (mCons (mTup (mCons (mC (.str "field")) (mCons (mOp gIx (mVar 2) (mCall 3 (c .law_next) (mCons (mVar 0) (mCons (mVar 1) (mCons (mApp gLen (mCons (mVar 2) mNil)) mNil))))) mNil))) (mCons (mTup (mCons (mC (.str "arg")) mNil)) (mCons (mTup (mCons (mC (.str "now")) mNil)) mNil))))))
    (mSeq (mSet 5 (mOp gAdd (mVar 5) (mLst (mCons (mTup (mCons (mC (.str "self")) mNil)) (mCons (mTup (mCons (mC (.str "int")) (mCons (mOp gMulA (mCall 3 (c .law_next) (mCons (mVar 0) (mCons (mVar 1) (mCons (mC (.int 999)) mNil)))) (mOp gIx (mLst (mCons (mC (.int 1)) (mCons (mUn gNeg (mC (.int 1))) mNil))) (mCall 3 (c .law_next) (mCons (mVar 0) (mCons (mVar 1) (mCons (mC (.int 2)) mNil)))))) mNil))) mNil)))))
    (mRet (mOp gIx (mVar 5) (mCall 3 (c .law_next) (mCons (mVar 0) (mCons (mVar 1) (mCons (mC (.int 6)) mNil))))))))
    mNx)
  (mSeq (mIfS (tstB (mOp gLt (mVar 4) (mC (.int 6))))
    (mSeq (mSet 6 (mOp gIx (mLst (mCons (mC (.str "div")) (mCons (mC (.str "mod")) mNil))) (mOp gSub (mVar 4) (mC (.int 4)))))
    (mRet (mTup (mCons (mVar 6) (mCons (mCall 4 (c .law_expression) (mCons (mVar 0) (mCons (mVar 1) (mCons (mVar 2) (mCons (mOp gSub (mVar 3) (mC (.int 1))) mNil))))) (mCons (mOp gAdd (mC (.int 1)) (mCall 3 (c .law_next) (mCons (mVar 0) (mCons (mVar 1) (mCons (mC (.int 9)) mNil))))) mNil))))))
    mNx)
  (mSeq (mIfS (tstB (mOp gEq (mVar 4) (mC (.int 6))))
    (mRet (mTup (mCons (mC (.str "not")) (mCons (mCall 4 (c .law_expression) (mCons (mVar 0) (mCons (mVar 1) (mCons (mVar 2) (mCons (mOp gSub (mVar 3) (mC (.int 1))) mNil))))) mNil))))
    mNx)
  (mSeq (mSet 6 (mOp gIx (mLst (mCons (mC (.str "add")) (mCons (mC (.str "sub")) (mCons (mC (.str "mul")) (mCons (mC (.str "min")) (mCons (mC (.str "max")) (mCons (mC (.str "less")) (mCons (mC (.str "same")) (mCons (mC (.str "both")) (mCons (mC (.str "either")) mNil)))))))))) (mOp gSub (mVar 4) (mC (.int 7)))))
  (mSeq (mSet 7 (mCall 4 (c .law_expression) (mCons (mVar 0) (mCons (mVar 1) (mCons (mVar 2) (mCons (mOp gSub (mVar 3) (mC (.int 1))) mNil))))))
  (mRet (mTup (mCons (mVar 6) (mCons (mVar 7) (mCons (mCall 4 (c .law_expression) (mCons (mVar 0) (mCons (mVar 1) (mCons (mVar 2) (mCons (mOp gSub (mVar 3) (mC (.int 1))) mNil))))) mNil)))))))))))
abbrev st_law_send : Stmt := top 43
/-- _law_send -/
def m_law_send (c : Fn → List D → Mem → R D) : SM :=
  (mSeq (mSet 3 (mCall 4 (c .law_expression) (mCons (mVar 0) (mCons (mVar 1) (mCons (mVar 2) (mCons (mC (.int 1)) mNil))))))
  (mSeq (mSet 4 (mTup (mCons (mC (.str "int")) (mCons (mOp gAdd (mC (.int 1)) (mCall 3 (c .law_next) (mCons (mVar 0) (mCons (mVar 1) (mCons (mC (.int 4)) mNil))))) mNil))))
  (mSeq (mIfS (tstB (mOp gEq (mCall 3 (c .law_next) (mCons (mVar 0) (mCons (mVar 1) (mCons (mC (.int 4)) mNil)))) (mC (.int 0))))
    (mSet 4 (mCall 4 (c .law_expression) (mCons (mVar 0) (mCons (mVar 1) (mCons (mVar 2) (mCons (mC (.int 1)) mNil))))))
    mNx)
  (mSeq (mSet 5 (mOp gIx (mLst (mCons (mC (.str "go")) (mCons (mC (.str "tell")) (mCons (mC (.str "ask")) (mCons (mC (.str "none")) mNil))))) (mCall 3 (c .law_next) (mCons (mVar 0) (mCons (mVar 1) (mCons (mC (.int 4)) mNil))))))
  (mRet (mTup (mCons (mC (.str "send")) (mCons (mVar 3) (mCons (mVar 4) (mCons (mVar 5) (mCons (mTup (mCons (mC (.str "sub")) (mCons (mTup (mCons (mC (.str "arg")) mNil)) (mCons (mTup (mCons (mC (.str "int")) (mCons (mC (.int 1)) mNil))) mNil)))) mNil)))))))))))
abbrev st_law_program : Stmt := top 44
/-- _law_program -/
def m_law_program (c : Fn → List D → Mem → R D) : SM :=
  (mSeq (mSet 3 (mLst mNil))
  (mSeq (mFor (iRange1 (mCons (mOp gAdd (mC (.int 1)) (mCall 3 (c .law_next) (mCons (mVar 0) (mCons (mVar 1) (mCons (mC (.int 2)) mNil))))) mNil)) (gmName 4)
    (mExpr (mLm gAppend (mVar 3) (mCons (mTup (mCons (mC (.str "set")) (mCons (mOp gIx (mVar 2) (mCall 3 (c .law_next) (mCons (mVar 0) (mCons (mVar 1) (mCons (mApp gLen (mCons (mVar 2) mNil)) mNil))))) (mCons (mCall 4 (c .law_expression) (mCons (mVar 0) (mCons (mVar 1) (mCons (mVar 2) (mCons (mC (.int 2)) mNil))))) mNil)))) mNil))))
  (mSeq (mSet 5 (mLc (iRange1 (mCons (mCall 3 (c .law_next) (mCons (mVar 0) (mCons (mVar 1) (mCons (mC (.int 3)) mNil)))) mNil)) (gmName 4) [4] tYes' (mCall 3 (c .law_send) (mCons (mVar 0) (mCons (mVar 1) (mCons (mVar 2) mNil))))))
  (mSeq (mSet 6 (mCall 3 (c .law_next) (mCons (mVar 0) (mCons (mVar 1) (mCons (mC (.int 4)) mNil)))))
  (mSeq (mIfS (tstB (mOp gEq (mVar 6) (mC (.int 0))))
    (mSet 5 (mLst (mCons (mTup (mCons (mC (.str "if")) (mCons (mCall 4 (c .law_expression) (mCons (mVar 0) (mCons (mVar 1) (mCons (mVar 2) (mCons (mC (.int 1)) mNil))))) (mCons (mOp gAdd (mApp gTuple (mCons (mVar 5) mNil)) (mTup (mCons (mTup (mCons (mC (.str "skip")) mNil)) mNil))) (mCons (mTup (mCons (mCall 3 (c .law_send) (mCons (mVar 0) (mCons (mVar 1) (mCons (mVar 2) mNil)))) mNil)) mNil))))) mNil)))
    mNx)
  (mSeq (mExpr (mLm gAppend (mVar 3) (mCons (mTup (mCons (mC (.str "if")) (mCons (mTup (mCons (mC (.str "less")) (mCons (mTup (mCons (mC (.str "int")) (mCons (mC (.int 0)) mNil))) (mCons (mTup (mCons (mC (.str "arg")) mNil)) mNil)))) (mCons (mOp gAdd (mApp gTuple (mCons (mVar 5) mNil)) (mTup (mCons (mTup (mCons (mC (.str "skip")) mNil)) mNil))) (mCons (mTup (mCons (mTup (mCons (mC (.str "skip")) mNil)) mNil)) mNil))))) mNil)))
  (mSeq (mIfS (tstB (mOp gEq (mVar 6) (mC (.int 1))))
    (mSet 3 (mUn gRevL (mVar 3)))
    mNx)
  (mRet (mApp gTuple (mCons (mVar 3) mNil))))))))))
abbrev st_law_kind : Stmt := top 45
/-- _law_kind -/
def m_law_kind (c : Fn → List D → Mem → R D) : SM :=
  (mSeq (mSet 3 (mSl (mLst (mCons (mC (.str "n")) (mCons (mC (.str "m")) (mCons (mC (.str "k")) mNil)))) oNone (oSome (mOp gAdd (mC (.int 1)) (mCall 3 (c .law_next) (mCons (mVar 0) (mCons (mVar 1) (mCons (mC (.int 3)) mNil))))))))
  (mSeq (mSet 4 (mLst mNil))
  (mSeq (mFor (iSeq (mVar 3)) (gmName 5)
    (mSeq (mSet 6 (mOp gSub (mCall 3 (c .law_next) (mCons (mVar 0) (mCons (mVar 1) (mCons (mC (.int 60)) mNil)))) (mC (.int 50))))
    (mExpr (mLm gAppend (mVar 4) (mCons (mTup (mCons (mVar 5) (mCons (mVar 6) (mCons (mOp gAdd (mVar 6) (mCall 3 (c .law_next) (mCons (mVar 0) (mCons (mVar 1) (mCons (mC (.int 200)) mNil))))) mNil)))) mNil)))))
  (mSeq (mSet 7 (mLc (iSeq (mSl (mLst (mCons (mC (.str "go")) (mCons (mC (.str "tell")) (mCons (mC (.str "ask")) mNil)))) oNone (oSome (mOp gAdd (mC (.int 1)) (mCall 3 (c .law_next) (mCons (mVar 0) (mCons (mVar 1) (mCons (mC (.int 3)) mNil)))))))) (gmName 5) [5] tYes' (mTup (mCons (mVar 5) (mCons (mCall 3 (c .law_program) (mCons (mVar 0) (mCons (mVar 1) (mCons (mVar 3) mNil)))) mNil)))))
  (mRet (mTup (mCons (mVar 2) (mCons (mApp gTuple (mCons (mVar 4) mNil)) (mCons (mApp gTuple (mCons (mVar 7) mNil)) mNil)))))))))
abbrev st_law_model : Stmt := top 46
/-- _law_model -/
def m_law_model (c : Fn → List D → Mem → R D) : SM :=
  (mSeq (mSet 2 (mLc (iRange1 (mCons (mOp gAdd (mC (.int 1)) (mCall 3 (c .law_next) (mCons (mVar 0) (mCons (mVar 1) (mCons (mC (.int 2)) mNil))))) mNil)) (gmName 8) [8] tYes' (mCall 3 (c .law_kind) (mCons (mVar 0) (mCons (mVar 1) (mCons (mOp gIx (mLst (mCons (mC (.str "box")) (mCons (mC (.str "lamp")) mNil))) (mVar 8)) mNil))))))
  (mSeq (mAsg (mOp gIx (mLst (mCons (mTup (mCons (mC (.int 5)) (mCons (mC (.int 5)) mNil))) (mCons (mTup (mCons (mC (.int 8)) (mCons (mC (.int 4)) mNil))) mNil))) (mCall 3 (c .law_next) (mCons (mVar 0) (mCons (mVar 1) (mCons (mC (.int 2)) mNil))))) (gmTup 2 (gmCons (gmName 3) (gmCons (gmName 4) gmNil))))
  (mSeq (mSet 5 (mApp gTuple (mCons (mLc (iRange1 (mCons (mOp gAdd (mC (.int 1)) (mCall 3 (c .law_next) (mCons (mVar 0) (mCons (mVar 1) (mCons (mVar 3) mNil))))) mNil)) (gmName 8) [8] tYes' (mOp gIx (mLst (mCons (mC (.str "box")) (mCons (mC (.str "lamp")) mNil))) (mCall 3 (c .law_next) (mCons (mVar 0) (mCons (mVar 1) (mCons (mApp gLen (mCons (mVar 2) mNil)) mNil)))))) mNil)))
  (mSeq (mSet 6 (mOp gIx (mLst (mCons (mC (.int 12)) (mCons (mC (.int 7)) (mCons (mC (.int 3)) (mCons (mC (.int 30)) (mCons (mC (.int 0)) mNil)))))) (mCall 3 (c .law_next) (mCons (mVar 0) (mCons (mVar 1) (mCons (mC (.int 5)) mNil))))))
  (mSeq (mSet 7 (mLst mNil))
  (mSeq (mFor (iRange1 (mCons (mCall 3 (c .law_next) (mCons (mVar 0) (mCons (mVar 1) (mCons (mOp gIx (mLst (mCons (mC (.int 5)) (mCons (mC (.int 9)) mNil))) (mApp gInt1 (mCons (mOp gEq (mVar 3) (mC (.int 8))) mNil))) mNil)))) mNil)) (gmName 8)
    (mSeq (mSet 9 (mOp gIx (mLst (mCons (mC (.str "go")) (mCons (mC (.str "tell")) (mCons (mC (.str "ask")) mNil)))) (mCall 3 (c .law_next) (mCons (mVar 0) (mCons (mVar 1) (mCons (mC (.int 3)) mNil))))))
    (mExpr (mLm gAppend (mVar 7) (mCons (mTup (mCons (mCall 3 (c .law_next) (mCons (mVar 0) (mCons (mVar 1) (mCons (mOp gAdd (mVar 6) (mC (.int 1))) mNil)))) (mCons (mCall 3 (c .law_next) (mCons (mVar 0) (mCons (mVar 1) (mCons (mApp gLen (mCons (mVar 5) mNil)) mNil)))) (mCons (mVar 9) (mCons (mCall 3 (c .law_next) (mCons (mVar 0) (mCons (mVar 1) (mCons (mVar 4) mNil)))) mNil))))) mNil)))))
  (mRet (mTup (mCons (mApp gTuple (mCons (mVar 2) mNil)) (mCons (mVar 5) (mCons (mApp gTuple (mCons (mVar 7) mNil)) (mCons (mVar 6) mNil))))))))))))
abbrev st_law_refused : Stmt := top 47
/-- _law_refused -/
def m_law_refused (c : Fn → List D → Mem → R D) : SM :=
  (mSeq (mTryAs 1 ["CourierError", "BadModel"] (fun c => decide (c ∈ (["BadModel"] : List Str)))
    (mExpr (mCall 1 (c .check_model) (mCons (mVar 0) mNil)))
    (fun c => if (fun c => decide (c ∈ (["BadModel"] : List Str))) c = true then mRet (mC (.bl true)) else fun _ _ => .no))
  (mRet (mC (.bl false))))
abbrev st_law_placed : Stmt := top 48
/-- _law_placed -/
def m_law_placed (c : Fn → List D → Mem → R D) : SM :=
  (mTry ["CourierError", "BadModel"] (fun c => decide (c ∈ (["BadModel"] : List Str)))
    (mRet (mCall 2 (c .check_placing) (mCons (mVar 0) (mCons (mVar 1) mNil))))
    (mRet (mC .non)))
abbrev st_law_deep : Stmt := top 49
/-- _law_deep -/
def m_law_deep (c : Fn → List D → Mem → R D) : SM :=
  (mSeq (mSet 1 (mTup (mCons (mC (.str "arg")) mNil)))
  (mSeq (mFor (iRange1 (mCons (mVar 0) mNil)) (gmName 2)
    (mSet 1 (mTup (mCons (mC (.str "not")) (mCons (mVar 1) mNil)))))
  (mRet (mVar 1))))
abbrev st_law_statement : Stmt := top 50
/-- _law_statement -/
def m_law_statement (c : Fn → List D → Mem → R D) : SM :=
  (mSeq (mSet 2 (mTup (mCons (mC (.str "send")) (mCons (mTup (mCons (mC (.str "int")) (mCons (mC (.int 0)) mNil))) (mCons (mTup (mCons (mC (.str "int")) (mCons (mC (.int 1)) mNil))) (mCons (mC (.str "go")) (mCons (mTup (mCons (mC (.str "int")) (mCons (mC (.int 0)) mNil))) mNil)))))))
  (mSeq (mSet 3 (mLst (mCons (mTup (mCons (mC (.str "set")) (mCons (mC (.str "zz")) (mCons (mTup (mCons (mC (.str "int")) (mCons (mC (.int 1)) mNil))) mNil)))) (mCons (mTup (mCons (mC (.str "set")) (mCons (mC (.str "n")) mNil))) (mCons (mTup (mCons (mC (.str "set")) (mCons (mC (.str "n")) (mCons (mTup (mCons (mC (.str "int")) (mCons (mC (.int 1000)) mNil))) mNil)))) (mCons (mTup (mCons (mC (.str "set")) (mCons (mC (.str "n")) (mCons (mTup (mCons (mC (.str "int")) (mCons (mC (.bl true)) mNil))) mNil)))) (mCons (mTup (mCons (mC (.str "set")) (mCons (mC (.str "n")) (mCons (mTup (mCons (mC (.str "add")) (mCons (mTup (mCons (mC (.str "arg")) mNil)) mNil))) mNil)))) mNil)))))))
  (mSeq (mSet 3 (mOp gAdd (mVar 3) (mLst (mCons (mTup (mCons (mC (.str "set")) (mCons (mC (.str "n")) (mCons (mTup (mCons (mC (.str "div")) (mCons (mTup (mCons (mC (.str "arg")) mNil)) (mCons (mC (.int 0)) mNil)))) mNil)))) (mCons (mTup (mCons (mC (.str "set")) (mCons (mC (.str "n")) (mCons (mTup (mCons (mC (.str "mod")) (mCons (mTup (mCons (mC (.str "arg")) mNil)) (mCons (mC (.int 1000)) mNil)))) mNil)))) (mCons (mTup (mCons (mC (.str "set")) (mCons (mC (.str "n")) (mCons (mTup (mCons (mC (.str "field")) (mCons (mC (.str "zz")) mNil))) mNil)))) (mCons (mTup (mCons (mC (.str "set")) (mCons (mC (.str "n")) (mCons (mLst (mCons (mC (.str "arg")) mNil)) mNil)))) mNil)))))))
  (mSeq (mSet 3 (mOp gAdd (mVar 3) (mLst (mCons (mTup (mCons (mC (.str "set")) (mCons (mC (.str "n")) (mCons (mTup (mCons (mC (.str "pow")) (mCons (mTup (mCons (mC (.str "arg")) mNil)) (mCons (mTup (mCons (mC (.str "arg")) mNil)) mNil)))) mNil)))) (mCons (mTup (mCons (mC (.str "set")) (mCons (mC (.str "n")) (mCons (mTup (mCons (mC (.str "arg")) (mCons (mC (.int 1)) mNil))) mNil)))) (mCons (mTup (mCons (mC (.str "set")) (mCons (mC (.str "n")) (mCons (mCall 1 (c .law_deep) (mCons (mC (.int 7)) mNil)) mNil)))) (mCons (mTup (mCons (mC (.str "skip")) (mCons (mC (.int 1)) mNil))) (mCons (mTup (mCons (mC (.str "stop")) mNil)) mNil))))))))
  (mSeq (mSet 3 (mOp gAdd (mVar 3) (mLst (mCons (mTup (mCons (mC (.str "send")) (mCons (mTup (mCons (mC (.str "int")) (mCons (mC (.int 0)) mNil))) (mCons (mTup (mCons (mC (.str "int")) (mCons (mC (.int 1)) mNil))) (mCons (mC (.str "Go")) (mCons (mTup (mCons (mC (.str "int")) (mCons (mC (.int 0)) mNil))) mNil)))))) (mCons (mTup (mCons (mC (.str "send")) (mCons (mTup (mCons (mC (.str "int")) (mCons (mC (.int 0)) mNil))) (mCons (mTup (mCons (mC (.str "int")) (mCons (mC (.int 1)) mNil))) (mCons (mC (.str "go")) mNil))))) (mCons (mTup (mCons (mC (.str "if")) (mCons (mTup (mCons (mC (.str "arg")) mNil)) (mCons (mTup mNil) (mCons (mTup (mCons (mTup (mCons (mC (.str "skip")) mNil)) mNil)) mNil))))) mNil))))))
  (mSeq (mSet 3 (mOp gAdd (mVar 3) (mLst (mCons (mTup (mCons (mC (.str "if")) (mCons (mTup (mCons (mC (.str "arg")) mNil)) (mCons (mTup (mCons (mVar 2) (mCons (mVar 2) (mCons (mVar 2) mNil)))) (mCons (mOp gMulA (mTup (mCons (mVar 2) mNil)) (mC (.int 5))) mNil))))) (mCons (mTup (mCons (mC (.str "if")) (mCons (mTup (mCons (mC (.str "arg")) mNil)) (mCons (mTup (mCons (mTup (mCons (mC (.str "skip")) mNil)) mNil)) mNil)))) (mCons (mC (.int 7)) (mCons (mTup (mCons (mC (.str "if")) (mCons (mTup (mCons (mC (.str "arg")) mNil)) (mCons (mLst (mCons (mTup (mCons (mC (.str "skip")) mNil)) mNil)) (mCons (mTup (mCons (mTup (mCons (mC (.str "skip")) mNil)) mNil)) mNil))))) mNil)))))))
  (mSeq (mSet 3 (mOp gAdd (mVar 3) (mLst (mCons (mTup (mCons (mC (.str "set")) (mCons (mC (.str "n")) (mCons (mTup (mCons (mC (.str "add")) (mCons (mCall 1 (c .law_deep) (mCons (mC (.int 6)) mNil)) (mCons (mTup (mCons (mC (.str "zz")) mNil)) mNil)))) mNil)))) (mCons (mTup (mCons (mC (.str "set")) (mCons (mC (.int 5)) (mCons (mTup (mCons (mC (.str "arg")) mNil)) mNil)))) (mCons (mTup mNil) mNil))))))
  (mRet (mOp gIx (mVar 3) (mCall 3 (c .law_next) (mCons (mVar 0) (mCons (mVar 1) (mCons (mApp gLen (mCons (mVar 3) mNil)) mNil)))))))))))))
abbrev st_law_changed : Stmt := top 51
/-- _law_changed -/
def m_law_changed (c : Fn → List D → Mem → R D) : SM :=
  (mSeq (mAsg (mVar 0) (gmTup 4 (gmCons (gmName 3) (gmCons (gmName 4) (gmCons (gmName 5) (gmCons (gmName 6) gmNil))))))
  (mSeq (mSet 7 (mOp gIx (mVar 3) (mC (.int 0))))
  (mSeq (mSet 8 (mOp gIx (mOp gIx (mVar 7) (mC (.int 1))) (mC (.int 0))))
  (mSeq (mSet 9 (mLst (mCons (mTup (mCons (mVar 3) (mCons (mVar 4) (mCons (mVar 5) mNil)))) (mCons (mLst (mCons (mVar 3) (mCons (mVar 4) (mCons (mVar 5) (mCons (mVar 6) mNil))))) (mCons (mTup (mCons (mVar 3) (mCons (mVar 4) (mCons (mVar 5) (mCons (mUn gNeg (mC (.int 1))) mNil))))) (mCons (mTup (mCons (mVar 3) (mCons (mVar 4) (mCons (mVar 5) (mCons (mC (.int 1001)) mNil))))) mNil))))))
  (mSeq (mSet 9 (mOp gAdd (mVar 9) (mLst (mCons (mTup (mCons (mVar 3) (mCons (mVar 4) (mCons (mVar 5) (mCons (mC (.bl true)) mNil))))) (mCons (mTup (mCons (mTup mNil) (mCons (mVar 4) (mCons (mVar 5) (mCons (mVar 6) mNil))))) (mCons (mTup (mCons (mVar 3) (mCons (mTup mNil) (mCons (mVar 5) (mCons (mVar 6) mNil))))) (mCons (mTup (mCons (mVar 3) (mCons (mOp gAdd (mVar 4) (mTup (mCons (mC (.str "zz")) mNil))) (mCons (mVar 5) (mCons (mVar 6) mNil))))) mNil)))))))
  (mSeq (mSet 9 (mOp gAdd (mVar 9) (mLst (mCons (mTup (mCons (mVar 3) (mCons (mOp gMulA (mTup (mCons (mC (.str "box")) mNil)) (mC (.int 9))) (mCons (mVar 5) (mCons (mVar 6) mNil))))) (mCons (mTup (mCons (mOp gAdd (mVar 3) (mSl (mVar 3) oNone (oSome (mC (.int 1))))) (mCons (mVar 4) (mCons (mVar 5) (mCons (mVar 6) mNil))))) (mCons (mTup (mCons (mVar 3) (mCons (mVar 4) (mCons (mOp gAdd (mVar 5) (mTup (mCons (mTup (mCons (mC (.int 0)) (mCons (mC (.int 0)) (mCons (mC (.str "go")) mNil)))) mNil))) (mCons (mVar 6) mNil))))) mNil))))))
  (mSeq (mSet 9 (mOp gAdd (mVar 9) (mLst (mCons (mTup (mCons (mVar 3) (mCons (mVar 4) (mCons (mOp gAdd (mVar 5) (mTup (mCons (mTup (mCons (mOp gAdd (mVar 6) (mC (.int 1))) (mCons (mC (.int 0)) (mCons (mC (.str "go")) (mCons (mC (.int 0)) mNil))))) mNil))) (mCons (mVar 6) mNil))))) (mCons (mTup (mCons (mVar 3) (mCons (mVar 4) (mCons (mOp gAdd (mVar 5) (mTup (mCons (mTup (mCons (mC (.int 0)) (mCons (mApp gLen (mCons (mVar 4) mNil)) (mCons (mC (.str "go")) (mCons (mC (.int 0)) mNil))))) mNil))) (mCons (mVar 6) mNil))))) mNil)))))
  (mSeq (mSet 9 (mOp gAdd (mVar 9) (mLst (mCons (mTup (mCons (mVar 3) (mCons (mVar 4) (mCons (mOp gAdd (mVar 5) (mTup (mCons (mTup (mCons (mC (.int 0)) (mCons (mC (.int 0)) (mCons (mC (.str "go")) (mCons (mC (.int 1000)) mNil))))) mNil))) (mCons (mVar 6) mNil))))) (mCons (mTup (mCons (mVar 3) (mCons (mVar 4) (mCons (mOp gAdd (mVar 5) (mTup (mCons (mTup (mCons (mC (.int 0)) (mCons (mC (.int 0)) (mCons (mC (.str "")) (mCons (mC (.int 0)) mNil))))) mNil))) (mCons (mVar 6) mNil))))) mNil)))))
  (mSeq (mSet 9 (mOp gAdd (mVar 9) (mLst (mCons (mTup (mCons (mVar 3) (mCons (mVar 4) (mCons (mOp gMulA (mTup (mCons (mTup (mCons (mC (.int 0)) (mCons (mC (.int 0)) (mCons (mC (.str "go")) (mCons (mC (.int 0)) mNil))))) mNil)) (mC (.int 13))) (mCons (mVar 6) mNil))))) (mCons (mTup (mCons (mVar 3) (mCons (mVar 4) (mCons (mLst mNil) (mCons (mVar 6) mNil))))) (mCons (mTup (mCons (mVar 3) (mCons (mApp gList (mCons (mVar 4) mNil)) (mCons (mVar 5) (mCons (mVar 6) mNil))))) mNil))))))
  (mSeq (mSet 10 (mLst (mCons (mTup (mCons (mC (.str "Box")) (mCons (mOp gIx (mVar 7) (mC (.int 1))) (mCons (mOp gIx (mVar 7) (mC (.int 2))) mNil)))) (mCons (mTup (mCons (mC (.str "box")) (mCons (mTup mNil) (mCons (mOp gIx (mVar 7) (mC (.int 2))) mNil)))) (mCons (mTup (mCons (mC (.str "box")) (mCons (mTup (mCons (mTup (mCons (mOp gIx (mVar 8) (mC (.int 0))) (mCons (mC (.int 5)) (mCons (mC (.int 4)) mNil)))) mNil)) (mCons (mOp gIx (mVar 7) (mC (.int 2))) mNil)))) (mCons (mTup (mCons (mC (.str "box")) (mCons (mOp gAdd (mOp gIx (mVar 7) (mC (.int 1))) (mOp gIx (mVar 7) (mC (.int 1)))) (mCons (mOp gIx (mVar 7) (mC (.int 2))) mNil)))) mNil))))))
  (mSeq (mSet 10 (mOp gAdd (mVar 10) (mLst (mCons (mTup (mCons (mC (.str "box")) (mCons (mTup (mCons (mTup (mCons (mOp gIx (mVar 8) (mC (.int 0))) (mCons (mC (.int 0)) (mCons (mC (.int 1000001)) mNil)))) mNil)) (mCons (mOp gIx (mVar 7) (mC (.int 2))) mNil)))) (mCons (mTup (mCons (mC (.str "box")) (mCons (mOp gIx (mVar 7) (mC (.int 1))) (mCons (mOp gAdd (mOp gIx (mVar 7) (mC (.int 2))) (mSl (mOp gIx (mVar 7) (mC (.int 2))) oNone (oSome (mC (.int 1))))) mNil)))) (mCons (mTup (mCons (mC (.str "box")) (mCons (mApp gList (mCons (mOp gIx (mVar 7) (mC (.int 1))) mNil)) (mCons (mOp gIx (mVar 7) (mC (.int 2))) mNil)))) mNil))))))
  (mSeq (mSet 10 (mOp gAdd (mVar 10) (mLst (mCons (mTup (mCons (mC (.str "box")) (mCons (mOp gIx (mVar 7) (mC (.int 1))) (mCons (mTup (mCons (mTup (mCons (mC (.str "go")) (mCons (mTup mNil) mNil))) mNil)) mNil)))) (mCons (mTup (mCons (mC (.str "box")) (mCons (mOp gIx (mVar 7) (mC (.int 1))) (mCons (mTup (mCons (mTup (mCons (mC (.str "go")) (mCons (mTup (mCons (mCall 2 (c .law_statement) (mCons (mVar 1) (mCons (mVar 2) mNil))) mNil)) mNil))) mNil)) mNil)))) (mCons (mTup (mCons (mC (.str "box")) (mCons (mOp gIx (mVar 7) (mC (.int 1))) (mCons (mTup (mCons (mTup (mCons (mC (.str "go")) mNil)) mNil)) mNil)))) mNil))))))
  (mSeq (mSet 10 (mOp gAdd (mVar 10) (mLst (mCons (mTup (mCons (mC (.str "box")) (mCons (mOp gIx (mVar 7) (mC (.int 1))) (mCons (mTup (mCons (mTup (mCons (mC (.str "go")) (mCons (mOp gMulA (mTup (mCons (mTup (mCons (mC (.str "skip")) mNil)) mNil)) (mC (.int 81))) mNil))) mNil)) mNil)))) (mCons (mTup (mCons (mC (.str "box")) (mCons (mTup (mCons (mTup (mCons (mOp gIx (mVar 8) (mC (.int 0))) (mCons (mC (.bl false)) (mCons (mC (.int 1)) mNil)))) mNil)) (mCons (mOp gIx (mVar 7) (mC (.int 2))) mNil)))) (mCons (mTup (mCons (mC (.str "box")) (mCons (mOp gIx (mVar 7) (mC (.int 1))) mNil))) (mCons (mTup (mCons (mOp gMulA (mC (.str "a")) (mC (.int 13))) (mCons (mOp gIx (mVar 7) (mC (.int 1))) (mCons (mOp gIx (mVar 7) (mC (.int 2))) mNil)))) mNil)))))))
  (mSeq (mSet 10 (mOp gAdd (mVar 10) (mLst (mCons (mTup (mCons (mC (.str "box")) (mCons (mOp gIx (mVar 7) (mC (.int 1))) (mCons (mTup (mCons (mTup (mCons (mC (.str "go")) (mCons (mOp gMulA (mTup (mCons (mTup (mCons (mC (.str "send")) (mCons (mTup (mCons (mC (.str "arg")) mNil)) (mCons (mTup (mCons (mC (.str "arg")) mNil)) (mCons (mC (.str "go")) (mCons (mTup (mCons (mC (.str "arg")) mNil)) mNil)))))) mNil)) (mC (.int 5))) mNil))) mNil)) mNil)))) mNil))))
  (mSeq (mSet 9 (mOp gAdd (mVar 9) (mLc (iSeq (mVar 10)) (gmName 11) [11] tYes' (mTup (mCons (mOp gAdd (mTup (mCons (mVar 11) mNil)) (mSl (mVar 3) (oSome (mC (.int 1))) oNone)) (mCons (mVar 4) (mCons (mVar 5) (mCons (mVar 6) mNil))))))))
  (mSeq (mIfS (tstB (mOp gEq (mCall 3 (c .law_next) (mCons (mVar 1) (mCons (mVar 2) (mCons (mC (.int 3)) mNil)))) (mC (.int 1))))
    (mRet (mOp gIx (mVar 9) (mOp gSub (mApp gLen (mCons (mVar 9) mNil)) (mC (.int 7)))))
    mNx)
  (mRet (mOp gIx (mVar 9) (mCall 3 (c .law_next) (mCons (mVar 1) (mCons (mVar 2) (mCons (mApp gLen (mCons (mVar 9) mNil)) mNil))))))))))))))))))))))
abbrev st_law : Stmt := top 52
/-- law -/
def m_law (c : Fn → List D → Mem → R D) : SM :=
  (mSeq (mSet 1 (mCall 1 (c .law_draws) (mCons (mVar 0) mNil)))
  (mSeq (mSet 2 (mLst (mCons (mC (.int 0)) mNil)))
  (mSeq (mIfS (tstB (mOp gNe (mLst (mCons (mC (.int 1000000000)) (mCons (mC (.int 20)) (mCons (mC (.int 80)) (mCons (mC (.int 8)) (mCons (mC (.int 4)) mNil)))))) (mLst (mCons (mOp gPow (mC (.int 10)) (mC (.int 9))) (mCons (mC (.int 20)) (mCons (mC (.int 80)) (mCons (mC (.int 8)) (mCons (mC (.int 4)) mNil))))))))
    (mRet (mC (.bl false)))
    mNx)
  (mSeq (mFor (iRange1 (mCons (mC (.int 3)) mNil)) (gmName 3)
    (mSeq (mSet 4 (mCall 2 (c .law_model) (mCons (mVar 1) (mCons (mVar 2) mNil))))
    (mSeq (mIfS (tstOr (tstB (mOp gNe (mCall 1 (c .check_model) (mCons (mVar 4) mNil)) (mVar 4))) (tstNot (tstB (mCall 1 (c .law_refused) (mCons (mCall 3 (c .law_changed) (mCons (mVar 4) (mCons (mVar 1) (mCons (mVar 2) mNil)))) mNil)))))
      (mRet (mC (.bl false)))
      mNx)
    (mSeq (mFor (iSeq (mLst (mCons (mC .non) (mCons (mC (.int 7)) (mCons (mTup mNil) (mCons (mC (.str "model")) (mCons (mLst (mCons (mVar 4) mNil)) mNil))))))) (gmName 5)
      (mIfS (tstNot (tstB (mCall 1 (c .law_refused) (mCons (mVar 5) mNil))))
        (mRet (mC (.bl false)))
        mNx))
    (mSeq (mFor (iRange1 (mCons (mApp gLen (mCons (mOp gIx (mVar 4) (mC (.int 1))) mNil)) mNil)) (gmName 6)
      (mSeq (mSet 7 (mOp gIx (mLc (iSeq (mOp gIx (mVar 4) (mC (.int 0)))) (gmName 7) [7] (tstB (mOp gEq (mOp gIx (mVar 7) (mC (.int 0))) (mOp gIx (mOp gIx (mVar 4) (mC (.int 1))) (mVar 6)))) (mVar 7)) (mC (.int 0))))
      (mSeq (mSet 8 (mApp gTuple (mCons (mLc (iSeq (mOp gIx (mVar 7) (mC (.int 1)))) (gmName 11) [11] tYes' (mApp (gM2 fun i j => if j > i then j else i) (mCons (mOp gIx (mVar 11) (mC (.int 1))) (mCons (mApp (gM2 fun i j => if j < i then j else i) (mCons (mC (.int 0)) (mCons (mOp gIx (mVar 11) (mC (.int 2))) mNil))) mNil)))) mNil)))
      (mIfS (tstB (mOp gNe (mCall 2 (c .first_state) (mCons (mVar 4) (mCons (mVar 6) mNil))) (mVar 8)))
        (mRet (mC (.bl false)))
        mNx))))
    (mSeq (mSet 9 (mApp gTuple (mCons (mLc (iSeq (mOp gIx (mVar 4) (mC (.int 1)))) (gmName 12) [12] tYes' (mCall 3 (c .law_next) (mCons (mVar 1) (mCons (mVar 2) (mCons (mC (.int 8)) mNil))))) mNil)))
    (mSeq (mIfS (tstB (mOp gNe (mCall 2 (c .law_placed) (mCons (mVar 4) (mCons (mVar 9) mNil))) (mOp gAdd (mApp gMaxI (mCons (mVar 9) mNil)) (mC (.int 1)))))
      (mRet (mC (.bl false)))
      mNx)
    (mFor (iSeq (mLst (mCons (mApp gList (mCons (mVar 9) mNil)) (mCons (mOp gAdd (mVar 9) (mTup (mCons (mC (.int 0)) mNil))) (mCons (mSl (mVar 9) oNone (oSome (mUn gNeg (mC (.int 1))))) (mCons (mOp gAdd (mSl (mVar 9) oNone (oSome (mUn gNeg (mC (.int 1))))) (mTup (mCons (mC (.int 8)) mNil))) (mCons (mOp gAdd (mSl (mVar 9) oNone (oSome (mUn gNeg (mC (.int 1))))) (mTup (mCons (mUn gNeg (mC (.int 1))) mNil))) (mCons (mOp gAdd (mSl (mVar 9) oNone (oSome (mUn gNeg (mC (.int 1))))) (mTup (mCons (mC (.bl true)) mNil))) (mCons (mC .non) mNil))))))))) (gmName 10)
      (mIfS (tstB (mOp gNotN (mCall 2 (c .law_placed) (mCons (mVar 4) (mCons (mVar 10) mNil))) (mC .non)))
        (mRet (mC (.bl false)))
        mNx)))))))))
  (mRet (mOp gNotN (mCall 1 (c .check_model) (mCons (mTup (mCons (mTup (mCons (mTup (mCons (mC (.str "box")) (mCons (mTup (mCons (mTup (mCons (mC (.str "n")) (mCons (mC (.int 0)) (mCons (mC (.int 9)) mNil)))) mNil)) (mCons (mTup mNil) mNil)))) mNil)) (mCons (mTup (mCons (mC (.str "box")) mNil)) (mCons (mTup mNil) (mCons (mC (.int 0)) mNil))))) mNil)) (mC .non)))))))
def Fn.sl : Fn → Nat
  | .check_model => 5
  | .check_placing => 4
  | .first_state => 6
  | .kind_of => 4
  | .nearest => 3
  | .require => 1
  | .require_tuple => 3
  | .require_different_names => 2
  | .is_name => 1
  | .is_integer => 3
  | .check_kinds => 5
  | .check_kind => 6
  | .check_fields => 5
  | .check_field => 3
  | .check_handlers => 5
  | .check_program => 3
  | .check_objects => 5
  | .check_start => 8
  | .ProgramCheck_init => 2
  | .ProgramCheck_program => 5
  | .ProgramCheck_statement => 10
  | .ProgramCheck_expression => 7
  | .ProgramCheck_enter => 3
  | .law_draws => 6
  | .law_next => 4
  | .law_big => 5
  | .law_expression => 8
  | .law_send => 6
  | .law_program => 7
  | .law_kind => 8
  | .law_model => 10
  | .law_refused => 2
  | .law_placed => 2
  | .law_deep => 3
  | .law_statement => 4
  | .law_changed => 12
  | .law => 13
def Fn.body (c : Fn → List D → Mem → R D) : Fn → SM
  | .check_model => m_check_model c
  | .check_placing => m_check_placing c
  | .first_state => m_first_state c
  | .kind_of => m_kind_of c
  | .nearest => m_nearest c
  | .require => m_require c
  | .require_tuple => m_require_tuple c
  | .require_different_names => m_require_different_names c
  | .is_name => m_is_name c
  | .is_integer => m_is_integer c
  | .check_kinds => m_check_kinds c
  | .check_kind => m_check_kind c
  | .check_fields => m_check_fields c
  | .check_field => m_check_field c
  | .check_handlers => m_check_handlers c
  | .check_program => m_check_program c
  | .check_objects => m_check_objects c
  | .check_start => m_check_start c
  | .ProgramCheck_init => m_ProgramCheck_init c
  | .ProgramCheck_program => m_ProgramCheck_program c
  | .ProgramCheck_statement => m_ProgramCheck_statement c
  | .ProgramCheck_expression => m_ProgramCheck_expression c
  | .ProgramCheck_enter => m_ProgramCheck_enter c
  | .law_draws => m_law_draws c
  | .law_next => m_law_next c
  | .law_big => m_law_big c
  | .law_expression => m_law_expression c
  | .law_send => m_law_send c
  | .law_program => m_law_program c
  | .law_kind => m_law_kind c
  | .law_model => m_law_model c
  | .law_refused => m_law_refused c
  | .law_placed => m_law_placed c
  | .law_deep => m_law_deep c
  | .law_statement => m_law_statement c
  | .law_changed => m_law_changed c
  | .law => m_law c
/-- the meaning of each def, so many calls deep -/
def call : Nat → Fn → List D → Mem → R D
  | 0, _ => fun _ _ => .no
  | k + 1, f => defM f.ar f.sl (f.body (call k))
def fa : List He.Fa := [
  .free "len",
  .glo "check_start",
  .int "MOST_END" 1000,
  .glo "is_integer",
  .glo "require",
  .glo "check_objects",
  .glo "check_kinds",
  .glo "require_tuple",
  .free "max",
  .int "MOST_PROCESSORS" 8,
  .glo "nearest",
  .free "tuple",
  .glo "kind_of",
  .free "min",
  .exc "BadModel",
  .glo "BadModel",
  .free "isinstance",
  .free "set",
  .glo "is_name",
  .free "all",
  .int "MOST_LETTERS" 12,
  .free "str",
  .free "bool",
  .free "int",
  .glo "require_different_names",
  .glo "check_kind",
  .int "MOST_KINDS" 4,
  .glo "check_handlers",
  .glo "check_fields",
  .glo "check_field",
  .int "MOST_FIELDS" 4,
  .int "MOST_RANGE" 1000000,
  .glo "check_program",
  .int "MOST_HANDLERS" 4,
  .int "MOST_SENDS" 4,
  .mkr "ProgramCheck",
  .glo "ProgramCheck",
  .cls "ProgramCheck",
  .meth "ProgramCheck" "program",
  .int "MOST_OBJECTS" 8,
  .int "MOST_NUMBER" 999,
  .int "MOST_STARTS" 12,
  .noat "ProgramCheck" "nodes",
  .noat "ProgramCheck" "fields",
  .meth "ProgramCheck" "statement",
  .meth "ProgramCheck" "expression",
  .meth "ProgramCheck" "enter",
  .int "MOST_DEPTH" 8,
  .int "MOST_NODES" 80,
  .free "range",
  .free "abs",
  .glo "_law_next",
  .glo "_law_expression",
  .glo "_law_send",
  .glo "_law_program",
  .glo "_law_kind",
  .glo "check_model",
  .exm "BadModel" "BadModel" true,
  .exm "CourierError" "BadModel" false,
  .glo "CourierError",
  .free "ValueError",
  .glo "check_placing",
  .glo "_law_deep",
  .glo "_law_statement",
  .free "list",
  .glo "_law_placed",
  .glo "first_state",
  .glo "_law_refused",
  .glo "_law_changed",
  .glo "_law_model",
  .int "MOST_DELAY" 20,
  .int "LIMIT" 1000000000,
  .glo "_law_draws",
  .glo "law"]
def fnD : Fn → He.DefD
  | .check_model => ⟨("check_model", none), "check_model", "check_model", defArgs (top 19), defBody (top 19), defScope (top 19), [], []⟩
  | .check_placing => ⟨("check_placing", none), "check_placing", "check_placing", defArgs (top 20), defBody (top 20), defScope (top 20), [], []⟩
  | .first_state => ⟨("first_state", none), "first_state", "first_state", defArgs (top 21), defBody (top 21), defScope (top 21), [], []⟩
  | .kind_of => ⟨("kind_of", none), "kind_of", "kind_of", defArgs (top 22), defBody (top 22), defScope (top 22), [], []⟩
  | .nearest => ⟨("nearest", none), "nearest", "nearest", defArgs (top 23), defBody (top 23), defScope (top 23), [], []⟩
  | .require => ⟨("require", none), "require", "require", defArgs (top 24), defBody (top 24), defScope (top 24), [], []⟩
  | .require_tuple => ⟨("require_tuple", none), "require_tuple", "require_tuple", defArgs (top 25), defBody (top 25), defScope (top 25), [], []⟩
  | .require_different_names => ⟨("require_different_names", none), "require_different_names", "require_different_names", defArgs (top 26), defBody (top 26), defScope (top 26), [], []⟩
  | .is_name => ⟨("is_name", none), "is_name", "is_name", defArgs (top 27), defBody (top 27), defScope (top 27), [], []⟩
  | .is_integer => ⟨("is_integer", none), "is_integer", "is_integer", defArgs (top 28), defBody (top 28), defScope (top 28), [], []⟩
  | .check_kinds => ⟨("check_kinds", none), "check_kinds", "check_kinds", defArgs (top 29), defBody (top 29), defScope (top 29), [], []⟩
  | .check_kind => ⟨("check_kind", none), "check_kind", "check_kind", defArgs (top 30), defBody (top 30), defScope (top 30), [], []⟩
  | .check_fields => ⟨("check_fields", none), "check_fields", "check_fields", defArgs (top 31), defBody (top 31), defScope (top 31), [], []⟩
  | .check_field => ⟨("check_field", none), "check_field", "check_field", defArgs (top 32), defBody (top 32), defScope (top 32), [], []⟩
  | .check_handlers => ⟨("check_handlers", none), "check_handlers", "check_handlers", defArgs (top 33), defBody (top 33), defScope (top 33), [], []⟩
  | .check_program => ⟨("check_program", none), "check_program", "check_program", defArgs (top 34), defBody (top 34), defScope (top 34), [], []⟩
  | .check_objects => ⟨("check_objects", none), "check_objects", "check_objects", defArgs (top 35), defBody (top 35), defScope (top 35), [], []⟩
  | .check_start => ⟨("check_start", none), "check_start", "check_start", defArgs (top 36), defBody (top 36), defScope (top 36), [], []⟩
  | .ProgramCheck_init => ⟨("ProgramCheck", some "__init__"), "__init__", "ProgramCheck.__init__", defArgs (inClass (top 37) 0), defBody (inClass (top 37) 0), defScope (inClass (top 37) 0), [], []⟩
  | .ProgramCheck_program => ⟨("ProgramCheck", some "program"), "program", "ProgramCheck.program", defArgs (inClass (top 37) 1), defBody (inClass (top 37) 1), defScope (inClass (top 37) 1), [], []⟩
  | .ProgramCheck_statement => ⟨("ProgramCheck", some "statement"), "statement", "ProgramCheck.statement", defArgs (inClass (top 37) 2), defBody (inClass (top 37) 2), defScope (inClass (top 37) 2), [], []⟩
  | .ProgramCheck_expression => ⟨("ProgramCheck", some "expression"), "expression", "ProgramCheck.expression", defArgs (inClass (top 37) 3), defBody (inClass (top 37) 3), defScope (inClass (top 37) 3), [], []⟩
  | .ProgramCheck_enter => ⟨("ProgramCheck", some "enter"), "enter", "ProgramCheck.enter", defArgs (inClass (top 37) 4), defBody (inClass (top 37) 4), defScope (inClass (top 37) 4), [], []⟩
  | .law_draws => ⟨("_law_draws", none), "_law_draws", "_law_draws", defArgs (top 39), defBody (top 39), defScope (top 39), [], []⟩
  | .law_next => ⟨("_law_next", none), "_law_next", "_law_next", defArgs (top 40), defBody (top 40), defScope (top 40), [], []⟩
  | .law_big => ⟨("_law_big", none), "_law_big", "_law_big", defArgs (top 41), defBody (top 41), defScope (top 41), [], []⟩
  | .law_expression => ⟨("_law_expression", none), "_law_expression", "_law_expression", defArgs (top 42), defBody (top 42), defScope (top 42), [], []⟩
  | .law_send => ⟨("_law_send", none), "_law_send", "_law_send", defArgs (top 43), defBody (top 43), defScope (top 43), [], []⟩
  | .law_program => ⟨("_law_program", none), "_law_program", "_law_program", defArgs (top 44), defBody (top 44), defScope (top 44), [], []⟩
  | .law_kind => ⟨("_law_kind", none), "_law_kind", "_law_kind", defArgs (top 45), defBody (top 45), defScope (top 45), [], []⟩
  | .law_model => ⟨("_law_model", none), "_law_model", "_law_model", defArgs (top 46), defBody (top 46), defScope (top 46), [], []⟩
  | .law_refused => ⟨("_law_refused", none), "_law_refused", "_law_refused", defArgs (top 47), defBody (top 47), defScope (top 47), [], []⟩
  | .law_placed => ⟨("_law_placed", none), "_law_placed", "_law_placed", defArgs (top 48), defBody (top 48), defScope (top 48), [], []⟩
  | .law_deep => ⟨("_law_deep", none), "_law_deep", "_law_deep", defArgs (top 49), defBody (top 49), defScope (top 49), [], []⟩
  | .law_statement => ⟨("_law_statement", none), "_law_statement", "_law_statement", defArgs (top 50), defBody (top 50), defScope (top 50), [], []⟩
  | .law_changed => ⟨("_law_changed", none), "_law_changed", "_law_changed", defArgs (top 51), defBody (top 51), defScope (top 51), [], []⟩
  | .law => ⟨("law", none), "law", "law", defArgs (top 52), defBody (top 52), defScope (top 52), [], []⟩
def allFn : List Fn := [.check_model, .check_placing, .first_state, .kind_of, .nearest, .require, .require_tuple, .require_different_names, .is_name, .is_integer, .check_kinds, .check_kind, .check_fields, .check_field, .check_handlers, .check_program, .check_objects, .check_start, .ProgramCheck_init, .ProgramCheck_program, .ProgramCheck_statement, .ProgramCheck_expression, .ProgramCheck_enter, .law_draws, .law_next, .law_big, .law_expression, .law_send, .law_program, .law_kind, .law_model, .law_refused, .law_placed, .law_deep, .law_statement, .law_changed, .law]
def fn : List He.DefD := allFn.map fnD
def tf : List (Str × Option Str) := [("is_name", none)]
def asks : List Ask := [("BadModel", "CourierError", "ValueError")]
abbrev gx (K : PySem.W.Frag) : Gx := ⟨K, He.ga K, tf.map fun p => (He.cT K p).2⟩
structure Env (P : Program) (w : World) (K : PySem.W.Frag) (mg : Str → Option Value) (base : Heap) (k : Nat) (c : Fn → List D → Mem → R D) : Prop where
  top : Top K mg fa fn
  fn : ∀ f : Fn, CallOk P w K mg base (gx K) (2 * k) (He.fAd K f.at_) f.ps f.ar (c f)
  tab : ∀ (i : Nat) {p : Str × Option Str}, tf[i]? = some p → GxR.TabB base mg (He.cT K p).1 (He.cT K p).2
  ask : ∀ (i : Nat) {q : Ask}, asks[i]? = some q → Asked K (He.ga K q.1) (He.ga K q.2.1) q.2.2
theorem tab_mem {K : PySem.W.Frag} (i : Nat) {p : Str × Option Str} (h : tf[i]? = some p) : (He.cT K p).2 ∈ (gx K).tabs := List.mem_map_of_mem (List.mem_of_getElem? h)
section
variable {P : Program} {w : World} {K : PySem.W.Frag} {mg : Str → Option Value} {base : Heap} {k : Nat} {c : Fn → List D → Mem → R D}
theorem sc_check_model : FnScope ["value", "kinds", "objects", "start", "end"] ["value"] (defScope st_check_model) := ⟨rfl, rfl, rfl, by decide +kernel, rfl, by decide +kernel, by decide +kernel⟩
theorem ok_check_model (E : Env P w K mg base k c) {f : Addr} {fd : FuncData} (F : FunD K "check_model" "check_model" (defArgs st_check_model) (defBody st_check_model) (defScope st_check_model) [] [] f fd) : FnOk P w K mg base (L2.CX P w) (2 * k + 2) f fd ["value"] (spOf (gx K) 1 (defM 1 5 (m_check_model c))) := by
  have T := E.top
  have hl : (["value"] : List Str).length = 1 := rfl
  have S := sc_check_model
  have key := def_ok (G := gx K) (m := m_check_model c) (k := 2 * k + 1) (w := w) (P := P) (mg := mg) (base := base) F S hl
  refine key fun cdv A outer s H El hcd hr tk hp => ?_
  exact (smm_cons (sm_expr (em_callE (E.fn .require_tuple) (hr.mono (Nat.le_succ _)) tk rfl (T.glo 7 rfl) (am_cons (em_var (pv 0)) (am_cons em_int (am_cons em_int am_nil)))))
  (smm_cons (sm_asg (vs := [1, 2, 3, 4]) (em_var (pv 0)) (gm_tup rfl rfl (gms_cons (gm_name (i := 1) (by decide) sc_check_model.nd rfl (by first | exact Or.inl rfl | exact Or.inr rfl)) (gms_cons (gm_name (i := 2) (by decide) sc_check_model.nd rfl (by first | exact Or.inl rfl | exact Or.inr rfl)) (gms_cons (gm_name (i := 3) (by decide) sc_check_model.nd rfl (by first | exact Or.inl rfl | exact Or.inr rfl)) (gms_cons (gm_name (i := 4) (by decide) sc_check_model.nd rfl (by first | exact Or.inl rfl | exact Or.inr rfl)) gms_nil))))))
  (smm_cons (sm_expr (em_callE (E.fn .check_kinds) (hr.mono (Nat.le_succ _)) tk rfl (T.glo 6 rfl) (am_cons (em_var (pv 1)) am_nil)))
  (smm_cons (sm_expr (em_callE (E.fn .check_objects) (hr.mono (Nat.le_succ _)) tk rfl (T.glo 5 rfl) (am_cons (em_var (pv 2)) (am_cons (em_var (pv 1)) am_nil))))
  (smm_cons (sm_expr (em_callE (E.fn .require) (hr.mono (Nat.le_succ _)) tk rfl (T.glo 4 rfl) (am_cons (em_callE (E.fn .is_integer) (hr.mono (Nat.le_succ _)) tk rfl (T.glo 3 rfl) (am_cons (em_var (pv 4)) (am_cons em_int (am_cons (let ⟨_, z⟩ := T.int 2 (x := "MOST_END") (z := 1000) rfl; em_glob rfl z) am_nil)))) am_nil)))
  (smm_cons (sm_expr (em_callE (E.fn .check_start) (hr.mono (Nat.le_succ _)) tk rfl (T.glo 1 rfl) (am_cons (em_var (pv 3)) (am_cons (em_callB c_len s_len rfl (T.free 0 rfl) (by decide +kernel) (am_cons (em_var (pv 2)) am_nil)) (am_cons (em_var (pv 4)) am_nil)))))
  (smm_one (sm_ret (em_var (pv 0))))))))))
theorem sc_check_placing : FnScope ["model", "placing", "objects", "processor"] ["model", "placing"] (defScope st_check_placing) := ⟨rfl, rfl, rfl, by decide +kernel, rfl, by decide +kernel, by decide +kernel⟩
theorem ok_check_placing (E : Env P w K mg base k c) {f : Addr} {fd : FuncData} (F : FunD K "check_placing" "check_placing" (defArgs st_check_placing) (defBody st_check_placing) (defScope st_check_placing) [] [] f fd) : FnOk P w K mg base (L2.CX P w) (2 * k + 2) f fd ["model", "placing"] (spOf (gx K) 2 (defM 2 4 (m_check_placing c))) := by
  have T := E.top
  have hl : (["model", "placing"] : List Str).length = 2 := rfl
  have S := sc_check_placing
  have key := def_ok (G := gx K) (m := m_check_placing c) (k := 2 * k + 1) (w := w) (P := P) (mg := mg) (base := base) F S hl
  refine key fun cdv A outer s H El hcd hr tk hp => ?_
  exact (smm_cons (sm_set (j := 2) sc_check_placing.nd rfl (Or.inl rfl) (em_ix ix_seq s_ix (em_var (pv 0)) em_int (fun _ _ => rfl)))
  (smm_cons (sm_expr (em_callE (E.fn .require_tuple) (hr.mono (Nat.le_succ _)) tk rfl (T.glo 7 rfl) (am_cons (em_var (pv 1)) (am_cons (em_callB c_len s_len rfl (T.free 0 rfl) (by decide +kernel) (am_cons (em_var (pv 2)) am_nil)) (am_cons (em_callB c_len s_len rfl (T.free 0 rfl) (by decide +kernel) (am_cons (em_var (pv 2)) am_nil)) am_nil)))))
  (smm_cons (sm_for (vs := [3]) hp rfl (im_seq rfl (em_var (pv 1))) (gm_name (i := 3) (by decide) sc_check_placing.nd rfl (by first | exact Or.inl rfl | exact Or.inr rfl))
    (smm_one (sm_expr (em_callE (E.fn .require) (hr.mono (Nat.le_succ _)) tk rfl (T.glo 4 rfl) (am_cons (em_callE (E.fn .is_integer) (hr.mono (Nat.le_succ _)) tk rfl (T.glo 3 rfl) (am_cons (em_var (pv 3)) (am_cons em_int (am_cons (em_op op_sub s_sub (let ⟨_, z⟩ := T.int 9 (x := "MOST_PROCESSORS") (z := 8) rfl; em_glob rfl z) em_int) am_nil)))) am_nil)))))
  (smm_one (sm_ret (em_op o_add s_add (em_callB (c_max1 rfl hr.units) s_max1 rfl (T.free 8 rfl) (by decide +kernel) (am_cons (em_var (pv 1)) am_nil)) em_int))))))
theorem sc_first_state : FnScope ["model", "number", "fields", "name", "low", "high"] ["model", "number"] (defScope st_first_state) := ⟨rfl, rfl, rfl, by decide +kernel, rfl, by decide +kernel, by decide +kernel⟩
theorem ok_first_state (E : Env P w K mg base k c) {f : Addr} {fd : FuncData} (F : FunD K "first_state" "first_state" (defArgs st_first_state) (defBody st_first_state) (defScope st_first_state) [] [] f fd) : FnOk P w K mg base (L2.CX P w) (2 * k + 2) f fd ["model", "number"] (spOf (gx K) 2 (defM 2 6 (m_first_state c))) := by
  have T := E.top
  have hl : (["model", "number"] : List Str).length = 2 := rfl
  have S := sc_first_state
  have key := def_ok (G := gx K) (m := m_first_state c) (k := 2 * k + 1) (w := w) (P := P) (mg := mg) (base := base) F S hl
  refine key fun cdv A outer s H El hcd hr tk hp => ?_
  exact (smm_cons (sm_set (j := 2) sc_first_state.nd rfl (Or.inl rfl) (em_ix ix_seq s_ix (em_callE (E.fn .kind_of) (hr.mono (Nat.le_succ _)) tk rfl (T.glo 12 rfl) (am_cons (em_var (pv 0)) (am_cons (em_var (pv 1)) am_nil))) em_int (fun _ _ => rfl)))
  (smm_one (sm_ret (em_callTy call_tuple_of s_tuple rfl (T.free 11 rfl) (by decide +kernel) (am_cons (em_lc (own := [("name", 3), ("low", 4), ("high", 5)]) rfl sc_first_state.nd (im_seq rfl (em_var (pv 2))) (blkOk_by (by kernel_rfl)) (fun _ _ _ _ _ => (gm_tup rfl rfl (gms_cons (gm_name (i := 3) (by decide) sc_first_state.nd rfl (by first | exact Or.inl rfl | exact Or.inr rfl)) (gms_cons (gm_name (i := 4) (by decide) sc_first_state.nd rfl (by first | exact Or.inl rfl | exact Or.inr rfl)) (gms_cons (gm_name (i := 5) (by decide) sc_first_state.nd rfl (by first | exact Or.inl rfl | exact Or.inr rfl)) gms_nil))))) (fun _ _ _ _ _ => pts_yes) (fun _ _ _ _ _ => (em_callE (E.fn .nearest) (hr.mono (Nat.le_succ _)) takesW0 rfl (T.glo 10 rfl) (am_cons em_int (am_cons (em_var (pv 4)) (am_cons (em_var (pv 5)) am_nil)))))) am_nil)))))
theorem sc_kind_of : FnScope ["model", "number", "name", "kind"] ["model", "number"] (defScope st_kind_of) := ⟨rfl, rfl, rfl, by decide +kernel, rfl, by decide +kernel, by decide +kernel⟩
theorem ok_kind_of (E : Env P w K mg base k c) {f : Addr} {fd : FuncData} (F : FunD K "kind_of" "kind_of" (defArgs st_kind_of) (defBody st_kind_of) (defScope st_kind_of) [] [] f fd) : FnOk P w K mg base (L2.CX P w) (2 * k + 2) f fd ["model", "number"] (spOf (gx K) 2 (defM 2 4 (m_kind_of c))) := by
  have T := E.top
  have hl : (["model", "number"] : List Str).length = 2 := rfl
  have S := sc_kind_of
  have key := def_ok (G := gx K) (m := m_kind_of c) (k := 2 * k + 1) (w := w) (P := P) (mg := mg) (base := base) F S hl
  refine key fun cdv A outer s H El hcd hr tk hp => ?_
  exact (smm_cons (sm_set (j := 2) sc_kind_of.nd rfl (by first | exact Or.inl rfl | exact Or.inr rfl) (em_ix ix_seq s_ix (em_ix ix_seq s_ix (em_var (pv 0)) em_int (fun _ _ => rfl)) (em_var (pv 1)) (fun _ _ => rfl)))
  (smm_one (sm_ret (em_ix ix_seq s_ix (em_lc (own := [("kind", 3)]) rfl sc_kind_of.nd (im_seq rfl (em_ix ix_seq s_ix (em_var (pv 0)) em_int (fun _ _ => rfl))) (blkOk_by (by kernel_rfl)) (fun _ _ _ _ _ => (gm_name (i := 3) (by decide) sc_kind_of.nd rfl (by first | exact Or.inl rfl | exact Or.inr rfl))) (fun _ _ _ _ _ => (pts_if (tm_cmp (o_eq hr.units) s_eq (em_ix ix_seq s_ix (em_var (pv 3)) em_int (fun _ _ => rfl)) (em_var (pv 2)) (nomark _)))) (fun _ _ _ _ _ => (em_var (pv 3)))) em_int (fun _ _ => rfl)))))
theorem sc_nearest : FnScope ["value", "low", "high"] ["value", "low", "high"] (defScope st_nearest) := ⟨rfl, rfl, rfl, by decide +kernel, rfl, by decide +kernel, by decide +kernel⟩
theorem ok_nearest (E : Env P w K mg base k c) {f : Addr} {fd : FuncData} (F : FunD K "nearest" "nearest" (defArgs st_nearest) (defBody st_nearest) (defScope st_nearest) [] [] f fd) : FnOk P w K mg base (L2.CX P w) (2 * k + 2) f fd ["value", "low", "high"] (spOf (gx K) 3 (defM 3 3 (m_nearest c))) := by
  have T := E.top
  have hl : (["value", "low", "high"] : List Str).length = 3 := rfl
  have S := sc_nearest
  have key := def_ok (G := gx K) (m := m_nearest c) (k := 2 * k + 1) (w := w) (P := P) (mg := mg) (base := base) F S hl
  refine key fun cdv A outer s H El hcd hr tk hp => ?_
  exact (smm_one (sm_ret (em_callB (call_max2 rfl) s_m2 rfl (T.free 8 rfl) (by decide +kernel) (am_cons (em_var (pv 1)) (am_cons (em_callB (call_min2 rfl) s_m2 rfl (T.free 13 rfl) (by decide +kernel) (am_cons (em_var (pv 2)) (am_cons (em_var (pv 0)) am_nil))) am_nil)))))
theorem sc_require : FnScope ["holds"] ["holds"] (defScope st_require) := ⟨rfl, rfl, rfl, by decide +kernel, rfl, by decide +kernel, by decide +kernel⟩
theorem ok_require (E : Env P w K mg base k c) {f : Addr} {fd : FuncData} (F : FunD K "require" "require" (defArgs st_require) (defBody st_require) (defScope st_require) [] [] f fd) : FnOk P w K mg base (L2.CX P w) (2 * k + 2) f fd ["holds"] (spOf (gx K) 1 (defM 1 1 (m_require c))) := by
  have T := E.top
  have hl : (["holds"] : List Str).length = 1 := rfl
  have S := sc_require
  have key := def_ok (G := gx K) (m := m_require c) (k := 2 * k + 1) (w := w) (P := P) (mg := mg) (base := base) F S hl
  refine key fun cdv A outer s H El hcd hr tk hp => ?_
  exact (smm_one (sm_if (tm_not (tm_val (em_var (pv 0))))
    (smm_one (sm_raise rfl rfl tk (T.exc 14 rfl) rfl (T.glo 15 rfl)))
    smm_nil))
theorem sc_require_tuple : FnScope ["value", "least", "most"] ["value", "least", "most"] (defScope st_require_tuple) := ⟨rfl, rfl, rfl, by decide +kernel, rfl, by decide +kernel, by decide +kernel⟩
theorem ok_require_tuple (E : Env P w K mg base k c) {f : Addr} {fd : FuncData} (F : FunD K "require_tuple" "require_tuple" (defArgs st_require_tuple) (defBody st_require_tuple) (defScope st_require_tuple) [] [] f fd) : FnOk P w K mg base (L2.CX P w) (2 * k + 2) f fd ["value", "least", "most"] (spOf (gx K) 3 (defM 3 3 (m_require_tuple c))) := by
  have T := E.top
  have hl : (["value", "least", "most"] : List Str).length = 3 := rfl
  have S := sc_require_tuple
  have key := def_ok (G := gx K) (m := m_require_tuple c) (k := 2 * k + 1) (w := w) (P := P) (mg := mg) (base := base) F S hl
  refine key fun cdv A outer s H El hcd hr tk hp => ?_
  exact (smm_one (sm_expr (em_callE (E.fn .require) (hr.mono (Nat.le_succ _)) tk rfl (T.glo 4 rfl) (am_cons (em_and (em_isT (Ts := "tuple") rfl (by decide) rfl (T.free 16 rfl) rfl (T.free 11 rfl) (by decide +kernel) (em_var (pv 0))) (em_one (em_chain o_le o_le s_ord s_ord (em_var (pv 1)) (em_callB c_len s_len rfl (T.free 0 rfl) (by decide +kernel) (am_cons (em_var (pv 0)) am_nil)) (em_var (pv 2))))) am_nil))))
theorem sc_require_different_names : FnScope ["names", "name"] ["names"] (defScope st_require_different_names) := ⟨rfl, rfl, rfl, by decide +kernel, rfl, by decide +kernel, by decide +kernel⟩
theorem ok_require_different_names (E : Env P w K mg base k c) {f : Addr} {fd : FuncData} (F : FunD K "require_different_names" "require_different_names" (defArgs st_require_different_names) (defBody st_require_different_names) (defScope st_require_different_names) [] [] f fd) : FnOk P w K mg base (L2.CX P w) (2 * k + 2) f fd ["names"] (spOf (gx K) 1 (defM 1 2 (m_require_different_names c))) := by
  have T := E.top
  have hl : (["names"] : List Str).length = 1 := rfl
  have S := sc_require_different_names
  have key := def_ok (G := gx K) (m := m_require_different_names c) (k := 2 * k + 1) (w := w) (P := P) (mg := mg) (base := base) F S hl
  refine key fun cdv A outer s H El hcd hr tk hp => ?_
  exact (smm_cons (sm_for (vs := [1]) hp rfl (im_seq rfl (em_var (pv 0))) (gm_name (i := 1) (by decide) sc_require_different_names.nd rfl (by first | exact Or.inl rfl | exact Or.inr rfl))
    (smm_one (sm_expr (em_callE (E.fn .require) (hr.mono (Nat.le_succ _)) tk rfl (T.glo 4 rfl) (am_cons (em_callE (E.fn .is_name) (hr.mono (Nat.le_succ _)) tk rfl (T.glo 18 rfl) (am_cons (em_var (pv 1)) am_nil)) am_nil)))))
  (smm_one (sm_expr (em_callE (E.fn .require) (hr.mono (Nat.le_succ _)) tk rfl (T.glo 4 rfl) (am_cons (em_cmp (o_eq hr.units) s_eq (em_lenSet rfl rfl rfl (T.free 0 rfl) rfl (T.free 17 rfl) (em_var (pv 0))) (em_callB c_len s_len rfl (T.free 0 rfl) (by decide +kernel) (am_cons (em_var (pv 0)) am_nil)) (nomark _)) am_nil)))))
theorem sc_is_name : FnScope ["value"] ["value"] (defScope st_is_name) := ⟨rfl, rfl, rfl, by decide +kernel, rfl, by decide +kernel, by decide +kernel⟩
theorem ok_is_name (E : Env P w K mg base k c) {f : Addr} {fd : FuncData} (F : FunD K "is_name" "is_name" (defArgs st_is_name) (defBody st_is_name) (defScope st_is_name) [] [] f fd) (hf : f = He.fAd K ("is_name", none)) : FnOk P w K mg base (L2.CX P w) (2 * k + 2) f fd ["value"] (spOf (gx K) 1 (defM 1 1 (m_is_name c))) := by
  have T := E.top
  have hl : (["value"] : List Str).length = 1 := rfl
  have S := sc_is_name
  have key := def_ok (G := gx K) (m := m_is_name c) (k := 2 * k + 1) (w := w) (P := P) (mg := mg) (base := base) F S hl
  refine key fun cdv A outer s H El hcd hr tk hp => ?_
  subst hf
  exact (smm_one (sm_ret (em_and (em_isT (Ts := "str") rfl (by decide) rfl (T.free 16 rfl) rfl (T.free 21 rfl) (by decide +kernel) (em_var (pv 0))) (em_and (em_chain o_le o_le s_ord s_ord em_int (em_callB c_len s_len rfl (T.free 0 rfl) (by decide +kernel) (am_cons (em_var (pv 0)) am_nil)) (let ⟨_, z⟩ := T.int 20 (x := "MOST_LETTERS") (z := 12) rfl; em_glob rfl z)) (em_one (em_all (pb := (rngB "a" "z")) hr rfl (T.free 19 rfl) (by decide +kernel) (E.tab 0 rfl) (tab_mem 0 rfl) (code_of rfl hcd) (gs_of rfl rfl (by decide +kernel) rfl rfl) (em_var (pv 0)) (elt_rng rfl rfl) (by intro _; rfl)))))))
theorem sc_is_integer : FnScope ["value", "low", "high"] ["value", "low", "high"] (defScope st_is_integer) := ⟨rfl, rfl, rfl, by decide +kernel, rfl, by decide +kernel, by decide +kernel⟩
theorem ok_is_integer (E : Env P w K mg base k c) {f : Addr} {fd : FuncData} (F : FunD K "is_integer" "is_integer" (defArgs st_is_integer) (defBody st_is_integer) (defScope st_is_integer) [] [] f fd) : FnOk P w K mg base (L2.CX P w) (2 * k + 2) f fd ["value", "low", "high"] (spOf (gx K) 3 (defM 3 3 (m_is_integer c))) := by
  have T := E.top
  have hl : (["value", "low", "high"] : List Str).length = 3 := rfl
  have S := sc_is_integer
  have key := def_ok (G := gx K) (m := m_is_integer c) (k := 2 * k + 1) (w := w) (P := P) (mg := mg) (base := base) F S hl
  refine key fun cdv A outer s H El hcd hr tk hp => ?_
  exact (smm_one (sm_ret (em_and (em_isT (Ts := "int") rfl (by decide) rfl (T.free 16 rfl) rfl (T.free 23 rfl) (by decide +kernel) (em_var (pv 0))) (em_and (em_not (em_isT (Ts := "bool") rfl (by decide) rfl (T.free 16 rfl) rfl (T.free 22 rfl) (by decide +kernel) (em_var (pv 0)))) (em_one (em_chain o_le o_le s_ord s_ord (em_var (pv 1)) (em_var (pv 0)) (em_var (pv 2))))))))
theorem sc_check_kinds : FnScope ["kinds", "kind", "name", "fields", "handlers"] ["kinds"] (defScope st_check_kinds) := ⟨rfl, rfl, rfl, by decide +kernel, rfl, by decide +kernel, by decide +kernel⟩
theorem ok_check_kinds (E : Env P w K mg base k c) {f : Addr} {fd : FuncData} (F : FunD K "check_kinds" "check_kinds" (defArgs st_check_kinds) (defBody st_check_kinds) (defScope st_check_kinds) [] [] f fd) : FnOk P w K mg base (L2.CX P w) (2 * k + 2) f fd ["kinds"] (spOf (gx K) 1 (defM 1 5 (m_check_kinds c))) := by
  have T := E.top
  have hl : (["kinds"] : List Str).length = 1 := rfl
  have S := sc_check_kinds
  have key := def_ok (G := gx K) (m := m_check_kinds c) (k := 2 * k + 1) (w := w) (P := P) (mg := mg) (base := base) F S hl
  refine key fun cdv A outer s H El hcd hr tk hp => ?_
  exact (smm_cons (sm_expr (em_callE (E.fn .require_tuple) (hr.mono (Nat.le_succ _)) tk rfl (T.glo 7 rfl) (am_cons (em_var (pv 0)) (am_cons em_int (am_cons (let ⟨_, z⟩ := T.int 26 (x := "MOST_KINDS") (z := 4) rfl; em_glob rfl z) am_nil)))))
  (smm_cons (sm_for (vs := [1]) hp rfl (im_seq rfl (em_var (pv 0))) (gm_name (i := 1) (by decide) sc_check_kinds.nd rfl (by first | exact Or.inl rfl | exact Or.inr rfl))
    (smm_one (sm_expr (em_callE (E.fn .check_kind) (hr.mono (Nat.le_succ _)) tk rfl (T.glo 25 rfl) (am_cons (em_var (pv 1)) am_nil)))))
  (smm_one (sm_expr (em_callE (E.fn .require_different_names) (hr.mono (Nat.le_succ _)) tk rfl (T.glo 24 rfl) (am_cons (em_lc (own := [("name", 2), ("fields", 3), ("handlers", 4)]) rfl sc_check_kinds.nd (im_seq rfl (em_var (pv 0))) (blkOk_by (by kernel_rfl)) (fun _ _ _ _ _ => (gm_tup rfl rfl (gms_cons (gm_name (i := 2) (by decide) sc_check_kinds.nd rfl (by first | exact Or.inl rfl | exact Or.inr rfl)) (gms_cons (gm_name (i := 3) (by decide) sc_check_kinds.nd rfl (by first | exact Or.inl rfl | exact Or.inr rfl)) (gms_cons (gm_name (i := 4) (by decide) sc_check_kinds.nd rfl (by first | exact Or.inl rfl | exact Or.inr rfl)) gms_nil))))) (fun _ _ _ _ _ => pts_yes) (fun _ _ _ _ _ => (em_var (pv 2)))) am_nil))))))
theorem sc_check_kind : FnScope ["kind", "fields", "handlers", "name", "low", "high"] ["kind"] (defScope st_check_kind) := ⟨rfl, rfl, rfl, by decide +kernel, rfl, by decide +kernel, by decide +kernel⟩
theorem ok_check_kind (E : Env P w K mg base k c) {f : Addr} {fd : FuncData} (F : FunD K "check_kind" "check_kind" (defArgs st_check_kind) (defBody st_check_kind) (defScope st_check_kind) [] [] f fd) : FnOk P w K mg base (L2.CX P w) (2 * k + 2) f fd ["kind"] (spOf (gx K) 1 (defM 1 6 (m_check_kind c))) := by
  have T := E.top
  have hl : (["kind"] : List Str).length = 1 := rfl
  have S := sc_check_kind
  have key := def_ok (G := gx K) (m := m_check_kind c) (k := 2 * k + 1) (w := w) (P := P) (mg := mg) (base := base) F S hl
  refine key fun cdv A outer s H El hcd hr tk hp => ?_
  exact (smm_cons (sm_expr (em_callE (E.fn .require_tuple) (hr.mono (Nat.le_succ _)) tk rfl (T.glo 7 rfl) (am_cons (em_var (pv 0)) (am_cons em_int (am_cons em_int am_nil)))))
  (smm_cons (sm_set (j := 1) sc_check_kind.nd rfl (Or.inl rfl) (em_ix ix_seq s_ix (em_var (pv 0)) em_int (fun _ _ => rfl)))
  (smm_cons (sm_set (j := 2) sc_check_kind.nd rfl (Or.inl rfl) (em_ix ix_seq s_ix (em_var (pv 0)) em_int (fun _ _ => rfl)))
  (smm_cons (sm_expr (em_callE (E.fn .check_fields) (hr.mono (Nat.le_succ _)) tk rfl (T.glo 28 rfl) (am_cons (em_var (pv 1)) am_nil)))
  (smm_one (sm_expr (em_callE (E.fn .check_handlers) (hr.mono (Nat.le_succ _)) tk rfl (T.glo 27 rfl) (am_cons (em_var (pv 2)) (am_cons (em_lc (own := [("name", 3), ("low", 4), ("high", 5)]) rfl sc_check_kind.nd (im_seq rfl (em_var (pv 1))) (blkOk_by (by kernel_rfl)) (fun _ _ _ _ _ => (gm_tup rfl rfl (gms_cons (gm_name (i := 3) (by decide) sc_check_kind.nd rfl (by first | exact Or.inl rfl | exact Or.inr rfl)) (gms_cons (gm_name (i := 4) (by decide) sc_check_kind.nd rfl (by first | exact Or.inl rfl | exact Or.inr rfl)) (gms_cons (gm_name (i := 5) (by decide) sc_check_kind.nd rfl (by first | exact Or.inl rfl | exact Or.inr rfl)) gms_nil))))) (fun _ _ _ _ _ => pts_yes) (fun _ _ _ _ _ => (em_var (pv 3)))) am_nil)))))))))
theorem sc_check_fields : FnScope ["fields", "field", "name", "low", "high"] ["fields"] (defScope st_check_fields) := ⟨rfl, rfl, rfl, by decide +kernel, rfl, by decide +kernel, by decide +kernel⟩
theorem ok_check_fields (E : Env P w K mg base k c) {f : Addr} {fd : FuncData} (F : FunD K "check_fields" "check_fields" (defArgs st_check_fields) (defBody st_check_fields) (defScope st_check_fields) [] [] f fd) : FnOk P w K mg base (L2.CX P w) (2 * k + 2) f fd ["fields"] (spOf (gx K) 1 (defM 1 5 (m_check_fields c))) := by
  have T := E.top
  have hl : (["fields"] : List Str).length = 1 := rfl
  have S := sc_check_fields
  have key := def_ok (G := gx K) (m := m_check_fields c) (k := 2 * k + 1) (w := w) (P := P) (mg := mg) (base := base) F S hl
  refine key fun cdv A outer s H El hcd hr tk hp => ?_
  exact (smm_cons (sm_expr (em_callE (E.fn .require_tuple) (hr.mono (Nat.le_succ _)) tk rfl (T.glo 7 rfl) (am_cons (em_var (pv 0)) (am_cons em_int (am_cons (let ⟨_, z⟩ := T.int 30 (x := "MOST_FIELDS") (z := 4) rfl; em_glob rfl z) am_nil)))))
  (smm_cons (sm_for (vs := [1]) hp rfl (im_seq rfl (em_var (pv 0))) (gm_name (i := 1) (by decide) sc_check_fields.nd rfl (by first | exact Or.inl rfl | exact Or.inr rfl))
    (smm_one (sm_expr (em_callE (E.fn .check_field) (hr.mono (Nat.le_succ _)) tk rfl (T.glo 29 rfl) (am_cons (em_var (pv 1)) am_nil)))))
  (smm_one (sm_expr (em_callE (E.fn .require_different_names) (hr.mono (Nat.le_succ _)) tk rfl (T.glo 24 rfl) (am_cons (em_lc (own := [("name", 2), ("low", 3), ("high", 4)]) rfl sc_check_fields.nd (im_seq rfl (em_var (pv 0))) (blkOk_by (by kernel_rfl)) (fun _ _ _ _ _ => (gm_tup rfl rfl (gms_cons (gm_name (i := 2) (by decide) sc_check_fields.nd rfl (by first | exact Or.inl rfl | exact Or.inr rfl)) (gms_cons (gm_name (i := 3) (by decide) sc_check_fields.nd rfl (by first | exact Or.inl rfl | exact Or.inr rfl)) (gms_cons (gm_name (i := 4) (by decide) sc_check_fields.nd rfl (by first | exact Or.inl rfl | exact Or.inr rfl)) gms_nil))))) (fun _ _ _ _ _ => pts_yes) (fun _ _ _ _ _ => (em_var (pv 2)))) am_nil))))))
theorem sc_check_field : FnScope ["field", "low", "high"] ["field"] (defScope st_check_field) := ⟨rfl, rfl, rfl, by decide +kernel, rfl, by decide +kernel, by decide +kernel⟩
theorem ok_check_field (E : Env P w K mg base k c) {f : Addr} {fd : FuncData} (F : FunD K "check_field" "check_field" (defArgs st_check_field) (defBody st_check_field) (defScope st_check_field) [] [] f fd) : FnOk P w K mg base (L2.CX P w) (2 * k + 2) f fd ["field"] (spOf (gx K) 1 (defM 1 3 (m_check_field c))) := by
  have T := E.top
  have hl : (["field"] : List Str).length = 1 := rfl
  have S := sc_check_field
  have key := def_ok (G := gx K) (m := m_check_field c) (k := 2 * k + 1) (w := w) (P := P) (mg := mg) (base := base) F S hl
  refine key fun cdv A outer s H El hcd hr tk hp => ?_
  exact (smm_cons (sm_expr (em_callE (E.fn .require_tuple) (hr.mono (Nat.le_succ _)) tk rfl (T.glo 7 rfl) (am_cons (em_var (pv 0)) (am_cons em_int (am_cons em_int am_nil)))))
  (smm_cons (sm_set (j := 1) sc_check_field.nd rfl (Or.inl rfl) (em_ix ix_seq s_ix (em_var (pv 0)) em_int (fun _ _ => rfl)))
  (smm_cons (sm_set (j := 2) sc_check_field.nd rfl (Or.inl rfl) (em_ix ix_seq s_ix (em_var (pv 0)) em_int (fun _ _ => rfl)))
  (smm_cons (sm_expr (em_callE (E.fn .require) (hr.mono (Nat.le_succ _)) tk rfl (T.glo 4 rfl) (am_cons (em_callE (E.fn .is_integer) (hr.mono (Nat.le_succ _)) tk rfl (T.glo 3 rfl) (am_cons (em_var (pv 1)) (am_cons (em_un un_neg s_neg (let ⟨_, z⟩ := T.int 31 (x := "MOST_RANGE") (z := 1000000) rfl; em_glob rfl z)) (am_cons (let ⟨_, z⟩ := T.int 31 (x := "MOST_RANGE") (z := 1000000) rfl; em_glob rfl z) am_nil)))) am_nil)))
  (smm_one (sm_expr (em_callE (E.fn .require) (hr.mono (Nat.le_succ _)) tk rfl (T.glo 4 rfl) (am_cons (em_callE (E.fn .is_integer) (hr.mono (Nat.le_succ _)) tk rfl (T.glo 3 rfl) (am_cons (em_var (pv 2)) (am_cons (em_var (pv 1)) (am_cons (let ⟨_, z⟩ := T.int 31 (x := "MOST_RANGE") (z := 1000000) rfl; em_glob rfl z) am_nil)))) am_nil))))))))
theorem sc_check_handlers : FnScope ["handlers", "fields", "handler", "name", "program"] ["handlers", "fields"] (defScope st_check_handlers) := ⟨rfl, rfl, rfl, by decide +kernel, rfl, by decide +kernel, by decide +kernel⟩
theorem ok_check_handlers (E : Env P w K mg base k c) {f : Addr} {fd : FuncData} (F : FunD K "check_handlers" "check_handlers" (defArgs st_check_handlers) (defBody st_check_handlers) (defScope st_check_handlers) [] [] f fd) : FnOk P w K mg base (L2.CX P w) (2 * k + 2) f fd ["handlers", "fields"] (spOf (gx K) 2 (defM 2 5 (m_check_handlers c))) := by
  have T := E.top
  have hl : (["handlers", "fields"] : List Str).length = 2 := rfl
  have S := sc_check_handlers
  have key := def_ok (G := gx K) (m := m_check_handlers c) (k := 2 * k + 1) (w := w) (P := P) (mg := mg) (base := base) F S hl
  refine key fun cdv A outer s H El hcd hr tk hp => ?_
  exact (smm_cons (sm_expr (em_callE (E.fn .require_tuple) (hr.mono (Nat.le_succ _)) tk rfl (T.glo 7 rfl) (am_cons (em_var (pv 0)) (am_cons em_int (am_cons (let ⟨_, z⟩ := T.int 33 (x := "MOST_HANDLERS") (z := 4) rfl; em_glob rfl z) am_nil)))))
  (smm_cons (sm_for (vs := [2]) hp rfl (im_seq rfl (em_var (pv 0))) (gm_name (i := 2) (by decide) sc_check_handlers.nd rfl (by first | exact Or.inl rfl | exact Or.inr rfl))
    (smm_cons (sm_expr (em_callE (E.fn .require_tuple) (hr.mono (Nat.le_succ _)) tk rfl (T.glo 7 rfl) (am_cons (em_var (pv 2)) (am_cons em_int (am_cons em_int am_nil)))))
    (smm_one (sm_expr (em_callE (E.fn .check_program) (hr.mono (Nat.le_succ _)) tk rfl (T.glo 32 rfl) (am_cons (em_ix ix_seq s_ix (em_var (pv 2)) em_int (fun _ _ => rfl)) (am_cons (em_var (pv 1)) am_nil)))))))
  (smm_one (sm_expr (em_callE (E.fn .require_different_names) (hr.mono (Nat.le_succ _)) tk rfl (T.glo 24 rfl) (am_cons (em_lc (own := [("name", 3), ("program", 4)]) rfl sc_check_handlers.nd (im_seq rfl (em_var (pv 0))) (blkOk_by (by kernel_rfl)) (fun _ _ _ _ _ => (gm_tup rfl rfl (gms_cons (gm_name (i := 3) (by decide) sc_check_handlers.nd rfl (by first | exact Or.inl rfl | exact Or.inr rfl)) (gms_cons (gm_name (i := 4) (by decide) sc_check_handlers.nd rfl (by first | exact Or.inl rfl | exact Or.inr rfl)) gms_nil)))) (fun _ _ _ _ _ => pts_yes) (fun _ _ _ _ _ => (em_var (pv 3)))) am_nil))))))
theorem sc_check_program : FnScope ["program", "fields", "sends"] ["program", "fields"] (defScope st_check_program) := ⟨rfl, rfl, rfl, by decide +kernel, rfl, by decide +kernel, by decide +kernel⟩
theorem ok_check_program (E : Env P w K mg base k c) {f : Addr} {fd : FuncData} (F : FunD K "check_program" "check_program" (defArgs st_check_program) (defBody st_check_program) (defScope st_check_program) [] [] f fd) : FnOk P w K mg base (L2.CX P w) (2 * k + 2) f fd ["program", "fields"] (spOf (gx K) 2 (defM 2 3 (m_check_program c))) := by
  have T := E.top
  have hl : (["program", "fields"] : List Str).length = 2 := rfl
  have S := sc_check_program
  have key := def_ok (G := gx K) (m := m_check_program c) (k := 2 * k + 1) (w := w) (P := P) (mg := mg) (base := base) F S hl
  refine key fun cdv A outer s H El hcd hr tk hp => ?_
  exact (smm_cons (sm_set (j := 2) sc_check_program.nd rfl (Or.inl rfl) (em_methE (cl := "ProgramCheck") (E.fn .ProgramCheck_program) rfl (em_makeE (cl := "ProgramCheck") (E.fn .ProgramCheck_init) rfl (T.mkr 35 rfl) hr tk rfl (T.glo 36 rfl) (am_cons (em_var (pv 1)) am_nil)) (T.cls 37 rfl) (T.meth 38 rfl) (hr.mono (Nat.le_succ _)) tk (am_cons (em_var (pv 0)) (am_cons em_int am_nil))))
  (smm_one (sm_expr (em_callE (E.fn .require) (hr.mono (Nat.le_succ _)) tk rfl (T.glo 4 rfl) (am_cons (em_cmp o_le s_ord (em_var (pv 2)) (let ⟨_, z⟩ := T.int 34 (x := "MOST_SENDS") (z := 4) rfl; em_glob rfl z) (nomark _)) am_nil)))))
theorem sc_check_objects : FnScope ["objects", "kinds", "names", "name", "kind"] ["objects", "kinds"] (defScope st_check_objects) := ⟨rfl, rfl, rfl, by decide +kernel, rfl, by decide +kernel, by decide +kernel⟩
theorem ok_check_objects (E : Env P w K mg base k c) {f : Addr} {fd : FuncData} (F : FunD K "check_objects" "check_objects" (defArgs st_check_objects) (defBody st_check_objects) (defScope st_check_objects) [] [] f fd) : FnOk P w K mg base (L2.CX P w) (2 * k + 2) f fd ["objects", "kinds"] (spOf (gx K) 2 (defM 2 5 (m_check_objects c))) := by
  have T := E.top
  have hl : (["objects", "kinds"] : List Str).length = 2 := rfl
  have S := sc_check_objects
  have key := def_ok (G := gx K) (m := m_check_objects c) (k := 2 * k + 1) (w := w) (P := P) (mg := mg) (base := base) F S hl
  refine key fun cdv A outer s H El hcd hr tk hp => ?_
  exact (smm_cons (sm_setLc (i := 2) (own := [("kind", 4)]) rfl sc_check_objects.nd rfl rfl (sw_true rfl rfl rfl (by decide +kernel)) (im_seq rfl (em_var (pv 1))) (blkOk_by (by kernel_rfl)) (fun _ _ _ _ _ => (gm_name (i := 4) (by decide) sc_check_objects.nd rfl (by first | exact Or.inl rfl | exact Or.inr rfl))) (fun _ _ _ _ _ => pts_yes) (fun _ _ _ _ _ => (em_ix ix_seq s_ix (em_var (pv 4)) em_int (fun _ _ => rfl))))
  (smm_cons (sm_expr (em_callE (E.fn .require_tuple) (hr.mono (Nat.le_succ _)) tk rfl (T.glo 7 rfl) (am_cons (em_var (pv 0)) (am_cons em_int (am_cons (let ⟨_, z⟩ := T.int 39 (x := "MOST_OBJECTS") (z := 8) rfl; em_glob rfl z) am_nil)))))
  (smm_one (sm_for (vs := [3]) hp rfl (im_seq rfl (em_var (pv 0))) (gm_name (i := 3) (by decide) sc_check_objects.nd rfl (by first | exact Or.inl rfl | exact Or.inr rfl))
    (smm_one (sm_expr (em_callE (E.fn .require) (hr.mono (Nat.le_succ _)) tk rfl (T.glo 4 rfl) (am_cons (em_cmp op_in_seq s_in (em_var (pv 3)) (em_var (pv 2)) (by rfl)) am_nil))))))))
theorem sc_check_start : FnScope ["start", "many", "end", "event", "time", "target", "name", "arg"] ["start", "many", "end"] (defScope st_check_start) := ⟨rfl, rfl, rfl, by decide +kernel, rfl, by decide +kernel, by decide +kernel⟩
theorem ok_check_start (E : Env P w K mg base k c) {f : Addr} {fd : FuncData} (F : FunD K "check_start" "check_start" (defArgs st_check_start) (defBody st_check_start) (defScope st_check_start) [] [] f fd) : FnOk P w K mg base (L2.CX P w) (2 * k + 2) f fd ["start", "many", "end"] (spOf (gx K) 3 (defM 3 8 (m_check_start c))) := by
  have T := E.top
  have hl : (["start", "many", "end"] : List Str).length = 3 := rfl
  have S := sc_check_start
  have key := def_ok (G := gx K) (m := m_check_start c) (k := 2 * k + 1) (w := w) (P := P) (mg := mg) (base := base) F S hl
  refine key fun cdv A outer s H El hcd hr tk hp => ?_
  exact (smm_cons (sm_expr (em_callE (E.fn .require_tuple) (hr.mono (Nat.le_succ _)) tk rfl (T.glo 7 rfl) (am_cons (em_var (pv 0)) (am_cons em_int (am_cons (let ⟨_, z⟩ := T.int 41 (x := "MOST_STARTS") (z := 12) rfl; em_glob rfl z) am_nil)))))
  (smm_one (sm_for (vs := [3]) hp rfl (im_seq rfl (em_var (pv 0))) (gm_name (i := 3) (by decide) sc_check_start.nd rfl (by first | exact Or.inl rfl | exact Or.inr rfl))
    (smm_cons (sm_expr (em_callE (E.fn .require_tuple) (hr.mono (Nat.le_succ _)) tk rfl (T.glo 7 rfl) (am_cons (em_var (pv 3)) (am_cons em_int (am_cons em_int am_nil)))))
    (smm_cons (sm_asg (vs := [4, 5, 6, 7]) (em_var (pv 3)) (gm_tup rfl rfl (gms_cons (gm_name (i := 4) (by decide) sc_check_start.nd rfl (by first | exact Or.inl rfl | exact Or.inr rfl)) (gms_cons (gm_name (i := 5) (by decide) sc_check_start.nd rfl (by first | exact Or.inl rfl | exact Or.inr rfl)) (gms_cons (gm_name (i := 6) (by decide) sc_check_start.nd rfl (by first | exact Or.inl rfl | exact Or.inr rfl)) (gms_cons (gm_name (i := 7) (by decide) sc_check_start.nd rfl (by first | exact Or.inl rfl | exact Or.inr rfl)) gms_nil))))))
    (smm_cons (sm_expr (em_callE (E.fn .require) (hr.mono (Nat.le_succ _)) tk rfl (T.glo 4 rfl) (am_cons (em_callE (E.fn .is_integer) (hr.mono (Nat.le_succ _)) tk rfl (T.glo 3 rfl) (am_cons (em_var (pv 4)) (am_cons em_int (am_cons (em_var (pv 2)) am_nil)))) am_nil)))
    (smm_cons (sm_expr (em_callE (E.fn .require) (hr.mono (Nat.le_succ _)) tk rfl (T.glo 4 rfl) (am_cons (em_callE (E.fn .is_integer) (hr.mono (Nat.le_succ _)) tk rfl (T.glo 3 rfl) (am_cons (em_var (pv 5)) (am_cons em_int (am_cons (em_op op_sub s_sub (em_var (pv 1)) em_int) am_nil)))) am_nil)))
    (smm_cons (sm_expr (em_callE (E.fn .require) (hr.mono (Nat.le_succ _)) tk rfl (T.glo 4 rfl) (am_cons (em_callE (E.fn .is_name) (hr.mono (Nat.le_succ _)) tk rfl (T.glo 18 rfl) (am_cons (em_var (pv 6)) am_nil)) am_nil)))
    (smm_one (sm_expr (em_callE (E.fn .require) (hr.mono (Nat.le_succ _)) tk rfl (T.glo 4 rfl) (am_cons (em_callE (E.fn .is_integer) (hr.mono (Nat.le_succ _)) tk rfl (T.glo 3 rfl) (am_cons (em_var (pv 7)) (am_cons (em_un un_neg s_neg (let ⟨_, z⟩ := T.int 40 (x := "MOST_NUMBER") (z := 999) rfl; em_glob rfl z)) (am_cons (let ⟨_, z⟩ := T.int 40 (x := "MOST_NUMBER") (z := 999) rfl; em_glob rfl z) am_nil)))) am_nil))))))))))))
theorem sc_ProgramCheck_init : FnScope ["self", "fields"] ["self", "fields"] (defScope st_ProgramCheck_init) := ⟨rfl, rfl, rfl, by decide +kernel, rfl, by decide +kernel, by decide +kernel⟩
theorem ok_ProgramCheck_init (E : Env P w K mg base k c) {f : Addr} {fd : FuncData} (F : FunD K "__init__" "ProgramCheck.__init__" (defArgs st_ProgramCheck_init) (defBody st_ProgramCheck_init) (defScope st_ProgramCheck_init) [] [] f fd) : FnOk P w K mg base (L2.CX P w) (2 * k + 2) f fd ["self", "fields"] (spOf (gx K) 2 (defM 2 2 (m_ProgramCheck_init c))) := by
  have T := E.top
  have hl : (["self", "fields"] : List Str).length = 2 := rfl
  have S := sc_ProgramCheck_init
  have key := def_ok (G := gx K) (m := m_ProgramCheck_init c) (k := 2 * k + 1) (w := w) (P := P) (mg := mg) (base := base) F S hl
  refine key fun cdv A outer s H El hcd hr tk hp => ?_
  exact (smm_cons (sm_fld rfl (fld_cons (T.cls 37 rfl) (T.noat 43 rfl) fld_nil) (em_var (pv 0)) (em_var (pv 1)) rfl)
  (smm_one (sm_fld rfl (fld_cons (T.cls 37 rfl) (T.noat 42 rfl) fld_nil) (em_var (pv 0)) em_int rfl)))
theorem sc_ProgramCheck_program : FnScope ["self", "value", "depth", "sends", "statement"] ["self", "value", "depth"] (defScope st_ProgramCheck_program) := ⟨rfl, rfl, rfl, by decide +kernel, rfl, by decide +kernel, by decide +kernel⟩
theorem ok_ProgramCheck_program (E : Env P w K mg base k c) {f : Addr} {fd : FuncData} (F : FunD K "program" "ProgramCheck.program" (defArgs st_ProgramCheck_program) (defBody st_ProgramCheck_program) (defScope st_ProgramCheck_program) [] [] f fd) : FnOk P w K mg base (L2.CX P w) (2 * k + 2) f fd ["self", "value", "depth"] (spOf (gx K) 3 (defM 3 5 (m_ProgramCheck_program c))) := by
  have T := E.top
  have hl : (["self", "value", "depth"] : List Str).length = 3 := rfl
  have S := sc_ProgramCheck_program
  have key := def_ok (G := gx K) (m := m_ProgramCheck_program c) (k := 2 * k + 1) (w := w) (P := P) (mg := mg) (base := base) F S hl
  refine key fun cdv A outer s H El hcd hr tk hp => ?_
  exact (smm_cons (sm_expr (em_callE (E.fn .require) (hr.mono (Nat.le_succ _)) tk rfl (T.glo 4 rfl) (am_cons (em_and (em_isT (Ts := "tuple") rfl (by decide) rfl (T.free 16 rfl) rfl (T.free 11 rfl) (by decide +kernel) (em_var (pv 1))) (em_one (em_cmp o_gt s_ord (em_callB c_len s_len rfl (T.free 0 rfl) (by decide +kernel) (am_cons (em_var (pv 1)) am_nil)) em_int (nomark _)))) am_nil)))
  (smm_cons (sm_set (j := 3) sc_ProgramCheck_program.nd rfl (Or.inl rfl) em_int)
  (smm_cons (sm_for (vs := [4]) hp rfl (im_seq rfl (em_var (pv 1))) (gm_name (i := 4) (by decide) sc_ProgramCheck_program.nd rfl (by first | exact Or.inl rfl | exact Or.inr rfl))
    (smm_one (sm_aug (j := 3) sc_ProgramCheck_program.nd rfl (Or.inl rfl) (em_methE (cl := "ProgramCheck") (E.fn .ProgramCheck_statement) rfl (em_var (pv 0)) (T.cls 37 rfl) (T.meth 44 rfl) (hr.mono (Nat.le_succ _)) tk (am_cons (em_var (pv 4)) (am_cons (em_var (pv 2)) am_nil))) ip_add s_ipI)))
  (smm_one (sm_ret (em_var (pv 3)))))))
theorem sc_ProgramCheck_statement : FnScope ["self", "value", "depth", "name", "e", "target", "delay", "arg", "first", "second"] ["self", "value", "depth"] (defScope st_ProgramCheck_statement) := ⟨rfl, rfl, rfl, by decide +kernel, rfl, by decide +kernel, by decide +kernel⟩
theorem ok_ProgramCheck_statement (E : Env P w K mg base k c) {f : Addr} {fd : FuncData} (F : FunD K "statement" "ProgramCheck.statement" (defArgs st_ProgramCheck_statement) (defBody st_ProgramCheck_statement) (defScope st_ProgramCheck_statement) [] [] f fd) : FnOk P w K mg base (L2.CX P w) (2 * k + 2) f fd ["self", "value", "depth"] (spOf (gx K) 3 (defM 3 10 (m_ProgramCheck_statement c))) := by
  have T := E.top
  have hl : (["self", "value", "depth"] : List Str).length = 3 := rfl
  have S := sc_ProgramCheck_statement
  have key := def_ok (G := gx K) (m := m_ProgramCheck_statement c) (k := 2 * k + 1) (w := w) (P := P) (mg := mg) (base := base) F S hl
  refine key fun cdv A outer s H El hcd hr tk hp => ?_
  exact (smm_cons (sm_expr (em_methE (cl := "ProgramCheck") (E.fn .ProgramCheck_enter) rfl (em_var (pv 0)) (T.cls 37 rfl) (T.meth 46 rfl) (hr.mono (Nat.le_succ _)) tk (am_cons (em_var (pv 1)) (am_cons (em_var (pv 2)) am_nil))))
  (smm_one (sm_match (em_var (pv 1))
  (mcs_cons sc_ProgramCheck_statement.nd (mp_seq rfl rfl (mps_cons rfl (mp_lit rfl hr.units) (mps_cons rfl (mp_cap (i := 3) rfl (Or.inl rfl)) (mps_cons rfl (mp_cap (i := 4) rfl (Or.inl rfl)) mps_nil)))) (smm_cons (sm_expr (em_callE (E.fn .require) (hr.mono (Nat.le_succ _)) tk rfl (T.glo 4 rfl) (am_cons (em_cmp op_in_seq s_in (em_var (pv 3)) (em_fld rfl (fld_cons (T.cls 37 rfl) (T.noat 43 rfl) fld_nil) (em_var (pv 0)) rfl) (by rfl)) am_nil)))
    (smm_cons (sm_expr (em_methE (cl := "ProgramCheck") (E.fn .ProgramCheck_expression) rfl (em_var (pv 0)) (T.cls 37 rfl) (T.meth 45 rfl) (hr.mono (Nat.le_succ _)) tk (am_cons (em_var (pv 4)) (am_cons (em_op o_add s_add (em_var (pv 2)) em_int) am_nil))))
    (smm_one (sm_ret em_int))))
  (mcs_cons sc_ProgramCheck_statement.nd (mp_seq rfl rfl (mps_cons rfl (mp_lit rfl hr.units) (mps_cons rfl (mp_cap (i := 5) rfl (Or.inl rfl)) (mps_cons rfl (mp_cap (i := 6) rfl (Or.inl rfl)) (mps_cons rfl (mp_cap (i := 3) rfl (Or.inl rfl)) (mps_cons rfl (mp_cap (i := 7) rfl (Or.inl rfl)) mps_nil)))))) (smm_cons (sm_expr (em_callE (E.fn .require) (hr.mono (Nat.le_succ _)) tk rfl (T.glo 4 rfl) (am_cons (em_callE (E.fn .is_name) (hr.mono (Nat.le_succ _)) tk rfl (T.glo 18 rfl) (am_cons (em_var (pv 3)) am_nil)) am_nil)))
    (smm_cons (sm_expr (em_methE (cl := "ProgramCheck") (E.fn .ProgramCheck_expression) rfl (em_var (pv 0)) (T.cls 37 rfl) (T.meth 45 rfl) (hr.mono (Nat.le_succ _)) tk (am_cons (em_var (pv 5)) (am_cons (em_op o_add s_add (em_var (pv 2)) em_int) am_nil))))
    (smm_cons (sm_expr (em_methE (cl := "ProgramCheck") (E.fn .ProgramCheck_expression) rfl (em_var (pv 0)) (T.cls 37 rfl) (T.meth 45 rfl) (hr.mono (Nat.le_succ _)) tk (am_cons (em_var (pv 6)) (am_cons (em_op o_add s_add (em_var (pv 2)) em_int) am_nil))))
    (smm_cons (sm_expr (em_methE (cl := "ProgramCheck") (E.fn .ProgramCheck_expression) rfl (em_var (pv 0)) (T.cls 37 rfl) (T.meth 45 rfl) (hr.mono (Nat.le_succ _)) tk (am_cons (em_var (pv 7)) (am_cons (em_op o_add s_add (em_var (pv 2)) em_int) am_nil))))
    (smm_one (sm_ret em_int))))))
  (mcs_cons sc_ProgramCheck_statement.nd (mp_seq rfl rfl (mps_cons rfl (mp_lit rfl hr.units) (mps_cons rfl (mp_cap (i := 4) rfl (Or.inl rfl)) (mps_cons rfl (mp_cap (i := 8) rfl (Or.inl rfl)) (mps_cons rfl (mp_cap (i := 9) rfl (Or.inl rfl)) mps_nil))))) (smm_cons (sm_expr (em_methE (cl := "ProgramCheck") (E.fn .ProgramCheck_expression) rfl (em_var (pv 0)) (T.cls 37 rfl) (T.meth 45 rfl) (hr.mono (Nat.le_succ _)) tk (am_cons (em_var (pv 4)) (am_cons (em_op o_add s_add (em_var (pv 2)) em_int) am_nil))))
    (smm_one (sm_ret (em_callB (call_max2 rfl) s_m2 rfl (T.free 8 rfl) (by decide +kernel) (am_cons (em_methE (cl := "ProgramCheck") (E.fn .ProgramCheck_program) rfl (em_var (pv 0)) (T.cls 37 rfl) (T.meth 38 rfl) (hr.mono (Nat.le_succ _)) tk (am_cons (em_var (pv 8)) (am_cons (em_op o_add s_add (em_var (pv 2)) em_int) am_nil))) (am_cons (em_methE (cl := "ProgramCheck") (E.fn .ProgramCheck_program) rfl (em_var (pv 0)) (T.cls 37 rfl) (T.meth 38 rfl) (hr.mono (Nat.le_succ _)) tk (am_cons (em_var (pv 9)) (am_cons (em_op o_add s_add (em_var (pv 2)) em_int) am_nil))) am_nil))))))
  (mcs_cons sc_ProgramCheck_statement.nd (mp_seq rfl rfl (mps_cons rfl (mp_lit rfl hr.units) mps_nil)) (smm_one (sm_ret em_int))
  (mcs_cons sc_ProgramCheck_statement.nd mp_wild (smm_one (sm_raise rfl rfl tk (T.exc 14 rfl) rfl (T.glo 15 rfl)))
  mcs_nil))))))))
theorem sc_ProgramCheck_expression : FnScope ["self", "value", "depth", "n", "name", "a", "b"] ["self", "value", "depth"] (defScope st_ProgramCheck_expression) := ⟨rfl, rfl, rfl, by decide +kernel, rfl, by decide +kernel, by decide +kernel⟩
theorem ok_ProgramCheck_expression (E : Env P w K mg base k c) {f : Addr} {fd : FuncData} (F : FunD K "expression" "ProgramCheck.expression" (defArgs st_ProgramCheck_expression) (defBody st_ProgramCheck_expression) (defScope st_ProgramCheck_expression) [] [] f fd) : FnOk P w K mg base (L2.CX P w) (2 * k + 2) f fd ["self", "value", "depth"] (spOf (gx K) 3 (defM 3 7 (m_ProgramCheck_expression c))) := by
  have T := E.top
  have hl : (["self", "value", "depth"] : List Str).length = 3 := rfl
  have S := sc_ProgramCheck_expression
  have key := def_ok (G := gx K) (m := m_ProgramCheck_expression c) (k := 2 * k + 1) (w := w) (P := P) (mg := mg) (base := base) F S hl
  refine key fun cdv A outer s H El hcd hr tk hp => ?_
  exact (smm_cons (sm_expr (em_methE (cl := "ProgramCheck") (E.fn .ProgramCheck_enter) rfl (em_var (pv 0)) (T.cls 37 rfl) (T.meth 46 rfl) (hr.mono (Nat.le_succ _)) tk (am_cons (em_var (pv 1)) (am_cons (em_var (pv 2)) am_nil))))
  (smm_one (sm_match (em_var (pv 1))
  (mcs_cons sc_ProgramCheck_expression.nd (mp_seq rfl rfl (mps_cons rfl (mp_lit rfl hr.units) (mps_cons rfl (mp_cap (i := 3) rfl (Or.inl rfl)) mps_nil))) (smm_one (sm_expr (em_callE (E.fn .require) (hr.mono (Nat.le_succ _)) tk rfl (T.glo 4 rfl) (am_cons (em_callE (E.fn .is_integer) (hr.mono (Nat.le_succ _)) tk rfl (T.glo 3 rfl) (am_cons (em_var (pv 3)) (am_cons (em_un un_neg s_neg (let ⟨_, z⟩ := T.int 40 (x := "MOST_NUMBER") (z := 999) rfl; em_glob rfl z)) (am_cons (let ⟨_, z⟩ := T.int 40 (x := "MOST_NUMBER") (z := 999) rfl; em_glob rfl z) am_nil)))) am_nil))))
  (mcs_cons sc_ProgramCheck_expression.nd (mp_seq rfl rfl (mps_cons rfl (mp_lit rfl hr.units) (mps_cons rfl (mp_cap (i := 4) rfl (Or.inl rfl)) mps_nil))) (smm_one (sm_expr (em_callE (E.fn .require) (hr.mono (Nat.le_succ _)) tk rfl (T.glo 4 rfl) (am_cons (em_cmp op_in_seq s_in (em_var (pv 4)) (em_fld rfl (fld_cons (T.cls 37 rfl) (T.noat 43 rfl) fld_nil) (em_var (pv 0)) rfl) (by rfl)) am_nil))))
  (mcs_cons sc_ProgramCheck_expression.nd (mp_seq rfl rfl (mps_cons rfl (mp_or (mf_cons rfl hr.units (mf_cons rfl hr.units (mf_cons rfl hr.units mf_nil)))) mps_nil)) (smm_one sm_pass)
  (mcs_cons sc_ProgramCheck_expression.nd (mp_seq rfl rfl (mps_cons rfl (mp_lit rfl hr.units) (mps_cons rfl (mp_cap (i := 5) rfl (Or.inl rfl)) mps_nil))) (smm_one (sm_expr (em_methE (cl := "ProgramCheck") (E.fn .ProgramCheck_expression) rfl (em_var (pv 0)) (T.cls 37 rfl) (T.meth 45 rfl) (hr.mono (Nat.le_succ _)) tk (am_cons (em_var (pv 5)) (am_cons (em_op o_add s_add (em_var (pv 2)) em_int) am_nil)))))
  (mcs_cons sc_ProgramCheck_expression.nd (mp_seq rfl rfl (mps_cons rfl (mp_or (mf_cons rfl hr.units (mf_cons rfl hr.units mf_nil))) (mps_cons rfl (mp_cap (i := 5) rfl (Or.inl rfl)) (mps_cons rfl (mp_cap (i := 3) rfl (Or.inl rfl)) mps_nil)))) (smm_cons (sm_expr (em_methE (cl := "ProgramCheck") (E.fn .ProgramCheck_expression) rfl (em_var (pv 0)) (T.cls 37 rfl) (T.meth 45 rfl) (hr.mono (Nat.le_succ _)) tk (am_cons (em_var (pv 5)) (am_cons (em_op o_add s_add (em_var (pv 2)) em_int) am_nil))))
    (smm_one (sm_expr (em_callE (E.fn .require) (hr.mono (Nat.le_succ _)) tk rfl (T.glo 4 rfl) (am_cons (em_callE (E.fn .is_integer) (hr.mono (Nat.le_succ _)) tk rfl (T.glo 3 rfl) (am_cons (em_var (pv 3)) (am_cons em_int (am_cons (let ⟨_, z⟩ := T.int 40 (x := "MOST_NUMBER") (z := 999) rfl; em_glob rfl z) am_nil)))) am_nil)))))
  (mcs_cons sc_ProgramCheck_expression.nd (mp_seq rfl rfl (mps_cons rfl (mp_or (mf_cons rfl hr.units (mf_cons rfl hr.units (mf_cons rfl hr.units (mf_cons rfl hr.units (mf_cons rfl hr.units (mf_cons rfl hr.units (mf_cons rfl hr.units (mf_cons rfl hr.units (mf_cons rfl hr.units mf_nil)))))))))) (mps_cons rfl (mp_cap (i := 5) rfl (Or.inl rfl)) (mps_cons rfl (mp_cap (i := 6) rfl (Or.inl rfl)) mps_nil)))) (smm_cons (sm_expr (em_methE (cl := "ProgramCheck") (E.fn .ProgramCheck_expression) rfl (em_var (pv 0)) (T.cls 37 rfl) (T.meth 45 rfl) (hr.mono (Nat.le_succ _)) tk (am_cons (em_var (pv 5)) (am_cons (em_op o_add s_add (em_var (pv 2)) em_int) am_nil))))
    (smm_one (sm_expr (em_methE (cl := "ProgramCheck") (E.fn .ProgramCheck_expression) rfl (em_var (pv 0)) (T.cls 37 rfl) (T.meth 45 rfl) (hr.mono (Nat.le_succ _)) tk (am_cons (em_var (pv 6)) (am_cons (em_op o_add s_add (em_var (pv 2)) em_int) am_nil))))))
  (mcs_cons sc_ProgramCheck_expression.nd mp_wild (smm_one (sm_raise rfl rfl tk (T.exc 14 rfl) rfl (T.glo 15 rfl)))
  mcs_nil))))))))))
theorem sc_ProgramCheck_enter : FnScope ["self", "value", "depth"] ["self", "value", "depth"] (defScope st_ProgramCheck_enter) := ⟨rfl, rfl, rfl, by decide +kernel, rfl, by decide +kernel, by decide +kernel⟩
theorem ok_ProgramCheck_enter (E : Env P w K mg base k c) {f : Addr} {fd : FuncData} (F : FunD K "enter" "ProgramCheck.enter" (defArgs st_ProgramCheck_enter) (defBody st_ProgramCheck_enter) (defScope st_ProgramCheck_enter) [] [] f fd) : FnOk P w K mg base (L2.CX P w) (2 * k + 2) f fd ["self", "value", "depth"] (spOf (gx K) 3 (defM 3 3 (m_ProgramCheck_enter c))) := by
  have T := E.top
  have hl : (["self", "value", "depth"] : List Str).length = 3 := rfl
  have S := sc_ProgramCheck_enter
  have key := def_ok (G := gx K) (m := m_ProgramCheck_enter c) (k := 2 * k + 1) (w := w) (P := P) (mg := mg) (base := base) F S hl
  refine key fun cdv A outer s H El hcd hr tk hp => ?_
  exact (smm_cons (sm_fldaug rfl (fld_cons (T.cls 37 rfl) (T.noat 42 rfl) fld_nil) (em_var (pv 0)) em_int in_add (s_ipI (g := fun i j => i + j)))
  (smm_cons (sm_expr (em_callE (E.fn .require) (hr.mono (Nat.le_succ _)) tk rfl (T.glo 4 rfl) (am_cons (em_and (em_cmp o_le s_ord (em_fld rfl (fld_cons (T.cls 37 rfl) (T.noat 42 rfl) fld_nil) (em_var (pv 0)) rfl) (let ⟨_, z⟩ := T.int 48 (x := "MOST_NODES") (z := 80) rfl; em_glob rfl z) (nomark _)) (em_one (em_cmp o_le s_ord (em_var (pv 2)) (let ⟨_, z⟩ := T.int 47 (x := "MOST_DEPTH") (z := 8) rfl; em_glob rfl z) (nomark _)))) am_nil)))
  (smm_one (sm_expr (em_callE (E.fn .require) (hr.mono (Nat.le_succ _)) tk rfl (T.glo 4 rfl) (am_cons (em_isT (Ts := "tuple") rfl (by decide) rfl (T.free 16 rfl) rfl (T.free 11 rfl) (by decide +kernel) (em_var (pv 1))) am_nil))))))
theorem sc_law_draws : FnScope ["script", "draws", "k", "cell", "step", "mixed"] ["script"] (defScope st_law_draws) := ⟨rfl, rfl, rfl, by decide +kernel, rfl, by decide +kernel, by decide +kernel⟩
theorem ok_law_draws (E : Env P w K mg base k c) {f : Addr} {fd : FuncData} (F : FunD K "_law_draws" "_law_draws" (defArgs st_law_draws) (defBody st_law_draws) (defScope st_law_draws) [] [] f fd) : FnOk P w K mg base (L2.CX P w) (2 * k + 2) f fd ["script"] (spOf (gx K) 1 (defM 1 6 (m_law_draws c))) := by
  have T := E.top
  have hl : (["script"] : List Str).length = 1 := rfl
  have S := sc_law_draws
  have key := def_ok (G := gx K) (m := m_law_draws c) (k := 2 * k + 1) (w := w) (P := P) (mg := mg) (base := base) F S hl
  refine key fun cdv A outer s H El hcd hr tk hp => ?_
  exact (smm_cons (sm_set (j := 1) sc_law_draws.nd rfl (Or.inl rfl) (em_lst am_nil))
  (smm_cons (sm_for (vs := [2]) hp rfl (im_range1 rfl (T.free 49 rfl) (am_cons (em_callB c_len s_len rfl (T.free 0 rfl) (by decide +kernel) (am_cons (em_var (pv 0)) am_nil)) am_nil)) (gm_name (i := 2) (by decide) sc_law_draws.nd rfl (by first | exact Or.inl rfl | exact Or.inr rfl))
    (smm_cons (sm_set (j := 3) sc_law_draws.nd rfl (Or.inl rfl) (em_callB call_abs s_abs rfl (T.free 50 rfl) (by decide +kernel) (am_cons (em_ix ix_seq s_ix (em_var (pv 0)) (em_var (pv 2)) (fun _ _ => rfl)) am_nil)))
    (smm_one (sm_if (tm_cmp o_ge s_ord (em_var (pv 3)) (em_op op_pow s_pow em_int em_int) (nomark _))
      (smm_one (sm_for (vs := [4]) hp rfl (im_range1 rfl (T.free 49 rfl) (am_cons em_int am_nil)) (gm_name (i := 4) (by decide) sc_law_draws.nd rfl (by first | exact Or.inl rfl | exact Or.inr rfl))
        (smm_cons (sm_expr (em_lm rfl PySem.F.slot_list_append PySem.F.type_list_append mt_append s_append (em_var (pv 1)) (am_cons (em_op op_mod s_mod (em_callTy call_int1 s_int1 rfl (T.free 23 rfl) (by decide +kernel) (am_cons (em_var (pv 3)) am_nil)) em_int) am_nil)))
        (smm_one (sm_set (j := 3) sc_law_draws.nd rfl (Or.inl rfl) (em_op op_fdiv s_fdiv (em_var (pv 3)) em_int))))))
      (smm_cons (sm_set (j := 5) sc_law_draws.nd rfl (Or.inl rfl) (em_op o_add s_add (em_var (pv 3)) em_int))
      (smm_one (sm_for (vs := [4]) hp rfl (im_range1 rfl (T.free 49 rfl) (am_cons em_int am_nil)) (gm_name (i := 4) (by decide) sc_law_draws.nd rfl (by first | exact Or.inl rfl | exact Or.inr rfl))
        (smm_cons (sm_set (j := 5) sc_law_draws.nd rfl (Or.inl rfl) (em_op op_mod s_mod (em_callTy call_int1 s_int1 rfl (T.free 23 rfl) (by decide +kernel) (am_cons (em_op o_add s_add (em_op o_add s_add (em_op o_mulA s_mulA (em_var (pv 5)) em_int) (em_op o_mulA s_mulA em_int (em_op o_add s_add (em_var (pv 2)) (em_var (pv 4))))) em_int) am_nil)) em_int))
        (smm_cons (sm_set (j := 5) sc_law_draws.nd rfl (Or.inl rfl) (em_op op_mod s_mod (em_callTy call_int1 s_int1 rfl (T.free 23 rfl) (by decide +kernel) (am_cons (em_op o_add s_add (em_op o_mulA s_mulA (em_var (pv 5)) em_int) em_int) am_nil)) em_int))
        (smm_one (sm_expr (em_lm rfl PySem.F.slot_list_append PySem.F.type_list_append mt_append s_append (em_var (pv 1)) (am_cons (em_op op_mod s_mod (em_callTy call_int1 s_int1 rfl (T.free 23 rfl) (by decide +kernel) (am_cons (em_op op_fdiv s_fdiv (em_var (pv 5)) em_int) am_nil)) em_int) am_nil)))))))))))))
  (smm_one (sm_ret (em_var (pv 1))))))
theorem sc_law_next : FnScope ["draws", "at", "many", "index"] ["draws", "at", "many"] (defScope st_law_next) := ⟨rfl, rfl, rfl, by decide +kernel, rfl, by decide +kernel, by decide +kernel⟩
theorem ok_law_next (E : Env P w K mg base k c) {f : Addr} {fd : FuncData} (F : FunD K "_law_next" "_law_next" (defArgs st_law_next) (defBody st_law_next) (defScope st_law_next) [] [] f fd) : FnOk P w K mg base (L2.CX P w) (2 * k + 2) f fd ["draws", "at", "many"] (spOf (gx K) 3 (defM 3 4 (m_law_next c))) := by
  have T := E.top
  have hl : (["draws", "at", "many"] : List Str).length = 3 := rfl
  have S := sc_law_next
  have key := def_ok (G := gx K) (m := m_law_next c) (k := 2 * k + 1) (w := w) (P := P) (mg := mg) (base := base) F S hl
  refine key fun cdv A outer s H El hcd hr tk hp => ?_
  exact (smm_cons (sm_set (j := 3) sc_law_next.nd rfl (Or.inl rfl) (em_ix ix_seq s_ix (em_var (pv 1)) em_int (fun _ _ => rfl)))
  (smm_cons (sm_sub rfl rfl rfl (by intro _; rfl) (em_op o_add s_add (em_var (pv 3)) em_int) (em_var (pv 1)) em_int)
  (smm_cons (sm_if (tm_cmp o_lt s_ord (em_var (pv 3)) (em_callB c_len s_len rfl (T.free 0 rfl) (by decide +kernel) (am_cons (em_var (pv 0)) am_nil)) (nomark _))
    (smm_one (sm_ret (em_op op_mod s_mod (em_callTy call_int1 s_int1 rfl (T.free 23 rfl) (by decide +kernel) (am_cons (em_ix ix_seq s_ix (em_var (pv 0)) (em_var (pv 3)) (fun _ _ => rfl)) am_nil)) (em_var (pv 2)))))
    smm_nil)
  (smm_one (sm_ret em_int)))))
theorem sc_law_big : FnScope ["draws", "at", "many", "number", "k"] ["draws", "at", "many"] (defScope st_law_big) := ⟨rfl, rfl, rfl, by decide +kernel, rfl, by decide +kernel, by decide +kernel⟩
theorem ok_law_big (E : Env P w K mg base k c) {f : Addr} {fd : FuncData} (F : FunD K "_law_big" "_law_big" (defArgs st_law_big) (defBody st_law_big) (defScope st_law_big) [] [] f fd) : FnOk P w K mg base (L2.CX P w) (2 * k + 2) f fd ["draws", "at", "many"] (spOf (gx K) 3 (defM 3 5 (m_law_big c))) := by
  have T := E.top
  have hl : (["draws", "at", "many"] : List Str).length = 3 := rfl
  have S := sc_law_big
  have key := def_ok (G := gx K) (m := m_law_big c) (k := 2 * k + 1) (w := w) (P := P) (mg := mg) (base := base) F S hl
  refine key fun cdv A outer s H El hcd hr tk hp => ?_
  exact (smm_cons (sm_set (j := 3) sc_law_big.nd rfl (Or.inl rfl) em_int)
  (smm_cons (sm_for (vs := [4]) hp rfl (im_range1 rfl (T.free 49 rfl) (am_cons em_int am_nil)) (gm_name (i := 4) (by decide) sc_law_big.nd rfl (by first | exact Or.inl rfl | exact Or.inr rfl))
    (smm_one (sm_set (j := 3) sc_law_big.nd rfl (Or.inl rfl) (em_op o_add s_add (em_op o_mulA s_mulA em_int (em_var (pv 3))) (em_callE (E.fn .law_next) (hr.mono (Nat.le_succ _)) tk rfl (T.glo 51 rfl) (am_cons (em_var (pv 0)) (am_cons (em_var (pv 1)) (am_cons em_int am_nil))))))))
  (smm_one (sm_ret (em_op op_mod s_mod (em_callTy call_int1 s_int1 rfl (T.free 23 rfl) (by decide +kernel) (am_cons (em_var (pv 3)) am_nil)) (em_var (pv 2)))))))
theorem sc_law_expression : FnScope ["draws", "at", "names", "depth", "choice", "leaves", "sign", "first"] ["draws", "at", "names", "depth"] (defScope st_law_expression) := ⟨rfl, rfl, rfl, by decide +kernel, rfl, by decide +kernel, by decide +kernel⟩
theorem ok_law_expression (E : Env P w K mg base k c) {f : Addr} {fd : FuncData} (F : FunD K "_law_expression" "_law_expression" (defArgs st_law_expression) (defBody st_law_expression) (defScope st_law_expression) [] [] f fd) : FnOk P w K mg base (L2.CX P w) (2 * k + 2) f fd ["draws", "at", "names", "depth"] (spOf (gx K) 4 (defM 4 8 (m_law_expression c))) := by
  have T := E.top
  have hl : (["draws", "at", "names", "depth"] : List Str).length = 4 := rfl
  have S := sc_law_expression
  have key := def_ok (G := gx K) (m := m_law_expression c) (k := 2 * k + 1) (w := w) (P := P) (mg := mg) (base := base) F S hl
  refine key fun cdv A outer s H El hcd hr tk hp => ?_
  exact (smm_cons (sm_set (j := 4) sc_law_expression.nd rfl (Or.inl rfl) (em_callE (E.fn .law_next) (hr.mono (Nat.le_succ _)) tk rfl (T.glo 51 rfl) (am_cons (em_var (pv 0)) (am_cons (em_var (pv 1)) (am_cons em_int am_nil)))))
  (smm_cons (sm_if (TW.pt (tw_or (tm_cmp (o_eq hr.units) s_eq (em_var (pv 3)) em_int (nomark _)) (tw_or1 (tm_cmp o_lt s_ord (em_var (pv 4)) em_int (nomark _)))))
    (smm_cons (sm_set (j := 5) sc_law_expression.nd rfl (Or.inl rfl) (em_lst (am_cons (em_tup (am_cons em_str (am_cons (em_op op_sub s_sub (em_callE (E.fn .law_next) (hr.mono (Nat.le_succ _)) tk rfl (T.glo 51 rfl) (am_cons (em_var (pv 0)) (am_cons (em_var (pv 1)) (am_cons em_int am_nil)))) em_int) am_nil))) (am_cons (em_tup (am_cons em_str (am_cons (em_ix ix_seq s_ix (em_var (pv 2)) (em_callE (E.fn .law_next) (hr.mono (Nat.le_succ _)) tk rfl (T.glo 51 rfl) (am_cons (em_var (pv 0)) (am_cons (em_var (pv 1)) (am_cons (em_callB c_len s_len rfl (T.free 0 rfl) (by decide +kernel) (am_cons (em_var (pv 2)) am_nil)) am_nil)))) (fun _ _ => rfl)) am_nil))) (am_cons (em_tup (am_cons em_str am_nil)) (am_cons (em_tup (am_cons em_str am_nil)) am_nil))))))
    (smm_cons (sm_set (j := 5) sc_law_expression.nd rfl (Or.inl rfl) (em_op o_add s_add (em_var (pv 5)) (em_lst (am_cons (em_tup (am_cons em_str am_nil)) (am_cons (em_tup (am_cons em_str (am_cons (em_op o_mulA s_mulA (em_callE (E.fn .law_next) (hr.mono (Nat.le_succ _)) tk rfl (T.glo 51 rfl) (am_cons (em_var (pv 0)) (am_cons (em_var (pv 1)) (am_cons em_int am_nil)))) (em_ix ix_seq s_ix (em_lst (am_cons em_int (am_cons (em_un un_neg s_neg em_int) am_nil))) (em_callE (E.fn .law_next) (hr.mono (Nat.le_succ _)) tk rfl (T.glo 51 rfl) (am_cons (em_var (pv 0)) (am_cons (em_var (pv 1)) (am_cons em_int am_nil)))) (fun _ _ => rfl))) am_nil))) am_nil)))))
    (smm_one (sm_ret (em_ix ix_seq s_ix (em_var (pv 5)) (em_callE (E.fn .law_next) (hr.mono (Nat.le_succ _)) tk rfl (T.glo 51 rfl) (am_cons (em_var (pv 0)) (am_cons (em_var (pv 1)) (am_cons em_int am_nil)))) (fun _ _ => rfl))))))
    smm_nil)
  (smm_cons (sm_if (tm_cmp o_lt s_ord (em_var (pv 4)) em_int (nomark _))
    (smm_cons (sm_set (j := 6) sc_law_expression.nd rfl (Or.inl rfl) (em_ix ix_seq s_ix (em_lst (am_cons em_str (am_cons em_str am_nil))) (em_op op_sub s_sub (em_var (pv 4)) em_int) (fun _ _ => rfl)))
    (smm_one (sm_ret (em_tup (am_cons (em_var (pv 6)) (am_cons (em_callE (E.fn .law_expression) (hr.mono (Nat.le_succ _)) tk rfl (T.glo 52 rfl) (am_cons (em_var (pv 0)) (am_cons (em_var (pv 1)) (am_cons (em_var (pv 2)) (am_cons (em_op op_sub s_sub (em_var (pv 3)) em_int) am_nil))))) (am_cons (em_op o_add s_add em_int (em_callE (E.fn .law_next) (hr.mono (Nat.le_succ _)) tk rfl (T.glo 51 rfl) (am_cons (em_var (pv 0)) (am_cons (em_var (pv 1)) (am_cons em_int am_nil))))) am_nil)))))))
    smm_nil)
  (smm_cons (sm_if (tm_cmp (o_eq hr.units) s_eq (em_var (pv 4)) em_int (nomark _))
    (smm_one (sm_ret (em_tup (am_cons em_str (am_cons (em_callE (E.fn .law_expression) (hr.mono (Nat.le_succ _)) tk rfl (T.glo 52 rfl) (am_cons (em_var (pv 0)) (am_cons (em_var (pv 1)) (am_cons (em_var (pv 2)) (am_cons (em_op op_sub s_sub (em_var (pv 3)) em_int) am_nil))))) am_nil)))))
    smm_nil)
  (smm_cons (sm_set (j := 6) sc_law_expression.nd rfl (Or.inl rfl) (em_ix ix_seq s_ix (em_lst (am_cons em_str (am_cons em_str (am_cons em_str (am_cons em_str (am_cons em_str (am_cons em_str (am_cons em_str (am_cons em_str (am_cons em_str am_nil)))))))))) (em_op op_sub s_sub (em_var (pv 4)) em_int) (fun _ _ => rfl)))
  (smm_cons (sm_set (j := 7) sc_law_expression.nd rfl (Or.inl rfl) (em_callE (E.fn .law_expression) (hr.mono (Nat.le_succ _)) tk rfl (T.glo 52 rfl) (am_cons (em_var (pv 0)) (am_cons (em_var (pv 1)) (am_cons (em_var (pv 2)) (am_cons (em_op op_sub s_sub (em_var (pv 3)) em_int) am_nil))))))
  (smm_one (sm_ret (em_tup (am_cons (em_var (pv 6)) (am_cons (em_var (pv 7)) (am_cons (em_callE (E.fn .law_expression) (hr.mono (Nat.le_succ _)) tk rfl (T.glo 52 rfl) (am_cons (em_var (pv 0)) (am_cons (em_var (pv 1)) (am_cons (em_var (pv 2)) (am_cons (em_op op_sub s_sub (em_var (pv 3)) em_int) am_nil))))) am_nil))))))))))))
theorem sc_law_send : FnScope ["draws", "at", "names", "target", "delay", "name"] ["draws", "at", "names"] (defScope st_law_send) := ⟨rfl, rfl, rfl, by decide +kernel, rfl, by decide +kernel, by decide +kernel⟩
theorem ok_law_send (E : Env P w K mg base k c) {f : Addr} {fd : FuncData} (F : FunD K "_law_send" "_law_send" (defArgs st_law_send) (defBody st_law_send) (defScope st_law_send) [] [] f fd) : FnOk P w K mg base (L2.CX P w) (2 * k + 2) f fd ["draws", "at", "names"] (spOf (gx K) 3 (defM 3 6 (m_law_send c))) := by
  have T := E.top
  have hl : (["draws", "at", "names"] : List Str).length = 3 := rfl
  have S := sc_law_send
  have key := def_ok (G := gx K) (m := m_law_send c) (k := 2 * k + 1) (w := w) (P := P) (mg := mg) (base := base) F S hl
  refine key fun cdv A outer s H El hcd hr tk hp => ?_
  exact (smm_cons (sm_set (j := 3) sc_law_send.nd rfl (Or.inl rfl) (em_callE (E.fn .law_expression) (hr.mono (Nat.le_succ _)) tk rfl (T.glo 52 rfl) (am_cons (em_var (pv 0)) (am_cons (em_var (pv 1)) (am_cons (em_var (pv 2)) (am_cons em_int am_nil))))))
  (smm_cons (sm_set (j := 4) sc_law_send.nd rfl (Or.inl rfl) (em_tup (am_cons em_str (am_cons (em_op o_add s_add em_int (em_callE (E.fn .law_next) (hr.mono (Nat.le_succ _)) tk rfl (T.glo 51 rfl) (am_cons (em_var (pv 0)) (am_cons (em_var (pv 1)) (am_cons em_int am_nil))))) am_nil))))
  (smm_cons (sm_if (tm_cmp (o_eq hr.units) s_eq (em_callE (E.fn .law_next) (hr.mono (Nat.le_succ _)) tk rfl (T.glo 51 rfl) (am_cons (em_var (pv 0)) (am_cons (em_var (pv 1)) (am_cons em_int am_nil)))) em_int (nomark _))
    (smm_one (sm_set (j := 4) sc_law_send.nd rfl (Or.inl rfl) (em_callE (E.fn .law_expression) (hr.mono (Nat.le_succ _)) tk rfl (T.glo 52 rfl) (am_cons (em_var (pv 0)) (am_cons (em_var (pv 1)) (am_cons (em_var (pv 2)) (am_cons em_int am_nil)))))))
    smm_nil)
  (smm_cons (sm_set (j := 5) sc_law_send.nd rfl (Or.inl rfl) (em_ix ix_seq s_ix (em_lst (am_cons em_str (am_cons em_str (am_cons em_str (am_cons em_str am_nil))))) (em_callE (E.fn .law_next) (hr.mono (Nat.le_succ _)) tk rfl (T.glo 51 rfl) (am_cons (em_var (pv 0)) (am_cons (em_var (pv 1)) (am_cons em_int am_nil)))) (fun _ _ => rfl)))
  (smm_one (sm_ret (em_tup (am_cons em_str (am_cons (em_var (pv 3)) (am_cons (em_var (pv 4)) (am_cons (em_var (pv 5)) (am_cons (em_tup (am_cons em_str (am_cons (em_tup (am_cons em_str am_nil)) (am_cons (em_tup (am_cons em_str (am_cons em_int am_nil))) am_nil)))) am_nil))))))))))))
theorem sc_law_program : FnScope ["draws", "at", "names", "rows", "k", "sends", "choice"] ["draws", "at", "names"] (defScope st_law_program) := ⟨rfl, rfl, rfl, by decide +kernel, rfl, by decide +kernel, by decide +kernel⟩
theorem ok_law_program (E : Env P w K mg base k c) {f : Addr} {fd : FuncData} (F : FunD K "_law_program" "_law_program" (defArgs st_law_program) (defBody st_law_program) (defScope st_law_program) [] [] f fd) : FnOk P w K mg base (L2.CX P w) (2 * k + 2) f fd ["draws", "at", "names"] (spOf (gx K) 3 (defM 3 7 (m_law_program c))) := by
  have T := E.top
  have hl : (["draws", "at", "names"] : List Str).length = 3 := rfl
  have S := sc_law_program
  have key := def_ok (G := gx K) (m := m_law_program c) (k := 2 * k + 1) (w := w) (P := P) (mg := mg) (base := base) F S hl
  refine key fun cdv A outer s H El hcd hr tk hp => ?_
  exact (smm_cons (sm_set (j := 3) sc_law_program.nd rfl (Or.inl rfl) (em_lst am_nil))
  (smm_cons (sm_for (vs := [4]) hp rfl (im_range1 rfl (T.free 49 rfl) (am_cons (em_op o_add s_add em_int (em_callE (E.fn .law_next) (hr.mono (Nat.le_succ _)) tk rfl (T.glo 51 rfl) (am_cons (em_var (pv 0)) (am_cons (em_var (pv 1)) (am_cons em_int am_nil))))) am_nil)) (gm_name (i := 4) (by decide) sc_law_program.nd rfl (by first | exact Or.inl rfl | exact Or.inr rfl))
    (smm_one (sm_expr (em_lm rfl PySem.F.slot_list_append PySem.F.type_list_append mt_append s_append (em_var (pv 3)) (am_cons (em_tup (am_cons em_str (am_cons (em_ix ix_seq s_ix (em_var (pv 2)) (em_callE (E.fn .law_next) (hr.mono (Nat.le_succ _)) tk rfl (T.glo 51 rfl) (am_cons (em_var (pv 0)) (am_cons (em_var (pv 1)) (am_cons (em_callB c_len s_len rfl (T.free 0 rfl) (by decide +kernel) (am_cons (em_var (pv 2)) am_nil)) am_nil)))) (fun _ _ => rfl)) (am_cons (em_callE (E.fn .law_expression) (hr.mono (Nat.le_succ _)) tk rfl (T.glo 52 rfl) (am_cons (em_var (pv 0)) (am_cons (em_var (pv 1)) (am_cons (em_var (pv 2)) (am_cons em_int am_nil))))) am_nil)))) am_nil)))))
  (smm_cons (sm_setLc (i := 5) (own := [("k", 4)]) rfl sc_law_program.nd rfl rfl (sw_true rfl rfl rfl (by decide +kernel)) (im_range1 rfl (T.free 49 rfl) (am_cons (em_callE (E.fn .law_next) (hr.mono (Nat.le_succ _)) tk rfl (T.glo 51 rfl) (am_cons (em_var (pv 0)) (am_cons (em_var (pv 1)) (am_cons em_int am_nil)))) am_nil)) (blkOk_by (by kernel_rfl)) (fun _ _ _ _ _ => (gm_name (i := 4) (by decide) sc_law_program.nd rfl (by first | exact Or.inl rfl | exact Or.inr rfl))) (fun _ _ _ _ _ => pts_yes) (fun _ _ _ _ _ => (em_callE (E.fn .law_send) (hr.mono (Nat.le_succ _)) takesW0 rfl (T.glo 53 rfl) (am_cons (em_var (pv 0)) (am_cons (em_var (pv 1)) (am_cons (em_var (pv 2)) am_nil))))))
  (smm_cons (sm_set (j := 6) sc_law_program.nd rfl (Or.inl rfl) (em_callE (E.fn .law_next) (hr.mono (Nat.le_succ _)) tk rfl (T.glo 51 rfl) (am_cons (em_var (pv 0)) (am_cons (em_var (pv 1)) (am_cons em_int am_nil)))))
  (smm_cons (sm_if (tm_cmp (o_eq hr.units) s_eq (em_var (pv 6)) em_int (nomark _))
    (smm_one (sm_set (j := 5) sc_law_program.nd rfl (Or.inl rfl) (em_lst (am_cons (em_tup (am_cons em_str (am_cons (em_callE (E.fn .law_expression) (hr.mono (Nat.le_succ _)) tk rfl (T.glo 52 rfl) (am_cons (em_var (pv 0)) (am_cons (em_var (pv 1)) (am_cons (em_var (pv 2)) (am_cons em_int am_nil))))) (am_cons (em_op o_add s_add (em_callTy call_tuple_of s_tuple rfl (T.free 11 rfl) (by decide +kernel) (am_cons (em_var (pv 5)) am_nil)) (em_tup (am_cons (em_tup (am_cons em_str am_nil)) am_nil))) (am_cons (em_tup (am_cons (em_callE (E.fn .law_send) (hr.mono (Nat.le_succ _)) tk rfl (T.glo 53 rfl) (am_cons (em_var (pv 0)) (am_cons (em_var (pv 1)) (am_cons (em_var (pv 2)) am_nil)))) am_nil)) am_nil))))) am_nil))))
    smm_nil)
  (smm_cons (sm_expr (em_lm rfl PySem.F.slot_list_append PySem.F.type_list_append mt_append s_append (em_var (pv 3)) (am_cons (em_tup (am_cons em_str (am_cons (em_tup (am_cons em_str (am_cons (em_tup (am_cons em_str (am_cons em_int am_nil))) (am_cons (em_tup (am_cons em_str am_nil)) am_nil)))) (am_cons (em_op o_add s_add (em_callTy call_tuple_of s_tuple rfl (T.free 11 rfl) (by decide +kernel) (am_cons (em_var (pv 5)) am_nil)) (em_tup (am_cons (em_tup (am_cons em_str am_nil)) am_nil))) (am_cons (em_tup (am_cons (em_tup (am_cons em_str am_nil)) am_nil)) am_nil))))) am_nil)))
  (smm_cons (sm_if (tm_cmp (o_eq hr.units) s_eq (em_var (pv 6)) em_int (nomark _))
    (smm_one (sm_set (j := 3) sc_law_program.nd rfl (Or.inl rfl) (em_revL rfl (em_var (pv 3)))))
    smm_nil)
  (smm_one (sm_ret (em_callTy call_tuple_of s_tuple rfl (T.free 11 rfl) (by decide +kernel) (am_cons (em_var (pv 3)) am_nil)))))))))))
theorem sc_law_kind : FnScope ["draws", "at", "name", "names", "fields", "one", "low", "handlers"] ["draws", "at", "name"] (defScope st_law_kind) := ⟨rfl, rfl, rfl, by decide +kernel, rfl, by decide +kernel, by decide +kernel⟩
theorem ok_law_kind (E : Env P w K mg base k c) {f : Addr} {fd : FuncData} (F : FunD K "_law_kind" "_law_kind" (defArgs st_law_kind) (defBody st_law_kind) (defScope st_law_kind) [] [] f fd) : FnOk P w K mg base (L2.CX P w) (2 * k + 2) f fd ["draws", "at", "name"] (spOf (gx K) 3 (defM 3 8 (m_law_kind c))) := by
  have T := E.top
  have hl : (["draws", "at", "name"] : List Str).length = 3 := rfl
  have S := sc_law_kind
  have key := def_ok (G := gx K) (m := m_law_kind c) (k := 2 * k + 1) (w := w) (P := P) (mg := mg) (base := base) F S hl
  refine key fun cdv A outer s H El hcd hr tk hp => ?_
  exact (smm_cons (sm_set (j := 3) sc_law_kind.nd rfl (by first | exact Or.inl rfl | exact Or.inr rfl) (em_slice rfl (em_lst (am_cons em_str (am_cons em_str (am_cons em_str am_nil)))) om_none (om_some (em_op o_add s_add em_int (em_callE (E.fn .law_next) (hr.mono (Nat.le_succ _)) tk rfl (T.glo 51 rfl) (am_cons (em_var (pv 0)) (am_cons (em_var (pv 1)) (am_cons em_int am_nil))))))))
  (smm_cons (sm_set (j := 4) sc_law_kind.nd rfl (Or.inl rfl) (em_lst am_nil))
  (smm_cons (sm_for (vs := [5]) hp rfl (im_seq rfl (em_var (pv 3))) (gm_name (i := 5) (by decide) sc_law_kind.nd rfl (by first | exact Or.inl rfl | exact Or.inr rfl))
    (smm_cons (sm_set (j := 6) sc_law_kind.nd rfl (Or.inl rfl) (em_op op_sub s_sub (em_callE (E.fn .law_next) (hr.mono (Nat.le_succ _)) tk rfl (T.glo 51 rfl) (am_cons (em_var (pv 0)) (am_cons (em_var (pv 1)) (am_cons em_int am_nil)))) em_int))
    (smm_one (sm_expr (em_lm rfl PySem.F.slot_list_append PySem.F.type_list_append mt_append s_append (em_var (pv 4)) (am_cons (em_tup (am_cons (em_var (pv 5)) (am_cons (em_var (pv 6)) (am_cons (em_op o_add s_add (em_var (pv 6)) (em_callE (E.fn .law_next) (hr.mono (Nat.le_succ _)) tk rfl (T.glo 51 rfl) (am_cons (em_var (pv 0)) (am_cons (em_var (pv 1)) (am_cons em_int am_nil))))) am_nil)))) am_nil))))))
  (smm_cons (sm_setLc (i := 7) (own := [("one", 5)]) rfl sc_law_kind.nd rfl rfl (sw_true rfl rfl rfl (by decide +kernel)) (im_seq rfl (em_slice rfl (em_lst (am_cons em_str (am_cons em_str (am_cons em_str am_nil)))) om_none (om_some (em_op o_add s_add em_int (em_callE (E.fn .law_next) (hr.mono (Nat.le_succ _)) tk rfl (T.glo 51 rfl) (am_cons (em_var (pv 0)) (am_cons (em_var (pv 1)) (am_cons em_int am_nil)))))))) (blkOk_by (by kernel_rfl)) (fun _ _ _ _ _ => (gm_name (i := 5) (by decide) sc_law_kind.nd rfl (by first | exact Or.inl rfl | exact Or.inr rfl))) (fun _ _ _ _ _ => pts_yes) (fun _ _ _ _ _ => (em_tup (am_cons (em_var (pv 5)) (am_cons (em_callE (E.fn .law_program) (hr.mono (Nat.le_succ _)) takesW0 rfl (T.glo 54 rfl) (am_cons (em_var (pv 0)) (am_cons (em_var (pv 1)) (am_cons (em_var (pv 3)) am_nil)))) am_nil)))))
  (smm_one (sm_ret (em_tup (am_cons (em_var (pv 2)) (am_cons (em_callTy call_tuple_of s_tuple rfl (T.free 11 rfl) (by decide +kernel) (am_cons (em_var (pv 4)) am_nil)) (am_cons (em_callTy call_tuple_of s_tuple rfl (T.free 11 rfl) (by decide +kernel) (am_cons (em_var (pv 7)) am_nil)) am_nil))))))))))
theorem sc_law_model : FnScope ["draws", "at", "kinds", "many", "most", "objects", "end", "start", "k", "name"] ["draws", "at"] (defScope st_law_model) := ⟨rfl, rfl, rfl, by decide +kernel, rfl, by decide +kernel, by decide +kernel⟩
theorem ok_law_model (E : Env P w K mg base k c) {f : Addr} {fd : FuncData} (F : FunD K "_law_model" "_law_model" (defArgs st_law_model) (defBody st_law_model) (defScope st_law_model) [] [] f fd) : FnOk P w K mg base (L2.CX P w) (2 * k + 2) f fd ["draws", "at"] (spOf (gx K) 2 (defM 2 10 (m_law_model c))) := by
  have T := E.top
  have hl : (["draws", "at"] : List Str).length = 2 := rfl
  have S := sc_law_model
  have key := def_ok (G := gx K) (m := m_law_model c) (k := 2 * k + 1) (w := w) (P := P) (mg := mg) (base := base) F S hl
  refine key fun cdv A outer s H El hcd hr tk hp => ?_
  exact (smm_cons (sm_set (j := 2) sc_law_model.nd rfl (by first | exact Or.inl rfl | exact Or.inr rfl) (em_lc (own := [("k", 8)]) rfl sc_law_model.nd (im_range1 rfl (T.free 49 rfl) (am_cons (em_op o_add s_add em_int (em_callE (E.fn .law_next) (hr.mono (Nat.le_succ _)) tk rfl (T.glo 51 rfl) (am_cons (em_var (pv 0)) (am_cons (em_var (pv 1)) (am_cons em_int am_nil))))) am_nil)) (blkOk_by (by kernel_rfl)) (fun _ _ _ _ _ => (gm_name (i := 8) (by decide) sc_law_model.nd rfl (by first | exact Or.inl rfl | exact Or.inr rfl))) (fun _ _ _ _ _ => pts_yes) (fun _ _ _ _ _ => (em_callE (E.fn .law_kind) (hr.mono (Nat.le_succ _)) takesW0 rfl (T.glo 55 rfl) (am_cons (em_var (pv 0)) (am_cons (em_var (pv 1)) (am_cons (em_ix ix_seq s_ix (em_lst (am_cons em_str (am_cons em_str am_nil))) (em_var (pv 8)) (fun _ _ => rfl)) am_nil)))))))
  (smm_cons (sm_asg (vs := [3, 4]) (em_ix ix_seq s_ix (em_lst (am_cons (em_tup (am_cons em_int (am_cons em_int am_nil))) (am_cons (em_tup (am_cons em_int (am_cons em_int am_nil))) am_nil))) (em_callE (E.fn .law_next) (hr.mono (Nat.le_succ _)) tk rfl (T.glo 51 rfl) (am_cons (em_var (pv 0)) (am_cons (em_var (pv 1)) (am_cons em_int am_nil)))) (fun _ _ => rfl)) (gm_tup rfl rfl (gms_cons (gm_name (i := 3) (by decide) sc_law_model.nd rfl (by first | exact Or.inl rfl | exact Or.inr rfl)) (gms_cons (gm_name (i := 4) (by decide) sc_law_model.nd rfl (by first | exact Or.inl rfl | exact Or.inr rfl)) gms_nil))))
  (smm_cons (sm_set (j := 5) sc_law_model.nd rfl (Or.inl rfl) (em_callTy call_tuple_of s_tuple rfl (T.free 11 rfl) (by decide +kernel) (am_cons (em_lc (own := [("k", 8)]) rfl sc_law_model.nd (im_range1 rfl (T.free 49 rfl) (am_cons (em_op o_add s_add em_int (em_callE (E.fn .law_next) (hr.mono (Nat.le_succ _)) tk rfl (T.glo 51 rfl) (am_cons (em_var (pv 0)) (am_cons (em_var (pv 1)) (am_cons (em_var (pv 3)) am_nil))))) am_nil)) (blkOk_by (by kernel_rfl)) (fun _ _ _ _ _ => (gm_name (i := 8) (by decide) sc_law_model.nd rfl (by first | exact Or.inl rfl | exact Or.inr rfl))) (fun _ _ _ _ _ => pts_yes) (fun _ _ _ _ _ => (em_ix ix_seq s_ix (em_lst (am_cons em_str (am_cons em_str am_nil))) (em_callE (E.fn .law_next) (hr.mono (Nat.le_succ _)) takesW0 rfl (T.glo 51 rfl) (am_cons (em_var (pv 0)) (am_cons (em_var (pv 1)) (am_cons (em_callB c_len s_len rfl (T.free 0 rfl) (by decide +kernel) (am_cons (em_var (pv 2)) am_nil)) am_nil)))) (fun _ _ => rfl)))) am_nil)))
  (smm_cons (sm_set (j := 6) sc_law_model.nd rfl (Or.inl rfl) (em_ix ix_seq s_ix (em_lst (am_cons em_int (am_cons em_int (am_cons em_int (am_cons em_int (am_cons em_int am_nil)))))) (em_callE (E.fn .law_next) (hr.mono (Nat.le_succ _)) tk rfl (T.glo 51 rfl) (am_cons (em_var (pv 0)) (am_cons (em_var (pv 1)) (am_cons em_int am_nil)))) (fun _ _ => rfl)))
  (smm_cons (sm_set (j := 7) sc_law_model.nd rfl (Or.inl rfl) (em_lst am_nil))
  (smm_cons (sm_for (vs := [8]) hp rfl (im_range1 rfl (T.free 49 rfl) (am_cons (em_callE (E.fn .law_next) (hr.mono (Nat.le_succ _)) tk rfl (T.glo 51 rfl) (am_cons (em_var (pv 0)) (am_cons (em_var (pv 1)) (am_cons (em_ix ix_seq s_ix (em_lst (am_cons em_int (am_cons em_int am_nil))) (em_callTy call_int1 s_int1 rfl (T.free 23 rfl) (by decide +kernel) (am_cons (em_cmp (o_eq hr.units) s_eq (em_var (pv 3)) em_int (nomark _)) am_nil)) (fun _ _ => rfl)) am_nil)))) am_nil)) (gm_name (i := 8) (by decide) sc_law_model.nd rfl (by first | exact Or.inl rfl | exact Or.inr rfl))
    (smm_cons (sm_set (j := 9) sc_law_model.nd rfl (Or.inl rfl) (em_ix ix_seq s_ix (em_lst (am_cons em_str (am_cons em_str (am_cons em_str am_nil)))) (em_callE (E.fn .law_next) (hr.mono (Nat.le_succ _)) tk rfl (T.glo 51 rfl) (am_cons (em_var (pv 0)) (am_cons (em_var (pv 1)) (am_cons em_int am_nil)))) (fun _ _ => rfl)))
    (smm_one (sm_expr (em_lm rfl PySem.F.slot_list_append PySem.F.type_list_append mt_append s_append (em_var (pv 7)) (am_cons (em_tup (am_cons (em_callE (E.fn .law_next) (hr.mono (Nat.le_succ _)) tk rfl (T.glo 51 rfl) (am_cons (em_var (pv 0)) (am_cons (em_var (pv 1)) (am_cons (em_op o_add s_add (em_var (pv 6)) em_int) am_nil)))) (am_cons (em_callE (E.fn .law_next) (hr.mono (Nat.le_succ _)) tk rfl (T.glo 51 rfl) (am_cons (em_var (pv 0)) (am_cons (em_var (pv 1)) (am_cons (em_callB c_len s_len rfl (T.free 0 rfl) (by decide +kernel) (am_cons (em_var (pv 5)) am_nil)) am_nil)))) (am_cons (em_var (pv 9)) (am_cons (em_callE (E.fn .law_next) (hr.mono (Nat.le_succ _)) tk rfl (T.glo 51 rfl) (am_cons (em_var (pv 0)) (am_cons (em_var (pv 1)) (am_cons (em_var (pv 4)) am_nil)))) am_nil))))) am_nil))))))
  (smm_one (sm_ret (em_tup (am_cons (em_callTy call_tuple_of s_tuple rfl (T.free 11 rfl) (by decide +kernel) (am_cons (em_var (pv 2)) am_nil)) (am_cons (em_var (pv 5)) (am_cons (em_callTy call_tuple_of s_tuple rfl (T.free 11 rfl) (by decide +kernel) (am_cons (em_var (pv 7)) am_nil)) (am_cons (em_var (pv 6)) am_nil)))))))))))))
theorem sc_law_refused : FnScope ["value", "e"] ["value"] (defScope st_law_refused) := ⟨rfl, rfl, rfl, by decide +kernel, rfl, by decide +kernel, by decide +kernel⟩
theorem ok_law_refused (E : Env P w K mg base k c) {f : Addr} {fd : FuncData} (F : FunD K "_law_refused" "_law_refused" (defArgs st_law_refused) (defBody st_law_refused) (defScope st_law_refused) [] [] f fd) : FnOk P w K mg base (L2.CX P w) (2 * k + 2) f fd ["value"] (spOf (gx K) 1 (defM 1 2 (m_law_refused c))) := by
  have T := E.top
  have hl : (["value"] : List Str).length = 1 := rfl
  have S := sc_law_refused
  have key := def_ok (G := gx K) (m := m_law_refused c) (k := 2 * k + 1) (w := w) (P := P) (mg := mg) (base := base) F S hl
  refine key fun cdv A outer s H El hcd hr tk hp => ?_
  exact (smm_cons (sm_tryAs2 (i := 1) (errs := ["CourierError", "BadModel"]) (sub := (fun c => decide (c ∈ (["BadModel"] : List Str)))) (cl := "BadModel") (y1 := "CourierError") (y2 := "ValueError") (y2s := "ValueError") rfl rfl rfl sc_law_refused.nd rfl rfl ⟨rfl, by decide, .inl (T.glo 15 rfl)⟩ tk (exm_cons (T.exm 58 rfl) (by decide +kernel) (exm_cons (T.exm 57 rfl) (by decide +kernel) exm_nil))
    (fun _ _ _ tk1 hp1 => (smm_one (sm_expr (em_callE (E.fn .check_model) (hr.mono (Nat.le_succ _)) tk1 rfl (T.glo 56 rfl) (am_cons (em_var (pv 0)) am_nil)))))
    (T.free 16 rfl) (T.glo 59 rfl) (T.free 60 rfl) (by decide +kernel) (ask_cons (fun h => absurd h (by decide +kernel)) (ask_cons (fun _ => E.ask 0 rfl) ask_nil)) (fun _ _ => rfl) (fun _ _ => rfl) (fun _ _ => rfl) (fun _ _ _ => pv 1))
  (smm_one (sm_ret em_bl)))
theorem sc_law_placed : FnScope ["model", "placing"] ["model", "placing"] (defScope st_law_placed) := ⟨rfl, rfl, rfl, by decide +kernel, rfl, by decide +kernel, by decide +kernel⟩
theorem ok_law_placed (E : Env P w K mg base k c) {f : Addr} {fd : FuncData} (F : FunD K "_law_placed" "_law_placed" (defArgs st_law_placed) (defBody st_law_placed) (defScope st_law_placed) [] [] f fd) : FnOk P w K mg base (L2.CX P w) (2 * k + 2) f fd ["model", "placing"] (spOf (gx K) 2 (defM 2 2 (m_law_placed c))) := by
  have T := E.top
  have hl : (["model", "placing"] : List Str).length = 2 := rfl
  have S := sc_law_placed
  have key := def_ok (G := gx K) (m := m_law_placed c) (k := 2 * k + 1) (w := w) (P := P) (mg := mg) (base := base) F S hl
  refine key fun cdv A outer s H El hcd hr tk hp => ?_
  exact (smm_one (sm_try (errs := ["CourierError", "BadModel"]) (sub := (fun c => decide (c ∈ (["BadModel"] : List Str)))) (cl := "BadModel") rfl rfl rfl ⟨rfl, by decide, .inl (T.glo 15 rfl)⟩ tk (exm_cons (T.exm 58 rfl) (by decide +kernel) (exm_cons (T.exm 57 rfl) (by decide +kernel) exm_nil))
    (fun _ _ _ tk1 hp1 => (smm_one (sm_ret (em_callE (E.fn .check_placing) (hr.mono (Nat.le_succ _)) tk1 rfl (T.glo 61 rfl) (am_cons (em_var (pv 0)) (am_cons (em_var (pv 1)) am_nil))))))
    (fun _ _ _ => (smm_one (sm_ret em_non)))))
theorem sc_law_deep : FnScope ["depth", "e", "k"] ["depth"] (defScope st_law_deep) := ⟨rfl, rfl, rfl, by decide +kernel, rfl, by decide +kernel, by decide +kernel⟩
theorem ok_law_deep (E : Env P w K mg base k c) {f : Addr} {fd : FuncData} (F : FunD K "_law_deep" "_law_deep" (defArgs st_law_deep) (defBody st_law_deep) (defScope st_law_deep) [] [] f fd) : FnOk P w K mg base (L2.CX P w) (2 * k + 2) f fd ["depth"] (spOf (gx K) 1 (defM 1 3 (m_law_deep c))) := by
  have T := E.top
  have hl : (["depth"] : List Str).length = 1 := rfl
  have S := sc_law_deep
  have key := def_ok (G := gx K) (m := m_law_deep c) (k := 2 * k + 1) (w := w) (P := P) (mg := mg) (base := base) F S hl
  refine key fun cdv A outer s H El hcd hr tk hp => ?_
  exact (smm_cons (sm_set (j := 1) sc_law_deep.nd rfl (Or.inl rfl) (em_tup (am_cons em_str am_nil)))
  (smm_cons (sm_for (vs := [2]) hp rfl (im_range1 rfl (T.free 49 rfl) (am_cons (em_var (pv 0)) am_nil)) (gm_name (i := 2) (by decide) sc_law_deep.nd rfl (by first | exact Or.inl rfl | exact Or.inr rfl))
    (smm_one (sm_set (j := 1) sc_law_deep.nd rfl (Or.inl rfl) (em_tup (am_cons em_str (am_cons (em_var (pv 1)) am_nil))))))
  (smm_one (sm_ret (em_var (pv 1))))))
theorem sc_law_statement : FnScope ["draws", "at", "send", "rows"] ["draws", "at"] (defScope st_law_statement) := ⟨rfl, rfl, rfl, by decide +kernel, rfl, by decide +kernel, by decide +kernel⟩
theorem ok_law_statement (E : Env P w K mg base k c) {f : Addr} {fd : FuncData} (F : FunD K "_law_statement" "_law_statement" (defArgs st_law_statement) (defBody st_law_statement) (defScope st_law_statement) [] [] f fd) : FnOk P w K mg base (L2.CX P w) (2 * k + 2) f fd ["draws", "at"] (spOf (gx K) 2 (defM 2 4 (m_law_statement c))) := by
  have T := E.top
  have hl : (["draws", "at"] : List Str).length = 2 := rfl
  have S := sc_law_statement
  have key := def_ok (G := gx K) (m := m_law_statement c) (k := 2 * k + 1) (w := w) (P := P) (mg := mg) (base := base) F S hl
  refine key fun cdv A outer s H El hcd hr tk hp => ?_
  exact (smm_cons (sm_set (j := 2) sc_law_statement.nd rfl (Or.inl rfl) (em_tup (am_cons em_str (am_cons (em_tup (am_cons em_str (am_cons em_int am_nil))) (am_cons (em_tup (am_cons em_str (am_cons em_int am_nil))) (am_cons em_str (am_cons (em_tup (am_cons em_str (am_cons em_int am_nil))) am_nil)))))))
  (smm_cons (sm_set (j := 3) sc_law_statement.nd rfl (Or.inl rfl) (em_lst (am_cons (em_tup (am_cons em_str (am_cons em_str (am_cons (em_tup (am_cons em_str (am_cons em_int am_nil))) am_nil)))) (am_cons (em_tup (am_cons em_str (am_cons em_str am_nil))) (am_cons (em_tup (am_cons em_str (am_cons em_str (am_cons (em_tup (am_cons em_str (am_cons em_int am_nil))) am_nil)))) (am_cons (em_tup (am_cons em_str (am_cons em_str (am_cons (em_tup (am_cons em_str (am_cons em_bl am_nil))) am_nil)))) (am_cons (em_tup (am_cons em_str (am_cons em_str (am_cons (em_tup (am_cons em_str (am_cons (em_tup (am_cons em_str am_nil)) am_nil))) am_nil)))) am_nil)))))))
  (smm_cons (sm_set (j := 3) sc_law_statement.nd rfl (Or.inl rfl) (em_op o_add s_add (em_var (pv 3)) (em_lst (am_cons (em_tup (am_cons em_str (am_cons em_str (am_cons (em_tup (am_cons em_str (am_cons (em_tup (am_cons em_str am_nil)) (am_cons em_int am_nil)))) am_nil)))) (am_cons (em_tup (am_cons em_str (am_cons em_str (am_cons (em_tup (am_cons em_str (am_cons (em_tup (am_cons em_str am_nil)) (am_cons em_int am_nil)))) am_nil)))) (am_cons (em_tup (am_cons em_str (am_cons em_str (am_cons (em_tup (am_cons em_str (am_cons em_str am_nil))) am_nil)))) (am_cons (em_tup (am_cons em_str (am_cons em_str (am_cons (em_lst (am_cons em_str am_nil)) am_nil)))) am_nil)))))))
  (smm_cons (sm_set (j := 3) sc_law_statement.nd rfl (Or.inl rfl) (em_op o_add s_add (em_var (pv 3)) (em_lst (am_cons (em_tup (am_cons em_str (am_cons em_str (am_cons (em_tup (am_cons em_str (am_cons (em_tup (am_cons em_str am_nil)) (am_cons (em_tup (am_cons em_str am_nil)) am_nil)))) am_nil)))) (am_cons (em_tup (am_cons em_str (am_cons em_str (am_cons (em_tup (am_cons em_str (am_cons em_int am_nil))) am_nil)))) (am_cons (em_tup (am_cons em_str (am_cons em_str (am_cons (em_callE (E.fn .law_deep) (hr.mono (Nat.le_succ _)) tk rfl (T.glo 62 rfl) (am_cons em_int am_nil)) am_nil)))) (am_cons (em_tup (am_cons em_str (am_cons em_int am_nil))) (am_cons (em_tup (am_cons em_str am_nil)) am_nil))))))))
  (smm_cons (sm_set (j := 3) sc_law_statement.nd rfl (Or.inl rfl) (em_op o_add s_add (em_var (pv 3)) (em_lst (am_cons (em_tup (am_cons em_str (am_cons (em_tup (am_cons em_str (am_cons em_int am_nil))) (am_cons (em_tup (am_cons em_str (am_cons em_int am_nil))) (am_cons em_str (am_cons (em_tup (am_cons em_str (am_cons em_int am_nil))) am_nil)))))) (am_cons (em_tup (am_cons em_str (am_cons (em_tup (am_cons em_str (am_cons em_int am_nil))) (am_cons (em_tup (am_cons em_str (am_cons em_int am_nil))) (am_cons em_str am_nil))))) (am_cons (em_tup (am_cons em_str (am_cons (em_tup (am_cons em_str am_nil)) (am_cons (em_tup am_nil) (am_cons (em_tup (am_cons (em_tup (am_cons em_str am_nil)) am_nil)) am_nil))))) am_nil))))))
  (smm_cons (sm_set (j := 3) sc_law_statement.nd rfl (Or.inl rfl) (em_op o_add s_add (em_var (pv 3)) (em_lst (am_cons (em_tup (am_cons em_str (am_cons (em_tup (am_cons em_str am_nil)) (am_cons (em_tup (am_cons (em_var (pv 2)) (am_cons (em_var (pv 2)) (am_cons (em_var (pv 2)) am_nil)))) (am_cons (em_op o_mulA s_mulA (em_tup (am_cons (em_var (pv 2)) am_nil)) em_int) am_nil))))) (am_cons (em_tup (am_cons em_str (am_cons (em_tup (am_cons em_str am_nil)) (am_cons (em_tup (am_cons (em_tup (am_cons em_str am_nil)) am_nil)) am_nil)))) (am_cons em_int (am_cons (em_tup (am_cons em_str (am_cons (em_tup (am_cons em_str am_nil)) (am_cons (em_lst (am_cons (em_tup (am_cons em_str am_nil)) am_nil)) (am_cons (em_tup (am_cons (em_tup (am_cons em_str am_nil)) am_nil)) am_nil))))) am_nil)))))))
  (smm_cons (sm_set (j := 3) sc_law_statement.nd rfl (Or.inl rfl) (em_op o_add s_add (em_var (pv 3)) (em_lst (am_cons (em_tup (am_cons em_str (am_cons em_str (am_cons (em_tup (am_cons em_str (am_cons (em_callE (E.fn .law_deep) (hr.mono (Nat.le_succ _)) tk rfl (T.glo 62 rfl) (am_cons em_int am_nil)) (am_cons (em_tup (am_cons em_str am_nil)) am_nil)))) am_nil)))) (am_cons (em_tup (am_cons em_str (am_cons em_int (am_cons (em_tup (am_cons em_str am_nil)) am_nil)))) (am_cons (em_tup am_nil) am_nil))))))
  (smm_one (sm_ret (em_ix ix_seq s_ix (em_var (pv 3)) (em_callE (E.fn .law_next) (hr.mono (Nat.le_succ _)) tk rfl (T.glo 51 rfl) (am_cons (em_var (pv 0)) (am_cons (em_var (pv 1)) (am_cons (em_callB c_len s_len rfl (T.free 0 rfl) (by decide +kernel) (am_cons (em_var (pv 3)) am_nil)) am_nil)))) (fun _ _ => rfl)))))))))))
theorem sc_law_changed : FnScope ["model", "draws", "at", "kinds", "objects", "start", "end", "kind", "field", "rows", "bad", "row"] ["model", "draws", "at"] (defScope st_law_changed) := ⟨rfl, rfl, rfl, by decide +kernel, rfl, by decide +kernel, by decide +kernel⟩
theorem ok_law_changed (E : Env P w K mg base k c) {f : Addr} {fd : FuncData} (F : FunD K "_law_changed" "_law_changed" (defArgs st_law_changed) (defBody st_law_changed) (defScope st_law_changed) [] [] f fd) : FnOk P w K mg base (L2.CX P w) (2 * k + 2) f fd ["model", "draws", "at"] (spOf (gx K) 3 (defM 3 12 (m_law_changed c))) := by
  have T := E.top
  have hl : (["model", "draws", "at"] : List Str).length = 3 := rfl
  have S := sc_law_changed
  have key := def_ok (G := gx K) (m := m_law_changed c) (k := 2 * k + 1) (w := w) (P := P) (mg := mg) (base := base) F S hl
  refine key fun cdv A outer s H El hcd hr tk hp => ?_
  exact (smm_cons (sm_asg (vs := [3, 4, 5, 6]) (em_var (pv 0)) (gm_tup rfl rfl (gms_cons (gm_name (i := 3) (by decide) sc_law_changed.nd rfl (by first | exact Or.inl rfl | exact Or.inr rfl)) (gms_cons (gm_name (i := 4) (by decide) sc_law_changed.nd rfl (by first | exact Or.inl rfl | exact Or.inr rfl)) (gms_cons (gm_name (i := 5) (by decide) sc_law_changed.nd rfl (by first | exact Or.inl rfl | exact Or.inr rfl)) (gms_cons (gm_name (i := 6) (by decide) sc_law_changed.nd rfl (by first | exact Or.inl rfl | exact Or.inr rfl)) gms_nil))))))
  (smm_cons (sm_set (j := 7) sc_law_changed.nd rfl (Or.inl rfl) (em_ix ix_seq s_ix (em_var (pv 3)) em_int (fun _ _ => rfl)))
  (smm_cons (sm_set (j := 8) sc_law_changed.nd rfl (Or.inl rfl) (em_ix ix_seq s_ix (em_ix ix_seq s_ix (em_var (pv 7)) em_int (fun _ _ => rfl)) em_int (fun _ _ => rfl)))
  (smm_cons (sm_set (j := 9) sc_law_changed.nd rfl (Or.inl rfl) (em_lst (am_cons (em_tup (am_cons (em_var (pv 3)) (am_cons (em_var (pv 4)) (am_cons (em_var (pv 5)) am_nil)))) (am_cons (em_lst (am_cons (em_var (pv 3)) (am_cons (em_var (pv 4)) (am_cons (em_var (pv 5)) (am_cons (em_var (pv 6)) am_nil))))) (am_cons (em_tup (am_cons (em_var (pv 3)) (am_cons (em_var (pv 4)) (am_cons (em_var (pv 5)) (am_cons (em_un un_neg s_neg em_int) am_nil))))) (am_cons (em_tup (am_cons (em_var (pv 3)) (am_cons (em_var (pv 4)) (am_cons (em_var (pv 5)) (am_cons em_int am_nil))))) am_nil))))))
  (smm_cons (sm_set (j := 9) sc_law_changed.nd rfl (Or.inl rfl) (em_op o_add s_add (em_var (pv 9)) (em_lst (am_cons (em_tup (am_cons (em_var (pv 3)) (am_cons (em_var (pv 4)) (am_cons (em_var (pv 5)) (am_cons em_bl am_nil))))) (am_cons (em_tup (am_cons (em_tup am_nil) (am_cons (em_var (pv 4)) (am_cons (em_var (pv 5)) (am_cons (em_var (pv 6)) am_nil))))) (am_cons (em_tup (am_cons (em_var (pv 3)) (am_cons (em_tup am_nil) (am_cons (em_var (pv 5)) (am_cons (em_var (pv 6)) am_nil))))) (am_cons (em_tup (am_cons (em_var (pv 3)) (am_cons (em_op o_add s_add (em_var (pv 4)) (em_tup (am_cons em_str am_nil))) (am_cons (em_var (pv 5)) (am_cons (em_var (pv 6)) am_nil))))) am_nil)))))))
  (smm_cons (sm_set (j := 9) sc_law_changed.nd rfl (Or.inl rfl) (em_op o_add s_add (em_var (pv 9)) (em_lst (am_cons (em_tup (am_cons (em_var (pv 3)) (am_cons (em_op o_mulA s_mulA (em_tup (am_cons em_str am_nil)) em_int) (am_cons (em_var (pv 5)) (am_cons (em_var (pv 6)) am_nil))))) (am_cons (em_tup (am_cons (em_op o_add s_add (em_var (pv 3)) (em_slice rfl (em_var (pv 3)) om_none (om_some em_int))) (am_cons (em_var (pv 4)) (am_cons (em_var (pv 5)) (am_cons (em_var (pv 6)) am_nil))))) (am_cons (em_tup (am_cons (em_var (pv 3)) (am_cons (em_var (pv 4)) (am_cons (em_op o_add s_add (em_var (pv 5)) (em_tup (am_cons (em_tup (am_cons em_int (am_cons em_int (am_cons em_str am_nil)))) am_nil))) (am_cons (em_var (pv 6)) am_nil))))) am_nil))))))
  (smm_cons (sm_set (j := 9) sc_law_changed.nd rfl (Or.inl rfl) (em_op o_add s_add (em_var (pv 9)) (em_lst (am_cons (em_tup (am_cons (em_var (pv 3)) (am_cons (em_var (pv 4)) (am_cons (em_op o_add s_add (em_var (pv 5)) (em_tup (am_cons (em_tup (am_cons (em_op o_add s_add (em_var (pv 6)) em_int) (am_cons em_int (am_cons em_str (am_cons em_int am_nil))))) am_nil))) (am_cons (em_var (pv 6)) am_nil))))) (am_cons (em_tup (am_cons (em_var (pv 3)) (am_cons (em_var (pv 4)) (am_cons (em_op o_add s_add (em_var (pv 5)) (em_tup (am_cons (em_tup (am_cons em_int (am_cons (em_callB c_len s_len rfl (T.free 0 rfl) (by decide +kernel) (am_cons (em_var (pv 4)) am_nil)) (am_cons em_str (am_cons em_int am_nil))))) am_nil))) (am_cons (em_var (pv 6)) am_nil))))) am_nil)))))
  (smm_cons (sm_set (j := 9) sc_law_changed.nd rfl (Or.inl rfl) (em_op o_add s_add (em_var (pv 9)) (em_lst (am_cons (em_tup (am_cons (em_var (pv 3)) (am_cons (em_var (pv 4)) (am_cons (em_op o_add s_add (em_var (pv 5)) (em_tup (am_cons (em_tup (am_cons em_int (am_cons em_int (am_cons em_str (am_cons em_int am_nil))))) am_nil))) (am_cons (em_var (pv 6)) am_nil))))) (am_cons (em_tup (am_cons (em_var (pv 3)) (am_cons (em_var (pv 4)) (am_cons (em_op o_add s_add (em_var (pv 5)) (em_tup (am_cons (em_tup (am_cons em_int (am_cons em_int (am_cons em_str (am_cons em_int am_nil))))) am_nil))) (am_cons (em_var (pv 6)) am_nil))))) am_nil)))))
  (smm_cons (sm_set (j := 9) sc_law_changed.nd rfl (Or.inl rfl) (em_op o_add s_add (em_var (pv 9)) (em_lst (am_cons (em_tup (am_cons (em_var (pv 3)) (am_cons (em_var (pv 4)) (am_cons (em_op o_mulA s_mulA (em_tup (am_cons (em_tup (am_cons em_int (am_cons em_int (am_cons em_str (am_cons em_int am_nil))))) am_nil)) em_int) (am_cons (em_var (pv 6)) am_nil))))) (am_cons (em_tup (am_cons (em_var (pv 3)) (am_cons (em_var (pv 4)) (am_cons (em_lst am_nil) (am_cons (em_var (pv 6)) am_nil))))) (am_cons (em_tup (am_cons (em_var (pv 3)) (am_cons (em_callTy call_list_of s_list rfl (T.free 64 rfl) (by decide +kernel) (am_cons (em_var (pv 4)) am_nil)) (am_cons (em_var (pv 5)) (am_cons (em_var (pv 6)) am_nil))))) am_nil))))))
  (smm_cons (sm_set (j := 10) sc_law_changed.nd rfl (Or.inl rfl) (em_lst (am_cons (em_tup (am_cons em_str (am_cons (em_ix ix_seq s_ix (em_var (pv 7)) em_int (fun _ _ => rfl)) (am_cons (em_ix ix_seq s_ix (em_var (pv 7)) em_int (fun _ _ => rfl)) am_nil)))) (am_cons (em_tup (am_cons em_str (am_cons (em_tup am_nil) (am_cons (em_ix ix_seq s_ix (em_var (pv 7)) em_int (fun _ _ => rfl)) am_nil)))) (am_cons (em_tup (am_cons em_str (am_cons (em_tup (am_cons (em_tup (am_cons (em_ix ix_seq s_ix (em_var (pv 8)) em_int (fun _ _ => rfl)) (am_cons em_int (am_cons em_int am_nil)))) am_nil)) (am_cons (em_ix ix_seq s_ix (em_var (pv 7)) em_int (fun _ _ => rfl)) am_nil)))) (am_cons (em_tup (am_cons em_str (am_cons (em_op o_add s_add (em_ix ix_seq s_ix (em_var (pv 7)) em_int (fun _ _ => rfl)) (em_ix ix_seq s_ix (em_var (pv 7)) em_int (fun _ _ => rfl))) (am_cons (em_ix ix_seq s_ix (em_var (pv 7)) em_int (fun _ _ => rfl)) am_nil)))) am_nil))))))
  (smm_cons (sm_set (j := 10) sc_law_changed.nd rfl (Or.inl rfl) (em_op o_add s_add (em_var (pv 10)) (em_lst (am_cons (em_tup (am_cons em_str (am_cons (em_tup (am_cons (em_tup (am_cons (em_ix ix_seq s_ix (em_var (pv 8)) em_int (fun _ _ => rfl)) (am_cons em_int (am_cons em_int am_nil)))) am_nil)) (am_cons (em_ix ix_seq s_ix (em_var (pv 7)) em_int (fun _ _ => rfl)) am_nil)))) (am_cons (em_tup (am_cons em_str (am_cons (em_ix ix_seq s_ix (em_var (pv 7)) em_int (fun _ _ => rfl)) (am_cons (em_op o_add s_add (em_ix ix_seq s_ix (em_var (pv 7)) em_int (fun _ _ => rfl)) (em_slice rfl (em_ix ix_seq s_ix (em_var (pv 7)) em_int (fun _ _ => rfl)) om_none (om_some em_int))) am_nil)))) (am_cons (em_tup (am_cons em_str (am_cons (em_callTy call_list_of s_list rfl (T.free 64 rfl) (by decide +kernel) (am_cons (em_ix ix_seq s_ix (em_var (pv 7)) em_int (fun _ _ => rfl)) am_nil)) (am_cons (em_ix ix_seq s_ix (em_var (pv 7)) em_int (fun _ _ => rfl)) am_nil)))) am_nil))))))
  (smm_cons (sm_set (j := 10) sc_law_changed.nd rfl (Or.inl rfl) (em_op o_add s_add (em_var (pv 10)) (em_lst (am_cons (em_tup (am_cons em_str (am_cons (em_ix ix_seq s_ix (em_var (pv 7)) em_int (fun _ _ => rfl)) (am_cons (em_tup (am_cons (em_tup (am_cons em_str (am_cons (em_tup am_nil) am_nil))) am_nil)) am_nil)))) (am_cons (em_tup (am_cons em_str (am_cons (em_ix ix_seq s_ix (em_var (pv 7)) em_int (fun _ _ => rfl)) (am_cons (em_tup (am_cons (em_tup (am_cons em_str (am_cons (em_tup (am_cons (em_callE (E.fn .law_statement) (hr.mono (Nat.le_succ _)) tk rfl (T.glo 63 rfl) (am_cons (em_var (pv 1)) (am_cons (em_var (pv 2)) am_nil))) am_nil)) am_nil))) am_nil)) am_nil)))) (am_cons (em_tup (am_cons em_str (am_cons (em_ix ix_seq s_ix (em_var (pv 7)) em_int (fun _ _ => rfl)) (am_cons (em_tup (am_cons (em_tup (am_cons em_str am_nil)) am_nil)) am_nil)))) am_nil))))))
  (smm_cons (sm_set (j := 10) sc_law_changed.nd rfl (Or.inl rfl) (em_op o_add s_add (em_var (pv 10)) (em_lst (am_cons (em_tup (am_cons em_str (am_cons (em_ix ix_seq s_ix (em_var (pv 7)) em_int (fun _ _ => rfl)) (am_cons (em_tup (am_cons (em_tup (am_cons em_str (am_cons (em_op o_mulA s_mulA (em_tup (am_cons (em_tup (am_cons em_str am_nil)) am_nil)) em_int) am_nil))) am_nil)) am_nil)))) (am_cons (em_tup (am_cons em_str (am_cons (em_tup (am_cons (em_tup (am_cons (em_ix ix_seq s_ix (em_var (pv 8)) em_int (fun _ _ => rfl)) (am_cons em_bl (am_cons em_int am_nil)))) am_nil)) (am_cons (em_ix ix_seq s_ix (em_var (pv 7)) em_int (fun _ _ => rfl)) am_nil)))) (am_cons (em_tup (am_cons em_str (am_cons (em_ix ix_seq s_ix (em_var (pv 7)) em_int (fun _ _ => rfl)) am_nil))) (am_cons (em_tup (am_cons (em_op o_mulA s_mulA em_str em_int) (am_cons (em_ix ix_seq s_ix (em_var (pv 7)) em_int (fun _ _ => rfl)) (am_cons (em_ix ix_seq s_ix (em_var (pv 7)) em_int (fun _ _ => rfl)) am_nil)))) am_nil)))))))
  (smm_cons (sm_set (j := 10) sc_law_changed.nd rfl (Or.inl rfl) (em_op o_add s_add (em_var (pv 10)) (em_lst (am_cons (em_tup (am_cons em_str (am_cons (em_ix ix_seq s_ix (em_var (pv 7)) em_int (fun _ _ => rfl)) (am_cons (em_tup (am_cons (em_tup (am_cons em_str (am_cons (em_op o_mulA s_mulA (em_tup (am_cons (em_tup (am_cons em_str (am_cons (em_tup (am_cons em_str am_nil)) (am_cons (em_tup (am_cons em_str am_nil)) (am_cons em_str (am_cons (em_tup (am_cons em_str am_nil)) am_nil)))))) am_nil)) em_int) am_nil))) am_nil)) am_nil)))) am_nil))))
  (smm_cons (sm_set (j := 9) sc_law_changed.nd rfl (Or.inl rfl) (em_op o_add s_add (em_var (pv 9)) (em_lc (own := [("row", 11)]) rfl sc_law_changed.nd (im_seq rfl (em_var (pv 10))) (blkOk_by (by kernel_rfl)) (fun _ _ _ _ _ => (gm_name (i := 11) (by decide) sc_law_changed.nd rfl (by first | exact Or.inl rfl | exact Or.inr rfl))) (fun _ _ _ _ _ => pts_yes) (fun _ _ _ _ _ => (em_tup (am_cons (em_op o_add s_add (em_tup (am_cons (em_var (pv 11)) am_nil)) (em_slice rfl (em_var (pv 3)) (om_some em_int) om_none)) (am_cons (em_var (pv 4)) (am_cons (em_var (pv 5)) (am_cons (em_var (pv 6)) am_nil)))))))))
  (smm_cons (sm_if (tm_cmp (o_eq hr.units) s_eq (em_callE (E.fn .law_next) (hr.mono (Nat.le_succ _)) tk rfl (T.glo 51 rfl) (am_cons (em_var (pv 1)) (am_cons (em_var (pv 2)) (am_cons em_int am_nil)))) em_int (nomark _))
    (smm_one (sm_ret (em_ix ix_seq s_ix (em_var (pv 9)) (em_op op_sub s_sub (em_callB c_len s_len rfl (T.free 0 rfl) (by decide +kernel) (am_cons (em_var (pv 9)) am_nil)) em_int) (fun _ _ => rfl))))
    smm_nil)
  (smm_one (sm_ret (em_ix ix_seq s_ix (em_var (pv 9)) (em_callE (E.fn .law_next) (hr.mono (Nat.le_succ _)) tk rfl (T.glo 51 rfl) (am_cons (em_var (pv 1)) (am_cons (em_var (pv 2)) (am_cons (em_callB c_len s_len rfl (T.free 0 rfl) (by decide +kernel) (am_cons (em_var (pv 9)) am_nil)) am_nil)))) (fun _ _ => rfl))))))))))))))))))))
theorem sc_law : FnScope ["script", "draws", "at", "turn", "model", "value", "number", "kind", "due", "placing", "wrong", "field", "name"] ["script"] (defScope st_law) := ⟨rfl, rfl, rfl, by decide +kernel, rfl, by decide +kernel, by decide +kernel⟩
theorem ok_law (E : Env P w K mg base k c) {f : Addr} {fd : FuncData} (F : FunD K "law" "law" (defArgs st_law) (defBody st_law) (defScope st_law) [] [] f fd) : FnOk P w K mg base (L2.CX P w) (2 * k + 2) f fd ["script"] (spOf (gx K) 1 (defM 1 13 (m_law c))) := by
  have T := E.top
  have hl : (["script"] : List Str).length = 1 := rfl
  have S := sc_law
  have key := def_ok (G := gx K) (m := m_law c) (k := 2 * k + 1) (w := w) (P := P) (mg := mg) (base := base) F S hl
  refine key fun cdv A outer s H El hcd hr tk hp => ?_
  exact (smm_cons (sm_set (j := 1) sc_law.nd rfl (by first | exact Or.inl rfl | exact Or.inr rfl) (em_callE (E.fn .law_draws) (hr.mono (Nat.le_succ _)) tk rfl (T.glo 72 rfl) (am_cons (em_var (pv 0)) am_nil)))
  (smm_cons (sm_set (j := 2) sc_law.nd rfl (by first | exact Or.inl rfl | exact Or.inr rfl) (em_lst (am_cons em_int am_nil)))
  (smm_cons (sm_if (tm_cmp (o_ne hr.units) s_ne (em_lst (am_cons (let ⟨_, z⟩ := T.int 71 (x := "LIMIT") (z := 1000000000) rfl; em_glob rfl z) (am_cons (let ⟨_, z⟩ := T.int 70 (x := "MOST_DELAY") (z := 20) rfl; em_glob rfl z) (am_cons (let ⟨_, z⟩ := T.int 48 (x := "MOST_NODES") (z := 80) rfl; em_glob rfl z) (am_cons (let ⟨_, z⟩ := T.int 47 (x := "MOST_DEPTH") (z := 8) rfl; em_glob rfl z) (am_cons (let ⟨_, z⟩ := T.int 34 (x := "MOST_SENDS") (z := 4) rfl; em_glob rfl z) am_nil)))))) (em_lst (am_cons (em_op op_pow s_pow em_int em_int) (am_cons em_int (am_cons em_int (am_cons em_int (am_cons em_int am_nil)))))) (nomark _))
    (smm_one (sm_ret em_bl))
    smm_nil)
  (smm_cons (sm_for (vs := [3]) hp rfl (im_range1 rfl (T.free 49 rfl) (am_cons em_int am_nil)) (gm_name (i := 3) (by decide) sc_law.nd rfl (by first | exact Or.inl rfl | exact Or.inr rfl))
    (smm_cons (sm_set (j := 4) sc_law.nd rfl (by first | exact Or.inl rfl | exact Or.inr rfl) (em_callE (E.fn .law_model) (hr.mono (Nat.le_succ _)) tk rfl (T.glo 69 rfl) (am_cons (em_var (pv 1)) (am_cons (em_var (pv 2)) am_nil))))
    (smm_cons (sm_if (TW.pt (tw_or (tm_cmp (o_ne hr.units) s_ne (em_callE (E.fn .check_model) (hr.mono (Nat.le_succ _)) tk rfl (T.glo 56 rfl) (am_cons (em_var (pv 4)) am_nil)) (em_var (pv 4)) (nomark _)) (tw_or1 (tm_not (tm_val (em_callE (E.fn .law_refused) (hr.mono (Nat.le_succ _)) tk rfl (T.glo 67 rfl) (am_cons (em_callE (E.fn .law_changed) (hr.mono (Nat.le_succ _)) tk rfl (T.glo 68 rfl) (am_cons (em_var (pv 4)) (am_cons (em_var (pv 1)) (am_cons (em_var (pv 2)) am_nil)))) am_nil)))))))
      (smm_one (sm_ret em_bl))
      smm_nil)
    (smm_cons (sm_for (vs := [5]) hp rfl (im_seq rfl (em_lst (am_cons em_non (am_cons em_int (am_cons (em_tup am_nil) (am_cons em_str (am_cons (em_lst (am_cons (em_var (pv 4)) am_nil)) am_nil))))))) (gm_name (i := 5) (by decide) sc_law.nd rfl (by first | exact Or.inl rfl | exact Or.inr rfl))
      (smm_one (sm_if (tm_not (tm_val (em_callE (E.fn .law_refused) (hr.mono (Nat.le_succ _)) tk rfl (T.glo 67 rfl) (am_cons (em_var (pv 5)) am_nil))))
        (smm_one (sm_ret em_bl))
        smm_nil)))
    (smm_cons (sm_for (vs := [6]) hp rfl (im_range1 rfl (T.free 49 rfl) (am_cons (em_callB c_len s_len rfl (T.free 0 rfl) (by decide +kernel) (am_cons (em_ix ix_seq s_ix (em_var (pv 4)) em_int (fun _ _ => rfl)) am_nil)) am_nil)) (gm_name (i := 6) (by decide) sc_law.nd rfl (by first | exact Or.inl rfl | exact Or.inr rfl))
      (smm_cons (sm_set (j := 7) sc_law.nd rfl (Or.inl rfl) (em_ix ix_seq s_ix (em_lc (own := [("kind", 7)]) rfl sc_law.nd (im_seq rfl (em_ix ix_seq s_ix (em_var (pv 4)) em_int (fun _ _ => rfl))) (blkOk_by (by kernel_rfl)) (fun _ _ _ _ _ => (gm_name (i := 7) (by decide) sc_law.nd rfl (by first | exact Or.inl rfl | exact Or.inr rfl))) (fun _ _ _ _ _ => (pts_if (tm_cmp (o_eq hr.units) s_eq (em_ix ix_seq s_ix (em_var (pv 7)) em_int (fun _ _ => rfl)) (em_ix ix_seq s_ix (em_ix ix_seq s_ix (em_var (pv 4)) em_int (fun _ _ => rfl)) (em_var (pv 6)) (fun _ _ => rfl)) (nomark _)))) (fun _ _ _ _ _ => (em_var (pv 7)))) em_int (fun _ _ => rfl)))
      (smm_cons (sm_set (j := 8) sc_law.nd rfl (Or.inl rfl) (em_callTy call_tuple_of s_tuple rfl (T.free 11 rfl) (by decide +kernel) (am_cons (em_lc (own := [("field", 11)]) rfl sc_law.nd (im_seq rfl (em_ix ix_seq s_ix (em_var (pv 7)) em_int (fun _ _ => rfl))) (blkOk_by (by kernel_rfl)) (fun _ _ _ _ _ => (gm_name (i := 11) (by decide) sc_law.nd rfl (by first | exact Or.inl rfl | exact Or.inr rfl))) (fun _ _ _ _ _ => pts_yes) (fun _ _ _ _ _ => (em_callB (call_max2 rfl) s_m2 rfl (T.free 8 rfl) (by decide +kernel) (am_cons (em_ix ix_seq s_ix (em_var (pv 11)) em_int (fun _ _ => rfl)) (am_cons (em_callB (call_min2 rfl) s_m2 rfl (T.free 13 rfl) (by decide +kernel) (am_cons em_int (am_cons (em_ix ix_seq s_ix (em_var (pv 11)) em_int (fun _ _ => rfl)) am_nil))) am_nil))))) am_nil)))
      (smm_one (sm_if (tm_cmp (o_ne hr.units) s_ne (em_callE (E.fn .first_state) (hr.mono (Nat.le_succ _)) tk rfl (T.glo 66 rfl) (am_cons (em_var (pv 4)) (am_cons (em_var (pv 6)) am_nil))) (em_var (pv 8)) (nomark _))
        (smm_one (sm_ret em_bl))
        smm_nil)))))
    (smm_cons (sm_set (j := 9) sc_law.nd rfl (Or.inl rfl) (em_callTy call_tuple_of s_tuple rfl (T.free 11 rfl) (by decide +kernel) (am_cons (em_lc (own := [("name", 12)]) rfl sc_law.nd (im_seq rfl (em_ix ix_seq s_ix (em_var (pv 4)) em_int (fun _ _ => rfl))) (blkOk_by (by kernel_rfl)) (fun _ _ _ _ _ => (gm_name (i := 12) (by decide) sc_law.nd rfl (by first | exact Or.inl rfl | exact Or.inr rfl))) (fun _ _ _ _ _ => pts_yes) (fun _ _ _ _ _ => (em_callE (E.fn .law_next) (hr.mono (Nat.le_succ _)) takesW0 rfl (T.glo 51 rfl) (am_cons (em_var (pv 1)) (am_cons (em_var (pv 2)) (am_cons em_int am_nil)))))) am_nil)))
    (smm_cons (sm_if (tm_cmp (o_ne hr.units) s_ne (em_callE (E.fn .law_placed) (hr.mono (Nat.le_succ _)) tk rfl (T.glo 65 rfl) (am_cons (em_var (pv 4)) (am_cons (em_var (pv 9)) am_nil))) (em_op o_add s_add (em_callB (c_max1 rfl hr.units) s_max1 rfl (T.free 8 rfl) (by decide +kernel) (am_cons (em_var (pv 9)) am_nil)) em_int) (nomark _))
      (smm_one (sm_ret em_bl))
      smm_nil)
    (smm_one (sm_for (vs := [10]) hp rfl (im_seq rfl (em_lst (am_cons (em_callTy call_list_of s_list rfl (T.free 64 rfl) (by decide +kernel) (am_cons (em_var (pv 9)) am_nil)) (am_cons (em_op o_add s_add (em_var (pv 9)) (em_tup (am_cons em_int am_nil))) (am_cons (em_slice rfl (em_var (pv 9)) om_none (om_some (em_un un_neg s_neg em_int))) (am_cons (em_op o_add s_add (em_slice rfl (em_var (pv 9)) om_none (om_some (em_un un_neg s_neg em_int))) (em_tup (am_cons em_int am_nil))) (am_cons (em_op o_add s_add (em_slice rfl (em_var (pv 9)) om_none (om_some (em_un un_neg s_neg em_int))) (em_tup (am_cons (em_un un_neg s_neg em_int) am_nil))) (am_cons (em_op o_add s_add (em_slice rfl (em_var (pv 9)) om_none (om_some (em_un un_neg s_neg em_int))) (em_tup (am_cons em_bl am_nil))) (am_cons em_non am_nil))))))))) (gm_name (i := 10) (by decide) sc_law.nd rfl (by first | exact Or.inl rfl | exact Or.inr rfl))
      (smm_one (sm_if (tm_cmp op_notN s_notN (em_callE (E.fn .law_placed) (hr.mono (Nat.le_succ _)) tk rfl (T.glo 65 rfl) (am_cons (em_var (pv 4)) (am_cons (em_var (pv 10)) am_nil))) em_non (nomark _))
        (smm_one (sm_ret em_bl))
        smm_nil)))))))))))
  (smm_one (sm_ret (em_cmp op_notN s_notN (em_callE (E.fn .check_model) (hr.mono (Nat.le_succ _)) tk rfl (T.glo 56 rfl) (am_cons (em_tup (am_cons (em_tup (am_cons (em_tup (am_cons em_str (am_cons (em_tup (am_cons (em_tup (am_cons em_str (am_cons em_int (am_cons em_int am_nil)))) am_nil)) (am_cons (em_tup am_nil) am_nil)))) am_nil)) (am_cons (em_tup (am_cons em_str am_nil)) (am_cons (em_tup am_nil) (am_cons em_int am_nil))))) am_nil)) em_non (nomark _))))))))
end
theorem has_check_model {K : PySem.W.Frag} (T : He.SaysD fa fn K) : ∃ fd, FunD K "check_model" "check_model" (defArgs st_check_model) (defBody st_check_model) (defScope st_check_model) [] [] (He.fAd K (Fn.check_model).at_) fd := T.def_ 0 (d := fnD .check_model) rfl
theorem bd_check_model {K : PySem.W.Frag} {f : Addr} {fd : FuncData} (F : FunD K "check_model" "check_model" (defArgs st_check_model) (defBody st_check_model) (defScope st_check_model) [] [] f fd) : Binds K fd ["value"] [] := F.bindsN fun _ _ _ _ _ _ us hl => match us, hl with | [_], _ => rfl
theorem has_check_placing {K : PySem.W.Frag} (T : He.SaysD fa fn K) : ∃ fd, FunD K "check_placing" "check_placing" (defArgs st_check_placing) (defBody st_check_placing) (defScope st_check_placing) [] [] (He.fAd K (Fn.check_placing).at_) fd := T.def_ 1 (d := fnD .check_placing) rfl
theorem bd_check_placing {K : PySem.W.Frag} {f : Addr} {fd : FuncData} (F : FunD K "check_placing" "check_placing" (defArgs st_check_placing) (defBody st_check_placing) (defScope st_check_placing) [] [] f fd) : Binds K fd ["model", "placing"] [] := F.bindsN fun _ _ _ _ _ _ us hl => match us, hl with | [_, _], _ => rfl
theorem has_first_state {K : PySem.W.Frag} (T : He.SaysD fa fn K) : ∃ fd, FunD K "first_state" "first_state" (defArgs st_first_state) (defBody st_first_state) (defScope st_first_state) [] [] (He.fAd K (Fn.first_state).at_) fd := T.def_ 2 (d := fnD .first_state) rfl
theorem bd_first_state {K : PySem.W.Frag} {f : Addr} {fd : FuncData} (F : FunD K "first_state" "first_state" (defArgs st_first_state) (defBody st_first_state) (defScope st_first_state) [] [] f fd) : Binds K fd ["model", "number"] [] := F.bindsN fun _ _ _ _ _ _ us hl => match us, hl with | [_, _], _ => rfl
theorem has_kind_of {K : PySem.W.Frag} (T : He.SaysD fa fn K) : ∃ fd, FunD K "kind_of" "kind_of" (defArgs st_kind_of) (defBody st_kind_of) (defScope st_kind_of) [] [] (He.fAd K (Fn.kind_of).at_) fd := T.def_ 3 (d := fnD .kind_of) rfl
theorem bd_kind_of {K : PySem.W.Frag} {f : Addr} {fd : FuncData} (F : FunD K "kind_of" "kind_of" (defArgs st_kind_of) (defBody st_kind_of) (defScope st_kind_of) [] [] f fd) : Binds K fd ["model", "number"] [] := F.bindsN fun _ _ _ _ _ _ us hl => match us, hl with | [_, _], _ => rfl
theorem has_nearest {K : PySem.W.Frag} (T : He.SaysD fa fn K) : ∃ fd, FunD K "nearest" "nearest" (defArgs st_nearest) (defBody st_nearest) (defScope st_nearest) [] [] (He.fAd K (Fn.nearest).at_) fd := T.def_ 4 (d := fnD .nearest) rfl
theorem bd_nearest {K : PySem.W.Frag} {f : Addr} {fd : FuncData} (F : FunD K "nearest" "nearest" (defArgs st_nearest) (defBody st_nearest) (defScope st_nearest) [] [] f fd) : Binds K fd ["value", "low", "high"] [] := F.bindsN fun _ _ _ _ _ _ us hl => match us, hl with | [_, _, _], _ => rfl
theorem has_require {K : PySem.W.Frag} (T : He.SaysD fa fn K) : ∃ fd, FunD K "require" "require" (defArgs st_require) (defBody st_require) (defScope st_require) [] [] (He.fAd K (Fn.require).at_) fd := T.def_ 5 (d := fnD .require) rfl
theorem bd_require {K : PySem.W.Frag} {f : Addr} {fd : FuncData} (F : FunD K "require" "require" (defArgs st_require) (defBody st_require) (defScope st_require) [] [] f fd) : Binds K fd ["holds"] [] := F.bindsN fun _ _ _ _ _ _ us hl => match us, hl with | [_], _ => rfl
theorem has_require_tuple {K : PySem.W.Frag} (T : He.SaysD fa fn K) : ∃ fd, FunD K "require_tuple" "require_tuple" (defArgs st_require_tuple) (defBody st_require_tuple) (defScope st_require_tuple) [] [] (He.fAd K (Fn.require_tuple).at_) fd := T.def_ 6 (d := fnD .require_tuple) rfl
theorem bd_require_tuple {K : PySem.W.Frag} {f : Addr} {fd : FuncData} (F : FunD K "require_tuple" "require_tuple" (defArgs st_require_tuple) (defBody st_require_tuple) (defScope st_require_tuple) [] [] f fd) : Binds K fd ["value", "least", "most"] [] := F.bindsN fun _ _ _ _ _ _ us hl => match us, hl with | [_, _, _], _ => rfl
theorem has_require_different_names {K : PySem.W.Frag} (T : He.SaysD fa fn K) : ∃ fd, FunD K "require_different_names" "require_different_names" (defArgs st_require_different_names) (defBody st_require_different_names) (defScope st_require_different_names) [] [] (He.fAd K (Fn.require_different_names).at_) fd := T.def_ 7 (d := fnD .require_different_names) rfl
theorem bd_require_different_names {K : PySem.W.Frag} {f : Addr} {fd : FuncData} (F : FunD K "require_different_names" "require_different_names" (defArgs st_require_different_names) (defBody st_require_different_names) (defScope st_require_different_names) [] [] f fd) : Binds K fd ["names"] [] := F.bindsN fun _ _ _ _ _ _ us hl => match us, hl with | [_], _ => rfl
theorem has_is_name {K : PySem.W.Frag} (T : He.SaysD fa fn K) : ∃ fd, FunD K "is_name" "is_name" (defArgs st_is_name) (defBody st_is_name) (defScope st_is_name) [] [] (He.fAd K (Fn.is_name).at_) fd := T.def_ 8 (d := fnD .is_name) rfl
theorem bd_is_name {K : PySem.W.Frag} {f : Addr} {fd : FuncData} (F : FunD K "is_name" "is_name" (defArgs st_is_name) (defBody st_is_name) (defScope st_is_name) [] [] f fd) : Binds K fd ["value"] [] := F.bindsN fun _ _ _ _ _ _ us hl => match us, hl with | [_], _ => rfl
theorem has_is_integer {K : PySem.W.Frag} (T : He.SaysD fa fn K) : ∃ fd, FunD K "is_integer" "is_integer" (defArgs st_is_integer) (defBody st_is_integer) (defScope st_is_integer) [] [] (He.fAd K (Fn.is_integer).at_) fd := T.def_ 9 (d := fnD .is_integer) rfl
theorem bd_is_integer {K : PySem.W.Frag} {f : Addr} {fd : FuncData} (F : FunD K "is_integer" "is_integer" (defArgs st_is_integer) (defBody st_is_integer) (defScope st_is_integer) [] [] f fd) : Binds K fd ["value", "low", "high"] [] := F.bindsN fun _ _ _ _ _ _ us hl => match us, hl with | [_, _, _], _ => rfl
theorem has_check_kinds {K : PySem.W.Frag} (T : He.SaysD fa fn K) : ∃ fd, FunD K "check_kinds" "check_kinds" (defArgs st_check_kinds) (defBody st_check_kinds) (defScope st_check_kinds) [] [] (He.fAd K (Fn.check_kinds).at_) fd := T.def_ 10 (d := fnD .check_kinds) rfl
theorem bd_check_kinds {K : PySem.W.Frag} {f : Addr} {fd : FuncData} (F : FunD K "check_kinds" "check_kinds" (defArgs st_check_kinds) (defBody st_check_kinds) (defScope st_check_kinds) [] [] f fd) : Binds K fd ["kinds"] [] := F.bindsN fun _ _ _ _ _ _ us hl => match us, hl with | [_], _ => rfl
theorem has_check_kind {K : PySem.W.Frag} (T : He.SaysD fa fn K) : ∃ fd, FunD K "check_kind" "check_kind" (defArgs st_check_kind) (defBody st_check_kind) (defScope st_check_kind) [] [] (He.fAd K (Fn.check_kind).at_) fd := T.def_ 11 (d := fnD .check_kind) rfl
theorem bd_check_kind {K : PySem.W.Frag} {f : Addr} {fd : FuncData} (F : FunD K "check_kind" "check_kind" (defArgs st_check_kind) (defBody st_check_kind) (defScope st_check_kind) [] [] f fd) : Binds K fd ["kind"] [] := F.bindsN fun _ _ _ _ _ _ us hl => match us, hl with | [_], _ => rfl
theorem has_check_fields {K : PySem.W.Frag} (T : He.SaysD fa fn K) : ∃ fd, FunD K "check_fields" "check_fields" (defArgs st_check_fields) (defBody st_check_fields) (defScope st_check_fields) [] [] (He.fAd K (Fn.check_fields).at_) fd := T.def_ 12 (d := fnD .check_fields) rfl
theorem bd_check_fields {K : PySem.W.Frag} {f : Addr} {fd : FuncData} (F : FunD K "check_fields" "check_fields" (defArgs st_check_fields) (defBody st_check_fields) (defScope st_check_fields) [] [] f fd) : Binds K fd ["fields"] [] := F.bindsN fun _ _ _ _ _ _ us hl => match us, hl with | [_], _ => rfl
theorem has_check_field {K : PySem.W.Frag} (T : He.SaysD fa fn K) : ∃ fd, FunD K "check_field" "check_field" (defArgs st_check_field) (defBody st_check_field) (defScope st_check_field) [] [] (He.fAd K (Fn.check_field).at_) fd := T.def_ 13 (d := fnD .check_field) rfl
theorem bd_check_field {K : PySem.W.Frag} {f : Addr} {fd : FuncData} (F : FunD K "check_field" "check_field" (defArgs st_check_field) (defBody st_check_field) (defScope st_check_field) [] [] f fd) : Binds K fd ["field"] [] := F.bindsN fun _ _ _ _ _ _ us hl => match us, hl with | [_], _ => rfl
theorem has_check_handlers {K : PySem.W.Frag} (T : He.SaysD fa fn K) : ∃ fd, FunD K "check_handlers" "check_handlers" (defArgs st_check_handlers) (defBody st_check_handlers) (defScope st_check_handlers) [] [] (He.fAd K (Fn.check_handlers).at_) fd := T.def_ 14 (d := fnD .check_handlers) rfl
theorem bd_check_handlers {K : PySem.W.Frag} {f : Addr} {fd : FuncData} (F : FunD K "check_handlers" "check_handlers" (defArgs st_check_handlers) (defBody st_check_handlers) (defScope st_check_handlers) [] [] f fd) : Binds K fd ["handlers", "fields"] [] := F.bindsN fun _ _ _ _ _ _ us hl => match us, hl with | [_, _], _ => rfl
theorem has_check_program {K : PySem.W.Frag} (T : He.SaysD fa fn K) : ∃ fd, FunD K "check_program" "check_program" (defArgs st_check_program) (defBody st_check_program) (defScope st_check_program) [] [] (He.fAd K (Fn.check_program).at_) fd := T.def_ 15 (d := fnD .check_program) rfl
theorem bd_check_program {K : PySem.W.Frag} {f : Addr} {fd : FuncData} (F : FunD K "check_program" "check_program" (defArgs st_check_program) (defBody st_check_program) (defScope st_check_program) [] [] f fd) : Binds K fd ["program", "fields"] [] := F.bindsN fun _ _ _ _ _ _ us hl => match us, hl with | [_, _], _ => rfl
theorem has_check_objects {K : PySem.W.Frag} (T : He.SaysD fa fn K) : ∃ fd, FunD K "check_objects" "check_objects" (defArgs st_check_objects) (defBody st_check_objects) (defScope st_check_objects) [] [] (He.fAd K (Fn.check_objects).at_) fd := T.def_ 16 (d := fnD .check_objects) rfl
theorem bd_check_objects {K : PySem.W.Frag} {f : Addr} {fd : FuncData} (F : FunD K "check_objects" "check_objects" (defArgs st_check_objects) (defBody st_check_objects) (defScope st_check_objects) [] [] f fd) : Binds K fd ["objects", "kinds"] [] := F.bindsN fun _ _ _ _ _ _ us hl => match us, hl with | [_, _], _ => rfl
theorem has_check_start {K : PySem.W.Frag} (T : He.SaysD fa fn K) : ∃ fd, FunD K "check_start" "check_start" (defArgs st_check_start) (defBody st_check_start) (defScope st_check_start) [] [] (He.fAd K (Fn.check_start).at_) fd := T.def_ 17 (d := fnD .check_start) rfl
theorem bd_check_start {K : PySem.W.Frag} {f : Addr} {fd : FuncData} (F : FunD K "check_start" "check_start" (defArgs st_check_start) (defBody st_check_start) (defScope st_check_start) [] [] f fd) : Binds K fd ["start", "many", "end"] [] := F.bindsN fun _ _ _ _ _ _ us hl => match us, hl with | [_, _, _], _ => rfl
theorem has_ProgramCheck_init {K : PySem.W.Frag} (T : He.SaysD fa fn K) : ∃ fd, FunD K "__init__" "ProgramCheck.__init__" (defArgs st_ProgramCheck_init) (defBody st_ProgramCheck_init) (defScope st_ProgramCheck_init) [] [] (He.fAd K (Fn.ProgramCheck_init).at_) fd := T.def_ 18 (d := fnD .ProgramCheck_init) rfl
theorem bd_ProgramCheck_init {K : PySem.W.Frag} {f : Addr} {fd : FuncData} (F : FunD K "__init__" "ProgramCheck.__init__" (defArgs st_ProgramCheck_init) (defBody st_ProgramCheck_init) (defScope st_ProgramCheck_init) [] [] f fd) : Binds K fd ["self", "fields"] [] := F.bindsN fun _ _ _ _ _ _ us hl => match us, hl with | [_, _], _ => rfl
theorem has_ProgramCheck_program {K : PySem.W.Frag} (T : He.SaysD fa fn K) : ∃ fd, FunD K "program" "ProgramCheck.program" (defArgs st_ProgramCheck_program) (defBody st_ProgramCheck_program) (defScope st_ProgramCheck_program) [] [] (He.fAd K (Fn.ProgramCheck_program).at_) fd := T.def_ 19 (d := fnD .ProgramCheck_program) rfl
theorem bd_ProgramCheck_program {K : PySem.W.Frag} {f : Addr} {fd : FuncData} (F : FunD K "program" "ProgramCheck.program" (defArgs st_ProgramCheck_program) (defBody st_ProgramCheck_program) (defScope st_ProgramCheck_program) [] [] f fd) : Binds K fd ["self", "value", "depth"] [] := F.bindsN fun _ _ _ _ _ _ us hl => match us, hl with | [_, _, _], _ => rfl
theorem has_ProgramCheck_statement {K : PySem.W.Frag} (T : He.SaysD fa fn K) : ∃ fd, FunD K "statement" "ProgramCheck.statement" (defArgs st_ProgramCheck_statement) (defBody st_ProgramCheck_statement) (defScope st_ProgramCheck_statement) [] [] (He.fAd K (Fn.ProgramCheck_statement).at_) fd := T.def_ 20 (d := fnD .ProgramCheck_statement) rfl
theorem bd_ProgramCheck_statement {K : PySem.W.Frag} {f : Addr} {fd : FuncData} (F : FunD K "statement" "ProgramCheck.statement" (defArgs st_ProgramCheck_statement) (defBody st_ProgramCheck_statement) (defScope st_ProgramCheck_statement) [] [] f fd) : Binds K fd ["self", "value", "depth"] [] := F.bindsN fun _ _ _ _ _ _ us hl => match us, hl with | [_, _, _], _ => rfl
theorem has_ProgramCheck_expression {K : PySem.W.Frag} (T : He.SaysD fa fn K) : ∃ fd, FunD K "expression" "ProgramCheck.expression" (defArgs st_ProgramCheck_expression) (defBody st_ProgramCheck_expression) (defScope st_ProgramCheck_expression) [] [] (He.fAd K (Fn.ProgramCheck_expression).at_) fd := T.def_ 21 (d := fnD .ProgramCheck_expression) rfl
theorem bd_ProgramCheck_expression {K : PySem.W.Frag} {f : Addr} {fd : FuncData} (F : FunD K "expression" "ProgramCheck.expression" (defArgs st_ProgramCheck_expression) (defBody st_ProgramCheck_expression) (defScope st_ProgramCheck_expression) [] [] f fd) : Binds K fd ["self", "value", "depth"] [] := F.bindsN fun _ _ _ _ _ _ us hl => match us, hl with | [_, _, _], _ => rfl
theorem has_ProgramCheck_enter {K : PySem.W.Frag} (T : He.SaysD fa fn K) : ∃ fd, FunD K "enter" "ProgramCheck.enter" (defArgs st_ProgramCheck_enter) (defBody st_ProgramCheck_enter) (defScope st_ProgramCheck_enter) [] [] (He.fAd K (Fn.ProgramCheck_enter).at_) fd := T.def_ 22 (d := fnD .ProgramCheck_enter) rfl
theorem bd_ProgramCheck_enter {K : PySem.W.Frag} {f : Addr} {fd : FuncData} (F : FunD K "enter" "ProgramCheck.enter" (defArgs st_ProgramCheck_enter) (defBody st_ProgramCheck_enter) (defScope st_ProgramCheck_enter) [] [] f fd) : Binds K fd ["self", "value", "depth"] [] := F.bindsN fun _ _ _ _ _ _ us hl => match us, hl with | [_, _, _], _ => rfl
theorem has_law_draws {K : PySem.W.Frag} (T : He.SaysD fa fn K) : ∃ fd, FunD K "_law_draws" "_law_draws" (defArgs st_law_draws) (defBody st_law_draws) (defScope st_law_draws) [] [] (He.fAd K (Fn.law_draws).at_) fd := T.def_ 23 (d := fnD .law_draws) rfl
theorem bd_law_draws {K : PySem.W.Frag} {f : Addr} {fd : FuncData} (F : FunD K "_law_draws" "_law_draws" (defArgs st_law_draws) (defBody st_law_draws) (defScope st_law_draws) [] [] f fd) : Binds K fd ["script"] [] := F.bindsN fun _ _ _ _ _ _ us hl => match us, hl with | [_], _ => rfl
theorem has_law_next {K : PySem.W.Frag} (T : He.SaysD fa fn K) : ∃ fd, FunD K "_law_next" "_law_next" (defArgs st_law_next) (defBody st_law_next) (defScope st_law_next) [] [] (He.fAd K (Fn.law_next).at_) fd := T.def_ 24 (d := fnD .law_next) rfl
theorem bd_law_next {K : PySem.W.Frag} {f : Addr} {fd : FuncData} (F : FunD K "_law_next" "_law_next" (defArgs st_law_next) (defBody st_law_next) (defScope st_law_next) [] [] f fd) : Binds K fd ["draws", "at", "many"] [] := F.bindsN fun _ _ _ _ _ _ us hl => match us, hl with | [_, _, _], _ => rfl
theorem has_law_big {K : PySem.W.Frag} (T : He.SaysD fa fn K) : ∃ fd, FunD K "_law_big" "_law_big" (defArgs st_law_big) (defBody st_law_big) (defScope st_law_big) [] [] (He.fAd K (Fn.law_big).at_) fd := T.def_ 25 (d := fnD .law_big) rfl
theorem bd_law_big {K : PySem.W.Frag} {f : Addr} {fd : FuncData} (F : FunD K "_law_big" "_law_big" (defArgs st_law_big) (defBody st_law_big) (defScope st_law_big) [] [] f fd) : Binds K fd ["draws", "at", "many"] [] := F.bindsN fun _ _ _ _ _ _ us hl => match us, hl with | [_, _, _], _ => rfl
theorem has_law_expression {K : PySem.W.Frag} (T : He.SaysD fa fn K) : ∃ fd, FunD K "_law_expression" "_law_expression" (defArgs st_law_expression) (defBody st_law_expression) (defScope st_law_expression) [] [] (He.fAd K (Fn.law_expression).at_) fd := T.def_ 26 (d := fnD .law_expression) rfl
theorem bd_law_expression {K : PySem.W.Frag} {f : Addr} {fd : FuncData} (F : FunD K "_law_expression" "_law_expression" (defArgs st_law_expression) (defBody st_law_expression) (defScope st_law_expression) [] [] f fd) : Binds K fd ["draws", "at", "names", "depth"] [] := F.bindsN fun _ _ _ _ _ _ us hl => match us, hl with | [_, _, _, _], _ => rfl
theorem has_law_send {K : PySem.W.Frag} (T : He.SaysD fa fn K) : ∃ fd, FunD K "_law_send" "_law_send" (defArgs st_law_send) (defBody st_law_send) (defScope st_law_send) [] [] (He.fAd K (Fn.law_send).at_) fd := T.def_ 27 (d := fnD .law_send) rfl
theorem bd_law_send {K : PySem.W.Frag} {f : Addr} {fd : FuncData} (F : FunD K "_law_send" "_law_send" (defArgs st_law_send) (defBody st_law_send) (defScope st_law_send) [] [] f fd) : Binds K fd ["draws", "at", "names"] [] := F.bindsN fun _ _ _ _ _ _ us hl => match us, hl with | [_, _, _], _ => rfl
theorem has_law_program {K : PySem.W.Frag} (T : He.SaysD fa fn K) : ∃ fd, FunD K "_law_program" "_law_program" (defArgs st_law_program) (defBody st_law_program) (defScope st_law_program) [] [] (He.fAd K (Fn.law_program).at_) fd := T.def_ 28 (d := fnD .law_program) rfl
theorem bd_law_program {K : PySem.W.Frag} {f : Addr} {fd : FuncData} (F : FunD K "_law_program" "_law_program" (defArgs st_law_program) (defBody st_law_program) (defScope st_law_program) [] [] f fd) : Binds K fd ["draws", "at", "names"] [] := F.bindsN fun _ _ _ _ _ _ us hl => match us, hl with | [_, _, _], _ => rfl
theorem has_law_kind {K : PySem.W.Frag} (T : He.SaysD fa fn K) : ∃ fd, FunD K "_law_kind" "_law_kind" (defArgs st_law_kind) (defBody st_law_kind) (defScope st_law_kind) [] [] (He.fAd K (Fn.law_kind).at_) fd := T.def_ 29 (d := fnD .law_kind) rfl
theorem bd_law_kind {K : PySem.W.Frag} {f : Addr} {fd : FuncData} (F : FunD K "_law_kind" "_law_kind" (defArgs st_law_kind) (defBody st_law_kind) (defScope st_law_kind) [] [] f fd) : Binds K fd ["draws", "at", "name"] [] := F.bindsN fun _ _ _ _ _ _ us hl => match us, hl with | [_, _, _], _ => rfl
theorem has_law_model {K : PySem.W.Frag} (T : He.SaysD fa fn K) : ∃ fd, FunD K "_law_model" "_law_model" (defArgs st_law_model) (defBody st_law_model) (defScope st_law_model) [] [] (He.fAd K (Fn.law_model).at_) fd := T.def_ 30 (d := fnD .law_model) rfl
theorem bd_law_model {K : PySem.W.Frag} {f : Addr} {fd : FuncData} (F : FunD K "_law_model" "_law_model" (defArgs st_law_model) (defBody st_law_model) (defScope st_law_model) [] [] f fd) : Binds K fd ["draws", "at"] [] := F.bindsN fun _ _ _ _ _ _ us hl => match us, hl with | [_, _], _ => rfl
theorem has_law_refused {K : PySem.W.Frag} (T : He.SaysD fa fn K) : ∃ fd, FunD K "_law_refused" "_law_refused" (defArgs st_law_refused) (defBody st_law_refused) (defScope st_law_refused) [] [] (He.fAd K (Fn.law_refused).at_) fd := T.def_ 31 (d := fnD .law_refused) rfl
theorem bd_law_refused {K : PySem.W.Frag} {f : Addr} {fd : FuncData} (F : FunD K "_law_refused" "_law_refused" (defArgs st_law_refused) (defBody st_law_refused) (defScope st_law_refused) [] [] f fd) : Binds K fd ["value"] [] := F.bindsN fun _ _ _ _ _ _ us hl => match us, hl with | [_], _ => rfl
theorem has_law_placed {K : PySem.W.Frag} (T : He.SaysD fa fn K) : ∃ fd, FunD K "_law_placed" "_law_placed" (defArgs st_law_placed) (defBody st_law_placed) (defScope st_law_placed) [] [] (He.fAd K (Fn.law_placed).at_) fd := T.def_ 32 (d := fnD .law_placed) rfl
theorem bd_law_placed {K : PySem.W.Frag} {f : Addr} {fd : FuncData} (F : FunD K "_law_placed" "_law_placed" (defArgs st_law_placed) (defBody st_law_placed) (defScope st_law_placed) [] [] f fd) : Binds K fd ["model", "placing"] [] := F.bindsN fun _ _ _ _ _ _ us hl => match us, hl with | [_, _], _ => rfl
theorem has_law_deep {K : PySem.W.Frag} (T : He.SaysD fa fn K) : ∃ fd, FunD K "_law_deep" "_law_deep" (defArgs st_law_deep) (defBody st_law_deep) (defScope st_law_deep) [] [] (He.fAd K (Fn.law_deep).at_) fd := T.def_ 33 (d := fnD .law_deep) rfl
theorem bd_law_deep {K : PySem.W.Frag} {f : Addr} {fd : FuncData} (F : FunD K "_law_deep" "_law_deep" (defArgs st_law_deep) (defBody st_law_deep) (defScope st_law_deep) [] [] f fd) : Binds K fd ["depth"] [] := F.bindsN fun _ _ _ _ _ _ us hl => match us, hl with | [_], _ => rfl
theorem has_law_statement {K : PySem.W.Frag} (T : He.SaysD fa fn K) : ∃ fd, FunD K "_law_statement" "_law_statement" (defArgs st_law_statement) (defBody st_law_statement) (defScope st_law_statement) [] [] (He.fAd K (Fn.law_statement).at_) fd := T.def_ 34 (d := fnD .law_statement) rfl
theorem bd_law_statement {K : PySem.W.Frag} {f : Addr} {fd : FuncData} (F : FunD K "_law_statement" "_law_statement" (defArgs st_law_statement) (defBody st_law_statement) (defScope st_law_statement) [] [] f fd) : Binds K fd ["draws", "at"] [] := F.bindsN fun _ _ _ _ _ _ us hl => match us, hl with | [_, _], _ => rfl
theorem has_law_changed {K : PySem.W.Frag} (T : He.SaysD fa fn K) : ∃ fd, FunD K "_law_changed" "_law_changed" (defArgs st_law_changed) (defBody st_law_changed) (defScope st_law_changed) [] [] (He.fAd K (Fn.law_changed).at_) fd := T.def_ 35 (d := fnD .law_changed) rfl
theorem bd_law_changed {K : PySem.W.Frag} {f : Addr} {fd : FuncData} (F : FunD K "_law_changed" "_law_changed" (defArgs st_law_changed) (defBody st_law_changed) (defScope st_law_changed) [] [] f fd) : Binds K fd ["model", "draws", "at"] [] := F.bindsN fun _ _ _ _ _ _ us hl => match us, hl with | [_, _, _], _ => rfl
theorem has_law {K : PySem.W.Frag} (T : He.SaysD fa fn K) : ∃ fd, FunD K "law" "law" (defArgs st_law) (defBody st_law) (defScope st_law) [] [] (He.fAd K (Fn.law).at_) fd := T.def_ 36 (d := fnD .law) rfl
theorem bd_law {K : PySem.W.Frag} {f : Addr} {fd : FuncData} (F : FunD K "law" "law" (defArgs st_law) (defBody st_law) (defScope st_law) [] [] f fd) : Binds K fd ["script"] [] := F.bindsN fun _ _ _ _ _ _ us hl => match us, hl with | [_], _ => rfl
section
variable {P : Program} {w : World} {K : PySem.W.Frag} {mg : Str → Option Value} {base : Heap}
theorem calls0 (T : He.SaysD fa fn K) : ∀ f : Fn, CallOk P w K mg base (gx K) 0 (He.fAd K f.at_) f.ps f.ar (call 0 f)
  | .check_model => let ⟨fd, F⟩ := has_check_model T; ⟨fd, no_ok (fun _ _ => rfl) rfl, F.kp, bd_check_model F⟩
  | .check_placing => let ⟨fd, F⟩ := has_check_placing T; ⟨fd, no_ok (fun _ _ => rfl) rfl, F.kp, bd_check_placing F⟩
  | .first_state => let ⟨fd, F⟩ := has_first_state T; ⟨fd, no_ok (fun _ _ => rfl) rfl, F.kp, bd_first_state F⟩
  | .kind_of => let ⟨fd, F⟩ := has_kind_of T; ⟨fd, no_ok (fun _ _ => rfl) rfl, F.kp, bd_kind_of F⟩
  | .nearest => let ⟨fd, F⟩ := has_nearest T; ⟨fd, no_ok (fun _ _ => rfl) rfl, F.kp, bd_nearest F⟩
  | .require => let ⟨fd, F⟩ := has_require T; ⟨fd, no_ok (fun _ _ => rfl) rfl, F.kp, bd_require F⟩
  | .require_tuple => let ⟨fd, F⟩ := has_require_tuple T; ⟨fd, no_ok (fun _ _ => rfl) rfl, F.kp, bd_require_tuple F⟩
  | .require_different_names => let ⟨fd, F⟩ := has_require_different_names T; ⟨fd, no_ok (fun _ _ => rfl) rfl, F.kp, bd_require_different_names F⟩
  | .is_name => let ⟨fd, F⟩ := has_is_name T; ⟨fd, no_ok (fun _ _ => rfl) rfl, F.kp, bd_is_name F⟩
  | .is_integer => let ⟨fd, F⟩ := has_is_integer T; ⟨fd, no_ok (fun _ _ => rfl) rfl, F.kp, bd_is_integer F⟩
  | .check_kinds => let ⟨fd, F⟩ := has_check_kinds T; ⟨fd, no_ok (fun _ _ => rfl) rfl, F.kp, bd_check_kinds F⟩
  | .check_kind => let ⟨fd, F⟩ := has_check_kind T; ⟨fd, no_ok (fun _ _ => rfl) rfl, F.kp, bd_check_kind F⟩
  | .check_fields => let ⟨fd, F⟩ := has_check_fields T; ⟨fd, no_ok (fun _ _ => rfl) rfl, F.kp, bd_check_fields F⟩
  | .check_field => let ⟨fd, F⟩ := has_check_field T; ⟨fd, no_ok (fun _ _ => rfl) rfl, F.kp, bd_check_field F⟩
  | .check_handlers => let ⟨fd, F⟩ := has_check_handlers T; ⟨fd, no_ok (fun _ _ => rfl) rfl, F.kp, bd_check_handlers F⟩
  | .check_program => let ⟨fd, F⟩ := has_check_program T; ⟨fd, no_ok (fun _ _ => rfl) rfl, F.kp, bd_check_program F⟩
  | .check_objects => let ⟨fd, F⟩ := has_check_objects T; ⟨fd, no_ok (fun _ _ => rfl) rfl, F.kp, bd_check_objects F⟩
  | .check_start => let ⟨fd, F⟩ := has_check_start T; ⟨fd, no_ok (fun _ _ => rfl) rfl, F.kp, bd_check_start F⟩
  | .ProgramCheck_init => let ⟨fd, F⟩ := has_ProgramCheck_init T; ⟨fd, no_ok (fun _ _ => rfl) rfl, F.kp, bd_ProgramCheck_init F⟩
  | .ProgramCheck_program => let ⟨fd, F⟩ := has_ProgramCheck_program T; ⟨fd, no_ok (fun _ _ => rfl) rfl, F.kp, bd_ProgramCheck_program F⟩
  | .ProgramCheck_statement => let ⟨fd, F⟩ := has_ProgramCheck_statement T; ⟨fd, no_ok (fun _ _ => rfl) rfl, F.kp, bd_ProgramCheck_statement F⟩
  | .ProgramCheck_expression => let ⟨fd, F⟩ := has_ProgramCheck_expression T; ⟨fd, no_ok (fun _ _ => rfl) rfl, F.kp, bd_ProgramCheck_expression F⟩
  | .ProgramCheck_enter => let ⟨fd, F⟩ := has_ProgramCheck_enter T; ⟨fd, no_ok (fun _ _ => rfl) rfl, F.kp, bd_ProgramCheck_enter F⟩
  | .law_draws => let ⟨fd, F⟩ := has_law_draws T; ⟨fd, no_ok (fun _ _ => rfl) rfl, F.kp, bd_law_draws F⟩
  | .law_next => let ⟨fd, F⟩ := has_law_next T; ⟨fd, no_ok (fun _ _ => rfl) rfl, F.kp, bd_law_next F⟩
  | .law_big => let ⟨fd, F⟩ := has_law_big T; ⟨fd, no_ok (fun _ _ => rfl) rfl, F.kp, bd_law_big F⟩
  | .law_expression => let ⟨fd, F⟩ := has_law_expression T; ⟨fd, no_ok (fun _ _ => rfl) rfl, F.kp, bd_law_expression F⟩
  | .law_send => let ⟨fd, F⟩ := has_law_send T; ⟨fd, no_ok (fun _ _ => rfl) rfl, F.kp, bd_law_send F⟩
  | .law_program => let ⟨fd, F⟩ := has_law_program T; ⟨fd, no_ok (fun _ _ => rfl) rfl, F.kp, bd_law_program F⟩
  | .law_kind => let ⟨fd, F⟩ := has_law_kind T; ⟨fd, no_ok (fun _ _ => rfl) rfl, F.kp, bd_law_kind F⟩
  | .law_model => let ⟨fd, F⟩ := has_law_model T; ⟨fd, no_ok (fun _ _ => rfl) rfl, F.kp, bd_law_model F⟩
  | .law_refused => let ⟨fd, F⟩ := has_law_refused T; ⟨fd, no_ok (fun _ _ => rfl) rfl, F.kp, bd_law_refused F⟩
  | .law_placed => let ⟨fd, F⟩ := has_law_placed T; ⟨fd, no_ok (fun _ _ => rfl) rfl, F.kp, bd_law_placed F⟩
  | .law_deep => let ⟨fd, F⟩ := has_law_deep T; ⟨fd, no_ok (fun _ _ => rfl) rfl, F.kp, bd_law_deep F⟩
  | .law_statement => let ⟨fd, F⟩ := has_law_statement T; ⟨fd, no_ok (fun _ _ => rfl) rfl, F.kp, bd_law_statement F⟩
  | .law_changed => let ⟨fd, F⟩ := has_law_changed T; ⟨fd, no_ok (fun _ _ => rfl) rfl, F.kp, bd_law_changed F⟩
  | .law => let ⟨fd, F⟩ := has_law T; ⟨fd, no_ok (fun _ _ => rfl) rfl, F.kp, bd_law F⟩
theorem callsS (T : He.SaysD fa fn K) {k : Nat} (E : Env P w K mg base k (call k)) : ∀ f : Fn, CallOk P w K mg base (gx K) (2 * k + 2) (He.fAd K f.at_) f.ps f.ar (call (k + 1) f)
  | .check_model => let ⟨fd, F⟩ := has_check_model T; ⟨fd, ok_check_model E F, F.kp, bd_check_model F⟩
  | .check_placing => let ⟨fd, F⟩ := has_check_placing T; ⟨fd, ok_check_placing E F, F.kp, bd_check_placing F⟩
  | .first_state => let ⟨fd, F⟩ := has_first_state T; ⟨fd, ok_first_state E F, F.kp, bd_first_state F⟩
  | .kind_of => let ⟨fd, F⟩ := has_kind_of T; ⟨fd, ok_kind_of E F, F.kp, bd_kind_of F⟩
  | .nearest => let ⟨fd, F⟩ := has_nearest T; ⟨fd, ok_nearest E F, F.kp, bd_nearest F⟩
  | .require => let ⟨fd, F⟩ := has_require T; ⟨fd, ok_require E F, F.kp, bd_require F⟩
  | .require_tuple => let ⟨fd, F⟩ := has_require_tuple T; ⟨fd, ok_require_tuple E F, F.kp, bd_require_tuple F⟩
  | .require_different_names => let ⟨fd, F⟩ := has_require_different_names T; ⟨fd, ok_require_different_names E F, F.kp, bd_require_different_names F⟩
  | .is_name => let ⟨fd, F⟩ := has_is_name T; ⟨fd, ok_is_name E F rfl, F.kp, bd_is_name F⟩
  | .is_integer => let ⟨fd, F⟩ := has_is_integer T; ⟨fd, ok_is_integer E F, F.kp, bd_is_integer F⟩
  | .check_kinds => let ⟨fd, F⟩ := has_check_kinds T; ⟨fd, ok_check_kinds E F, F.kp, bd_check_kinds F⟩
  | .check_kind => let ⟨fd, F⟩ := has_check_kind T; ⟨fd, ok_check_kind E F, F.kp, bd_check_kind F⟩
  | .check_fields => let ⟨fd, F⟩ := has_check_fields T; ⟨fd, ok_check_fields E F, F.kp, bd_check_fields F⟩
  | .check_field => let ⟨fd, F⟩ := has_check_field T; ⟨fd, ok_check_field E F, F.kp, bd_check_field F⟩
  | .check_handlers => let ⟨fd, F⟩ := has_check_handlers T; ⟨fd, ok_check_handlers E F, F.kp, bd_check_handlers F⟩
  | .check_program => let ⟨fd, F⟩ := has_check_program T; ⟨fd, ok_check_program E F, F.kp, bd_check_program F⟩
  | .check_objects => let ⟨fd, F⟩ := has_check_objects T; ⟨fd, ok_check_objects E F, F.kp, bd_check_objects F⟩
  | .check_start => let ⟨fd, F⟩ := has_check_start T; ⟨fd, ok_check_start E F, F.kp, bd_check_start F⟩
  | .ProgramCheck_init => let ⟨fd, F⟩ := has_ProgramCheck_init T; ⟨fd, ok_ProgramCheck_init E F, F.kp, bd_ProgramCheck_init F⟩
  | .ProgramCheck_program => let ⟨fd, F⟩ := has_ProgramCheck_program T; ⟨fd, ok_ProgramCheck_program E F, F.kp, bd_ProgramCheck_program F⟩
  | .ProgramCheck_statement => let ⟨fd, F⟩ := has_ProgramCheck_statement T; ⟨fd, ok_ProgramCheck_statement E F, F.kp, bd_ProgramCheck_statement F⟩
  | .ProgramCheck_expression => let ⟨fd, F⟩ := has_ProgramCheck_expression T; ⟨fd, ok_ProgramCheck_expression E F, F.kp, bd_ProgramCheck_expression F⟩
  | .ProgramCheck_enter => let ⟨fd, F⟩ := has_ProgramCheck_enter T; ⟨fd, ok_ProgramCheck_enter E F, F.kp, bd_ProgramCheck_enter F⟩
  | .law_draws => let ⟨fd, F⟩ := has_law_draws T; ⟨fd, ok_law_draws E F, F.kp, bd_law_draws F⟩
  | .law_next => let ⟨fd, F⟩ := has_law_next T; ⟨fd, ok_law_next E F, F.kp, bd_law_next F⟩
  | .law_big => let ⟨fd, F⟩ := has_law_big T; ⟨fd, ok_law_big E F, F.kp, bd_law_big F⟩
  | .law_expression => let ⟨fd, F⟩ := has_law_expression T; ⟨fd, ok_law_expression E F, F.kp, bd_law_expression F⟩
  | .law_send => let ⟨fd, F⟩ := has_law_send T; ⟨fd, ok_law_send E F, F.kp, bd_law_send F⟩
  | .law_program => let ⟨fd, F⟩ := has_law_program T; ⟨fd, ok_law_program E F, F.kp, bd_law_program F⟩
  | .law_kind => let ⟨fd, F⟩ := has_law_kind T; ⟨fd, ok_law_kind E F, F.kp, bd_law_kind F⟩
  | .law_model => let ⟨fd, F⟩ := has_law_model T; ⟨fd, ok_law_model E F, F.kp, bd_law_model F⟩
  | .law_refused => let ⟨fd, F⟩ := has_law_refused T; ⟨fd, ok_law_refused E F, F.kp, bd_law_refused F⟩
  | .law_placed => let ⟨fd, F⟩ := has_law_placed T; ⟨fd, ok_law_placed E F, F.kp, bd_law_placed F⟩
  | .law_deep => let ⟨fd, F⟩ := has_law_deep T; ⟨fd, ok_law_deep E F, F.kp, bd_law_deep F⟩
  | .law_statement => let ⟨fd, F⟩ := has_law_statement T; ⟨fd, ok_law_statement E F, F.kp, bd_law_statement F⟩
  | .law_changed => let ⟨fd, F⟩ := has_law_changed T; ⟨fd, ok_law_changed E F, F.kp, bd_law_changed F⟩
  | .law => let ⟨fd, F⟩ := has_law T; ⟨fd, ok_law E F, F.kp, bd_law F⟩
theorem env_all (T : Top K mg fa fn) (tb : ∀ (i : Nat) {p : Str × Option Str}, tf[i]? = some p → GxR.TabB base mg (He.cT K p).1 (He.cT K p).2) (ak : ∀ (i : Nat) {q : Ask}, asks[i]? = some q → Asked K (He.ga K q.1) (He.ga K q.2.1) q.2.2) : ∀ k, Env P w K mg base k (call k)
  | 0 => ⟨T, calls0 T.says, tb, ak⟩
  | k + 1 => ⟨T, callsS T.says (env_all T tb ak k), tb, ak⟩
end
def names0 : List Str := ["CourierError", "BadModel", "LIMIT", "MOST_DELAY", "MOST_NODES", "MOST_DEPTH", "MOST_SENDS", "MOST_LETTERS", "MOST_KINDS", "MOST_FIELDS", "MOST_HANDLERS", "MOST_OBJECTS", "MOST_STARTS", "MOST_PROCESSORS", "MOST_END", "MOST_RANGE", "MOST_NUMBER", "check_model", "check_placing", "first_state", "kind_of", "nearest", "require", "require_tuple", "require_different_names", "is_name", "is_integer", "check_kinds", "check_kind", "check_fields"]
def names1 : List Str := ["check_field", "check_handlers", "check_program", "check_objects", "check_start", "ProgramCheck", "_law_draws", "_law_next", "_law_big", "_law_expression", "_law_send", "_law_program", "_law_kind", "_law_model", "_law_refused", "_law_placed", "_law_deep", "_law_statement", "_law_changed"]
def names : List Str := names0 ++ names1
def exB (K : PySem.W.Frag) : Bool := asks.all (askB K)
abbrev R : PySem.W.OpenRow := PySem.W.OpenLaw.row PySem.Challenge.rw_vancourier_k01_models
abbrev hk : PySem.W.Hook := He.hookX 6 fa fn [] tf exB
def ob (s : PySem.W.SharedT) : He.AlX := He.obsX 6 fa fn [] tf exB (HandSHeadRun.getT s)
theorem ob_eq (s : PySem.W.SharedT) : ob s = hk.obs s.abs := He.obsX_eq (HandSHeadRun.getT_eq s)
end Pr

set_option Elab.async false
set_option linter.all false
set_option maxRecDepth 100000
set_option maxHeartbeats 0
/-! the head: what the top leaves; the law from the pure statement -/
namespace Pr
open PySem PySem.Spec PyProof.Rows L2 Core
theorem run (w : World) : HandSHeadRun.RunEq R (PySem.W.view R.prog [52]) hk ob 2000 names w := by
  intro os
  kernel_rfl
end Pr

set_option Elab.async false
set_option linter.all false
set_option maxRecDepth 100000
set_option maxHeartbeats 0
namespace Pr
open PySem PySem.Spec PyProof.Rows L2 Core
/-- what is left: the law's def, so many calls deep, on a store of the script alone -/
def PureLaw (N : Nat) : Prop := ∀ ns : List Int, ns.length ≤ 63 → (∀ z ∈ ns, Builtin.Int.intBits z ≤ 1048576) → ∀ o : Ob, (o = .lst (ns.map D.int) ∨ o = .frz (ns.map D.int)) → ∃ s', call N .law [.ref 0] [o] = .ok (.bl true) s'
theorem law_at {N : Nat} (hp : PureLaw (N + 1)) (w : World) (mg : Str → Option Value) (fA : Addr) (h : Heap) (Y : hk.says w h) (G : h.Ns mainGlobals mg) (hmg : mg "law" = some (.ref fA)) :
    ∃ K : PySem.W.Frag, K.In h ∧ LamX.LawAtS PySem.Challenge.rw_vancourier_k01_models w K (L2.CX (PySem.Challenge.rw_vancourier_k01_models).prog w) (2 * N + 2) 63 "script" mg fA h := by
  obtain ⟨K, KX, c⟩ := Y
  have T : Top K mg fa fn := ⟨c.t.d, h, KX, G⟩
  have e := hmg.symm.trans (T.glo 73 (x := "law") rfl)
  cases e
  obtain ⟨fd, F⟩ := has_law T.says
  have ak : ∀ (i : Nat) {q : Ask}, asks[i]? = some q → Asked K (He.ga K q.1) (He.ga K q.2.1) q.2.2 := fun i q e => askB_ok (List.all_eq_true.mp c.more q (List.mem_of_getElem? e))
  refine ⟨K, KX, fd, tf.map (He.cT K), spOf (gx K) 1 (call (N + 1) .law), fun p hp => ?_, fun p hp => ?_, fun p hp => ?_, fun s u => F.bindsA (ps := ["script"]) (fun _ _ _ _ _ _ us hl => match us, hl with | [_], _ => rfl) s [u] rfl, fun H a ns hl hb hH hS => ?_, fun base KB NB TB => ?_⟩
  · obtain ⟨q, hq, rfl⟩ := List.mem_map.mp hp
    exact c.empty q hq
  · obtain ⟨q, hq, rfl⟩ := List.mem_map.mp hp
    exact c.out q hq
  · obtain ⟨q, hq, rfl⟩ := List.mem_map.mp hp
    exact PySem.W.codeHd_of_K KX (c.hd q hq)
  · refine sp_end (G := gx K) hl (fun P hP => ?_) hS (hp ns hl hb)
    obtain ⟨q, hq, rfl⟩ := List.mem_map.mp hP
    exact hH _ (List.mem_map_of_mem hq)
  · have E := env_all (P := (PySem.Challenge.rw_vancourier_k01_models).prog) (w := w) (base := base) ⟨c.t.d, h, KX, G⟩ (fun i p e => let z := TB _ (List.mem_map_of_mem (List.mem_of_getElem? e)); ⟨z.code, z.bm, z.gP⟩) ak N
    exact ok_law E F
theorem holds {N : Nat} (hN : Room (2 * N + 2) callerA) (hp : PureLaw (N + 1)) : PySem.Challenge.rw_vancourier_k01_models.Holds := by
  open PySem PySem.W PySem.Calls PyProof.Rows in
  w_on; o_law
  refine HandSHeadRun.head_any (r := OpenLaw.row PySem.Challenge.rw_vancourier_k01_models) (q := view (OpenLaw.row PySem.Challenge.rw_vancourier_k01_models).prog [52]) (H := hk) (ob := ob) (M := 2000) (loose := names) (d := HandSHeadRun.topDef (OpenLaw.row PySem.Challenge.rw_vancourier_k01_models).prog 52) (kwd := []) ob_eq
    (by kernel_rfl) (fun s => by kernel_rfl) run (by kernel_rfl) (by kernel_rfl) (by kernel_rfl) (by rfl) (by first | assumption | decide +kernel) (by decide +kernel) ⟨rfl, rfl, rfl, rfl, rfl, by decide +kernel⟩ ?hw ?hc
  case hw => w_witness2
  case hc =>
    refine LamX.walk_ofTsE (l := PySem.Challenge.rw_vancourier_k01_models) (n := 63) (k := 2 * N + 2) (x := "script") (CX := L2.CX (PySem.Challenge.rw_vancourier_k01_models).prog) rfl (by decide) (by kernel_rfl) hN ?F (fun _ _ _ _ _ z => cx_end z)
    intro w mg fA h Y G hmg0
    have hmg : mg ("law" : PySem.Str) = some (.ref fA) := by
      have e : (HandSHeadRun.topDef (OpenLaw.row PySem.Challenge.rw_vancourier_k01_models).prog 52).name = ("law" : PySem.Str) := by kernel_rfl
      rw [← e]
      exact hmg0
    exact law_at hp w mg fA h Y G hmg
end Pr

set_option Elab.async false
set_option linter.all false
set_option maxRecDepth 100000
set_option maxHeartbeats 4000000
/-! what the defs do, in plain words: the checks -/
namespace Pr
open PySem PySem.Spec PyProof.Rows L2 Core
section
variable {k : Nat} {s : Mem}
theorem call_S (f : Fn) (ds : List D) : call (k + 1) f ds s = defM f.ar f.sl (f.body (call k)) ds s := rfl
theorem c_require (b : Bool) : call (k + 1) .require [.bl b] s = if b = true then .ok .non s else .err "BadModel" s := by
  show defM 1 1 (m_require (call k)) [.bl b] s = _
  unfold defM m_require
  cases b <;> simp only [mSeq, mExpr, mRet, mRetN, mIfS, mSet, mAug, mCall, mCons, mNil, mVar, mC, mOp, mUn, mApp, mTup, mLst, mNx, mRaise, mAnd, mOr, mNot, mIf, tstB, tstAnd, tstOr, tstNot, mChain, bind_ok, bind_err, bind_no, toS_ok, toS_err, nox_ok, fin_nx, fin_rt, fin_err, startL, List.map_cons, List.map_nil, List.length_cons, List.length_nil, List.cons_append, List.nil_append, List.getElem?_cons_zero, List.getElem?_cons_succ, List.set_cons_zero, List.set_cons_succ, List.replicate_succ, List.replicate_zero, Nat.zero_add, Nat.reduceAdd, Nat.reduceSub, Nat.add_one_sub_one, Nat.sub_self, if_true, if_false, ite_true, ite_false, Bool.false_eq_true, reduceCtorEq, if_pos, Nat.reduceEqDiff, Nat.reduceLeDiff, decide_true, decide_false, Bool.not_true, Bool.not_false]
def tyI (d : D) (lo hi : Int) : Bool := match d with
  | .int i => decide (lo ≤ i) && decide (i ≤ hi)
  | _ => false
theorem c_is_integer {d : D} {a : String} (h : tyN s d = some a) (lo hi : Int) : call (k + 1) .is_integer [d, .int lo, .int hi] s = .ok (.bl (tyI d lo hi)) s := by
  show defM 3 3 (m_is_integer (call k)) [d, .int lo, .int hi] s = _
  unfold defM m_is_integer
  simp only [mSeq, mExpr, mRet, mRetN, mIfS, mSet, mAug, mCall, mCons, mNil, mVar, mC, mOp, mUn, mApp, mTup, mLst, mNx, mRaise, mAnd, mOr, mNot, mIf, tstB, tstAnd, tstOr, tstNot, mChain, bind_ok, bind_err, bind_no, toS_ok, toS_err, nox_ok, fin_nx, fin_rt, fin_err, startL, List.map_cons, List.map_nil, List.length_cons, List.length_nil, List.cons_append, List.nil_append, List.getElem?_cons_zero, List.getElem?_cons_succ, List.set_cons_zero, List.set_cons_succ, List.replicate_succ, List.replicate_zero, Nat.zero_add, Nat.reduceAdd, Nat.reduceSub, Nat.add_one_sub_one, Nat.sub_self, if_true, if_false, ite_true, ite_false, Bool.false_eq_true, reduceCtorEq, if_pos, Nat.reduceEqDiff, Nat.reduceLeDiff, decide_true, decide_false, Bool.not_true, Bool.not_false, gIsT_at h]
  cases d with
  | int i =>
    cases h
    simp only [mSeq, mExpr, mRet, mRetN, mIfS, mSet, mAug, mCall, mCons, mNil, mVar, mC, mOp, mUn, mApp, mTup, mLst, mNx, mRaise, mAnd, mOr, mNot, mIf, tstB, tstAnd, tstOr, tstNot, mChain, bind_ok, bind_err, bind_no, toS_ok, toS_err, nox_ok, fin_nx, fin_rt, fin_err, startL, List.map_cons, List.map_nil, List.length_cons, List.length_nil, List.cons_append, List.nil_append, List.getElem?_cons_zero, List.getElem?_cons_succ, List.set_cons_zero, List.set_cons_succ, List.replicate_succ, List.replicate_zero, Nat.zero_add, Nat.reduceAdd, Nat.reduceSub, Nat.add_one_sub_one, Nat.sub_self, if_true, if_false, ite_true, ite_false, Bool.false_eq_true, reduceCtorEq, if_pos, Nat.reduceEqDiff, Nat.reduceLeDiff, decide_true, decide_false, Bool.not_true, Bool.not_false, show isT "int" "int" = true from by decide, show isT "int" "bool" = false from by decide, gLe, gOrd, tyI]
    by_cases h1 : lo ≤ i
    · simp only [mSeq, mExpr, mRet, mRetN, mIfS, mSet, mAug, mCall, mCons, mNil, mVar, mC, mOp, mUn, mApp, mTup, mLst, mNx, mRaise, mAnd, mOr, mNot, mIf, tstB, tstAnd, tstOr, tstNot, mChain, bind_ok, bind_err, bind_no, toS_ok, toS_err, nox_ok, fin_nx, fin_rt, fin_err, startL, List.map_cons, List.map_nil, List.length_cons, List.length_nil, List.cons_append, List.nil_append, List.getElem?_cons_zero, List.getElem?_cons_succ, List.set_cons_zero, List.set_cons_succ, List.replicate_succ, List.replicate_zero, Nat.zero_add, Nat.reduceAdd, Nat.reduceSub, Nat.add_one_sub_one, Nat.sub_self, if_true, if_false, ite_true, ite_false, Bool.false_eq_true, reduceCtorEq, if_pos, Nat.reduceEqDiff, Nat.reduceLeDiff, decide_true, decide_false, Bool.not_true, Bool.not_false, decide_eq_true h1, Bool.true_and]
    · simp only [mSeq, mExpr, mRet, mRetN, mIfS, mSet, mAug, mCall, mCons, mNil, mVar, mC, mOp, mUn, mApp, mTup, mLst, mNx, mRaise, mAnd, mOr, mNot, mIf, tstB, tstAnd, tstOr, tstNot, mChain, bind_ok, bind_err, bind_no, toS_ok, toS_err, nox_ok, fin_nx, fin_rt, fin_err, startL, List.map_cons, List.map_nil, List.length_cons, List.length_nil, List.cons_append, List.nil_append, List.getElem?_cons_zero, List.getElem?_cons_succ, List.set_cons_zero, List.set_cons_succ, List.replicate_succ, List.replicate_zero, Nat.zero_add, Nat.reduceAdd, Nat.reduceSub, Nat.add_one_sub_one, Nat.sub_self, if_true, if_false, ite_true, ite_false, Bool.false_eq_true, reduceCtorEq, if_pos, Nat.reduceEqDiff, Nat.reduceLeDiff, decide_true, decide_false, Bool.not_true, Bool.not_false, decide_eq_false h1, Bool.false_and]
  | bl b => cases h; simp only [mSeq, mExpr, mRet, mRetN, mIfS, mSet, mAug, mCall, mCons, mNil, mVar, mC, mOp, mUn, mApp, mTup, mLst, mNx, mRaise, mAnd, mOr, mNot, mIf, tstB, tstAnd, tstOr, tstNot, mChain, bind_ok, bind_err, bind_no, toS_ok, toS_err, nox_ok, fin_nx, fin_rt, fin_err, startL, List.map_cons, List.map_nil, List.length_cons, List.length_nil, List.cons_append, List.nil_append, List.getElem?_cons_zero, List.getElem?_cons_succ, List.set_cons_zero, List.set_cons_succ, List.replicate_succ, List.replicate_zero, Nat.zero_add, Nat.reduceAdd, Nat.reduceSub, Nat.add_one_sub_one, Nat.sub_self, if_true, if_false, ite_true, ite_false, Bool.false_eq_true, reduceCtorEq, if_pos, Nat.reduceEqDiff, Nat.reduceLeDiff, decide_true, decide_false, Bool.not_true, Bool.not_false, show isT "bool" "int" = true from by decide, show isT "bool" "bool" = true from by decide, tyI]
  | non => cases h; simp only [mSeq, mExpr, mRet, mRetN, mIfS, mSet, mAug, mCall, mCons, mNil, mVar, mC, mOp, mUn, mApp, mTup, mLst, mNx, mRaise, mAnd, mOr, mNot, mIf, tstB, tstAnd, tstOr, tstNot, mChain, bind_ok, bind_err, bind_no, toS_ok, toS_err, nox_ok, fin_nx, fin_rt, fin_err, startL, List.map_cons, List.map_nil, List.length_cons, List.length_nil, List.cons_append, List.nil_append, List.getElem?_cons_zero, List.getElem?_cons_succ, List.set_cons_zero, List.set_cons_succ, List.replicate_succ, List.replicate_zero, Nat.zero_add, Nat.reduceAdd, Nat.reduceSub, Nat.add_one_sub_one, Nat.sub_self, if_true, if_false, ite_true, ite_false, Bool.false_eq_true, reduceCtorEq, if_pos, Nat.reduceEqDiff, Nat.reduceLeDiff, decide_true, decide_false, Bool.not_true, Bool.not_false, show isT "NoneType" "int" = false from by decide, tyI]
  | str z => cases h; simp only [mSeq, mExpr, mRet, mRetN, mIfS, mSet, mAug, mCall, mCons, mNil, mVar, mC, mOp, mUn, mApp, mTup, mLst, mNx, mRaise, mAnd, mOr, mNot, mIf, tstB, tstAnd, tstOr, tstNot, mChain, bind_ok, bind_err, bind_no, toS_ok, toS_err, nox_ok, fin_nx, fin_rt, fin_err, startL, List.map_cons, List.map_nil, List.length_cons, List.length_nil, List.cons_append, List.nil_append, List.getElem?_cons_zero, List.getElem?_cons_succ, List.set_cons_zero, List.set_cons_succ, List.replicate_succ, List.replicate_zero, Nat.zero_add, Nat.reduceAdd, Nat.reduceSub, Nat.add_one_sub_one, Nat.sub_self, if_true, if_false, ite_true, ite_false, Bool.false_eq_true, reduceCtorEq, if_pos, Nat.reduceEqDiff, Nat.reduceLeDiff, decide_true, decide_false, Bool.not_true, Bool.not_false, show isT "str" "int" = false from by decide, tyI]
  | tup z => cases h; simp only [mSeq, mExpr, mRet, mRetN, mIfS, mSet, mAug, mCall, mCons, mNil, mVar, mC, mOp, mUn, mApp, mTup, mLst, mNx, mRaise, mAnd, mOr, mNot, mIf, tstB, tstAnd, tstOr, tstNot, mChain, bind_ok, bind_err, bind_no, toS_ok, toS_err, nox_ok, fin_nx, fin_rt, fin_err, startL, List.map_cons, List.map_nil, List.length_cons, List.length_nil, List.cons_append, List.nil_append, List.getElem?_cons_zero, List.getElem?_cons_succ, List.set_cons_zero, List.set_cons_succ, List.replicate_succ, List.replicate_zero, Nat.zero_add, Nat.reduceAdd, Nat.reduceSub, Nat.add_one_sub_one, Nat.sub_self, if_true, if_false, ite_true, ite_false, Bool.false_eq_true, reduceCtorEq, if_pos, Nat.reduceEqDiff, Nat.reduceLeDiff, decide_true, decide_false, Bool.not_true, Bool.not_false, show isT "tuple" "int" = false from by decide, tyI]
  | ref n =>
    have e : isT a "int" = false := by
      unfold tyN at h
      dsimp only at h
      split at h <;> first | (cases h; decide) | cases h
    simp only [mSeq, mExpr, mRet, mRetN, mIfS, mSet, mAug, mCall, mCons, mNil, mVar, mC, mOp, mUn, mApp, mTup, mLst, mNx, mRaise, mAnd, mOr, mNot, mIf, tstB, tstAnd, tstOr, tstNot, mChain, bind_ok, bind_err, bind_no, toS_ok, toS_err, nox_ok, fin_nx, fin_rt, fin_err, startL, List.map_cons, List.map_nil, List.length_cons, List.length_nil, List.cons_append, List.nil_append, List.getElem?_cons_zero, List.getElem?_cons_succ, List.set_cons_zero, List.set_cons_succ, List.replicate_succ, List.replicate_zero, Nat.zero_add, Nat.reduceAdd, Nat.reduceSub, Nat.add_one_sub_one, Nat.sub_self, if_true, if_false, ite_true, ite_false, Bool.false_eq_true, reduceCtorEq, if_pos, Nat.reduceEqDiff, Nat.reduceLeDiff, decide_true, decide_false, Bool.not_true, Bool.not_false, e, tyI]

/-! ### values whose objects stand -/
mutual
def liv (s : Mem) : D → Bool
  | .ref n => match s[n]? with
    | some (.lst _) => true
    | _ => false
  | .tup xs => livs s xs
  | .str z => decide (z.length ≤ 100000)
  | _ => true
def livs (s : Mem) : List D → Bool
  | [] => true
  | d :: r => liv s d && livs s r
end
theorem liv_ty {d : D} (h : liv s d = true) : ∃ a, tyN s d = some a := by
  cases d with
  | ref n =>
    unfold liv at h
    unfold tyN
    dsimp only
    split at h
    · rename_i xs e; exact ⟨"list", by rw [e]⟩
    · cases h
  | non => exact ⟨_, rfl⟩
  | bl b => exact ⟨_, rfl⟩
  | int b => exact ⟨_, rfl⟩
  | str b => exact ⟨_, rfl⟩
  | tup b => exact ⟨_, rfl⟩
theorem livs_mem : ∀ {xs : List D}, livs s xs = true → ∀ d ∈ xs, liv s d = true
  | [], _, d, h => absurd h List.not_mem_nil
  | x :: r, h, d, hd => by
    unfold livs at h
    rw [Bool.and_eq_true] at h
    rcases List.mem_cons.mp hd with rfl | hd
    · exact h.1
    · exact livs_mem h.2 d hd
mutual
theorem liv_ext {s s' : Mem} (x : ∀ (n : Nat) (xs : List D), s[n]? = some (Ob.lst xs) → ∃ ys, s'[n]? = some (Ob.lst ys)) : ∀ {d : D}, liv s d = true → liv s' d = true
  | .ref n, h => by
    unfold liv at h ⊢
    split at h
    · rename_i xs e; obtain ⟨ys, e'⟩ := x n xs e; rw [e']
    · cases h
  | .tup xs, h => livs_ext x (d := xs) h
  | .str z, h => h
  | .non, h => h
  | .bl b, h => h
  | .int b, h => h
theorem livs_ext {s s' : Mem} (x : ∀ (n : Nat) (xs : List D), s[n]? = some (Ob.lst xs) → ∃ ys, s'[n]? = some (Ob.lst ys)) : ∀ {d : List D}, livs s d = true → livs s' d = true
  | [], h => rfl
  | d :: r, h => by
    unfold livs at h ⊢
    rw [Bool.and_eq_true] at h ⊢
    exact ⟨liv_ext x h.1, livs_ext x h.2⟩
end
theorem app_lst {s t : Mem} : ∀ (n : Nat) (xs : List D), s[n]? = some (Ob.lst xs) → ∃ ys, (s ++ t)[n]? = some (Ob.lst ys) := fun n xs h => ⟨xs, by rw [List.getElem?_append_left (List.getElem?_eq_some_iff.mp h).1]; exact h⟩

/-! ### names, tuples -/
def nameB : D → Bool
  | .str z => decide (1 ≤ z.length) && (decide (z.length ≤ 12) && z.cps.toList.all (rngB "a" "z"))
  | _ => false
theorem c_is_name {d : D} (h : liv s d = true) : call (k + 1) .is_name [d] s = .ok (.bl (nameB d)) s := by
  show defM 1 1 (m_is_name (call k)) [d] s = _
  unfold defM m_is_name
  obtain ⟨a, e⟩ := liv_ty h
  simp only [mSeq, mExpr, mRet, mRetN, mIfS, mSet, mAug, mCall, mCons, mNil, mVar, mC, mOp, mUn, mApp, mTup, mLst, mNx, mRaise, mAnd, mOr, mNot, mIf, tstB, tstAnd, tstOr, tstNot, mChain, bind_ok, bind_err, bind_no, toS_ok, toS_err, nox_ok, fin_nx, fin_rt, fin_err, startL, List.map_cons, List.map_nil, List.length_cons, List.length_nil, List.cons_append, List.nil_append, List.getElem?_cons_zero, List.getElem?_cons_succ, List.set_cons_zero, List.set_cons_succ, List.replicate_succ, List.replicate_zero, Nat.zero_add, Nat.reduceAdd, Nat.reduceSub, Nat.add_one_sub_one, Nat.sub_self, if_true, if_false, ite_true, ite_false, Bool.false_eq_true, reduceCtorEq, if_pos, Nat.reduceEqDiff, Nat.reduceLeDiff, decide_true, decide_false, Bool.not_true, Bool.not_false, gIsT_at e]
  cases d with
  | str z =>
    cases e
    have hz : z.length ≤ 100000 := of_decide_eq_true h
    have e1 : decide ((1 : Int) ≤ (z.length : Int)) = decide (1 ≤ z.length) := decide_eq_decide.mpr (by omega)
    have e2 : decide ((z.length : Int) ≤ (12 : Int)) = decide (z.length ≤ 12) := decide_eq_decide.mpr (by omega)
    simp only [mSeq, mExpr, mRet, mRetN, mIfS, mSet, mAug, mCall, mCons, mNil, mVar, mC, mOp, mUn, mApp, mTup, mLst, mNx, mRaise, mAnd, mOr, mNot, mIf, tstB, tstAnd, tstOr, tstNot, mChain, bind_ok, bind_err, bind_no, toS_ok, toS_err, nox_ok, fin_nx, fin_rt, fin_err, startL, List.map_cons, List.map_nil, List.length_cons, List.length_nil, List.cons_append, List.nil_append, List.getElem?_cons_zero, List.getElem?_cons_succ, List.set_cons_zero, List.set_cons_succ, List.replicate_succ, List.replicate_zero, Nat.zero_add, Nat.reduceAdd, Nat.reduceSub, Nat.add_one_sub_one, Nat.sub_self, if_true, if_false, ite_true, ite_false, Bool.false_eq_true, reduceCtorEq, if_pos, Nat.reduceEqDiff, Nat.reduceLeDiff, decide_true, decide_false, Bool.not_true, Bool.not_false, show isT "str" "str" = true from by decide, gLen, if_pos hz, gLe, gOrd, e1]
    by_cases h1 : 1 ≤ z.length
    · simp only [mSeq, mExpr, mRet, mRetN, mIfS, mSet, mAug, mCall, mCons, mNil, mVar, mC, mOp, mUn, mApp, mTup, mLst, mNx, mRaise, mAnd, mOr, mNot, mIf, tstB, tstAnd, tstOr, tstNot, mChain, bind_ok, bind_err, bind_no, toS_ok, toS_err, nox_ok, fin_nx, fin_rt, fin_err, startL, List.map_cons, List.map_nil, List.length_cons, List.length_nil, List.cons_append, List.nil_append, List.getElem?_cons_zero, List.getElem?_cons_succ, List.set_cons_zero, List.set_cons_succ, List.replicate_succ, List.replicate_zero, Nat.zero_add, Nat.reduceAdd, Nat.reduceSub, Nat.add_one_sub_one, Nat.sub_self, if_true, if_false, ite_true, ite_false, Bool.false_eq_true, reduceCtorEq, if_pos, Nat.reduceEqDiff, Nat.reduceLeDiff, decide_true, decide_false, Bool.not_true, Bool.not_false, decide_eq_true h1, gLe, gOrd, e2]
      by_cases h2 : z.length ≤ 12
      · simp only [mSeq, mExpr, mRet, mRetN, mIfS, mSet, mAug, mCall, mCons, mNil, mVar, mC, mOp, mUn, mApp, mTup, mLst, mNx, mRaise, mAnd, mOr, mNot, mIf, tstB, tstAnd, tstOr, tstNot, mChain, bind_ok, bind_err, bind_no, toS_ok, toS_err, nox_ok, fin_nx, fin_rt, fin_err, startL, List.map_cons, List.map_nil, List.length_cons, List.length_nil, List.cons_append, List.nil_append, List.getElem?_cons_zero, List.getElem?_cons_succ, List.set_cons_zero, List.set_cons_succ, List.replicate_succ, List.replicate_zero, Nat.zero_add, Nat.reduceAdd, Nat.reduceSub, Nat.add_one_sub_one, Nat.sub_self, if_true, if_false, ite_true, ite_false, Bool.false_eq_true, reduceCtorEq, if_pos, Nat.reduceEqDiff, Nat.reduceLeDiff, decide_true, decide_false, Bool.not_true, Bool.not_false, decide_eq_true h2, gAll, nameB, decide_eq_true h1, Bool.true_and]
      · simp only [mSeq, mExpr, mRet, mRetN, mIfS, mSet, mAug, mCall, mCons, mNil, mVar, mC, mOp, mUn, mApp, mTup, mLst, mNx, mRaise, mAnd, mOr, mNot, mIf, tstB, tstAnd, tstOr, tstNot, mChain, bind_ok, bind_err, bind_no, toS_ok, toS_err, nox_ok, fin_nx, fin_rt, fin_err, startL, List.map_cons, List.map_nil, List.length_cons, List.length_nil, List.cons_append, List.nil_append, List.getElem?_cons_zero, List.getElem?_cons_succ, List.set_cons_zero, List.set_cons_succ, List.replicate_succ, List.replicate_zero, Nat.zero_add, Nat.reduceAdd, Nat.reduceSub, Nat.add_one_sub_one, Nat.sub_self, if_true, if_false, ite_true, ite_false, Bool.false_eq_true, reduceCtorEq, if_pos, Nat.reduceEqDiff, Nat.reduceLeDiff, decide_true, decide_false, Bool.not_true, Bool.not_false, decide_eq_false h2, gAll, nameB, decide_eq_true h1, Bool.true_and, Bool.false_and]
    · simp only [mSeq, mExpr, mRet, mRetN, mIfS, mSet, mAug, mCall, mCons, mNil, mVar, mC, mOp, mUn, mApp, mTup, mLst, mNx, mRaise, mAnd, mOr, mNot, mIf, tstB, tstAnd, tstOr, tstNot, mChain, bind_ok, bind_err, bind_no, toS_ok, toS_err, nox_ok, fin_nx, fin_rt, fin_err, startL, List.map_cons, List.map_nil, List.length_cons, List.length_nil, List.cons_append, List.nil_append, List.getElem?_cons_zero, List.getElem?_cons_succ, List.set_cons_zero, List.set_cons_succ, List.replicate_succ, List.replicate_zero, Nat.zero_add, Nat.reduceAdd, Nat.reduceSub, Nat.add_one_sub_one, Nat.sub_self, if_true, if_false, ite_true, ite_false, Bool.false_eq_true, reduceCtorEq, if_pos, Nat.reduceEqDiff, Nat.reduceLeDiff, decide_true, decide_false, Bool.not_true, Bool.not_false, decide_eq_false h1, nameB, Bool.false_and]
  | bl b => cases e; simp only [mSeq, mExpr, mRet, mRetN, mIfS, mSet, mAug, mCall, mCons, mNil, mVar, mC, mOp, mUn, mApp, mTup, mLst, mNx, mRaise, mAnd, mOr, mNot, mIf, tstB, tstAnd, tstOr, tstNot, mChain, bind_ok, bind_err, bind_no, toS_ok, toS_err, nox_ok, fin_nx, fin_rt, fin_err, startL, List.map_cons, List.map_nil, List.length_cons, List.length_nil, List.cons_append, List.nil_append, List.getElem?_cons_zero, List.getElem?_cons_succ, List.set_cons_zero, List.set_cons_succ, List.replicate_succ, List.replicate_zero, Nat.zero_add, Nat.reduceAdd, Nat.reduceSub, Nat.add_one_sub_one, Nat.sub_self, if_true, if_false, ite_true, ite_false, Bool.false_eq_true, reduceCtorEq, if_pos, Nat.reduceEqDiff, Nat.reduceLeDiff, decide_true, decide_false, Bool.not_true, Bool.not_false, show isT "bool" "str" = false from by decide, nameB]
  | non => cases e; simp only [mSeq, mExpr, mRet, mRetN, mIfS, mSet, mAug, mCall, mCons, mNil, mVar, mC, mOp, mUn, mApp, mTup, mLst, mNx, mRaise, mAnd, mOr, mNot, mIf, tstB, tstAnd, tstOr, tstNot, mChain, bind_ok, bind_err, bind_no, toS_ok, toS_err, nox_ok, fin_nx, fin_rt, fin_err, startL, List.map_cons, List.map_nil, List.length_cons, List.length_nil, List.cons_append, List.nil_append, List.getElem?_cons_zero, List.getElem?_cons_succ, List.set_cons_zero, List.set_cons_succ, List.replicate_succ, List.replicate_zero, Nat.zero_add, Nat.reduceAdd, Nat.reduceSub, Nat.add_one_sub_one, Nat.sub_self, if_true, if_false, ite_true, ite_false, Bool.false_eq_true, reduceCtorEq, if_pos, Nat.reduceEqDiff, Nat.reduceLeDiff, decide_true, decide_false, Bool.not_true, Bool.not_false, show isT "NoneType" "str" = false from by decide, nameB]
  | int z => cases e; simp only [mSeq, mExpr, mRet, mRetN, mIfS, mSet, mAug, mCall, mCons, mNil, mVar, mC, mOp, mUn, mApp, mTup, mLst, mNx, mRaise, mAnd, mOr, mNot, mIf, tstB, tstAnd, tstOr, tstNot, mChain, bind_ok, bind_err, bind_no, toS_ok, toS_err, nox_ok, fin_nx, fin_rt, fin_err, startL, List.map_cons, List.map_nil, List.length_cons, List.length_nil, List.cons_append, List.nil_append, List.getElem?_cons_zero, List.getElem?_cons_succ, List.set_cons_zero, List.set_cons_succ, List.replicate_succ, List.replicate_zero, Nat.zero_add, Nat.reduceAdd, Nat.reduceSub, Nat.add_one_sub_one, Nat.sub_self, if_true, if_false, ite_true, ite_false, Bool.false_eq_true, reduceCtorEq, if_pos, Nat.reduceEqDiff, Nat.reduceLeDiff, decide_true, decide_false, Bool.not_true, Bool.not_false, show isT "int" "str" = false from by decide, nameB]
  | tup z => cases e; simp only [mSeq, mExpr, mRet, mRetN, mIfS, mSet, mAug, mCall, mCons, mNil, mVar, mC, mOp, mUn, mApp, mTup, mLst, mNx, mRaise, mAnd, mOr, mNot, mIf, tstB, tstAnd, tstOr, tstNot, mChain, bind_ok, bind_err, bind_no, toS_ok, toS_err, nox_ok, fin_nx, fin_rt, fin_err, startL, List.map_cons, List.map_nil, List.length_cons, List.length_nil, List.cons_append, List.nil_append, List.getElem?_cons_zero, List.getElem?_cons_succ, List.set_cons_zero, List.set_cons_succ, List.replicate_succ, List.replicate_zero, Nat.zero_add, Nat.reduceAdd, Nat.reduceSub, Nat.add_one_sub_one, Nat.sub_self, if_true, if_false, ite_true, ite_false, Bool.false_eq_true, reduceCtorEq, if_pos, Nat.reduceEqDiff, Nat.reduceLeDiff, decide_true, decide_false, Bool.not_true, Bool.not_false, show isT "tuple" "str" = false from by decide, nameB]
  | ref n =>
    have e : isT a "str" = false := by
      unfold tyN at e
      dsimp only at e
      split at e <;> first | (cases e; decide) | cases e
    simp only [mSeq, mExpr, mRet, mRetN, mIfS, mSet, mAug, mCall, mCons, mNil, mVar, mC, mOp, mUn, mApp, mTup, mLst, mNx, mRaise, mAnd, mOr, mNot, mIf, tstB, tstAnd, tstOr, tstNot, mChain, bind_ok, bind_err, bind_no, toS_ok, toS_err, nox_ok, fin_nx, fin_rt, fin_err, startL, List.map_cons, List.map_nil, List.length_cons, List.length_nil, List.cons_append, List.nil_append, List.getElem?_cons_zero, List.getElem?_cons_succ, List.set_cons_zero, List.set_cons_succ, List.replicate_succ, List.replicate_zero, Nat.zero_add, Nat.reduceAdd, Nat.reduceSub, Nat.add_one_sub_one, Nat.sub_self, if_true, if_false, ite_true, ite_false, Bool.false_eq_true, reduceCtorEq, if_pos, Nat.reduceEqDiff, Nat.reduceLeDiff, decide_true, decide_false, Bool.not_true, Bool.not_false, e, nameB]
def tupB (d : D) (lo hi : Int) : Bool := match d with
  | .tup xs => decide (lo ≤ xs.length) && decide ((xs.length : Int) ≤ hi)
  | _ => false
theorem not_tup {d : D} {a : String} (e : tyN s d = some a) (h : ∀ xs, d ≠ .tup xs) : isT a "tuple" = false := by
  cases d with
  | tup xs => exact absurd rfl (h xs)
  | ref n =>
    unfold tyN at e
    dsimp only at e
    split at e <;> first | (cases e; decide) | cases e
  | _ => cases e; decide
theorem c_require_tuple {d : D} (h : liv s d = true) (lo hi : Int) : call (k + 2) .require_tuple [d, .int lo, .int hi] s = if tupB d lo hi = true then .ok .non s else .err "BadModel" s := by
  show defM 3 3 (m_require_tuple (call (k + 1))) [d, .int lo, .int hi] s = _
  unfold defM m_require_tuple
  obtain ⟨a, e⟩ := liv_ty h
  simp only [mSeq, mExpr, mRet, mRetN, mIfS, mSet, mAug, mCall, mCons, mNil, mVar, mC, mOp, mUn, mApp, mTup, mLst, mNx, mRaise, mAnd, mOr, mNot, mIf, tstB, tstAnd, tstOr, tstNot, mChain, bind_ok, bind_err, bind_no, toS_ok, toS_err, nox_ok, fin_nx, fin_rt, fin_err, startL, List.map_cons, List.map_nil, List.length_cons, List.length_nil, List.cons_append, List.nil_append, List.getElem?_cons_zero, List.getElem?_cons_succ, List.set_cons_zero, List.set_cons_succ, List.replicate_succ, List.replicate_zero, Nat.zero_add, Nat.reduceAdd, Nat.reduceSub, Nat.add_one_sub_one, Nat.sub_self, if_true, if_false, ite_true, ite_false, Bool.false_eq_true, reduceCtorEq, if_pos, Nat.reduceEqDiff, Nat.reduceLeDiff, decide_true, decide_false, Bool.not_true, Bool.not_false, gIsT_at e]
  by_cases hd : ∃ xs, d = .tup xs
  · obtain ⟨xs, rfl⟩ := hd
    cases e
    simp only [mSeq, mExpr, mRet, mRetN, mIfS, mSet, mAug, mCall, mCons, mNil, mVar, mC, mOp, mUn, mApp, mTup, mLst, mNx, mRaise, mAnd, mOr, mNot, mIf, tstB, tstAnd, tstOr, tstNot, mChain, bind_ok, bind_err, bind_no, toS_ok, toS_err, nox_ok, fin_nx, fin_rt, fin_err, startL, List.map_cons, List.map_nil, List.length_cons, List.length_nil, List.cons_append, List.nil_append, List.getElem?_cons_zero, List.getElem?_cons_succ, List.set_cons_zero, List.set_cons_succ, List.replicate_succ, List.replicate_zero, Nat.zero_add, Nat.reduceAdd, Nat.reduceSub, Nat.add_one_sub_one, Nat.sub_self, if_true, if_false, ite_true, ite_false, Bool.false_eq_true, reduceCtorEq, if_pos, Nat.reduceEqDiff, Nat.reduceLeDiff, decide_true, decide_false, Bool.not_true, Bool.not_false, show isT "tuple" "tuple" = true from by decide, gLen, seqD, gLe, gOrd, tupB]
    by_cases h1 : lo ≤ xs.length
    · simp only [mSeq, mExpr, mRet, mRetN, mIfS, mSet, mAug, mCall, mCons, mNil, mVar, mC, mOp, mUn, mApp, mTup, mLst, mNx, mRaise, mAnd, mOr, mNot, mIf, tstB, tstAnd, tstOr, tstNot, mChain, bind_ok, bind_err, bind_no, toS_ok, toS_err, nox_ok, fin_nx, fin_rt, fin_err, startL, List.map_cons, List.map_nil, List.length_cons, List.length_nil, List.cons_append, List.nil_append, List.getElem?_cons_zero, List.getElem?_cons_succ, List.set_cons_zero, List.set_cons_succ, List.replicate_succ, List.replicate_zero, Nat.zero_add, Nat.reduceAdd, Nat.reduceSub, Nat.add_one_sub_one, Nat.sub_self, if_true, if_false, ite_true, ite_false, Bool.false_eq_true, reduceCtorEq, if_pos, Nat.reduceEqDiff, Nat.reduceLeDiff, decide_true, decide_false, Bool.not_true, Bool.not_false, decide_eq_true h1, gLe, gOrd, c_require, Bool.true_and]
      by_cases h2 : (xs.length : Int) ≤ hi
      · simp only [mSeq, mExpr, mRet, mRetN, mIfS, mSet, mAug, mCall, mCons, mNil, mVar, mC, mOp, mUn, mApp, mTup, mLst, mNx, mRaise, mAnd, mOr, mNot, mIf, tstB, tstAnd, tstOr, tstNot, mChain, bind_ok, bind_err, bind_no, toS_ok, toS_err, nox_ok, fin_nx, fin_rt, fin_err, startL, List.map_cons, List.map_nil, List.length_cons, List.length_nil, List.cons_append, List.nil_append, List.getElem?_cons_zero, List.getElem?_cons_succ, List.set_cons_zero, List.set_cons_succ, List.replicate_succ, List.replicate_zero, Nat.zero_add, Nat.reduceAdd, Nat.reduceSub, Nat.add_one_sub_one, Nat.sub_self, if_true, if_false, ite_true, ite_false, Bool.false_eq_true, reduceCtorEq, if_pos, Nat.reduceEqDiff, Nat.reduceLeDiff, decide_true, decide_false, Bool.not_true, Bool.not_false, decide_eq_true h2]
      · simp only [mSeq, mExpr, mRet, mRetN, mIfS, mSet, mAug, mCall, mCons, mNil, mVar, mC, mOp, mUn, mApp, mTup, mLst, mNx, mRaise, mAnd, mOr, mNot, mIf, tstB, tstAnd, tstOr, tstNot, mChain, bind_ok, bind_err, bind_no, toS_ok, toS_err, nox_ok, fin_nx, fin_rt, fin_err, startL, List.map_cons, List.map_nil, List.length_cons, List.length_nil, List.cons_append, List.nil_append, List.getElem?_cons_zero, List.getElem?_cons_succ, List.set_cons_zero, List.set_cons_succ, List.replicate_succ, List.replicate_zero, Nat.zero_add, Nat.reduceAdd, Nat.reduceSub, Nat.add_one_sub_one, Nat.sub_self, if_true, if_false, ite_true, ite_false, Bool.false_eq_true, reduceCtorEq, if_pos, Nat.reduceEqDiff, Nat.reduceLeDiff, decide_true, decide_false, Bool.not_true, Bool.not_false, decide_eq_false h2]
    · simp only [mSeq, mExpr, mRet, mRetN, mIfS, mSet, mAug, mCall, mCons, mNil, mVar, mC, mOp, mUn, mApp, mTup, mLst, mNx, mRaise, mAnd, mOr, mNot, mIf, tstB, tstAnd, tstOr, tstNot, mChain, bind_ok, bind_err, bind_no, toS_ok, toS_err, nox_ok, fin_nx, fin_rt, fin_err, startL, List.map_cons, List.map_nil, List.length_cons, List.length_nil, List.cons_append, List.nil_append, List.getElem?_cons_zero, List.getElem?_cons_succ, List.set_cons_zero, List.set_cons_succ, List.replicate_succ, List.replicate_zero, Nat.zero_add, Nat.reduceAdd, Nat.reduceSub, Nat.add_one_sub_one, Nat.sub_self, if_true, if_false, ite_true, ite_false, Bool.false_eq_true, reduceCtorEq, if_pos, Nat.reduceEqDiff, Nat.reduceLeDiff, decide_true, decide_false, Bool.not_true, Bool.not_false, decide_eq_false h1, c_require, Bool.false_and]
  · have hn : ∀ xs, d ≠ .tup xs := fun xs z => hd ⟨xs, z⟩
    have e2 : tupB d lo hi = false := by cases d <;> first | rfl | exact absurd rfl (hn _)
    simp only [mSeq, mExpr, mRet, mRetN, mIfS, mSet, mAug, mCall, mCons, mNil, mVar, mC, mOp, mUn, mApp, mTup, mLst, mNx, mRaise, mAnd, mOr, mNot, mIf, tstB, tstAnd, tstOr, tstNot, mChain, bind_ok, bind_err, bind_no, toS_ok, toS_err, nox_ok, fin_nx, fin_rt, fin_err, startL, List.map_cons, List.map_nil, List.length_cons, List.length_nil, List.cons_append, List.nil_append, List.getElem?_cons_zero, List.getElem?_cons_succ, List.set_cons_zero, List.set_cons_succ, List.replicate_succ, List.replicate_zero, Nat.zero_add, Nat.reduceAdd, Nat.reduceSub, Nat.add_one_sub_one, Nat.sub_self, if_true, if_false, ite_true, ite_false, Bool.false_eq_true, reduceCtorEq, if_pos, Nat.reduceEqDiff, Nat.reduceLeDiff, decide_true, decide_false, Bool.not_true, Bool.not_false, not_tup e hn, c_require, e2]

/-! ### the checks of expressions -/
def inN (names : List Str) : D → Option Bool
  | .str x => some (names.any (· == x))
  | .int _ => some false
  | _ => none
def ops1 : List Str := ["arg", "now", "self"]
def ops2 : List Str := ["div", "mod"]
def ops3 : List Str := ["add", "sub", "mul", "min", "max", "less", "same", "both", "either"]
/-- outer none: not told here; inner none: refused; some n: accepted, n nodes counted -/
def exprV (names : List Str) : Nat → D → Int → Int → Option (Option Int)
  | 0, _, _, _ => none
  | f + 1, d, depth, n => if n + 1 ≤ 80 ∧ depth ≤ 8 then match d with
      | .tup [] => some none
      | .tup [.str h] => some (if h ∈ ops1 then some (n + 1) else none)
      | .tup [.str h, x] => if h = "int" then some (if tyI x (-999) 999 = true then some (n + 1) else none)
        else if h = "field" then (inN names x).map fun b => if b = true then some (n + 1) else none
        else if h = "not" then exprV names f x (depth + 1) (n + 1)
        else some none
      | .tup [.str h, a, b] => if h ∈ ops2 then match exprV names f a (depth + 1) (n + 1) with
          | some (some m) => some (if tyI b 1 999 = true then some m else none)
          | x => x
        else if h ∈ ops3 then match exprV names f a (depth + 1) (n + 1) with
          | some (some m) => exprV names f b (depth + 1) m
          | x => x
        else some none
      | .tup (_ :: _ :: _ :: _ :: _) => some none
      | .tup _ => none
      | _ => some none
    else some none
def stN (s : Mem) (p f : Nat) (n : Int) : Mem := s.set p (.ins "ProgramCheck" [("fields", .ref f), ("nodes", .int n)])
structure Chk (s : Mem) (p f : Nat) (names : List Str) : Prop where
  lt : p < s.length
  ne : f ≠ p
  at_ : s[f]? = some (.lst (names.map D.str))
  no : ∀ xs, s[p]? ≠ some (Ob.lst xs)
section
variable {p f : Nat} {names : List Str} {n : Int}
theorem Chk.at_p (C : Chk s p f names) : (stN s p f n)[p]? = some (.ins "ProgramCheck" [("fields", .ref f), ("nodes", .int n)]) := List.getElem?_set_self C.lt
theorem Chk.at_f (C : Chk s p f names) : (stN s p f n)[f]? = some (.lst (names.map D.str)) := by unfold stN; rw [List.getElem?_set_ne (Ne.symm C.ne)]; exact C.at_
theorem stN_set {m : Int} : (stN s p f n).set p (.ins "ProgramCheck" [("fields", .ref f), ("nodes", .int m)]) = stN s p f m := by unfold stN; rw [List.set_set]
theorem look1 {a b : D} : ([("fields", a), ("nodes", b)] : List (Str × D)).lookup ("nodes" : Str) = some b := rfl
theorem look2 {a b : D} : ([("fields", a), ("nodes", b)] : List (Str × D)).lookup ("fields" : Str) = some a := rfl
theorem put1 {a b z : D} : putD ("nodes" : Str) z [(("fields" : Str), a), (("nodes" : Str), b)] = [(("fields" : Str), a), (("nodes" : Str), z)] := rfl
theorem cls1 (C : Chk s p f names) : clsAt (stN s p f n) p = some ("ProgramCheck" : Str) := by unfold clsAt; rw [C.at_p]
theorem mem1 : ("ProgramCheck" : Str) ∈ (["ProgramCheck"] : List Str) := List.mem_cons_self
theorem liv_st {m : Int} (C : Chk s p f names) {d : D} (h : liv s d = true) : liv (stN s p f m) d = true := by
  refine liv_ext (fun j xs e => ⟨xs, ?_⟩) h
  unfold stN
  rw [List.getElem?_set_ne (fun (z : p = j) => C.no xs (by rw [z]; exact e))]
  exact e
def isTup : D → Bool
  | .tup _ => true
  | _ => false
theorem isTup_is {d : D} {a : String} (e : tyN s d = some a) : isT a "tuple" = isTup d := by
  by_cases hd : ∃ xs, d = .tup xs
  · obtain ⟨xs, rfl⟩ := hd; cases e; show isT "tuple" "tuple" = true; decide
  · have hn : ∀ xs, d ≠ .tup xs := fun xs z => hd ⟨xs, z⟩
    rw [not_tup e hn]
    cases d <;> first | rfl | exact absurd rfl (hn _)
theorem c_enter (C : Chk s p f names) {d : D} (h : liv s d = true) (depth : Int) :
    call (k + 2) .ProgramCheck_enter [.ref p, d, .int depth] (stN s p f n) = if (n + 1 ≤ 80 ∧ depth ≤ 8) ∧ isTup d = true then .ok .non (stN s p f (n + 1)) else .err "BadModel" (stN s p f (n + 1)) := by
  show defM 3 3 (m_ProgramCheck_enter (call (k + 1))) [.ref p, d, .int depth] (stN s p f n) = _
  unfold defM m_ProgramCheck_enter
  obtain ⟨a, e⟩ := liv_ty (liv_st (f := f) (m := n + 1) C h)
  simp only [mSeq, mExpr, mRet, mRetN, mIfS, mSet, mAug, mCall, mCons, mNil, mVar, mC, mOp, mUn, mApp, mTup, mLst, mNx, mRaise, mAnd, mOr, mNot, mIf, tstB, tstAnd, tstOr, tstNot, mChain, bind_ok, bind_err, bind_no, toS_ok, toS_err, nox_ok, fin_nx, fin_rt, fin_err, startL, List.map_cons, List.map_nil, List.length_cons, List.length_nil, List.cons_append, List.nil_append, List.getElem?_cons_zero, List.getElem?_cons_succ, List.set_cons_zero, List.set_cons_succ, List.replicate_succ, List.replicate_zero, Nat.zero_add, Nat.reduceAdd, Nat.reduceSub, Nat.add_one_sub_one, Nat.sub_self, if_true, if_false, ite_true, ite_false, Bool.false_eq_true, reduceCtorEq, if_pos, Nat.reduceEqDiff, Nat.reduceLeDiff, decide_true, decide_false, Bool.not_true, Bool.not_false, mAugF, gFld, C.at_p, mem1, look1, gI2, cls1 C, put1, stN_set, Nat.reduceLT, and_self, gLe, gOrd]
  by_cases h1 : n + 1 ≤ 80
  · simp only [mSeq, mExpr, mRet, mRetN, mIfS, mSet, mAug, mCall, mCons, mNil, mVar, mC, mOp, mUn, mApp, mTup, mLst, mNx, mRaise, mAnd, mOr, mNot, mIf, tstB, tstAnd, tstOr, tstNot, mChain, bind_ok, bind_err, bind_no, toS_ok, toS_err, nox_ok, fin_nx, fin_rt, fin_err, startL, List.map_cons, List.map_nil, List.length_cons, List.length_nil, List.cons_append, List.nil_append, List.getElem?_cons_zero, List.getElem?_cons_succ, List.set_cons_zero, List.set_cons_succ, List.replicate_succ, List.replicate_zero, Nat.zero_add, Nat.reduceAdd, Nat.reduceSub, Nat.add_one_sub_one, Nat.sub_self, if_true, if_false, ite_true, ite_false, Bool.false_eq_true, reduceCtorEq, if_pos, Nat.reduceEqDiff, Nat.reduceLeDiff, decide_true, decide_false, Bool.not_true, Bool.not_false, decide_eq_true h1, C.at_p, gFld, mem1, look1, gLe, gOrd]
    by_cases h2 : depth ≤ 8
    · simp only [mSeq, mExpr, mRet, mRetN, mIfS, mSet, mAug, mCall, mCons, mNil, mVar, mC, mOp, mUn, mApp, mTup, mLst, mNx, mRaise, mAnd, mOr, mNot, mIf, tstB, tstAnd, tstOr, tstNot, mChain, bind_ok, bind_err, bind_no, toS_ok, toS_err, nox_ok, fin_nx, fin_rt, fin_err, startL, List.map_cons, List.map_nil, List.length_cons, List.length_nil, List.cons_append, List.nil_append, List.getElem?_cons_zero, List.getElem?_cons_succ, List.set_cons_zero, List.set_cons_succ, List.replicate_succ, List.replicate_zero, Nat.zero_add, Nat.reduceAdd, Nat.reduceSub, Nat.add_one_sub_one, Nat.sub_self, if_true, if_false, ite_true, ite_false, Bool.false_eq_true, reduceCtorEq, if_pos, Nat.reduceEqDiff, Nat.reduceLeDiff, decide_true, decide_false, Bool.not_true, Bool.not_false, decide_eq_true h2, c_require, gIsT_at e, isTup_is e, h1, h2, true_and]
      cases isTup d <;> simp only [mSeq, mExpr, mRet, mRetN, mIfS, mSet, mAug, mCall, mCons, mNil, mVar, mC, mOp, mUn, mApp, mTup, mLst, mNx, mRaise, mAnd, mOr, mNot, mIf, tstB, tstAnd, tstOr, tstNot, mChain, bind_ok, bind_err, bind_no, toS_ok, toS_err, nox_ok, fin_nx, fin_rt, fin_err, startL, List.map_cons, List.map_nil, List.length_cons, List.length_nil, List.cons_append, List.nil_append, List.getElem?_cons_zero, List.getElem?_cons_succ, List.set_cons_zero, List.set_cons_succ, List.replicate_succ, List.replicate_zero, Nat.zero_add, Nat.reduceAdd, Nat.reduceSub, Nat.add_one_sub_one, Nat.sub_self, if_true, if_false, ite_true, ite_false, Bool.false_eq_true, reduceCtorEq, if_pos, Nat.reduceEqDiff, Nat.reduceLeDiff, decide_true, decide_false, Bool.not_true, Bool.not_false]
    · simp only [mSeq, mExpr, mRet, mRetN, mIfS, mSet, mAug, mCall, mCons, mNil, mVar, mC, mOp, mUn, mApp, mTup, mLst, mNx, mRaise, mAnd, mOr, mNot, mIf, tstB, tstAnd, tstOr, tstNot, mChain, bind_ok, bind_err, bind_no, toS_ok, toS_err, nox_ok, fin_nx, fin_rt, fin_err, startL, List.map_cons, List.map_nil, List.length_cons, List.length_nil, List.cons_append, List.nil_append, List.getElem?_cons_zero, List.getElem?_cons_succ, List.set_cons_zero, List.set_cons_succ, List.replicate_succ, List.replicate_zero, Nat.zero_add, Nat.reduceAdd, Nat.reduceSub, Nat.add_one_sub_one, Nat.sub_self, if_true, if_false, ite_true, ite_false, Bool.false_eq_true, reduceCtorEq, if_pos, Nat.reduceEqDiff, Nat.reduceLeDiff, decide_true, decide_false, Bool.not_true, Bool.not_false, decide_eq_false h2, c_require, h2, and_false, false_and]
  · simp only [mSeq, mExpr, mRet, mRetN, mIfS, mSet, mAug, mCall, mCons, mNil, mVar, mC, mOp, mUn, mApp, mTup, mLst, mNx, mRaise, mAnd, mOr, mNot, mIf, tstB, tstAnd, tstOr, tstNot, mChain, bind_ok, bind_err, bind_no, toS_ok, toS_err, nox_ok, fin_nx, fin_rt, fin_err, startL, List.map_cons, List.map_nil, List.length_cons, List.length_nil, List.cons_append, List.nil_append, List.getElem?_cons_zero, List.getElem?_cons_succ, List.set_cons_zero, List.set_cons_succ, List.replicate_succ, List.replicate_zero, Nat.zero_add, Nat.reduceAdd, Nat.reduceSub, Nat.add_one_sub_one, Nat.sub_self, if_true, if_false, ite_true, ite_false, Bool.false_eq_true, reduceCtorEq, if_pos, Nat.reduceEqDiff, Nat.reduceLeDiff, decide_true, decide_false, Bool.not_true, Bool.not_false, decide_eq_false h1, c_require, h1, false_and]
theorem lit_str {z h : Str} : mpLit z s (.str h) = if h = z then some (some []) else some none := by
  unfold mpLit gEqB
  by_cases e : h = z
  · subst e; simp
  · have : (h == z) = false := beq_eq_false_iff_ne.mpr e
    simp [this, e]
theorem or_str {h : Str} : ∀ {zs : List Str}, mpOr zs s (.str h) = if h ∈ zs then some (some []) else some none
  | [] => by simp [mpOr]
  | z :: zs => by
    unfold mpOr
    by_cases e : h = z
    · subst e; simp [gEqB]
    · have : (h == z) = false := beq_eq_false_iff_ne.mpr e
      simp only [gEqB, this]
      rw [or_str (zs := zs)]
      simp [e]
theorem in_names {x : D} {b : Bool} (C : Chk s p f names) (h : inN names x = some b) : gIn x (.ref f) (stN s p f n) = .ok (.bl b) (stN s p f n) := by
  have e1 : seqD (stN s p f n) (.ref f) = some (names.map D.str) := by unfold seqD rdL; dsimp only; rw [C.at_f]
  have e2 : (names.map D.str).mapM toV = some (names.map V.str) := by
    clear h C e1
    induction names with
    | nil => rfl
    | cons a r ih => rw [List.map_cons, List.mapM_cons, ih]; rfl
  have key : ∀ v, toV x = some v → inV v (names.map V.str) = b → gIn x (.ref f) (stN s p f n) = .ok (.bl b) (stN s p f n) := fun v h1 h2 => by
    unfold gIn gInB
    rw [h1, e1]
    simp only [e2, Option.map_some, h2]
  cases x with
  | str z =>
    cases h
    refine key _ rfl ?_
    unfold inV
    rw [List.any_map]
    rfl
  | int z =>
    cases h
    refine key _ rfl ?_
    unfold inV
    rw [List.any_map]
    exact List.any_eq_false.mpr fun a _ => Bool.false_ne_true
  | _ => cases h
end
end
end Pr

set_option Elab.async false
set_option linter.all false
set_option maxRecDepth 100000
set_option maxHeartbeats 4000000
/-! what the checks of expressions, statements and programs do -/
namespace Pr
open PySem PySem.Spec PyProof.Rows L2 Core
section
variable {s : Mem} {p f : Nat} {names : List Str}
/-- what comes out of a check -/
def Out (s : Mem) (p f : Nat) (r : Option Int) (v : D) (res : Core.R D) : Prop := match r with
  | some m => res = .ok v (stN s p f m)
  | none => ∃ m, res = .err "BadModel" (stN s p f m)
theorem c_expression (C : Chk s p f names) : ∀ (fu k : Nat) (d : D) (depth n : Int) (r : Option Int), liv s d = true → exprV names fu d depth n = some r → Out s p f r .non (call (k + fu + 2) .ProgramCheck_expression [.ref p, d, .int depth] (stN s p f n))
  | 0, k, d, depth, n, r, h, e => by simp [exprV] at e
  | fu + 1, k, d, depth, n, r, h, e => by
    show Out s p f r .non (defM 3 7 (m_ProgramCheck_expression (call (k + fu + 2))) [.ref p, d, .int depth] (stN s p f n))
    unfold exprV at e
    unfold defM m_ProgramCheck_expression
    simp only [mSeq, mExpr, mRet, mRetN, mIfS, mSet, mAug, mCall, mCons, mNil, mVar, mC, mOp, mUn, mApp, mTup, mLst, mNx, mRaise, mAnd, mOr, mNot, mIf, tstB, tstAnd, tstOr, tstNot, mChain, bind_ok, bind_err, bind_no, toS_ok, toS_err, nox_ok, fin_nx, fin_rt, fin_err, startL, List.map_cons, List.map_nil, List.length_cons, List.length_nil, List.cons_append, List.nil_append, List.getElem?_cons_zero, List.getElem?_cons_succ, List.set_cons_zero, List.set_cons_succ, List.replicate_succ, List.replicate_zero, Nat.zero_add, Nat.reduceAdd, Nat.reduceSub, Nat.add_one_sub_one, Nat.sub_self, if_true, if_false, ite_true, ite_false, Bool.false_eq_true, reduceCtorEq, if_pos, Nat.reduceEqDiff, Nat.reduceLeDiff, decide_true, decide_false, Bool.not_true, Bool.not_false, mMethC, C.at_p, and_self, c_enter C h]
    have lk : ([(("fields" : Str), D.ref f), (("nodes" : Str), D.int n)] : List (Str × D)).lookup ("enter" : Str) = none := rfl
    have lk2 : ∀ m : Int, ([(("fields" : Str), D.ref f), (("nodes" : Str), D.int m)] : List (Str × D)).lookup ("expression" : Str) = none := fun _ => rfl
    by_cases h1 : n + 1 ≤ 80 ∧ depth ≤ 8
    · rw [if_pos h1] at e
      cases d with
      | tup xs =>
        have hl : livs s xs = true := h
        simp only [mSeq, mExpr, mRet, mRetN, mIfS, mSet, mAug, mCall, mCons, mNil, mVar, mC, mOp, mUn, mApp, mTup, mLst, mNx, mRaise, mAnd, mOr, mNot, mIf, tstB, tstAnd, tstOr, tstNot, mChain, bind_ok, bind_err, bind_no, toS_ok, toS_err, nox_ok, fin_nx, fin_rt, fin_err, startL, List.map_cons, List.map_nil, List.length_cons, List.length_nil, List.cons_append, List.nil_append, List.getElem?_cons_zero, List.getElem?_cons_succ, List.set_cons_zero, List.set_cons_succ, List.replicate_succ, List.replicate_zero, Nat.zero_add, Nat.reduceAdd, Nat.reduceSub, Nat.add_one_sub_one, Nat.sub_self, if_true, if_false, ite_true, ite_false, Bool.false_eq_true, reduceCtorEq, if_pos, Nat.reduceEqDiff, Nat.reduceLeDiff, decide_true, decide_false, Bool.not_true, Bool.not_false, lk, h1, isTup, and_self, true_and]
        match xs, e, hl with
        | [], e, hl =>
          cases e
          simp only [mSeq, mExpr, mRet, mRetN, mIfS, mSet, mAug, mCall, mCons, mNil, mVar, mC, mOp, mUn, mApp, mTup, mLst, mNx, mRaise, mAnd, mOr, mNot, mIf, tstB, tstAnd, tstOr, tstNot, mChain, bind_ok, bind_err, bind_no, toS_ok, toS_err, nox_ok, fin_nx, fin_rt, fin_err, startL, List.map_cons, List.map_nil, List.length_cons, List.length_nil, List.cons_append, List.nil_append, List.getElem?_cons_zero, List.getElem?_cons_succ, List.set_cons_zero, List.set_cons_succ, List.replicate_succ, List.replicate_zero, Nat.zero_add, Nat.reduceAdd, Nat.reduceSub, Nat.add_one_sub_one, Nat.sub_self, if_true, if_false, ite_true, ite_false, Bool.false_eq_true, reduceCtorEq, if_pos, Nat.reduceEqDiff, Nat.reduceLeDiff, decide_true, decide_false, Bool.not_true, Bool.not_false, mMatch, mCases, mpSeq, mpWild, setAll, List.foldl_nil, Nat.reduceEqDiff]
          exact ⟨_, rfl⟩
        | [.str z], e, hl =>
          have e : some (if z ∈ ops1 then some (n + 1) else none) = some r := e
          cases e
          simp only [mSeq, mExpr, mRet, mRetN, mIfS, mSet, mAug, mCall, mCons, mNil, mVar, mC, mOp, mUn, mApp, mTup, mLst, mNx, mRaise, mAnd, mOr, mNot, mIf, tstB, tstAnd, tstOr, tstNot, mChain, bind_ok, bind_err, bind_no, toS_ok, toS_err, nox_ok, fin_nx, fin_rt, fin_err, startL, List.map_cons, List.map_nil, List.length_cons, List.length_nil, List.cons_append, List.nil_append, List.getElem?_cons_zero, List.getElem?_cons_succ, List.set_cons_zero, List.set_cons_succ, List.replicate_succ, List.replicate_zero, Nat.zero_add, Nat.reduceAdd, Nat.reduceSub, Nat.add_one_sub_one, Nat.sub_self, if_true, if_false, ite_true, ite_false, Bool.false_eq_true, reduceCtorEq, if_pos, Nat.reduceEqDiff, Nat.reduceLeDiff, decide_true, decide_false, Bool.not_true, Bool.not_false, mMatch, mCases, mpSeq, mpCons, mpNil, mpWild, or_str, setAll, List.foldl_nil, Nat.reduceEqDiff, List.append_nil]
          by_cases hz : z ∈ ops1
          · have hz' : z ∈ (["arg", "now", "self"] : List Str) := hz
            simp only [mSeq, mExpr, mRet, mRetN, mIfS, mSet, mAug, mCall, mCons, mNil, mVar, mC, mOp, mUn, mApp, mTup, mLst, mNx, mRaise, mAnd, mOr, mNot, mIf, tstB, tstAnd, tstOr, tstNot, mChain, bind_ok, bind_err, bind_no, toS_ok, toS_err, nox_ok, fin_nx, fin_rt, fin_err, startL, List.map_cons, List.map_nil, List.length_cons, List.length_nil, List.cons_append, List.nil_append, List.getElem?_cons_zero, List.getElem?_cons_succ, List.set_cons_zero, List.set_cons_succ, List.replicate_succ, List.replicate_zero, Nat.zero_add, Nat.reduceAdd, Nat.reduceSub, Nat.add_one_sub_one, Nat.sub_self, if_true, if_false, ite_true, ite_false, Bool.false_eq_true, reduceCtorEq, if_pos, Nat.reduceEqDiff, Nat.reduceLeDiff, decide_true, decide_false, Bool.not_true, Bool.not_false, hz', hz]
            exact rfl
          · have hz' : ¬ z ∈ (["arg", "now", "self"] : List Str) := hz
            simp only [mSeq, mExpr, mRet, mRetN, mIfS, mSet, mAug, mCall, mCons, mNil, mVar, mC, mOp, mUn, mApp, mTup, mLst, mNx, mRaise, mAnd, mOr, mNot, mIf, tstB, tstAnd, tstOr, tstNot, mChain, bind_ok, bind_err, bind_no, toS_ok, toS_err, nox_ok, fin_nx, fin_rt, fin_err, startL, List.map_cons, List.map_nil, List.length_cons, List.length_nil, List.cons_append, List.nil_append, List.getElem?_cons_zero, List.getElem?_cons_succ, List.set_cons_zero, List.set_cons_succ, List.replicate_succ, List.replicate_zero, Nat.zero_add, Nat.reduceAdd, Nat.reduceSub, Nat.add_one_sub_one, Nat.sub_self, if_true, if_false, ite_true, ite_false, Bool.false_eq_true, reduceCtorEq, if_pos, Nat.reduceEqDiff, Nat.reduceLeDiff, decide_true, decide_false, Bool.not_true, Bool.not_false, hz', hz, setAll, List.foldl_nil]
            exact ⟨_, rfl⟩
        | [.str z, x], e, hl =>
          have hx : liv s x = true := by unfold livs at hl; unfold livs at hl; simp only [Bool.and_eq_true] at hl; exact hl.2.1
          obtain ⟨a, ea⟩ := liv_ty (liv_st (f := f) (m := n + 1) C hx)
          have e : (if z = "int" then some (if tyI x (-999) 999 = true then some (n + 1) else none) else if z = "field" then (inN names x).map fun b => if b = true then some (n + 1) else none else if z = "not" then exprV names fu x (depth + 1) (n + 1) else some none) = some r := e
          by_cases z1 : z = "int"
          · rw [if_pos z1] at e
            cases e
            simp only [mSeq, mExpr, mRet, mRetN, mIfS, mSet, mAug, mCall, mCons, mNil, mVar, mC, mOp, mUn, mApp, mTup, mLst, mNx, mRaise, mAnd, mOr, mNot, mIf, tstB, tstAnd, tstOr, tstNot, mChain, bind_ok, bind_err, bind_no, toS_ok, toS_err, nox_ok, fin_nx, fin_rt, fin_err, startL, List.map_cons, List.map_nil, List.length_cons, List.length_nil, List.cons_append, List.nil_append, List.getElem?_cons_zero, List.getElem?_cons_succ, List.set_cons_zero, List.set_cons_succ, List.replicate_succ, List.replicate_zero, Nat.zero_add, Nat.reduceAdd, Nat.reduceSub, Nat.add_one_sub_one, Nat.sub_self, if_true, if_false, ite_true, ite_false, Bool.false_eq_true, reduceCtorEq, if_pos, Nat.reduceEqDiff, Nat.reduceLeDiff, decide_true, decide_false, Bool.not_true, Bool.not_false, mMatch, mCases, mpSeq, mpCons, mpNil, mpCap, lit_str, z1, setAll, List.foldl_nil, List.foldl_cons, List.append_nil, gNeg, Nat.reduceEqDiff]
            rw [c_is_integer ea]
            simp only [mSeq, mExpr, mRet, mRetN, mIfS, mSet, mAug, mCall, mCons, mNil, mVar, mC, mOp, mUn, mApp, mTup, mLst, mNx, mRaise, mAnd, mOr, mNot, mIf, tstB, tstAnd, tstOr, tstNot, mChain, bind_ok, bind_err, bind_no, toS_ok, toS_err, nox_ok, fin_nx, fin_rt, fin_err, startL, List.map_cons, List.map_nil, List.length_cons, List.length_nil, List.cons_append, List.nil_append, List.getElem?_cons_zero, List.getElem?_cons_succ, List.set_cons_zero, List.set_cons_succ, List.replicate_succ, List.replicate_zero, Nat.zero_add, Nat.reduceAdd, Nat.reduceSub, Nat.add_one_sub_one, Nat.sub_self, if_true, if_false, ite_true, ite_false, Bool.false_eq_true, reduceCtorEq, if_pos, Nat.reduceEqDiff, Nat.reduceLeDiff, decide_true, decide_false, Bool.not_true, Bool.not_false]
            rw [show k + fu + 2 = (k + fu + 1) + 1 from rfl, c_require]
            cases tyI x (-999) 999 <;> simp only [mSeq, mExpr, mRet, mRetN, mIfS, mSet, mAug, mCall, mCons, mNil, mVar, mC, mOp, mUn, mApp, mTup, mLst, mNx, mRaise, mAnd, mOr, mNot, mIf, tstB, tstAnd, tstOr, tstNot, mChain, bind_ok, bind_err, bind_no, toS_ok, toS_err, nox_ok, fin_nx, fin_rt, fin_err, startL, List.map_cons, List.map_nil, List.length_cons, List.length_nil, List.cons_append, List.nil_append, List.getElem?_cons_zero, List.getElem?_cons_succ, List.set_cons_zero, List.set_cons_succ, List.replicate_succ, List.replicate_zero, Nat.zero_add, Nat.reduceAdd, Nat.reduceSub, Nat.add_one_sub_one, Nat.sub_self, if_true, if_false, ite_true, ite_false, Bool.false_eq_true, reduceCtorEq, if_pos, Nat.reduceEqDiff, Nat.reduceLeDiff, decide_true, decide_false, Bool.not_true, Bool.not_false]
            · exact ⟨_, rfl⟩
            · exact rfl
          · rw [if_neg z1] at e
            by_cases z2 : z = "field"
            · rw [if_pos z2] at e
              cases q : inN names x with
              | none => rw [q] at e; cases e
              | some b =>
                rw [q] at e
                have e : some (if b = true then some (n + 1) else none) = some r := e
                cases e
                simp only [mSeq, mExpr, mRet, mRetN, mIfS, mSet, mAug, mCall, mCons, mNil, mVar, mC, mOp, mUn, mApp, mTup, mLst, mNx, mRaise, mAnd, mOr, mNot, mIf, tstB, tstAnd, tstOr, tstNot, mChain, bind_ok, bind_err, bind_no, toS_ok, toS_err, nox_ok, fin_nx, fin_rt, fin_err, startL, List.map_cons, List.map_nil, List.length_cons, List.length_nil, List.cons_append, List.nil_append, List.getElem?_cons_zero, List.getElem?_cons_succ, List.set_cons_zero, List.set_cons_succ, List.replicate_succ, List.replicate_zero, Nat.zero_add, Nat.reduceAdd, Nat.reduceSub, Nat.add_one_sub_one, Nat.sub_self, if_true, if_false, ite_true, ite_false, Bool.false_eq_true, reduceCtorEq, if_pos, Nat.reduceEqDiff, Nat.reduceLeDiff, decide_true, decide_false, Bool.not_true, Bool.not_false, mMatch, mCases, mpSeq, mpCons, mpNil, mpCap, lit_str, z2, z1, setAll, List.foldl_nil, List.foldl_cons, List.append_nil, gNeg, Nat.reduceEqDiff, gFld, C.at_p, mem1, look2, in_names C q]
                simp only [mSeq, mExpr, mRet, mRetN, mIfS, mSet, mAug, mCall, mCons, mNil, mVar, mC, mOp, mUn, mApp, mTup, mLst, mNx, mRaise, mAnd, mOr, mNot, mIf, tstB, tstAnd, tstOr, tstNot, mChain, bind_ok, bind_err, bind_no, toS_ok, toS_err, nox_ok, fin_nx, fin_rt, fin_err, startL, List.map_cons, List.map_nil, List.length_cons, List.length_nil, List.cons_append, List.nil_append, List.getElem?_cons_zero, List.getElem?_cons_succ, List.set_cons_zero, List.set_cons_succ, List.replicate_succ, List.replicate_zero, Nat.zero_add, Nat.reduceAdd, Nat.reduceSub, Nat.add_one_sub_one, Nat.sub_self, if_true, if_false, ite_true, ite_false, Bool.false_eq_true, reduceCtorEq, if_pos, Nat.reduceEqDiff, Nat.reduceLeDiff, decide_true, decide_false, Bool.not_true, Bool.not_false, show ((("field" : Str) = ("int" : Str)) = False) from eq_false (by decide +kernel), gFld, C.at_p, mem1, look2, in_names C q, setAll, List.foldl_nil, List.foldl_cons]
                rw [show k + fu + 2 = (k + fu + 1) + 1 from rfl, c_require]
                cases b <;> simp only [mSeq, mExpr, mRet, mRetN, mIfS, mSet, mAug, mCall, mCons, mNil, mVar, mC, mOp, mUn, mApp, mTup, mLst, mNx, mRaise, mAnd, mOr, mNot, mIf, tstB, tstAnd, tstOr, tstNot, mChain, bind_ok, bind_err, bind_no, toS_ok, toS_err, nox_ok, fin_nx, fin_rt, fin_err, startL, List.map_cons, List.map_nil, List.length_cons, List.length_nil, List.cons_append, List.nil_append, List.getElem?_cons_zero, List.getElem?_cons_succ, List.set_cons_zero, List.set_cons_succ, List.replicate_succ, List.replicate_zero, Nat.zero_add, Nat.reduceAdd, Nat.reduceSub, Nat.add_one_sub_one, Nat.sub_self, if_true, if_false, ite_true, ite_false, Bool.false_eq_true, reduceCtorEq, if_pos, Nat.reduceEqDiff, Nat.reduceLeDiff, decide_true, decide_false, Bool.not_true, Bool.not_false]
                · exact ⟨_, rfl⟩
                · exact rfl
            · rw [if_neg z2] at e
              by_cases z3 : z = "not"
              · rw [if_pos z3] at e
                have IH := c_expression C fu k x (depth + 1) (n + 1) r hx e
                subst z3
                simp only [mSeq, mExpr, mRet, mRetN, mIfS, mSet, mAug, mCall, mCons, mNil, mVar, mC, mOp, mUn, mApp, mTup, mLst, mNx, mRaise, mAnd, mOr, mNot, mIf, tstB, tstAnd, tstOr, tstNot, mChain, bind_ok, bind_err, bind_no, toS_ok, toS_err, nox_ok, fin_nx, fin_rt, fin_err, startL, List.map_cons, List.map_nil, List.length_cons, List.length_nil, List.cons_append, List.nil_append, List.getElem?_cons_zero, List.getElem?_cons_succ, List.set_cons_zero, List.set_cons_succ, List.replicate_succ, List.replicate_zero, Nat.zero_add, Nat.reduceAdd, Nat.reduceSub, Nat.add_one_sub_one, Nat.sub_self, if_true, if_false, ite_true, ite_false, Bool.false_eq_true, reduceCtorEq, if_pos, Nat.reduceEqDiff, Nat.reduceLeDiff, decide_true, decide_false, Bool.not_true, Bool.not_false, mMatch, mCases, mpSeq, mpCons, mpNil, mpCap, lit_str, z1, z2, setAll, List.foldl_nil, List.foldl_cons, List.append_nil, Nat.reduceEqDiff, mMethC, C.at_p, lk2, and_self, gAdd]
                cases r with
                | some m =>
                  have IH : call (k + fu + 2) .ProgramCheck_expression [.ref p, x, .int (depth + 1)] (stN s p f (n + 1)) = .ok .non (stN s p f m) := IH
                  simp only [mSeq, mExpr, mRet, mRetN, mIfS, mSet, mAug, mCall, mCons, mNil, mVar, mC, mOp, mUn, mApp, mTup, mLst, mNx, mRaise, mAnd, mOr, mNot, mIf, tstB, tstAnd, tstOr, tstNot, mChain, bind_ok, bind_err, bind_no, toS_ok, toS_err, nox_ok, fin_nx, fin_rt, fin_err, startL, List.map_cons, List.map_nil, List.length_cons, List.length_nil, List.cons_append, List.nil_append, List.getElem?_cons_zero, List.getElem?_cons_succ, List.set_cons_zero, List.set_cons_succ, List.replicate_succ, List.replicate_zero, Nat.zero_add, Nat.reduceAdd, Nat.reduceSub, Nat.add_one_sub_one, Nat.sub_self, if_true, if_false, ite_true, ite_false, Bool.false_eq_true, reduceCtorEq, if_pos, Nat.reduceEqDiff, Nat.reduceLeDiff, decide_true, decide_false, Bool.not_true, Bool.not_false, IH]
                  exact rfl
                | none =>
                  obtain ⟨m, IH⟩ := IH
                  simp only [mSeq, mExpr, mRet, mRetN, mIfS, mSet, mAug, mCall, mCons, mNil, mVar, mC, mOp, mUn, mApp, mTup, mLst, mNx, mRaise, mAnd, mOr, mNot, mIf, tstB, tstAnd, tstOr, tstNot, mChain, bind_ok, bind_err, bind_no, toS_ok, toS_err, nox_ok, fin_nx, fin_rt, fin_err, startL, List.map_cons, List.map_nil, List.length_cons, List.length_nil, List.cons_append, List.nil_append, List.getElem?_cons_zero, List.getElem?_cons_succ, List.set_cons_zero, List.set_cons_succ, List.replicate_succ, List.replicate_zero, Nat.zero_add, Nat.reduceAdd, Nat.reduceSub, Nat.add_one_sub_one, Nat.sub_self, if_true, if_false, ite_true, ite_false, Bool.false_eq_true, reduceCtorEq, if_pos, Nat.reduceEqDiff, Nat.reduceLeDiff, decide_true, decide_false, Bool.not_true, Bool.not_false, IH]
                  exact ⟨m, rfl⟩
              · rw [if_neg z3] at e
                cases e
                simp only [mSeq, mExpr, mRet, mRetN, mIfS, mSet, mAug, mCall, mCons, mNil, mVar, mC, mOp, mUn, mApp, mTup, mLst, mNx, mRaise, mAnd, mOr, mNot, mIf, tstB, tstAnd, tstOr, tstNot, mChain, bind_ok, bind_err, bind_no, toS_ok, toS_err, nox_ok, fin_nx, fin_rt, fin_err, startL, List.map_cons, List.map_nil, List.length_cons, List.length_nil, List.cons_append, List.nil_append, List.getElem?_cons_zero, List.getElem?_cons_succ, List.set_cons_zero, List.set_cons_succ, List.replicate_succ, List.replicate_zero, Nat.zero_add, Nat.reduceAdd, Nat.reduceSub, Nat.add_one_sub_one, Nat.sub_self, if_true, if_false, ite_true, ite_false, Bool.false_eq_true, reduceCtorEq, if_pos, Nat.reduceEqDiff, Nat.reduceLeDiff, decide_true, decide_false, Bool.not_true, Bool.not_false, mMatch, mCases, mpSeq, mpCons, mpNil, mpCap, mpWild, lit_str, z1, z2, z3, setAll, List.foldl_nil, List.foldl_cons, List.append_nil, Nat.reduceEqDiff]
                exact ⟨_, rfl⟩
        | [.str z, a, b], e, hl =>
          have hab : liv s a = true ∧ liv s b = true := by unfold livs at hl; unfold livs at hl; unfold livs at hl; simp only [Bool.and_eq_true] at hl; exact ⟨hl.2.1, hl.2.2.1⟩
          have e : (if z ∈ ops2 then match exprV names fu a (depth + 1) (n + 1) with
              | some (some m) => some (if tyI b 1 999 = true then some m else none)
              | x => x
            else if z ∈ ops3 then match exprV names fu a (depth + 1) (n + 1) with
              | some (some m) => exprV names fu b (depth + 1) m
              | x => x
            else some none) = some r := e
          by_cases z1 : z ∈ ops2
          · rw [if_pos z1] at e
            have z1' : z ∈ (["div", "mod"] : List Str) := z1
            simp only [mSeq, mExpr, mRet, mRetN, mIfS, mSet, mAug, mCall, mCons, mNil, mVar, mC, mOp, mUn, mApp, mTup, mLst, mNx, mRaise, mAnd, mOr, mNot, mIf, tstB, tstAnd, tstOr, tstNot, mChain, bind_ok, bind_err, bind_no, toS_ok, toS_err, nox_ok, fin_nx, fin_rt, fin_err, startL, List.map_cons, List.map_nil, List.length_cons, List.length_nil, List.cons_append, List.nil_append, List.getElem?_cons_zero, List.getElem?_cons_succ, List.set_cons_zero, List.set_cons_succ, List.replicate_succ, List.replicate_zero, Nat.zero_add, Nat.reduceAdd, Nat.reduceSub, Nat.add_one_sub_one, Nat.sub_self, if_true, if_false, ite_true, ite_false, Bool.false_eq_true, reduceCtorEq, if_pos, Nat.reduceEqDiff, Nat.reduceLeDiff, decide_true, decide_false, Bool.not_true, Bool.not_false, mMatch, mCases, mpSeq, mpCons, mpNil, mpCap, or_str, z1', setAll, List.foldl_nil, List.foldl_cons, List.append_nil, Nat.reduceEqDiff, mMethC, C.at_p, lk2, and_self, gAdd]
            cases q : exprV names fu a (depth + 1) (n + 1) with
            | none => rw [q] at e; cases e
            | some ra =>
              have IH := c_expression C fu k a (depth + 1) (n + 1) ra hab.1 q
              rw [q] at e
              cases ra with
              | none =>
                cases e
                obtain ⟨m, IH⟩ := IH
                simp only [mSeq, mExpr, mRet, mRetN, mIfS, mSet, mAug, mCall, mCons, mNil, mVar, mC, mOp, mUn, mApp, mTup, mLst, mNx, mRaise, mAnd, mOr, mNot, mIf, tstB, tstAnd, tstOr, tstNot, mChain, bind_ok, bind_err, bind_no, toS_ok, toS_err, nox_ok, fin_nx, fin_rt, fin_err, startL, List.map_cons, List.map_nil, List.length_cons, List.length_nil, List.cons_append, List.nil_append, List.getElem?_cons_zero, List.getElem?_cons_succ, List.set_cons_zero, List.set_cons_succ, List.replicate_succ, List.replicate_zero, Nat.zero_add, Nat.reduceAdd, Nat.reduceSub, Nat.add_one_sub_one, Nat.sub_self, if_true, if_false, ite_true, ite_false, Bool.false_eq_true, reduceCtorEq, if_pos, Nat.reduceEqDiff, Nat.reduceLeDiff, decide_true, decide_false, Bool.not_true, Bool.not_false, IH]
                exact ⟨m, rfl⟩
              | some m =>
                have e : some (if tyI b 1 999 = true then some m else none) = some r := e
                cases e
                have IH : call (k + fu + 2) .ProgramCheck_expression [.ref p, a, .int (depth + 1)] (stN s p f (n + 1)) = .ok .non (stN s p f m) := IH
                obtain ⟨ty, ea⟩ := liv_ty (liv_st (f := f) (m := m) C hab.2)
                simp only [mSeq, mExpr, mRet, mRetN, mIfS, mSet, mAug, mCall, mCons, mNil, mVar, mC, mOp, mUn, mApp, mTup, mLst, mNx, mRaise, mAnd, mOr, mNot, mIf, tstB, tstAnd, tstOr, tstNot, mChain, bind_ok, bind_err, bind_no, toS_ok, toS_err, nox_ok, fin_nx, fin_rt, fin_err, startL, List.map_cons, List.map_nil, List.length_cons, List.length_nil, List.cons_append, List.nil_append, List.getElem?_cons_zero, List.getElem?_cons_succ, List.set_cons_zero, List.set_cons_succ, List.replicate_succ, List.replicate_zero, Nat.zero_add, Nat.reduceAdd, Nat.reduceSub, Nat.add_one_sub_one, Nat.sub_self, if_true, if_false, ite_true, ite_false, Bool.false_eq_true, reduceCtorEq, if_pos, Nat.reduceEqDiff, Nat.reduceLeDiff, decide_true, decide_false, Bool.not_true, Bool.not_false, IH]
                rw [c_is_integer ea]
                simp only [mSeq, mExpr, mRet, mRetN, mIfS, mSet, mAug, mCall, mCons, mNil, mVar, mC, mOp, mUn, mApp, mTup, mLst, mNx, mRaise, mAnd, mOr, mNot, mIf, tstB, tstAnd, tstOr, tstNot, mChain, bind_ok, bind_err, bind_no, toS_ok, toS_err, nox_ok, fin_nx, fin_rt, fin_err, startL, List.map_cons, List.map_nil, List.length_cons, List.length_nil, List.cons_append, List.nil_append, List.getElem?_cons_zero, List.getElem?_cons_succ, List.set_cons_zero, List.set_cons_succ, List.replicate_succ, List.replicate_zero, Nat.zero_add, Nat.reduceAdd, Nat.reduceSub, Nat.add_one_sub_one, Nat.sub_self, if_true, if_false, ite_true, ite_false, Bool.false_eq_true, reduceCtorEq, if_pos, Nat.reduceEqDiff, Nat.reduceLeDiff, decide_true, decide_false, Bool.not_true, Bool.not_false]
                rw [show k + fu + 2 = (k + fu + 1) + 1 from rfl, c_require]
                cases tyI b 1 999 <;> simp only [mSeq, mExpr, mRet, mRetN, mIfS, mSet, mAug, mCall, mCons, mNil, mVar, mC, mOp, mUn, mApp, mTup, mLst, mNx, mRaise, mAnd, mOr, mNot, mIf, tstB, tstAnd, tstOr, tstNot, mChain, bind_ok, bind_err, bind_no, toS_ok, toS_err, nox_ok, fin_nx, fin_rt, fin_err, startL, List.map_cons, List.map_nil, List.length_cons, List.length_nil, List.cons_append, List.nil_append, List.getElem?_cons_zero, List.getElem?_cons_succ, List.set_cons_zero, List.set_cons_succ, List.replicate_succ, List.replicate_zero, Nat.zero_add, Nat.reduceAdd, Nat.reduceSub, Nat.add_one_sub_one, Nat.sub_self, if_true, if_false, ite_true, ite_false, Bool.false_eq_true, reduceCtorEq, if_pos, Nat.reduceEqDiff, Nat.reduceLeDiff, decide_true, decide_false, Bool.not_true, Bool.not_false]
                · exact ⟨_, rfl⟩
                · exact rfl
          · rw [if_neg z1] at e
            have z1' : ¬ z ∈ (["div", "mod"] : List Str) := z1
            by_cases z2 : z ∈ ops3
            · rw [if_pos z2] at e
              have z2' : z ∈ (["add", "sub", "mul", "min", "max", "less", "same", "both", "either"] : List Str) := z2
              simp only [mSeq, mExpr, mRet, mRetN, mIfS, mSet, mAug, mCall, mCons, mNil, mVar, mC, mOp, mUn, mApp, mTup, mLst, mNx, mRaise, mAnd, mOr, mNot, mIf, tstB, tstAnd, tstOr, tstNot, mChain, bind_ok, bind_err, bind_no, toS_ok, toS_err, nox_ok, fin_nx, fin_rt, fin_err, startL, List.map_cons, List.map_nil, List.length_cons, List.length_nil, List.cons_append, List.nil_append, List.getElem?_cons_zero, List.getElem?_cons_succ, List.set_cons_zero, List.set_cons_succ, List.replicate_succ, List.replicate_zero, Nat.zero_add, Nat.reduceAdd, Nat.reduceSub, Nat.add_one_sub_one, Nat.sub_self, if_true, if_false, ite_true, ite_false, Bool.false_eq_true, reduceCtorEq, if_pos, Nat.reduceEqDiff, Nat.reduceLeDiff, decide_true, decide_false, Bool.not_true, Bool.not_false, mMatch, mCases, mpSeq, mpCons, mpNil, mpCap, or_str, z1', z2', setAll, List.foldl_nil, List.foldl_cons, List.append_nil, Nat.reduceEqDiff, mMethC, C.at_p, lk2, and_self, gAdd]
              cases q : exprV names fu a (depth + 1) (n + 1) with
              | none => rw [q] at e; cases e
              | some ra =>
                have IH := c_expression C fu k a (depth + 1) (n + 1) ra hab.1 q
                rw [q] at e
                cases ra with
                | none =>
                  cases e
                  obtain ⟨m, IH⟩ := IH
                  simp only [mSeq, mExpr, mRet, mRetN, mIfS, mSet, mAug, mCall, mCons, mNil, mVar, mC, mOp, mUn, mApp, mTup, mLst, mNx, mRaise, mAnd, mOr, mNot, mIf, tstB, tstAnd, tstOr, tstNot, mChain, bind_ok, bind_err, bind_no, toS_ok, toS_err, nox_ok, fin_nx, fin_rt, fin_err, startL, List.map_cons, List.map_nil, List.length_cons, List.length_nil, List.cons_append, List.nil_append, List.getElem?_cons_zero, List.getElem?_cons_succ, List.set_cons_zero, List.set_cons_succ, List.replicate_succ, List.replicate_zero, Nat.zero_add, Nat.reduceAdd, Nat.reduceSub, Nat.add_one_sub_one, Nat.sub_self, if_true, if_false, ite_true, ite_false, Bool.false_eq_true, reduceCtorEq, if_pos, Nat.reduceEqDiff, Nat.reduceLeDiff, decide_true, decide_false, Bool.not_true, Bool.not_false, IH]
                  exact ⟨m, rfl⟩
                | some m =>
                  have IH : call (k + fu + 2) .ProgramCheck_expression [.ref p, a, .int (depth + 1)] (stN s p f (n + 1)) = .ok .non (stN s p f m) := IH
                  have IH2 := c_expression C fu k b (depth + 1) m r hab.2 e
                  simp only [mSeq, mExpr, mRet, mRetN, mIfS, mSet, mAug, mCall, mCons, mNil, mVar, mC, mOp, mUn, mApp, mTup, mLst, mNx, mRaise, mAnd, mOr, mNot, mIf, tstB, tstAnd, tstOr, tstNot, mChain, bind_ok, bind_err, bind_no, toS_ok, toS_err, nox_ok, fin_nx, fin_rt, fin_err, startL, List.map_cons, List.map_nil, List.length_cons, List.length_nil, List.cons_append, List.nil_append, List.getElem?_cons_zero, List.getElem?_cons_succ, List.set_cons_zero, List.set_cons_succ, List.replicate_succ, List.replicate_zero, Nat.zero_add, Nat.reduceAdd, Nat.reduceSub, Nat.add_one_sub_one, Nat.sub_self, if_true, if_false, ite_true, ite_false, Bool.false_eq_true, reduceCtorEq, if_pos, Nat.reduceEqDiff, Nat.reduceLeDiff, decide_true, decide_false, Bool.not_true, Bool.not_false, IH, mMethC, C.at_p, lk2, and_self, gAdd]
                  cases r with
                  | some m2 =>
                    have IH2 : call (k + fu + 2) .ProgramCheck_expression [.ref p, b, .int (depth + 1)] (stN s p f m) = .ok .non (stN s p f m2) := IH2
                    simp only [mSeq, mExpr, mRet, mRetN, mIfS, mSet, mAug, mCall, mCons, mNil, mVar, mC, mOp, mUn, mApp, mTup, mLst, mNx, mRaise, mAnd, mOr, mNot, mIf, tstB, tstAnd, tstOr, tstNot, mChain, bind_ok, bind_err, bind_no, toS_ok, toS_err, nox_ok, fin_nx, fin_rt, fin_err, startL, List.map_cons, List.map_nil, List.length_cons, List.length_nil, List.cons_append, List.nil_append, List.getElem?_cons_zero, List.getElem?_cons_succ, List.set_cons_zero, List.set_cons_succ, List.replicate_succ, List.replicate_zero, Nat.zero_add, Nat.reduceAdd, Nat.reduceSub, Nat.add_one_sub_one, Nat.sub_self, if_true, if_false, ite_true, ite_false, Bool.false_eq_true, reduceCtorEq, if_pos, Nat.reduceEqDiff, Nat.reduceLeDiff, decide_true, decide_false, Bool.not_true, Bool.not_false, IH2]
                    exact rfl
                  | none =>
                    obtain ⟨m2, IH2⟩ := IH2
                    simp only [mSeq, mExpr, mRet, mRetN, mIfS, mSet, mAug, mCall, mCons, mNil, mVar, mC, mOp, mUn, mApp, mTup, mLst, mNx, mRaise, mAnd, mOr, mNot, mIf, tstB, tstAnd, tstOr, tstNot, mChain, bind_ok, bind_err, bind_no, toS_ok, toS_err, nox_ok, fin_nx, fin_rt, fin_err, startL, List.map_cons, List.map_nil, List.length_cons, List.length_nil, List.cons_append, List.nil_append, List.getElem?_cons_zero, List.getElem?_cons_succ, List.set_cons_zero, List.set_cons_succ, List.replicate_succ, List.replicate_zero, Nat.zero_add, Nat.reduceAdd, Nat.reduceSub, Nat.add_one_sub_one, Nat.sub_self, if_true, if_false, ite_true, ite_false, Bool.false_eq_true, reduceCtorEq, if_pos, Nat.reduceEqDiff, Nat.reduceLeDiff, decide_true, decide_false, Bool.not_true, Bool.not_false, IH2]
                    exact ⟨m2, rfl⟩
            · rw [if_neg z2] at e
              cases e
              have z2' : ¬ z ∈ (["add", "sub", "mul", "min", "max", "less", "same", "both", "either"] : List Str) := z2
              simp only [mSeq, mExpr, mRet, mRetN, mIfS, mSet, mAug, mCall, mCons, mNil, mVar, mC, mOp, mUn, mApp, mTup, mLst, mNx, mRaise, mAnd, mOr, mNot, mIf, tstB, tstAnd, tstOr, tstNot, mChain, bind_ok, bind_err, bind_no, toS_ok, toS_err, nox_ok, fin_nx, fin_rt, fin_err, startL, List.map_cons, List.map_nil, List.length_cons, List.length_nil, List.cons_append, List.nil_append, List.getElem?_cons_zero, List.getElem?_cons_succ, List.set_cons_zero, List.set_cons_succ, List.replicate_succ, List.replicate_zero, Nat.zero_add, Nat.reduceAdd, Nat.reduceSub, Nat.add_one_sub_one, Nat.sub_self, if_true, if_false, ite_true, ite_false, Bool.false_eq_true, reduceCtorEq, if_pos, Nat.reduceEqDiff, Nat.reduceLeDiff, decide_true, decide_false, Bool.not_true, Bool.not_false, mMatch, mCases, mpSeq, mpCons, mpNil, mpCap, mpWild, or_str, z1', z2', setAll, List.foldl_nil, List.append_nil, Nat.reduceEqDiff]
              exact ⟨_, rfl⟩
        | x1 :: x2 :: x3 :: x4 :: xr, e, hl =>
          have e : some none = some r := by cases x1 <;> exact e
          cases e
          have q1 : (xr.length + 1 + 1 + 1 + 1 = 1) = False := eq_false (by omega)
          have q2 : (xr.length + 1 + 1 + 1 + 1 = 2) = False := eq_false (by omega)
          have q3 : (xr.length + 1 + 1 + 1 + 1 = 3) = False := eq_false (by omega)
          simp only [mSeq, mExpr, mRet, mRetN, mIfS, mSet, mAug, mCall, mCons, mNil, mVar, mC, mOp, mUn, mApp, mTup, mLst, mNx, mRaise, mAnd, mOr, mNot, mIf, tstB, tstAnd, tstOr, tstNot, mChain, bind_ok, bind_err, bind_no, toS_ok, toS_err, nox_ok, fin_nx, fin_rt, fin_err, startL, List.map_cons, List.map_nil, List.length_cons, List.length_nil, List.cons_append, List.nil_append, List.getElem?_cons_zero, List.getElem?_cons_succ, List.set_cons_zero, List.set_cons_succ, List.replicate_succ, List.replicate_zero, Nat.zero_add, Nat.reduceAdd, Nat.reduceSub, Nat.add_one_sub_one, Nat.sub_self, if_true, if_false, ite_true, ite_false, Bool.false_eq_true, reduceCtorEq, if_pos, Nat.reduceEqDiff, Nat.reduceLeDiff, decide_true, decide_false, Bool.not_true, Bool.not_false, mMatch, mCases, mpSeq, mpWild, setAll, List.foldl_nil, q1, q2, q3]
          exact ⟨_, rfl⟩
        | [.non], e, hl => cases e
        | [.bl _], e, hl => cases e
        | [.int _], e, hl => cases e
        | [.tup _], e, hl => cases e
        | [.ref _], e, hl => cases e
        | [.non, _], e, hl => cases e
        | [.bl _, _], e, hl => cases e
        | [.int _, _], e, hl => cases e
        | [.tup _, _], e, hl => cases e
        | [.ref _, _], e, hl => cases e
        | [.non, _, _], e, hl => cases e
        | [.bl _, _, _], e, hl => cases e
        | [.int _, _, _], e, hl => cases e
        | [.tup _, _, _], e, hl => cases e
        | [.ref _, _, _], e, hl => cases e
      | _ =>
        cases e
        simp only [mSeq, mExpr, mRet, mRetN, mIfS, mSet, mAug, mCall, mCons, mNil, mVar, mC, mOp, mUn, mApp, mTup, mLst, mNx, mRaise, mAnd, mOr, mNot, mIf, tstB, tstAnd, tstOr, tstNot, mChain, bind_ok, bind_err, bind_no, toS_ok, toS_err, nox_ok, fin_nx, fin_rt, fin_err, startL, List.map_cons, List.map_nil, List.length_cons, List.length_nil, List.cons_append, List.nil_append, List.getElem?_cons_zero, List.getElem?_cons_succ, List.set_cons_zero, List.set_cons_succ, List.replicate_succ, List.replicate_zero, Nat.zero_add, Nat.reduceAdd, Nat.reduceSub, Nat.add_one_sub_one, Nat.sub_self, if_true, if_false, ite_true, ite_false, Bool.false_eq_true, reduceCtorEq, if_pos, Nat.reduceEqDiff, Nat.reduceLeDiff, decide_true, decide_false, Bool.not_true, Bool.not_false, lk, isTup, and_false]
        exact ⟨_, rfl⟩
    · rw [if_neg h1] at e
      cases e
      simp only [mSeq, mExpr, mRet, mRetN, mIfS, mSet, mAug, mCall, mCons, mNil, mVar, mC, mOp, mUn, mApp, mTup, mLst, mNx, mRaise, mAnd, mOr, mNot, mIf, tstB, tstAnd, tstOr, tstNot, mChain, bind_ok, bind_err, bind_no, toS_ok, toS_err, nox_ok, fin_nx, fin_rt, fin_err, startL, List.map_cons, List.map_nil, List.length_cons, List.length_nil, List.cons_append, List.nil_append, List.getElem?_cons_zero, List.getElem?_cons_succ, List.set_cons_zero, List.set_cons_succ, List.replicate_succ, List.replicate_zero, Nat.zero_add, Nat.reduceAdd, Nat.reduceSub, Nat.add_one_sub_one, Nat.sub_self, if_true, if_false, ite_true, ite_false, Bool.false_eq_true, reduceCtorEq, if_pos, Nat.reduceEqDiff, Nat.reduceLeDiff, decide_true, decide_false, Bool.not_true, Bool.not_false, lk, h1, false_and]
      exact ⟨_, rfl⟩
end
end Pr

set_option Elab.async false
set_option linter.all false
set_option maxRecDepth 100000
set_option maxHeartbeats 4000000
/-! what the checks of statements and programs do -/
namespace Pr
open PySem PySem.Spec PyProof.Rows L2 Core
abbrev Told := Option (Option (Int × Int))
def stmtsV (st : D → Int → Told) : List D → Int → Int → Told
  | [], n, acc => some (some (n, acc))
  | d :: r, n, acc => match st d n with
    | some (some (m, k)) => stmtsV st r m (acc + k)
    | some none => some none
    | none => none
def progV (st : D → Int → Told) (d : D) (n : Int) : Told := match d with
  | .tup (x :: xs) => stmtsV st (x :: xs) n 0
  | _ => some none
def andE (x : Option (Option Int)) (f : Int → Told) : Told := match x with
  | some (some m) => f m
  | some none => some none
  | none => none
def andP (x : Told) (f : Int → Int → Told) : Told := match x with
  | some (some (m, k)) => f m k
  | some none => some none
  | none => none
def stmtV (names : List Str) : Nat → D → Int → Int → Told
  | 0, _, _, _ => none
  | fu + 1, d, depth, n => if n + 1 ≤ 80 ∧ depth ≤ 8 then match d with
      | .tup [] => some none
      | .tup [.str h] => some (if h = "skip" then some (n + 1, 0) else none)
      | .tup [_, _] => some none
      | .tup [.str h, x, e] => if h = "set" then match inN names x with
          | some true => andE (exprV names fu e (depth + 1) (n + 1)) fun m => some (some (m, 0))
          | some false => some none
          | none => none
        else some none
      | .tup [.str h, e, a, b] => if h = "if" then andE (exprV names fu e (depth + 1) (n + 1)) fun m =>
          andP (progV (fun d n => stmtV names fu d (depth + 1) n) a m) fun m1 x => andP (progV (fun d n => stmtV names fu d (depth + 1) n) b m1) fun m2 y => some (some (m2, if y > x then y else x))
        else some none
      | .tup [.str h, t, dl, nm, ar] => if h = "send" then if nameB nm = true then andE (exprV names fu t (depth + 1) (n + 1)) fun m1 => andE (exprV names fu dl (depth + 1) m1) fun m2 => andE (exprV names fu ar (depth + 1) m2) fun m3 => some (some (m3, 1))
        else some none else some none
      | .tup (_ :: _ :: _ :: _ :: _ :: _ :: _) => some none
      | .tup _ => none
      | _ => some none
    else some none
section
variable {s : Mem} {p f : Nat} {names : List Str}
def OutP (s : Mem) (p f : Nat) (r : Option (Int × Int)) (res : Core.R D) : Prop := match r with
  | some (m, k) => res = .ok (.int k) (stN s p f m)
  | none => ∃ m, res = .err "BadModel" (stN s p f m)
def OutL (s : Mem) (p f : Nat) (v : D) (depth : Int) (r : Option (Int × Int)) (res : Core.RS) : Prop := match r with
  | some (m, k) => ∃ o, res = .nx [some (.ref p), some v, some (.int depth), some (.int k), o] (stN s p f m)
  | none => ∃ m l, res = .err "BadModel" l (stN s p f m)
def StOk (s : Mem) (p f K : Nat) (depth : Int) (st : D → Int → Told) : Prop := ∀ d n r, liv s d = true → st d n = some r → OutP s p f r (call K .ProgramCheck_statement [.ref p, d, .int depth] (stN s p f n))
theorem c_stmts (C : Chk s p f names) {K : Nat} {depth : Int} {st : D → Int → Told} (hst : StOk s p f K depth st) {v : D} : ∀ (ds : List D) (n acc : Int) (r : Option (Int × Int)) (o : Option D), (∀ d ∈ ds, liv s d = true) → stmtsV st ds n acc = some r →
    OutL s p f v depth r (loopS (fun _ => true) (gmName 4) (mAug 3 (gI2 fun i j => .int (i + j)) (mMethC "ProgramCheck" "statement" 3 (call K .ProgramCheck_statement) (mVar 0) (mCons (mVar 4) (mCons (mVar 2) mNil)))) ds [some (.ref p), some v, some (.int depth), some (.int acc), o] (stN s p f n))
  | [], n, acc, r, o, hl, e => by
    unfold stmtsV at e
    cases e
    unfold loopS
    simp only [mSeq, mExpr, mRet, mRetN, mIfS, mSet, mAug, mCall, mCons, mNil, mVar, mC, mOp, mUn, mApp, mTup, mLst, mNx, mRaise, mAnd, mOr, mNot, mIf, tstB, tstAnd, tstOr, tstNot, mChain, bind_ok, bind_err, bind_no, toS_ok, toS_err, nox_ok, fin_nx, fin_rt, fin_err, startL, List.map_cons, List.map_nil, List.length_cons, List.length_nil, List.cons_append, List.nil_append, List.getElem?_cons_zero, List.getElem?_cons_succ, List.set_cons_zero, List.set_cons_succ, List.replicate_succ, List.replicate_zero, Nat.zero_add, Nat.reduceAdd, Nat.reduceSub, Nat.add_one_sub_one, Nat.sub_self, if_true, if_false, ite_true, ite_false, Bool.false_eq_true, reduceCtorEq, if_pos, Nat.reduceEqDiff, Nat.reduceLeDiff, decide_true, decide_false, Bool.not_true, Bool.not_false]
    exact ⟨o, rfl⟩
  | d :: ds, n, acc, r, o, hl, e => by
    have lk : ([(("fields" : Str), D.ref f), (("nodes" : Str), D.int n)] : List (Str × D)).lookup ("statement" : Str) = none := rfl
    unfold stmtsV at e
    unfold loopS
    simp only [mSeq, mExpr, mRet, mRetN, mIfS, mSet, mAug, mCall, mCons, mNil, mVar, mC, mOp, mUn, mApp, mTup, mLst, mNx, mRaise, mAnd, mOr, mNot, mIf, tstB, tstAnd, tstOr, tstNot, mChain, bind_ok, bind_err, bind_no, toS_ok, toS_err, nox_ok, fin_nx, fin_rt, fin_err, startL, List.map_cons, List.map_nil, List.length_cons, List.length_nil, List.cons_append, List.nil_append, List.getElem?_cons_zero, List.getElem?_cons_succ, List.set_cons_zero, List.set_cons_succ, List.replicate_succ, List.replicate_zero, Nat.zero_add, Nat.reduceAdd, Nat.reduceSub, Nat.add_one_sub_one, Nat.sub_self, if_true, if_false, ite_true, ite_false, Bool.false_eq_true, reduceCtorEq, if_pos, Nat.reduceEqDiff, Nat.reduceLeDiff, decide_true, decide_false, Bool.not_true, Bool.not_false, gmName, mMethC, C.at_p, lk, and_self]
    cases q : st d n with
    | none => rw [q] at e; cases e
    | some rd =>
      have h1 := hst d n rd (hl d List.mem_cons_self) q
      rw [q] at e
      cases rd with
      | none =>
        cases e
        obtain ⟨m, h1⟩ := h1
        simp only [mSeq, mExpr, mRet, mRetN, mIfS, mSet, mAug, mCall, mCons, mNil, mVar, mC, mOp, mUn, mApp, mTup, mLst, mNx, mRaise, mAnd, mOr, mNot, mIf, tstB, tstAnd, tstOr, tstNot, mChain, bind_ok, bind_err, bind_no, toS_ok, toS_err, nox_ok, fin_nx, fin_rt, fin_err, startL, List.map_cons, List.map_nil, List.length_cons, List.length_nil, List.cons_append, List.nil_append, List.getElem?_cons_zero, List.getElem?_cons_succ, List.set_cons_zero, List.set_cons_succ, List.replicate_succ, List.replicate_zero, Nat.zero_add, Nat.reduceAdd, Nat.reduceSub, Nat.add_one_sub_one, Nat.sub_self, if_true, if_false, ite_true, ite_false, Bool.false_eq_true, reduceCtorEq, if_pos, Nat.reduceEqDiff, Nat.reduceLeDiff, decide_true, decide_false, Bool.not_true, Bool.not_false, h1]
        exact ⟨m, _, rfl⟩
      | some mk =>
        obtain ⟨m, kk⟩ := mk
        have h1 : call K .ProgramCheck_statement [.ref p, d, .int depth] (stN s p f n) = .ok (.int kk) (stN s p f m) := h1
        simp only [mSeq, mExpr, mRet, mRetN, mIfS, mSet, mAug, mCall, mCons, mNil, mVar, mC, mOp, mUn, mApp, mTup, mLst, mNx, mRaise, mAnd, mOr, mNot, mIf, tstB, tstAnd, tstOr, tstNot, mChain, bind_ok, bind_err, bind_no, toS_ok, toS_err, nox_ok, fin_nx, fin_rt, fin_err, startL, List.map_cons, List.map_nil, List.length_cons, List.length_nil, List.cons_append, List.nil_append, List.getElem?_cons_zero, List.getElem?_cons_succ, List.set_cons_zero, List.set_cons_succ, List.replicate_succ, List.replicate_zero, Nat.zero_add, Nat.reduceAdd, Nat.reduceSub, Nat.add_one_sub_one, Nat.sub_self, if_true, if_false, ite_true, ite_false, Bool.false_eq_true, reduceCtorEq, if_pos, Nat.reduceEqDiff, Nat.reduceLeDiff, decide_true, decide_false, Bool.not_true, Bool.not_false, h1, gI2]
        exact c_stmts C hst ds m (acc + kk) r (some d) (fun x hx => hl x (List.mem_cons_of_mem _ hx)) e
theorem c_prog (C : Chk s p f names) {K : Nat} {depth : Int} {st : D → Int → Told} (hst : StOk s p f (K + 1) depth st) {d : D} {n : Int} {r : Option (Int × Int)} (h : liv s d = true) (e : progV st d n = some r) :
    OutP s p f r (call (K + 2) .ProgramCheck_program [.ref p, d, .int depth] (stN s p f n)) := by
  show OutP s p f r (defM 3 5 (m_ProgramCheck_program (call (K + 1))) [.ref p, d, .int depth] (stN s p f n))
  obtain ⟨a, ea⟩ := liv_ty (liv_st (f := f) (m := n) C h)
  unfold defM m_ProgramCheck_program
  simp only [mSeq, mExpr, mRet, mRetN, mIfS, mSet, mAug, mCall, mCons, mNil, mVar, mC, mOp, mUn, mApp, mTup, mLst, mNx, mRaise, mAnd, mOr, mNot, mIf, tstB, tstAnd, tstOr, tstNot, mChain, bind_ok, bind_err, bind_no, toS_ok, toS_err, nox_ok, fin_nx, fin_rt, fin_err, startL, List.map_cons, List.map_nil, List.length_cons, List.length_nil, List.cons_append, List.nil_append, List.getElem?_cons_zero, List.getElem?_cons_succ, List.set_cons_zero, List.set_cons_succ, List.replicate_succ, List.replicate_zero, Nat.zero_add, Nat.reduceAdd, Nat.reduceSub, Nat.add_one_sub_one, Nat.sub_self, if_true, if_false, ite_true, ite_false, Bool.false_eq_true, reduceCtorEq, if_pos, Nat.reduceEqDiff, Nat.reduceLeDiff, decide_true, decide_false, Bool.not_true, Bool.not_false, gIsT_at ea, isTup_is ea]
  cases d with
  | tup xs =>
    cases xs with
    | nil =>
      cases e
      simp only [mSeq, mExpr, mRet, mRetN, mIfS, mSet, mAug, mCall, mCons, mNil, mVar, mC, mOp, mUn, mApp, mTup, mLst, mNx, mRaise, mAnd, mOr, mNot, mIf, tstB, tstAnd, tstOr, tstNot, mChain, bind_ok, bind_err, bind_no, toS_ok, toS_err, nox_ok, fin_nx, fin_rt, fin_err, startL, List.map_cons, List.map_nil, List.length_cons, List.length_nil, List.cons_append, List.nil_append, List.getElem?_cons_zero, List.getElem?_cons_succ, List.set_cons_zero, List.set_cons_succ, List.replicate_succ, List.replicate_zero, Nat.zero_add, Nat.reduceAdd, Nat.reduceSub, Nat.add_one_sub_one, Nat.sub_self, if_true, if_false, ite_true, ite_false, Bool.false_eq_true, reduceCtorEq, if_pos, Nat.reduceEqDiff, Nat.reduceLeDiff, decide_true, decide_false, Bool.not_true, Bool.not_false, isTup, gLen, seqD, gOrd, c_require, show decide ((0 : Int) < ((0 : Nat) : Int)) = false from by decide]
      exact ⟨_, rfl⟩
    | cons x xs =>
      have hl : livs s (x :: xs) = true := h
      have e0 : decide ((0 : Int) < ((xs.length + 1 : Nat) : Int)) = true := decide_eq_true (by omega)
      simp only [mSeq, mExpr, mRet, mRetN, mIfS, mSet, mAug, mCall, mCons, mNil, mVar, mC, mOp, mUn, mApp, mTup, mLst, mNx, mRaise, mAnd, mOr, mNot, mIf, tstB, tstAnd, tstOr, tstNot, mChain, bind_ok, bind_err, bind_no, toS_ok, toS_err, nox_ok, fin_nx, fin_rt, fin_err, startL, List.map_cons, List.map_nil, List.length_cons, List.length_nil, List.cons_append, List.nil_append, List.getElem?_cons_zero, List.getElem?_cons_succ, List.set_cons_zero, List.set_cons_succ, List.replicate_succ, List.replicate_zero, Nat.zero_add, Nat.reduceAdd, Nat.reduceSub, Nat.add_one_sub_one, Nat.sub_self, if_true, if_false, ite_true, ite_false, Bool.false_eq_true, reduceCtorEq, if_pos, Nat.reduceEqDiff, Nat.reduceLeDiff, decide_true, decide_false, Bool.not_true, Bool.not_false, isTup, gLen, seqD, gOrd, e0, c_require, mFor, iSeq]
      have key := c_stmts C hst (v := .tup (x :: xs)) (x :: xs) n 0 r none (livs_mem hl) e
      cases r with
      | none => obtain ⟨m, l, key⟩ := key; simp only [mSeq, mExpr, mRet, mRetN, mIfS, mSet, mAug, mCall, mCons, mNil, mVar, mC, mOp, mUn, mApp, mTup, mLst, mNx, mRaise, mAnd, mOr, mNot, mIf, tstB, tstAnd, tstOr, tstNot, mChain, bind_ok, bind_err, bind_no, toS_ok, toS_err, nox_ok, fin_nx, fin_rt, fin_err, startL, List.map_cons, List.map_nil, List.length_cons, List.length_nil, List.cons_append, List.nil_append, List.getElem?_cons_zero, List.getElem?_cons_succ, List.set_cons_zero, List.set_cons_succ, List.replicate_succ, List.replicate_zero, Nat.zero_add, Nat.reduceAdd, Nat.reduceSub, Nat.add_one_sub_one, Nat.sub_self, if_true, if_false, ite_true, ite_false, Bool.false_eq_true, reduceCtorEq, if_pos, Nat.reduceEqDiff, Nat.reduceLeDiff, decide_true, decide_false, Bool.not_true, Bool.not_false, key]; exact ⟨m, rfl⟩
      | some mk => obtain ⟨m, kk⟩ := mk; obtain ⟨o, key⟩ := key; simp only [mSeq, mExpr, mRet, mRetN, mIfS, mSet, mAug, mCall, mCons, mNil, mVar, mC, mOp, mUn, mApp, mTup, mLst, mNx, mRaise, mAnd, mOr, mNot, mIf, tstB, tstAnd, tstOr, tstNot, mChain, bind_ok, bind_err, bind_no, toS_ok, toS_err, nox_ok, fin_nx, fin_rt, fin_err, startL, List.map_cons, List.map_nil, List.length_cons, List.length_nil, List.cons_append, List.nil_append, List.getElem?_cons_zero, List.getElem?_cons_succ, List.set_cons_zero, List.set_cons_succ, List.replicate_succ, List.replicate_zero, Nat.zero_add, Nat.reduceAdd, Nat.reduceSub, Nat.add_one_sub_one, Nat.sub_self, if_true, if_false, ite_true, ite_false, Bool.false_eq_true, reduceCtorEq, if_pos, Nat.reduceEqDiff, Nat.reduceLeDiff, decide_true, decide_false, Bool.not_true, Bool.not_false, key]; exact rfl
  | _ =>
    cases e
    simp only [mSeq, mExpr, mRet, mRetN, mIfS, mSet, mAug, mCall, mCons, mNil, mVar, mC, mOp, mUn, mApp, mTup, mLst, mNx, mRaise, mAnd, mOr, mNot, mIf, tstB, tstAnd, tstOr, tstNot, mChain, bind_ok, bind_err, bind_no, toS_ok, toS_err, nox_ok, fin_nx, fin_rt, fin_err, startL, List.map_cons, List.map_nil, List.length_cons, List.length_nil, List.cons_append, List.nil_append, List.getElem?_cons_zero, List.getElem?_cons_succ, List.set_cons_zero, List.set_cons_succ, List.replicate_succ, List.replicate_zero, Nat.zero_add, Nat.reduceAdd, Nat.reduceSub, Nat.add_one_sub_one, Nat.sub_self, if_true, if_false, ite_true, ite_false, Bool.false_eq_true, reduceCtorEq, if_pos, Nat.reduceEqDiff, Nat.reduceLeDiff, decide_true, decide_false, Bool.not_true, Bool.not_false, isTup, c_require]
    exact ⟨_, rfl⟩
/-- a call of the expression's check, its end told -/
theorem e_call (C : Chk s p f names) {fu k : Nat} {d : D} {depth n : Int} {x : Option Int} (h : liv s d = true) (q : exprV names fu d depth n = some x) {K : Nat} (hK : K = k + fu + 2) :
    Out s p f x .non (call K .ProgramCheck_expression [.ref p, d, .int depth] (stN s p f n)) := by
  subst hK; exact c_expression C fu k d depth n x h q
theorem lkx (m : Int) : ([(("fields" : Str), D.ref f), (("nodes" : Str), D.int m)] : List (Str × D)).lookup ("expression" : Str) = none := rfl
theorem lkp (m : Int) : ([(("fields" : Str), D.ref f), (("nodes" : Str), D.int m)] : List (Str × D)).lookup ("program" : Str) = none := rfl
theorem lke (m : Int) : ([(("fields" : Str), D.ref f), (("nodes" : Str), D.int m)] : List (Str × D)).lookup ("enter" : Str) = none := rfl
theorem c_statement (C : Chk s p f names) : ∀ (fu k : Nat) (d : D) (depth n : Int) (r : Option (Int × Int)), liv s d = true → stmtV names fu d depth n = some r → OutP s p f r (call (k + 2 * fu + 2) .ProgramCheck_statement [.ref p, d, .int depth] (stN s p f n))
  | 0, k, d, depth, n, r, h, e => by simp [stmtV] at e
  | fu + 1, k, d, depth, n, r, h, e => by
    show OutP s p f r (defM 3 10 (m_ProgramCheck_statement (call (k + 2 * fu + 3))) [.ref p, d, .int depth] (stN s p f n))
    have en : call (k + 2 * fu + 3) .ProgramCheck_enter [.ref p, d, .int depth] (stN s p f n) = _ := c_enter (k := k + 2 * fu + 1) C h depth
    unfold stmtV at e
    unfold defM m_ProgramCheck_statement
    simp only [mSeq, mExpr, mRet, mRetN, mIfS, mSet, mAug, mCall, mCons, mNil, mVar, mC, mOp, mUn, mApp, mTup, mLst, mNx, mRaise, mAnd, mOr, mNot, mIf, tstB, tstAnd, tstOr, tstNot, mChain, bind_ok, bind_err, bind_no, toS_ok, toS_err, nox_ok, fin_nx, fin_rt, fin_err, startL, List.map_cons, List.map_nil, List.length_cons, List.length_nil, List.cons_append, List.nil_append, List.getElem?_cons_zero, List.getElem?_cons_succ, List.set_cons_zero, List.set_cons_succ, List.replicate_succ, List.replicate_zero, Nat.zero_add, Nat.reduceAdd, Nat.reduceSub, Nat.add_one_sub_one, Nat.sub_self, if_true, if_false, ite_true, ite_false, Bool.false_eq_true, reduceCtorEq, if_pos, Nat.reduceEqDiff, Nat.reduceLeDiff, decide_true, decide_false, Bool.not_true, Bool.not_false, mMethC, C.at_p, and_self, en]
    by_cases h1 : n + 1 ≤ 80 ∧ depth ≤ 8
    · rw [if_pos h1] at e
      cases d with
      | tup xs =>
        have hl : livs s xs = true := h
        simp only [mSeq, mExpr, mRet, mRetN, mIfS, mSet, mAug, mCall, mCons, mNil, mVar, mC, mOp, mUn, mApp, mTup, mLst, mNx, mRaise, mAnd, mOr, mNot, mIf, tstB, tstAnd, tstOr, tstNot, mChain, bind_ok, bind_err, bind_no, toS_ok, toS_err, nox_ok, fin_nx, fin_rt, fin_err, startL, List.map_cons, List.map_nil, List.length_cons, List.length_nil, List.cons_append, List.nil_append, List.getElem?_cons_zero, List.getElem?_cons_succ, List.set_cons_zero, List.set_cons_succ, List.replicate_succ, List.replicate_zero, Nat.zero_add, Nat.reduceAdd, Nat.reduceSub, Nat.add_one_sub_one, Nat.sub_self, if_true, if_false, ite_true, ite_false, Bool.false_eq_true, reduceCtorEq, if_pos, Nat.reduceEqDiff, Nat.reduceLeDiff, decide_true, decide_false, Bool.not_true, Bool.not_false, lke, h1, isTup, and_self, true_and]
        match xs, e, hl with
        | [], e, hl =>
          cases e
          simp only [mSeq, mExpr, mRet, mRetN, mIfS, mSet, mAug, mCall, mCons, mNil, mVar, mC, mOp, mUn, mApp, mTup, mLst, mNx, mRaise, mAnd, mOr, mNot, mIf, tstB, tstAnd, tstOr, tstNot, mChain, bind_ok, bind_err, bind_no, toS_ok, toS_err, nox_ok, fin_nx, fin_rt, fin_err, startL, List.map_cons, List.map_nil, List.length_cons, List.length_nil, List.cons_append, List.nil_append, List.getElem?_cons_zero, List.getElem?_cons_succ, List.set_cons_zero, List.set_cons_succ, List.replicate_succ, List.replicate_zero, Nat.zero_add, Nat.reduceAdd, Nat.reduceSub, Nat.add_one_sub_one, Nat.sub_self, if_true, if_false, ite_true, ite_false, Bool.false_eq_true, reduceCtorEq, if_pos, Nat.reduceEqDiff, Nat.reduceLeDiff, decide_true, decide_false, Bool.not_true, Bool.not_false, mMatch, mCases, mpSeq, mpWild, setAll, List.foldl_nil, Nat.reduceEqDiff]
          exact ⟨_, rfl⟩
        | [x1, x2], e, hl =>
          have e : some none = some r := by cases x1 <;> exact e
          cases e
          simp only [mSeq, mExpr, mRet, mRetN, mIfS, mSet, mAug, mCall, mCons, mNil, mVar, mC, mOp, mUn, mApp, mTup, mLst, mNx, mRaise, mAnd, mOr, mNot, mIf, tstB, tstAnd, tstOr, tstNot, mChain, bind_ok, bind_err, bind_no, toS_ok, toS_err, nox_ok, fin_nx, fin_rt, fin_err, startL, List.map_cons, List.map_nil, List.length_cons, List.length_nil, List.cons_append, List.nil_append, List.getElem?_cons_zero, List.getElem?_cons_succ, List.set_cons_zero, List.set_cons_succ, List.replicate_succ, List.replicate_zero, Nat.zero_add, Nat.reduceAdd, Nat.reduceSub, Nat.add_one_sub_one, Nat.sub_self, if_true, if_false, ite_true, ite_false, Bool.false_eq_true, reduceCtorEq, if_pos, Nat.reduceEqDiff, Nat.reduceLeDiff, decide_true, decide_false, Bool.not_true, Bool.not_false, mMatch, mCases, mpSeq, mpWild, setAll, List.foldl_nil, Nat.reduceEqDiff]
          exact ⟨_, rfl⟩
        | x1 :: x2 :: x3 :: x4 :: x5 :: x6 :: xr, e, hl =>
          have e : some none = some r := by cases x1 <;> exact e
          cases e
          have q1 : (xr.length + 1 + 1 + 1 + 1 + 1 + 1 = 1) = False := eq_false (by omega)
          have q3 : (xr.length + 1 + 1 + 1 + 1 + 1 + 1 = 3) = False := eq_false (by omega)
          have q4 : (xr.length + 1 + 1 + 1 + 1 + 1 + 1 = 4) = False := eq_false (by omega)
          have q5 : (xr.length + 1 + 1 + 1 + 1 + 1 + 1 = 5) = False := eq_false (by omega)
          simp only [mSeq, mExpr, mRet, mRetN, mIfS, mSet, mAug, mCall, mCons, mNil, mVar, mC, mOp, mUn, mApp, mTup, mLst, mNx, mRaise, mAnd, mOr, mNot, mIf, tstB, tstAnd, tstOr, tstNot, mChain, bind_ok, bind_err, bind_no, toS_ok, toS_err, nox_ok, fin_nx, fin_rt, fin_err, startL, List.map_cons, List.map_nil, List.length_cons, List.length_nil, List.cons_append, List.nil_append, List.getElem?_cons_zero, List.getElem?_cons_succ, List.set_cons_zero, List.set_cons_succ, List.replicate_succ, List.replicate_zero, Nat.zero_add, Nat.reduceAdd, Nat.reduceSub, Nat.add_one_sub_one, Nat.sub_self, if_true, if_false, ite_true, ite_false, Bool.false_eq_true, reduceCtorEq, if_pos, Nat.reduceEqDiff, Nat.reduceLeDiff, decide_true, decide_false, Bool.not_true, Bool.not_false, mMatch, mCases, mpSeq, mpWild, setAll, List.foldl_nil, q1, q3, q4, q5]
          exact ⟨_, rfl⟩
        | [.str z], e, hl =>
          have e : some (if z = "skip" then some (n + 1, (0 : Int)) else none) = some r := e
          cases e
          simp only [mSeq, mExpr, mRet, mRetN, mIfS, mSet, mAug, mCall, mCons, mNil, mVar, mC, mOp, mUn, mApp, mTup, mLst, mNx, mRaise, mAnd, mOr, mNot, mIf, tstB, tstAnd, tstOr, tstNot, mChain, bind_ok, bind_err, bind_no, toS_ok, toS_err, nox_ok, fin_nx, fin_rt, fin_err, startL, List.map_cons, List.map_nil, List.length_cons, List.length_nil, List.cons_append, List.nil_append, List.getElem?_cons_zero, List.getElem?_cons_succ, List.set_cons_zero, List.set_cons_succ, List.replicate_succ, List.replicate_zero, Nat.zero_add, Nat.reduceAdd, Nat.reduceSub, Nat.add_one_sub_one, Nat.sub_self, if_true, if_false, ite_true, ite_false, Bool.false_eq_true, reduceCtorEq, if_pos, Nat.reduceEqDiff, Nat.reduceLeDiff, decide_true, decide_false, Bool.not_true, Bool.not_false, mMatch, mCases, mpSeq, mpCons, mpNil, mpWild, lit_str, setAll, List.foldl_nil, Nat.reduceEqDiff, List.append_nil]
          by_cases hz : z = "skip"
          · simp only [mSeq, mExpr, mRet, mRetN, mIfS, mSet, mAug, mCall, mCons, mNil, mVar, mC, mOp, mUn, mApp, mTup, mLst, mNx, mRaise, mAnd, mOr, mNot, mIf, tstB, tstAnd, tstOr, tstNot, mChain, bind_ok, bind_err, bind_no, toS_ok, toS_err, nox_ok, fin_nx, fin_rt, fin_err, startL, List.map_cons, List.map_nil, List.length_cons, List.length_nil, List.cons_append, List.nil_append, List.getElem?_cons_zero, List.getElem?_cons_succ, List.set_cons_zero, List.set_cons_succ, List.replicate_succ, List.replicate_zero, Nat.zero_add, Nat.reduceAdd, Nat.reduceSub, Nat.add_one_sub_one, Nat.sub_self, if_true, if_false, ite_true, ite_false, Bool.false_eq_true, reduceCtorEq, if_pos, Nat.reduceEqDiff, Nat.reduceLeDiff, decide_true, decide_false, Bool.not_true, Bool.not_false, hz, setAll, List.foldl_nil]
            exact rfl
          · simp only [mSeq, mExpr, mRet, mRetN, mIfS, mSet, mAug, mCall, mCons, mNil, mVar, mC, mOp, mUn, mApp, mTup, mLst, mNx, mRaise, mAnd, mOr, mNot, mIf, tstB, tstAnd, tstOr, tstNot, mChain, bind_ok, bind_err, bind_no, toS_ok, toS_err, nox_ok, fin_nx, fin_rt, fin_err, startL, List.map_cons, List.map_nil, List.length_cons, List.length_nil, List.cons_append, List.nil_append, List.getElem?_cons_zero, List.getElem?_cons_succ, List.set_cons_zero, List.set_cons_succ, List.replicate_succ, List.replicate_zero, Nat.zero_add, Nat.reduceAdd, Nat.reduceSub, Nat.add_one_sub_one, Nat.sub_self, if_true, if_false, ite_true, ite_false, Bool.false_eq_true, reduceCtorEq, if_pos, Nat.reduceEqDiff, Nat.reduceLeDiff, decide_true, decide_false, Bool.not_true, Bool.not_false, hz, setAll, List.foldl_nil]
            exact ⟨_, rfl⟩
        | [.str z, x, ex], e, hl =>
          have hx : liv s ex = true := livs_mem hl ex (by simp)
          have e : (if z = "set" then match inN names x with
              | some true => andE (exprV names fu ex (depth + 1) (n + 1)) fun m => some (some (m, (0 : Int)))
              | some false => some none
              | none => none
            else some none) = some r := e
          by_cases z1 : z = "set"
          · rw [if_pos z1] at e
            cases q : inN names x with
            | none => rw [q] at e; cases e
            | some b =>
              rw [q] at e
              simp only [mSeq, mExpr, mRet, mRetN, mIfS, mSet, mAug, mCall, mCons, mNil, mVar, mC, mOp, mUn, mApp, mTup, mLst, mNx, mRaise, mAnd, mOr, mNot, mIf, tstB, tstAnd, tstOr, tstNot, mChain, bind_ok, bind_err, bind_no, toS_ok, toS_err, nox_ok, fin_nx, fin_rt, fin_err, startL, List.map_cons, List.map_nil, List.length_cons, List.length_nil, List.cons_append, List.nil_append, List.getElem?_cons_zero, List.getElem?_cons_succ, List.set_cons_zero, List.set_cons_succ, List.replicate_succ, List.replicate_zero, Nat.zero_add, Nat.reduceAdd, Nat.reduceSub, Nat.add_one_sub_one, Nat.sub_self, if_true, if_false, ite_true, ite_false, Bool.false_eq_true, reduceCtorEq, if_pos, Nat.reduceEqDiff, Nat.reduceLeDiff, decide_true, decide_false, Bool.not_true, Bool.not_false, mMatch, mCases, mpSeq, mpCons, mpNil, mpCap, lit_str, z1, setAll, List.foldl_nil, List.foldl_cons, List.append_nil, Nat.reduceEqDiff, gFld, C.at_p, mem1, look2, in_names C q]
              rw [show k + 2 * fu + 3 = (k + 2 * fu + 2) + 1 from rfl, c_require]
              cases b with
              | false => cases e; simp only [mSeq, mExpr, mRet, mRetN, mIfS, mSet, mAug, mCall, mCons, mNil, mVar, mC, mOp, mUn, mApp, mTup, mLst, mNx, mRaise, mAnd, mOr, mNot, mIf, tstB, tstAnd, tstOr, tstNot, mChain, bind_ok, bind_err, bind_no, toS_ok, toS_err, nox_ok, fin_nx, fin_rt, fin_err, startL, List.map_cons, List.map_nil, List.length_cons, List.length_nil, List.cons_append, List.nil_append, List.getElem?_cons_zero, List.getElem?_cons_succ, List.set_cons_zero, List.set_cons_succ, List.replicate_succ, List.replicate_zero, Nat.zero_add, Nat.reduceAdd, Nat.reduceSub, Nat.add_one_sub_one, Nat.sub_self, if_true, if_false, ite_true, ite_false, Bool.false_eq_true, reduceCtorEq, if_pos, Nat.reduceEqDiff, Nat.reduceLeDiff, decide_true, decide_false, Bool.not_true, Bool.not_false]; exact ⟨_, rfl⟩
              | true =>
                have e : andE (exprV names fu ex (depth + 1) (n + 1)) (fun m => some (some (m, (0 : Int)))) = some r := e
                simp only [mSeq, mExpr, mRet, mRetN, mIfS, mSet, mAug, mCall, mCons, mNil, mVar, mC, mOp, mUn, mApp, mTup, mLst, mNx, mRaise, mAnd, mOr, mNot, mIf, tstB, tstAnd, tstOr, tstNot, mChain, bind_ok, bind_err, bind_no, toS_ok, toS_err, nox_ok, fin_nx, fin_rt, fin_err, startL, List.map_cons, List.map_nil, List.length_cons, List.length_nil, List.cons_append, List.nil_append, List.getElem?_cons_zero, List.getElem?_cons_succ, List.set_cons_zero, List.set_cons_succ, List.replicate_succ, List.replicate_zero, Nat.zero_add, Nat.reduceAdd, Nat.reduceSub, Nat.add_one_sub_one, Nat.sub_self, if_true, if_false, ite_true, ite_false, Bool.false_eq_true, reduceCtorEq, if_pos, Nat.reduceEqDiff, Nat.reduceLeDiff, decide_true, decide_false, Bool.not_true, Bool.not_false, mMethC, C.at_p, lkx, and_self, gAdd]
                cases q2 : exprV names fu ex (depth + 1) (n + 1) with
                | none => rw [q2] at e; cases e
                | some ra =>
                  have IH := e_call C hx q2 (show k + 2 * fu + 2 + 1 = (k + fu + 1) + fu + 2 by omega)
                  rw [q2] at e
                  cases ra with
                  | none => cases e; obtain ⟨m, IH⟩ := IH; simp only [mSeq, mExpr, mRet, mRetN, mIfS, mSet, mAug, mCall, mCons, mNil, mVar, mC, mOp, mUn, mApp, mTup, mLst, mNx, mRaise, mAnd, mOr, mNot, mIf, tstB, tstAnd, tstOr, tstNot, mChain, bind_ok, bind_err, bind_no, toS_ok, toS_err, nox_ok, fin_nx, fin_rt, fin_err, startL, List.map_cons, List.map_nil, List.length_cons, List.length_nil, List.cons_append, List.nil_append, List.getElem?_cons_zero, List.getElem?_cons_succ, List.set_cons_zero, List.set_cons_succ, List.replicate_succ, List.replicate_zero, Nat.zero_add, Nat.reduceAdd, Nat.reduceSub, Nat.add_one_sub_one, Nat.sub_self, if_true, if_false, ite_true, ite_false, Bool.false_eq_true, reduceCtorEq, if_pos, Nat.reduceEqDiff, Nat.reduceLeDiff, decide_true, decide_false, Bool.not_true, Bool.not_false, IH]; exact ⟨m, rfl⟩
                  | some m => cases e; dsimp only [Out] at IH; simp only [mSeq, mExpr, mRet, mRetN, mIfS, mSet, mAug, mCall, mCons, mNil, mVar, mC, mOp, mUn, mApp, mTup, mLst, mNx, mRaise, mAnd, mOr, mNot, mIf, tstB, tstAnd, tstOr, tstNot, mChain, bind_ok, bind_err, bind_no, toS_ok, toS_err, nox_ok, fin_nx, fin_rt, fin_err, startL, List.map_cons, List.map_nil, List.length_cons, List.length_nil, List.cons_append, List.nil_append, List.getElem?_cons_zero, List.getElem?_cons_succ, List.set_cons_zero, List.set_cons_succ, List.replicate_succ, List.replicate_zero, Nat.zero_add, Nat.reduceAdd, Nat.reduceSub, Nat.add_one_sub_one, Nat.sub_self, if_true, if_false, ite_true, ite_false, Bool.false_eq_true, reduceCtorEq, if_pos, Nat.reduceEqDiff, Nat.reduceLeDiff, decide_true, decide_false, Bool.not_true, Bool.not_false, IH]; exact rfl
          · rw [if_neg z1] at e
            cases e
            simp only [mSeq, mExpr, mRet, mRetN, mIfS, mSet, mAug, mCall, mCons, mNil, mVar, mC, mOp, mUn, mApp, mTup, mLst, mNx, mRaise, mAnd, mOr, mNot, mIf, tstB, tstAnd, tstOr, tstNot, mChain, bind_ok, bind_err, bind_no, toS_ok, toS_err, nox_ok, fin_nx, fin_rt, fin_err, startL, List.map_cons, List.map_nil, List.length_cons, List.length_nil, List.cons_append, List.nil_append, List.getElem?_cons_zero, List.getElem?_cons_succ, List.set_cons_zero, List.set_cons_succ, List.replicate_succ, List.replicate_zero, Nat.zero_add, Nat.reduceAdd, Nat.reduceSub, Nat.add_one_sub_one, Nat.sub_self, if_true, if_false, ite_true, ite_false, Bool.false_eq_true, reduceCtorEq, if_pos, Nat.reduceEqDiff, Nat.reduceLeDiff, decide_true, decide_false, Bool.not_true, Bool.not_false, mMatch, mCases, mpSeq, mpCons, mpNil, mpCap, mpWild, lit_str, z1, setAll, List.foldl_nil, List.append_nil, Nat.reduceEqDiff]
            exact ⟨_, rfl⟩
        | [.str z, ex, a, b], e, hl =>
          have hx : liv s ex = true := livs_mem hl ex (by simp)
          have ha : liv s a = true := livs_mem hl a (by simp)
          have hb : liv s b = true := livs_mem hl b (by simp)
          have e : (if z = "if" then andE (exprV names fu ex (depth + 1) (n + 1)) fun m =>
              andP (progV (fun d n => stmtV names fu d (depth + 1) n) a m) fun m1 x => andP (progV (fun d n => stmtV names fu d (depth + 1) n) b m1) fun m2 y => some (some (m2, if y > x then y else x))
            else some none) = some r := e
          by_cases z1 : z = "if"
          · rw [if_pos z1] at e
            have st : StOk s p f (k + 2 * fu + 1 + 1) (depth + 1) (fun d n => stmtV names fu d (depth + 1) n) := fun d n r h q => c_statement C fu k d (depth + 1) n r h q
            simp only [mSeq, mExpr, mRet, mRetN, mIfS, mSet, mAug, mCall, mCons, mNil, mVar, mC, mOp, mUn, mApp, mTup, mLst, mNx, mRaise, mAnd, mOr, mNot, mIf, tstB, tstAnd, tstOr, tstNot, mChain, bind_ok, bind_err, bind_no, toS_ok, toS_err, nox_ok, fin_nx, fin_rt, fin_err, startL, List.map_cons, List.map_nil, List.length_cons, List.length_nil, List.cons_append, List.nil_append, List.getElem?_cons_zero, List.getElem?_cons_succ, List.set_cons_zero, List.set_cons_succ, List.replicate_succ, List.replicate_zero, Nat.zero_add, Nat.reduceAdd, Nat.reduceSub, Nat.add_one_sub_one, Nat.sub_self, if_true, if_false, ite_true, ite_false, Bool.false_eq_true, reduceCtorEq, if_pos, Nat.reduceEqDiff, Nat.reduceLeDiff, decide_true, decide_false, Bool.not_true, Bool.not_false, mMatch, mCases, mpSeq, mpCons, mpNil, mpCap, lit_str, z1, setAll, List.foldl_nil, List.foldl_cons, List.append_nil, Nat.reduceEqDiff, mMethC, C.at_p, lkx, and_self, gAdd]
            cases q2 : exprV names fu ex (depth + 1) (n + 1) with
            | none => rw [q2] at e; cases e
            | some ra =>
              have IH := e_call C hx q2 (show k + 2 * fu + 3 = (k + fu + 1) + fu + 2 by omega)
              rw [q2] at e
              cases ra with
              | none => cases e; obtain ⟨m, IH⟩ := IH; simp only [mSeq, mExpr, mRet, mRetN, mIfS, mSet, mAug, mCall, mCons, mNil, mVar, mC, mOp, mUn, mApp, mTup, mLst, mNx, mRaise, mAnd, mOr, mNot, mIf, tstB, tstAnd, tstOr, tstNot, mChain, bind_ok, bind_err, bind_no, toS_ok, toS_err, nox_ok, fin_nx, fin_rt, fin_err, startL, List.map_cons, List.map_nil, List.length_cons, List.length_nil, List.cons_append, List.nil_append, List.getElem?_cons_zero, List.getElem?_cons_succ, List.set_cons_zero, List.set_cons_succ, List.replicate_succ, List.replicate_zero, Nat.zero_add, Nat.reduceAdd, Nat.reduceSub, Nat.add_one_sub_one, Nat.sub_self, if_true, if_false, ite_true, ite_false, Bool.false_eq_true, reduceCtorEq, if_pos, Nat.reduceEqDiff, Nat.reduceLeDiff, decide_true, decide_false, Bool.not_true, Bool.not_false, IH]; exact ⟨m, rfl⟩
              | some m =>
                dsimp only [Out] at IH
                have e : andP (progV (fun d n => stmtV names fu d (depth + 1) n) a m) (fun m1 x => andP (progV (fun d n => stmtV names fu d (depth + 1) n) b m1) fun m2 y => some (some (m2, if y > x then y else x))) = some r := e
                simp only [mSeq, mExpr, mRet, mRetN, mIfS, mSet, mAug, mCall, mCons, mNil, mVar, mC, mOp, mUn, mApp, mTup, mLst, mNx, mRaise, mAnd, mOr, mNot, mIf, tstB, tstAnd, tstOr, tstNot, mChain, bind_ok, bind_err, bind_no, toS_ok, toS_err, nox_ok, fin_nx, fin_rt, fin_err, startL, List.map_cons, List.map_nil, List.length_cons, List.length_nil, List.cons_append, List.nil_append, List.getElem?_cons_zero, List.getElem?_cons_succ, List.set_cons_zero, List.set_cons_succ, List.replicate_succ, List.replicate_zero, Nat.zero_add, Nat.reduceAdd, Nat.reduceSub, Nat.add_one_sub_one, Nat.sub_self, if_true, if_false, ite_true, ite_false, Bool.false_eq_true, reduceCtorEq, if_pos, Nat.reduceEqDiff, Nat.reduceLeDiff, decide_true, decide_false, Bool.not_true, Bool.not_false, IH, mMethC, C.at_p, lkp, and_self, gAdd]
                cases q3 : progV (fun d n => stmtV names fu d (depth + 1) n) a m with
                | none => rw [q3] at e; cases e
                | some rp =>
                  have P1 : OutP s p f rp (call (k + 2 * fu + 3) .ProgramCheck_program [.ref p, a, .int (depth + 1)] (stN s p f m)) := c_prog C st ha q3
                  rw [q3] at e
                  cases rp with
                  | none => cases e; obtain ⟨m, P1⟩ := P1; simp only [mSeq, mExpr, mRet, mRetN, mIfS, mSet, mAug, mCall, mCons, mNil, mVar, mC, mOp, mUn, mApp, mTup, mLst, mNx, mRaise, mAnd, mOr, mNot, mIf, tstB, tstAnd, tstOr, tstNot, mChain, bind_ok, bind_err, bind_no, toS_ok, toS_err, nox_ok, fin_nx, fin_rt, fin_err, startL, List.map_cons, List.map_nil, List.length_cons, List.length_nil, List.cons_append, List.nil_append, List.getElem?_cons_zero, List.getElem?_cons_succ, List.set_cons_zero, List.set_cons_succ, List.replicate_succ, List.replicate_zero, Nat.zero_add, Nat.reduceAdd, Nat.reduceSub, Nat.add_one_sub_one, Nat.sub_self, if_true, if_false, ite_true, ite_false, Bool.false_eq_true, reduceCtorEq, if_pos, Nat.reduceEqDiff, Nat.reduceLeDiff, decide_true, decide_false, Bool.not_true, Bool.not_false, P1]; exact ⟨m, rfl⟩
                  | some mx =>
                    obtain ⟨m1, x⟩ := mx
                    dsimp only [OutP] at P1
                    have e : andP (progV (fun d n => stmtV names fu d (depth + 1) n) b m1) (fun m2 y => some (some (m2, if y > x then y else x))) = some r := e
                    simp only [mSeq, mExpr, mRet, mRetN, mIfS, mSet, mAug, mCall, mCons, mNil, mVar, mC, mOp, mUn, mApp, mTup, mLst, mNx, mRaise, mAnd, mOr, mNot, mIf, tstB, tstAnd, tstOr, tstNot, mChain, bind_ok, bind_err, bind_no, toS_ok, toS_err, nox_ok, fin_nx, fin_rt, fin_err, startL, List.map_cons, List.map_nil, List.length_cons, List.length_nil, List.cons_append, List.nil_append, List.getElem?_cons_zero, List.getElem?_cons_succ, List.set_cons_zero, List.set_cons_succ, List.replicate_succ, List.replicate_zero, Nat.zero_add, Nat.reduceAdd, Nat.reduceSub, Nat.add_one_sub_one, Nat.sub_self, if_true, if_false, ite_true, ite_false, Bool.false_eq_true, reduceCtorEq, if_pos, Nat.reduceEqDiff, Nat.reduceLeDiff, decide_true, decide_false, Bool.not_true, Bool.not_false, P1, mMethC, C.at_p, lkp, and_self, gAdd]
                    cases q4 : progV (fun d n => stmtV names fu d (depth + 1) n) b m1 with
                    | none => rw [q4] at e; cases e
                    | some rq =>
                      have P2 : OutP s p f rq (call (k + 2 * fu + 3) .ProgramCheck_program [.ref p, b, .int (depth + 1)] (stN s p f m1)) := c_prog C st hb q4
                      rw [q4] at e
                      cases rq with
                      | none => cases e; obtain ⟨m, P2⟩ := P2; simp only [mSeq, mExpr, mRet, mRetN, mIfS, mSet, mAug, mCall, mCons, mNil, mVar, mC, mOp, mUn, mApp, mTup, mLst, mNx, mRaise, mAnd, mOr, mNot, mIf, tstB, tstAnd, tstOr, tstNot, mChain, bind_ok, bind_err, bind_no, toS_ok, toS_err, nox_ok, fin_nx, fin_rt, fin_err, startL, List.map_cons, List.map_nil, List.length_cons, List.length_nil, List.cons_append, List.nil_append, List.getElem?_cons_zero, List.getElem?_cons_succ, List.set_cons_zero, List.set_cons_succ, List.replicate_succ, List.replicate_zero, Nat.zero_add, Nat.reduceAdd, Nat.reduceSub, Nat.add_one_sub_one, Nat.sub_self, if_true, if_false, ite_true, ite_false, Bool.false_eq_true, reduceCtorEq, if_pos, Nat.reduceEqDiff, Nat.reduceLeDiff, decide_true, decide_false, Bool.not_true, Bool.not_false, P2]; exact ⟨m, rfl⟩
                      | some my =>
                        obtain ⟨m2, y⟩ := my
                        dsimp only [OutP] at P2
                        cases e
                        simp only [mSeq, mExpr, mRet, mRetN, mIfS, mSet, mAug, mCall, mCons, mNil, mVar, mC, mOp, mUn, mApp, mTup, mLst, mNx, mRaise, mAnd, mOr, mNot, mIf, tstB, tstAnd, tstOr, tstNot, mChain, bind_ok, bind_err, bind_no, toS_ok, toS_err, nox_ok, fin_nx, fin_rt, fin_err, startL, List.map_cons, List.map_nil, List.length_cons, List.length_nil, List.cons_append, List.nil_append, List.getElem?_cons_zero, List.getElem?_cons_succ, List.set_cons_zero, List.set_cons_succ, List.replicate_succ, List.replicate_zero, Nat.zero_add, Nat.reduceAdd, Nat.reduceSub, Nat.add_one_sub_one, Nat.sub_self, if_true, if_false, ite_true, ite_false, Bool.false_eq_true, reduceCtorEq, if_pos, Nat.reduceEqDiff, Nat.reduceLeDiff, decide_true, decide_false, Bool.not_true, Bool.not_false, P2, gM2]
                        exact rfl
          · rw [if_neg z1] at e
            cases e
            simp only [mSeq, mExpr, mRet, mRetN, mIfS, mSet, mAug, mCall, mCons, mNil, mVar, mC, mOp, mUn, mApp, mTup, mLst, mNx, mRaise, mAnd, mOr, mNot, mIf, tstB, tstAnd, tstOr, tstNot, mChain, bind_ok, bind_err, bind_no, toS_ok, toS_err, nox_ok, fin_nx, fin_rt, fin_err, startL, List.map_cons, List.map_nil, List.length_cons, List.length_nil, List.cons_append, List.nil_append, List.getElem?_cons_zero, List.getElem?_cons_succ, List.set_cons_zero, List.set_cons_succ, List.replicate_succ, List.replicate_zero, Nat.zero_add, Nat.reduceAdd, Nat.reduceSub, Nat.add_one_sub_one, Nat.sub_self, if_true, if_false, ite_true, ite_false, Bool.false_eq_true, reduceCtorEq, if_pos, Nat.reduceEqDiff, Nat.reduceLeDiff, decide_true, decide_false, Bool.not_true, Bool.not_false, mMatch, mCases, mpSeq, mpCons, mpNil, mpCap, mpWild, lit_str, z1, setAll, List.foldl_nil, List.append_nil, Nat.reduceEqDiff]
            exact ⟨_, rfl⟩
        | [.str z, tg, dl, nm, ar], e, hl =>
          have h2 : liv s tg = true := livs_mem hl tg (by simp)
          have h3 : liv s dl = true := livs_mem hl dl (by simp)
          have h4 : liv s nm = true := livs_mem hl nm (by simp)
          have h5 : liv s ar = true := livs_mem hl ar (by simp)
          have e : (if z = "send" then if nameB nm = true then andE (exprV names fu tg (depth + 1) (n + 1)) fun m1 => andE (exprV names fu dl (depth + 1) m1) fun m2 => andE (exprV names fu ar (depth + 1) m2) fun m3 => some (some (m3, (1 : Int)))
            else some none else some none) = some r := e
          by_cases z1 : z = "send"
          · rw [if_pos z1] at e
            simp only [mSeq, mExpr, mRet, mRetN, mIfS, mSet, mAug, mCall, mCons, mNil, mVar, mC, mOp, mUn, mApp, mTup, mLst, mNx, mRaise, mAnd, mOr, mNot, mIf, tstB, tstAnd, tstOr, tstNot, mChain, bind_ok, bind_err, bind_no, toS_ok, toS_err, nox_ok, fin_nx, fin_rt, fin_err, startL, List.map_cons, List.map_nil, List.length_cons, List.length_nil, List.cons_append, List.nil_append, List.getElem?_cons_zero, List.getElem?_cons_succ, List.set_cons_zero, List.set_cons_succ, List.replicate_succ, List.replicate_zero, Nat.zero_add, Nat.reduceAdd, Nat.reduceSub, Nat.add_one_sub_one, Nat.sub_self, if_true, if_false, ite_true, ite_false, Bool.false_eq_true, reduceCtorEq, if_pos, Nat.reduceEqDiff, Nat.reduceLeDiff, decide_true, decide_false, Bool.not_true, Bool.not_false, mMatch, mCases, mpSeq, mpCons, mpNil, mpCap, lit_str, z1, setAll, List.foldl_nil, List.foldl_cons, List.append_nil, Nat.reduceEqDiff]
            rw [show k + 2 * fu + 3 = (k + 2 * fu + 2) + 1 from rfl, c_is_name (liv_st C h4)]
            simp only [mSeq, mExpr, mRet, mRetN, mIfS, mSet, mAug, mCall, mCons, mNil, mVar, mC, mOp, mUn, mApp, mTup, mLst, mNx, mRaise, mAnd, mOr, mNot, mIf, tstB, tstAnd, tstOr, tstNot, mChain, bind_ok, bind_err, bind_no, toS_ok, toS_err, nox_ok, fin_nx, fin_rt, fin_err, startL, List.map_cons, List.map_nil, List.length_cons, List.length_nil, List.cons_append, List.nil_append, List.getElem?_cons_zero, List.getElem?_cons_succ, List.set_cons_zero, List.set_cons_succ, List.replicate_succ, List.replicate_zero, Nat.zero_add, Nat.reduceAdd, Nat.reduceSub, Nat.add_one_sub_one, Nat.sub_self, if_true, if_false, ite_true, ite_false, Bool.false_eq_true, reduceCtorEq, if_pos, Nat.reduceEqDiff, Nat.reduceLeDiff, decide_true, decide_false, Bool.not_true, Bool.not_false, c_require]
            by_cases hn : nameB nm = true
            · rw [if_pos hn] at e
              simp only [mSeq, mExpr, mRet, mRetN, mIfS, mSet, mAug, mCall, mCons, mNil, mVar, mC, mOp, mUn, mApp, mTup, mLst, mNx, mRaise, mAnd, mOr, mNot, mIf, tstB, tstAnd, tstOr, tstNot, mChain, bind_ok, bind_err, bind_no, toS_ok, toS_err, nox_ok, fin_nx, fin_rt, fin_err, startL, List.map_cons, List.map_nil, List.length_cons, List.length_nil, List.cons_append, List.nil_append, List.getElem?_cons_zero, List.getElem?_cons_succ, List.set_cons_zero, List.set_cons_succ, List.replicate_succ, List.replicate_zero, Nat.zero_add, Nat.reduceAdd, Nat.reduceSub, Nat.add_one_sub_one, Nat.sub_self, if_true, if_false, ite_true, ite_false, Bool.false_eq_true, reduceCtorEq, if_pos, Nat.reduceEqDiff, Nat.reduceLeDiff, decide_true, decide_false, Bool.not_true, Bool.not_false, hn, mMethC, C.at_p, lkx, and_self, gAdd]
              cases q2 : exprV names fu tg (depth + 1) (n + 1) with
              | none => rw [q2] at e; cases e
              | some ra =>
                have IH := e_call C h2 q2 (show k + 2 * fu + 2 + 1 = (k + fu + 1) + fu + 2 by omega)
                rw [q2] at e
                cases ra with
                | none => cases e; obtain ⟨m, IH⟩ := IH; simp only [mSeq, mExpr, mRet, mRetN, mIfS, mSet, mAug, mCall, mCons, mNil, mVar, mC, mOp, mUn, mApp, mTup, mLst, mNx, mRaise, mAnd, mOr, mNot, mIf, tstB, tstAnd, tstOr, tstNot, mChain, bind_ok, bind_err, bind_no, toS_ok, toS_err, nox_ok, fin_nx, fin_rt, fin_err, startL, List.map_cons, List.map_nil, List.length_cons, List.length_nil, List.cons_append, List.nil_append, List.getElem?_cons_zero, List.getElem?_cons_succ, List.set_cons_zero, List.set_cons_succ, List.replicate_succ, List.replicate_zero, Nat.zero_add, Nat.reduceAdd, Nat.reduceSub, Nat.add_one_sub_one, Nat.sub_self, if_true, if_false, ite_true, ite_false, Bool.false_eq_true, reduceCtorEq, if_pos, Nat.reduceEqDiff, Nat.reduceLeDiff, decide_true, decide_false, Bool.not_true, Bool.not_false, IH]; exact ⟨m, rfl⟩
                | some m =>
                  dsimp only [Out] at IH
                  have e : andE (exprV names fu dl (depth + 1) m) (fun m2 => andE (exprV names fu ar (depth + 1) m2) fun m3 => some (some (m3, (1 : Int)))) = some r := e
                  simp only [mSeq, mExpr, mRet, mRetN, mIfS, mSet, mAug, mCall, mCons, mNil, mVar, mC, mOp, mUn, mApp, mTup, mLst, mNx, mRaise, mAnd, mOr, mNot, mIf, tstB, tstAnd, tstOr, tstNot, mChain, bind_ok, bind_err, bind_no, toS_ok, toS_err, nox_ok, fin_nx, fin_rt, fin_err, startL, List.map_cons, List.map_nil, List.length_cons, List.length_nil, List.cons_append, List.nil_append, List.getElem?_cons_zero, List.getElem?_cons_succ, List.set_cons_zero, List.set_cons_succ, List.replicate_succ, List.replicate_zero, Nat.zero_add, Nat.reduceAdd, Nat.reduceSub, Nat.add_one_sub_one, Nat.sub_self, if_true, if_false, ite_true, ite_false, Bool.false_eq_true, reduceCtorEq, if_pos, Nat.reduceEqDiff, Nat.reduceLeDiff, decide_true, decide_false, Bool.not_true, Bool.not_false, IH, mMethC, C.at_p, lkx, and_self, gAdd]
                  cases q3 : exprV names fu dl (depth + 1) m with
                  | none => rw [q3] at e; cases e
                  | some rb =>
                    have IH3 := e_call C h3 q3 (show k + 2 * fu + 2 + 1 = (k + fu + 1) + fu + 2 by omega)
                    rw [q3] at e
                    cases rb with
                    | none => cases e; obtain ⟨m, IH3⟩ := IH3; simp only [mSeq, mExpr, mRet, mRetN, mIfS, mSet, mAug, mCall, mCons, mNil, mVar, mC, mOp, mUn, mApp, mTup, mLst, mNx, mRaise, mAnd, mOr, mNot, mIf, tstB, tstAnd, tstOr, tstNot, mChain, bind_ok, bind_err, bind_no, toS_ok, toS_err, nox_ok, fin_nx, fin_rt, fin_err, startL, List.map_cons, List.map_nil, List.length_cons, List.length_nil, List.cons_append, List.nil_append, List.getElem?_cons_zero, List.getElem?_cons_succ, List.set_cons_zero, List.set_cons_succ, List.replicate_succ, List.replicate_zero, Nat.zero_add, Nat.reduceAdd, Nat.reduceSub, Nat.add_one_sub_one, Nat.sub_self, if_true, if_false, ite_true, ite_false, Bool.false_eq_true, reduceCtorEq, if_pos, Nat.reduceEqDiff, Nat.reduceLeDiff, decide_true, decide_false, Bool.not_true, Bool.not_false, IH3]; exact ⟨m, rfl⟩
                    | some m2 =>
                      dsimp only [Out] at IH3
                      have e : andE (exprV names fu ar (depth + 1) m2) (fun m3 => some (some (m3, (1 : Int)))) = some r := e
                      simp only [mSeq, mExpr, mRet, mRetN, mIfS, mSet, mAug, mCall, mCons, mNil, mVar, mC, mOp, mUn, mApp, mTup, mLst, mNx, mRaise, mAnd, mOr, mNot, mIf, tstB, tstAnd, tstOr, tstNot, mChain, bind_ok, bind_err, bind_no, toS_ok, toS_err, nox_ok, fin_nx, fin_rt, fin_err, startL, List.map_cons, List.map_nil, List.length_cons, List.length_nil, List.cons_append, List.nil_append, List.getElem?_cons_zero, List.getElem?_cons_succ, List.set_cons_zero, List.set_cons_succ, List.replicate_succ, List.replicate_zero, Nat.zero_add, Nat.reduceAdd, Nat.reduceSub, Nat.add_one_sub_one, Nat.sub_self, if_true, if_false, ite_true, ite_false, Bool.false_eq_true, reduceCtorEq, if_pos, Nat.reduceEqDiff, Nat.reduceLeDiff, decide_true, decide_false, Bool.not_true, Bool.not_false, IH3, mMethC, C.at_p, lkx, and_self, gAdd]
                      cases q4 : exprV names fu ar (depth + 1) m2 with
                      | none => rw [q4] at e; cases e
                      | some rc =>
                        have IH4 := e_call C h5 q4 (show k + 2 * fu + 2 + 1 = (k + fu + 1) + fu + 2 by omega)
                        rw [q4] at e
                        cases rc with
                        | none => cases e; obtain ⟨m, IH4⟩ := IH4; simp only [mSeq, mExpr, mRet, mRetN, mIfS, mSet, mAug, mCall, mCons, mNil, mVar, mC, mOp, mUn, mApp, mTup, mLst, mNx, mRaise, mAnd, mOr, mNot, mIf, tstB, tstAnd, tstOr, tstNot, mChain, bind_ok, bind_err, bind_no, toS_ok, toS_err, nox_ok, fin_nx, fin_rt, fin_err, startL, List.map_cons, List.map_nil, List.length_cons, List.length_nil, List.cons_append, List.nil_append, List.getElem?_cons_zero, List.getElem?_cons_succ, List.set_cons_zero, List.set_cons_succ, List.replicate_succ, List.replicate_zero, Nat.zero_add, Nat.reduceAdd, Nat.reduceSub, Nat.add_one_sub_one, Nat.sub_self, if_true, if_false, ite_true, ite_false, Bool.false_eq_true, reduceCtorEq, if_pos, Nat.reduceEqDiff, Nat.reduceLeDiff, decide_true, decide_false, Bool.not_true, Bool.not_false, IH4]; exact ⟨m, rfl⟩
                        | some m3 => dsimp only [Out] at IH4; cases e; simp only [mSeq, mExpr, mRet, mRetN, mIfS, mSet, mAug, mCall, mCons, mNil, mVar, mC, mOp, mUn, mApp, mTup, mLst, mNx, mRaise, mAnd, mOr, mNot, mIf, tstB, tstAnd, tstOr, tstNot, mChain, bind_ok, bind_err, bind_no, toS_ok, toS_err, nox_ok, fin_nx, fin_rt, fin_err, startL, List.map_cons, List.map_nil, List.length_cons, List.length_nil, List.cons_append, List.nil_append, List.getElem?_cons_zero, List.getElem?_cons_succ, List.set_cons_zero, List.set_cons_succ, List.replicate_succ, List.replicate_zero, Nat.zero_add, Nat.reduceAdd, Nat.reduceSub, Nat.add_one_sub_one, Nat.sub_self, if_true, if_false, ite_true, ite_false, Bool.false_eq_true, reduceCtorEq, if_pos, Nat.reduceEqDiff, Nat.reduceLeDiff, decide_true, decide_false, Bool.not_true, Bool.not_false, IH4]; exact rfl
            · rw [if_neg hn] at e
              cases e
              simp only [mSeq, mExpr, mRet, mRetN, mIfS, mSet, mAug, mCall, mCons, mNil, mVar, mC, mOp, mUn, mApp, mTup, mLst, mNx, mRaise, mAnd, mOr, mNot, mIf, tstB, tstAnd, tstOr, tstNot, mChain, bind_ok, bind_err, bind_no, toS_ok, toS_err, nox_ok, fin_nx, fin_rt, fin_err, startL, List.map_cons, List.map_nil, List.length_cons, List.length_nil, List.cons_append, List.nil_append, List.getElem?_cons_zero, List.getElem?_cons_succ, List.set_cons_zero, List.set_cons_succ, List.replicate_succ, List.replicate_zero, Nat.zero_add, Nat.reduceAdd, Nat.reduceSub, Nat.add_one_sub_one, Nat.sub_self, if_true, if_false, ite_true, ite_false, Bool.false_eq_true, reduceCtorEq, if_pos, Nat.reduceEqDiff, Nat.reduceLeDiff, decide_true, decide_false, Bool.not_true, Bool.not_false, hn]
              exact ⟨_, rfl⟩
          · rw [if_neg z1] at e
            cases e
            simp only [mSeq, mExpr, mRet, mRetN, mIfS, mSet, mAug, mCall, mCons, mNil, mVar, mC, mOp, mUn, mApp, mTup, mLst, mNx, mRaise, mAnd, mOr, mNot, mIf, tstB, tstAnd, tstOr, tstNot, mChain, bind_ok, bind_err, bind_no, toS_ok, toS_err, nox_ok, fin_nx, fin_rt, fin_err, startL, List.map_cons, List.map_nil, List.length_cons, List.length_nil, List.cons_append, List.nil_append, List.getElem?_cons_zero, List.getElem?_cons_succ, List.set_cons_zero, List.set_cons_succ, List.replicate_succ, List.replicate_zero, Nat.zero_add, Nat.reduceAdd, Nat.reduceSub, Nat.add_one_sub_one, Nat.sub_self, if_true, if_false, ite_true, ite_false, Bool.false_eq_true, reduceCtorEq, if_pos, Nat.reduceEqDiff, Nat.reduceLeDiff, decide_true, decide_false, Bool.not_true, Bool.not_false, mMatch, mCases, mpSeq, mpCons, mpNil, mpCap, mpWild, lit_str, z1, setAll, List.foldl_nil, List.append_nil, Nat.reduceEqDiff]
            exact ⟨_, rfl⟩
        | [.non], e, hl => cases e
        | [.bl _], e, hl => cases e
        | [.int _], e, hl => cases e
        | [.tup _], e, hl => cases e
        | [.ref _], e, hl => cases e
        | [.non, _, _], e, hl => cases e
        | [.bl _, _, _], e, hl => cases e
        | [.int _, _, _], e, hl => cases e
        | [.tup _, _, _], e, hl => cases e
        | [.ref _, _, _], e, hl => cases e
        | [.non, _, _, _], e, hl => cases e
        | [.bl _, _, _, _], e, hl => cases e
        | [.int _, _, _, _], e, hl => cases e
        | [.tup _, _, _, _], e, hl => cases e
        | [.ref _, _, _, _], e, hl => cases e
        | [.non, _, _, _, _], e, hl => cases e
        | [.bl _, _, _, _, _], e, hl => cases e
        | [.int _, _, _, _, _], e, hl => cases e
        | [.tup _, _, _, _, _], e, hl => cases e
        | [.ref _, _, _, _, _], e, hl => cases e
      | _ =>
        cases e
        simp only [mSeq, mExpr, mRet, mRetN, mIfS, mSet, mAug, mCall, mCons, mNil, mVar, mC, mOp, mUn, mApp, mTup, mLst, mNx, mRaise, mAnd, mOr, mNot, mIf, tstB, tstAnd, tstOr, tstNot, mChain, bind_ok, bind_err, bind_no, toS_ok, toS_err, nox_ok, fin_nx, fin_rt, fin_err, startL, List.map_cons, List.map_nil, List.length_cons, List.length_nil, List.cons_append, List.nil_append, List.getElem?_cons_zero, List.getElem?_cons_succ, List.set_cons_zero, List.set_cons_succ, List.replicate_succ, List.replicate_zero, Nat.zero_add, Nat.reduceAdd, Nat.reduceSub, Nat.add_one_sub_one, Nat.sub_self, if_true, if_false, ite_true, ite_false, Bool.false_eq_true, reduceCtorEq, if_pos, Nat.reduceEqDiff, Nat.reduceLeDiff, decide_true, decide_false, Bool.not_true, Bool.not_false, lke, isTup, and_false]
        exact ⟨_, rfl⟩
    · rw [if_neg h1] at e
      cases e
      simp only [mSeq, mExpr, mRet, mRetN, mIfS, mSet, mAug, mCall, mCons, mNil, mVar, mC, mOp, mUn, mApp, mTup, mLst, mNx, mRaise, mAnd, mOr, mNot, mIf, tstB, tstAnd, tstOr, tstNot, mChain, bind_ok, bind_err, bind_no, toS_ok, toS_err, nox_ok, fin_nx, fin_rt, fin_err, startL, List.map_cons, List.map_nil, List.length_cons, List.length_nil, List.cons_append, List.nil_append, List.getElem?_cons_zero, List.getElem?_cons_succ, List.set_cons_zero, List.set_cons_succ, List.replicate_succ, List.replicate_zero, Nat.zero_add, Nat.reduceAdd, Nat.reduceSub, Nat.add_one_sub_one, Nat.sub_self, if_true, if_false, ite_true, ite_false, Bool.false_eq_true, reduceCtorEq, if_pos, Nat.reduceEqDiff, Nat.reduceLeDiff, decide_true, decide_false, Bool.not_true, Bool.not_false, lke, h1, false_and]
      exact ⟨_, rfl⟩
end
end Pr

set_option Elab.async false
set_option linter.all false
set_option maxRecDepth 100000
set_option maxHeartbeats 4000000
/-! what the checks of models do -/
namespace Pr
open PySem PySem.Spec PyProof.Rows L2 Core
section
variable {s : Mem} {k : Nat}
/-- the end of a check: the store has only grown -/
def ChkR (s : Mem) (b : Bool) (res : Core.R D) : Prop := ∃ t : Mem, res = if b = true then .ok .non (s ++ t) else .err "BadModel" (s ++ t)
def ChkS (s : Mem) (Lk : Core.Loc → Prop) (b : Bool) (res : Core.RS) : Prop := ∃ (l : Core.Loc) (t : Mem), (res = if b = true then .nx l (s ++ t) else .err "BadModel" l (s ++ t)) ∧ Lk l
def allV (V : D → Option Bool) : List D → Option Bool
  | [] => some true
  | d :: r => match V d with
    | some true => allV V r
    | x => x
theorem seq_nx {a b : SM} {l l1 : Core.Loc} {s s1 : Mem} (h : a l s = .nx l1 s1) : mSeq a b l s = b l1 s1 := by unfold mSeq; rw [h]
theorem seq_err {a b : SM} {c : Str} {l l1 : Core.Loc} {s s1 : Mem} (h : a l s = .err c l1 s1) : mSeq a b l s = .err c l1 s1 := by unfold mSeq; rw [h]
theorem seq_rt {a b : SM} {d : D} {l : Core.Loc} {s s1 : Mem} (h : a l s = .rt d s1) : mSeq a b l s = .rt d s1 := by unfold mSeq; rw [h]
theorem for_ref {me : EM} {g : TGm} {body : SM} {l : Core.Loc} {s s1 : Mem} {m : Nat} {ds : List D} (h : me l s = .ok (.ref m) s1) (hr : rdL s1 m = some ds) : mFor (iSeq me) g body l s = loopS (okL m ds) g body ds l s1 := by
  unfold mFor iSeq; rw [h]; simp only [bind_ok, hr, toS_ok]
theorem for_tup {me : EM} {g : TGm} {body : SM} {l : Core.Loc} {s s1 : Mem} {ds : List D} (h : me l s = .ok (.tup ds) s1) : mFor (iSeq me) g body l s = loopS (fun _ => true) g body ds l s1 := by
  unfold mFor iSeq; rw [h]; rfl
theorem app_app {s t u : Mem} : s ++ t ++ u = s ++ (t ++ u) := List.append_assoc s t u
theorem loop_chk {ok : Mem → Bool} {i : Nat} {body : SM} {V : D → Option Bool} {Lk : Core.Loc → Prop} : ∀ (ds : List D) (l : Core.Loc) (t : Mem) (b : Bool), (∀ t, ok (s ++ t) = true) → (∀ d ∈ ds, ∀ l t b, Lk l → V d = some b → ChkS (s ++ t) Lk b (body (l.set i (some d)) (s ++ t))) →
    Lk l → allV V ds = some b → ChkS (s ++ t) Lk b (loopS ok (gmName i) body ds l (s ++ t))
  | [], l, t, b, hok, hb, hl, e => by
    cases e
    unfold loopS
    rw [if_pos (hok t)]
    exact ⟨l, [], by simp, hl⟩
  | d :: ds, l, t, b, hok, hb, hl, e => by
    unfold loopS
    rw [if_pos (hok t)]
    unfold allV at e
    cases q : V d with
    | none => rw [q] at e; cases e
    | some b' =>
      obtain ⟨l1, t1, h1, h2⟩ := hb d List.mem_cons_self l t b' hl q
      rw [q] at e
      dsimp only [gmName]
      rw [h1]
      cases b' with
      | false => cases e; exact ⟨l1, t1, rfl, h2⟩
      | true =>
        have e : allV V ds = some b := e
        have key := loop_chk ds l1 (t ++ t1) b hok (fun d hd => hb d (List.mem_cons_of_mem _ hd)) h2 e
        obtain ⟨l2, t2, h3, h4⟩ := key
        rw [if_pos rfl]
        dsimp only
        rw [app_app, h3]
        exact ⟨l2, t1 ++ t2, by simp only [List.append_assoc], h4⟩
/-- a comprehension whose element is reckoned without the store -/
theorem lc_map {ok : Mem → Bool} {g : TGm} {vs : List Nat} {l : Core.Loc} {me : EM} {F : D → D} : ∀ (ds : List D) (acc : List D), (∀ u, ok (s ++ [u]) = true) → (∀ d ∈ ds, ∃ l1, g d (wipeL l vs) = some l1 ∧ ∀ u, me l1 (s ++ [u]) = .ok (F d) (s ++ [u])) → acc.length + ds.length ≤ 100000 →
    loopC ok g vs l tYes' me s.length ds (s ++ [.lst acc]) = .ok (.ref s.length) (s ++ [.lst (acc ++ ds.map F)])
  | [], acc, hok, hg, hlen => by
    unfold loopC
    rw [if_pos (hok _), List.map_nil, List.append_nil]
  | d :: ds, acc, hok, hg, hlen => by
    obtain ⟨l1, h1, h2⟩ := hg d List.mem_cons_self
    unfold loopC
    rw [if_pos (hok _), h1]
    have e1 : (s ++ [Ob.lst acc])[s.length]? = some (Ob.lst acc) := by simp
    have e2 : acc.length < 100000 := by simp only [List.length_cons] at hlen; omega
    simp only [tYes', nox_ok, if_true, h2, e1, e2]
    have e3 : (s ++ [Ob.lst acc]).set s.length (Ob.lst (acc ++ [F d])) = s ++ [Ob.lst (acc ++ [F d])] := by simp
    rw [e3, lc_map ds (acc ++ [F d]) hok (fun d hd => hg d (List.mem_cons_of_mem _ hd)) (by simp only [List.length_cons, List.length_append, List.length_nil] at hlen ⊢; omega)]
    simp
/-! ### different names -/
def strOf : D → Str
  | .str z => z
  | _ => ""
def diffB (ds : List D) : Bool := ds.all nameB && decide ((metS (ds.map strOf)).length = ds.length)
theorem strsD_of : ∀ {ds : List D}, ds.all nameB = true → strsD ds = some (ds.map strOf)
  | [], h => rfl
  | d :: r, h => by
    rw [List.all_cons, Bool.and_eq_true] at h
    cases d with
    | str z => unfold strsD; rw [strsD_of h.2]; rfl
    | _ => cases h.1
theorem allV_some (P : D → Bool) : ∀ ds : List D, allV (fun d => some (P d)) ds = some (ds.all P)
  | [] => rfl
  | d :: r => by
    unfold allV
    rw [List.all_cons]
    cases h : P d with
    | true => simp only [h]; rw [allV_some P r]; rfl
    | false => rfl
theorem c_diff {m : Nat} {ds : List D} (h : s[m]? = some (.lst ds)) (hl : livs s ds = true) (hn : ds.length ≤ 1000) : ChkR s (diffB ds) (call (k + 2) .require_different_names [.ref m] s) := by
  show ChkR s (diffB ds) (Core.fin (m_require_different_names (call (k + 1)) [some (.ref m), none] s))
  have hs : ∀ t : Mem, (s ++ t)[m]? = some (.lst ds) := fun t => by rw [List.getElem?_append_left (List.getElem?_eq_some_iff.mp h).1]; exact h
  have hr : ∀ t : Mem, rdL (s ++ t) m = some ds := fun t => by unfold rdL; rw [hs t]
  have hr0 : rdL s m = some ds := by have := hr []; rwa [List.append_nil] at this
  unfold m_require_different_names
  have key := loop_chk (s := s) (ok := okL m ds) (i := 1) (body := mExpr (mCall 1 (call (k + 1) .require) (mCons (mCall 1 (call (k + 1) .is_name) (mCons (mVar 1) mNil)) mNil))) (V := fun d => some (nameB d)) (Lk := fun l => ∃ o, l = [some (.ref m), o]) ds [some (.ref m), none] [] (ds.all nameB) (fun t => okL_of (hr t))
    (fun d hd l t b ⟨o, hl1⟩ e => by
      subst hl1
      cases e
      have hd' : liv (s ++ t) d = true := liv_ext app_lst (livs_mem hl d hd)
      simp only [mSeq, mExpr, mRet, mRetN, mIfS, mSet, mAug, mCall, mCons, mNil, mVar, mC, mOp, mUn, mApp, mTup, mLst, mNx, mRaise, mAnd, mOr, mNot, mIf, tstB, tstAnd, tstOr, tstNot, mChain, bind_ok, bind_err, bind_no, toS_ok, toS_err, nox_ok, fin_nx, fin_rt, fin_err, startL, List.map_cons, List.map_nil, List.length_cons, List.length_nil, List.cons_append, List.nil_append, List.getElem?_cons_zero, List.getElem?_cons_succ, List.set_cons_zero, List.set_cons_succ, List.replicate_succ, List.replicate_zero, Nat.zero_add, Nat.reduceAdd, Nat.reduceSub, Nat.add_one_sub_one, Nat.sub_self, if_true, if_false, ite_true, ite_false, Bool.false_eq_true, reduceCtorEq, if_pos, Nat.reduceEqDiff, Nat.reduceLeDiff, decide_true, decide_false, Bool.not_true, Bool.not_false, c_is_name hd', c_require]
      cases nameB d <;> simp only [mSeq, mExpr, mRet, mRetN, mIfS, mSet, mAug, mCall, mCons, mNil, mVar, mC, mOp, mUn, mApp, mTup, mLst, mNx, mRaise, mAnd, mOr, mNot, mIf, tstB, tstAnd, tstOr, tstNot, mChain, bind_ok, bind_err, bind_no, toS_ok, toS_err, nox_ok, fin_nx, fin_rt, fin_err, startL, List.map_cons, List.map_nil, List.length_cons, List.length_nil, List.cons_append, List.nil_append, List.getElem?_cons_zero, List.getElem?_cons_succ, List.set_cons_zero, List.set_cons_succ, List.replicate_succ, List.replicate_zero, Nat.zero_add, Nat.reduceAdd, Nat.reduceSub, Nat.add_one_sub_one, Nat.sub_self, if_true, if_false, ite_true, ite_false, Bool.false_eq_true, reduceCtorEq, if_pos, Nat.reduceEqDiff, Nat.reduceLeDiff, decide_true, decide_false, Bool.not_true, Bool.not_false]
      · exact ⟨[some (.ref m), some d], [], by simp, some d, rfl⟩
      · exact ⟨[some (.ref m), some d], [], by simp, some d, rfl⟩) ⟨_, rfl⟩ (allV_some nameB ds)
  obtain ⟨l, t, h1, o, rfl⟩ := key
  simp only [List.append_nil] at h1
  have h2 : mFor (iSeq (mVar 0)) (gmName 1) (mExpr (mCall 1 (call (k + 1) .require) (mCons (mCall 1 (call (k + 1) .is_name) (mCons (mVar 1) mNil)) mNil))) [some (.ref m), none] s = _ := (for_ref (by rfl) hr0).trans h1
  cases hn1 : ds.all nameB with
  | false =>
    rw [hn1, if_neg Bool.false_ne_true] at h2
    rw [seq_err h2]
    refine ⟨t, ?_⟩
    unfold diffB
    rw [hn1]
    rfl
  | true =>
    rw [hn1, if_pos rfl] at h2
    rw [seq_nx h2]
    have e1 : seqD (s ++ t) (.ref m) = some ds := hr t
    have e2 : (ds.map strOf).length ≤ 1000 := by rw [List.length_map]; exact hn
    simp only [mSeq, mExpr, mRet, mRetN, mIfS, mSet, mAug, mCall, mCons, mNil, mVar, mC, mOp, mUn, mApp, mTup, mLst, mNx, mRaise, mAnd, mOr, mNot, mIf, tstB, tstAnd, tstOr, tstNot, mChain, bind_ok, bind_err, bind_no, toS_ok, toS_err, nox_ok, fin_nx, fin_rt, fin_err, startL, List.map_cons, List.map_nil, List.length_cons, List.length_nil, List.cons_append, List.nil_append, List.getElem?_cons_zero, List.getElem?_cons_succ, List.set_cons_zero, List.set_cons_succ, List.replicate_succ, List.replicate_zero, Nat.zero_add, Nat.reduceAdd, Nat.reduceSub, Nat.add_one_sub_one, Nat.sub_self, if_true, if_false, ite_true, ite_false, Bool.false_eq_true, reduceCtorEq, if_pos, Nat.reduceEqDiff, Nat.reduceLeDiff, decide_true, decide_false, Bool.not_true, Bool.not_false, gLenSet, e1, strsD_of hn1, if_pos e2, gLen, gEq, gEqB, c_require]
    have e4 : diffB ds = decide ((metS (ds.map strOf)).length = ds.length) := by unfold diffB; rw [hn1, Bool.true_and]
    have e5 : (((metS (ds.map strOf)).length : Int) == (ds.length : Int)) = diffB ds := by
      rw [e4, Bool.eq_iff_iff, beq_iff_eq, decide_eq_true_eq]; omega
    rw [e5]
    cases diffB ds <;> simp only [mSeq, mExpr, mRet, mRetN, mIfS, mSet, mAug, mCall, mCons, mNil, mVar, mC, mOp, mUn, mApp, mTup, mLst, mNx, mRaise, mAnd, mOr, mNot, mIf, tstB, tstAnd, tstOr, tstNot, mChain, bind_ok, bind_err, bind_no, toS_ok, toS_err, nox_ok, fin_nx, fin_rt, fin_err, startL, List.map_cons, List.map_nil, List.length_cons, List.length_nil, List.cons_append, List.nil_append, List.getElem?_cons_zero, List.getElem?_cons_succ, List.set_cons_zero, List.set_cons_succ, List.replicate_succ, List.replicate_zero, Nat.zero_add, Nat.reduceAdd, Nat.reduceSub, Nat.add_one_sub_one, Nat.sub_self, if_true, if_false, ite_true, ite_false, Bool.false_eq_true, reduceCtorEq, if_pos, Nat.reduceEqDiff, Nat.reduceLeDiff, decide_true, decide_false, Bool.not_true, Bool.not_false]
    · exact ⟨t, rfl⟩
    · exact ⟨t, rfl⟩
/-! ### fields -/
theorem at_nat {α : Type} {xs : List α} {i : Nat} {x : α} (h : xs[i]? = some x) : atI xs (i : Int) = some x := by
  have hi := (List.getElem?_eq_some_iff.mp h).1
  unfold atI ixN
  rw [if_pos (by omega), if_pos (by omega), Option.bind_some, Int.toNat_natCast]
  exact h
theorem ix_nat {xs : List D} {i : Nat} {x : D} (h : xs[i]? = some x) : gIx (.tup xs) (.int i) s = .ok x s := by
  unfold gIx
  dsimp only [seqD]
  rw [at_nat h]
theorem ix0 {a : D} {r : List D} : gIx (.tup (a :: r)) (.int 0) s = .ok a s := ix_nat (i := 0) rfl
theorem ix1 {a b : D} {r : List D} : gIx (.tup (a :: b :: r)) (.int 1) s = .ok b s := ix_nat (i := 1) rfl
theorem ix2 {a b c : D} {r : List D} : gIx (.tup (a :: b :: c :: r)) (.int 2) s = .ok c s := ix_nat (i := 2) rfl
def fieldB : D → Bool
  | .tup [_, b, c] => tyI b (-1000000) 1000000 && (match b with
    | .int lo => tyI c lo 1000000
    | _ => false)
  | _ => false
theorem not3 {xs : List D} (h : ∀ a b c, xs ≠ [a, b, c]) : tupB (.tup xs) 3 3 = false ∧ fieldB (.tup xs) = false := by
  match xs, h with
  | [], _ => exact ⟨by decide, rfl⟩
  | [_], _ => exact ⟨show (decide ((3 : Int) ≤ ((1 : Nat) : Int)) && decide (((1 : Nat) : Int) ≤ 3)) = false from by decide, rfl⟩
  | [_, _], _ => exact ⟨show (decide ((3 : Int) ≤ ((2 : Nat) : Int)) && decide (((2 : Nat) : Int) ≤ 3)) = false from by decide, rfl⟩
  | [a, b, c], h => exact absurd rfl (h a b c)
  | a :: b :: c :: d :: r, _ =>
    refine ⟨?_, rfl⟩
    have : decide (((r.length + 1 + 1 + 1 + 1 : Nat) : Int) ≤ 3) = false := decide_eq_false (by omega)
    show (decide ((3 : Int) ≤ ((r.length + 1 + 1 + 1 + 1 : Nat) : Int)) && decide (((r.length + 1 + 1 + 1 + 1 : Nat) : Int) ≤ 3)) = false
    rw [this, Bool.and_false]
theorem c_check_field {d : D} (h : liv s d = true) : call (k + 3) .check_field [d] s = if fieldB d = true then .ok .non s else .err "BadModel" s := by
  show Core.fin (m_check_field (call (k + 2)) [some d, none, none] s) = _
  have rq : call (k + 2) .require_tuple [d, .int 3, .int 3] s = _ := c_require_tuple h 3 3
  unfold m_check_field
  simp only [mSeq, mExpr, mRet, mRetN, mIfS, mSet, mAug, mCall, mCons, mNil, mVar, mC, mOp, mUn, mApp, mTup, mLst, mNx, mRaise, mAnd, mOr, mNot, mIf, tstB, tstAnd, tstOr, tstNot, mChain, bind_ok, bind_err, bind_no, toS_ok, toS_err, nox_ok, fin_nx, fin_rt, fin_err, startL, List.map_cons, List.map_nil, List.length_cons, List.length_nil, List.cons_append, List.nil_append, List.getElem?_cons_zero, List.getElem?_cons_succ, List.set_cons_zero, List.set_cons_succ, List.replicate_succ, List.replicate_zero, Nat.zero_add, Nat.reduceAdd, Nat.reduceSub, Nat.add_one_sub_one, Nat.sub_self, if_true, if_false, ite_true, ite_false, Bool.false_eq_true, reduceCtorEq, if_pos, Nat.reduceEqDiff, Nat.reduceLeDiff, decide_true, decide_false, Bool.not_true, Bool.not_false, rq]
  by_cases hd : ∃ a b c, d = .tup [a, b, c]
  · obtain ⟨a, b, c, rfl⟩ := hd
    have hb : liv s b = true := livs_mem (xs := [a, b, c]) h b (by simp)
    have hc : liv s c = true := livs_mem (xs := [a, b, c]) h c (by simp)
    obtain ⟨tb, eb⟩ := liv_ty hb
    obtain ⟨tc, ec⟩ := liv_ty hc
    have t3 : tupB (.tup [a, b, c]) 3 3 = true := by show (decide ((3 : Int) ≤ (3 : Nat)) && decide (((3 : Nat) : Int) ≤ 3)) = true; decide
    simp only [mSeq, mExpr, mRet, mRetN, mIfS, mSet, mAug, mCall, mCons, mNil, mVar, mC, mOp, mUn, mApp, mTup, mLst, mNx, mRaise, mAnd, mOr, mNot, mIf, tstB, tstAnd, tstOr, tstNot, mChain, bind_ok, bind_err, bind_no, toS_ok, toS_err, nox_ok, fin_nx, fin_rt, fin_err, startL, List.map_cons, List.map_nil, List.length_cons, List.length_nil, List.cons_append, List.nil_append, List.getElem?_cons_zero, List.getElem?_cons_succ, List.set_cons_zero, List.set_cons_succ, List.replicate_succ, List.replicate_zero, Nat.zero_add, Nat.reduceAdd, Nat.reduceSub, Nat.add_one_sub_one, Nat.sub_self, if_true, if_false, ite_true, ite_false, Bool.false_eq_true, reduceCtorEq, if_pos, Nat.reduceEqDiff, Nat.reduceLeDiff, decide_true, decide_false, Bool.not_true, Bool.not_false, t3, ix1, ix2, gNeg]
    rw [show k + 2 = (k + 1) + 1 from rfl, c_is_integer eb]
    simp only [mSeq, mExpr, mRet, mRetN, mIfS, mSet, mAug, mCall, mCons, mNil, mVar, mC, mOp, mUn, mApp, mTup, mLst, mNx, mRaise, mAnd, mOr, mNot, mIf, tstB, tstAnd, tstOr, tstNot, mChain, bind_ok, bind_err, bind_no, toS_ok, toS_err, nox_ok, fin_nx, fin_rt, fin_err, startL, List.map_cons, List.map_nil, List.length_cons, List.length_nil, List.cons_append, List.nil_append, List.getElem?_cons_zero, List.getElem?_cons_succ, List.set_cons_zero, List.set_cons_succ, List.replicate_succ, List.replicate_zero, Nat.zero_add, Nat.reduceAdd, Nat.reduceSub, Nat.add_one_sub_one, Nat.sub_self, if_true, if_false, ite_true, ite_false, Bool.false_eq_true, reduceCtorEq, if_pos, Nat.reduceEqDiff, Nat.reduceLeDiff, decide_true, decide_false, Bool.not_true, Bool.not_false, c_require]
    cases hi : tyI b (-1000000) 1000000 with
    | false => simp only [mSeq, mExpr, mRet, mRetN, mIfS, mSet, mAug, mCall, mCons, mNil, mVar, mC, mOp, mUn, mApp, mTup, mLst, mNx, mRaise, mAnd, mOr, mNot, mIf, tstB, tstAnd, tstOr, tstNot, mChain, bind_ok, bind_err, bind_no, toS_ok, toS_err, nox_ok, fin_nx, fin_rt, fin_err, startL, List.map_cons, List.map_nil, List.length_cons, List.length_nil, List.cons_append, List.nil_append, List.getElem?_cons_zero, List.getElem?_cons_succ, List.set_cons_zero, List.set_cons_succ, List.replicate_succ, List.replicate_zero, Nat.zero_add, Nat.reduceAdd, Nat.reduceSub, Nat.add_one_sub_one, Nat.sub_self, if_true, if_false, ite_true, ite_false, Bool.false_eq_true, reduceCtorEq, if_pos, Nat.reduceEqDiff, Nat.reduceLeDiff, decide_true, decide_false, Bool.not_true, Bool.not_false, fieldB, hi, Bool.false_and]
    | true =>
      cases b with
      | int lo =>
        simp only [mSeq, mExpr, mRet, mRetN, mIfS, mSet, mAug, mCall, mCons, mNil, mVar, mC, mOp, mUn, mApp, mTup, mLst, mNx, mRaise, mAnd, mOr, mNot, mIf, tstB, tstAnd, tstOr, tstNot, mChain, bind_ok, bind_err, bind_no, toS_ok, toS_err, nox_ok, fin_nx, fin_rt, fin_err, startL, List.map_cons, List.map_nil, List.length_cons, List.length_nil, List.cons_append, List.nil_append, List.getElem?_cons_zero, List.getElem?_cons_succ, List.set_cons_zero, List.set_cons_succ, List.replicate_succ, List.replicate_zero, Nat.zero_add, Nat.reduceAdd, Nat.reduceSub, Nat.add_one_sub_one, Nat.sub_self, if_true, if_false, ite_true, ite_false, Bool.false_eq_true, reduceCtorEq, if_pos, Nat.reduceEqDiff, Nat.reduceLeDiff, decide_true, decide_false, Bool.not_true, Bool.not_false, c_is_integer ec, c_require, fieldB, hi, Bool.true_and]
        cases tyI c lo 1000000 <;> simp only [mSeq, mExpr, mRet, mRetN, mIfS, mSet, mAug, mCall, mCons, mNil, mVar, mC, mOp, mUn, mApp, mTup, mLst, mNx, mRaise, mAnd, mOr, mNot, mIf, tstB, tstAnd, tstOr, tstNot, mChain, bind_ok, bind_err, bind_no, toS_ok, toS_err, nox_ok, fin_nx, fin_rt, fin_err, startL, List.map_cons, List.map_nil, List.length_cons, List.length_nil, List.cons_append, List.nil_append, List.getElem?_cons_zero, List.getElem?_cons_succ, List.set_cons_zero, List.set_cons_succ, List.replicate_succ, List.replicate_zero, Nat.zero_add, Nat.reduceAdd, Nat.reduceSub, Nat.add_one_sub_one, Nat.sub_self, if_true, if_false, ite_true, ite_false, Bool.false_eq_true, reduceCtorEq, if_pos, Nat.reduceEqDiff, Nat.reduceLeDiff, decide_true, decide_false, Bool.not_true, Bool.not_false]
      | _ => cases hi
  · have f0 : tupB d 3 3 = false ∧ fieldB d = false := by
      cases d with
      | tup xs => exact not3 fun a b c e => hd ⟨a, b, c, by rw [e]⟩
      | _ => exact ⟨rfl, rfl⟩
    simp only [mSeq, mExpr, mRet, mRetN, mIfS, mSet, mAug, mCall, mCons, mNil, mVar, mC, mOp, mUn, mApp, mTup, mLst, mNx, mRaise, mAnd, mOr, mNot, mIf, tstB, tstAnd, tstOr, tstNot, mChain, bind_ok, bind_err, bind_no, toS_ok, toS_err, nox_ok, fin_nx, fin_rt, fin_err, startL, List.map_cons, List.map_nil, List.length_cons, List.length_nil, List.cons_append, List.nil_append, List.getElem?_cons_zero, List.getElem?_cons_succ, List.set_cons_zero, List.set_cons_succ, List.replicate_succ, List.replicate_zero, Nat.zero_add, Nat.reduceAdd, Nat.reduceSub, Nat.add_one_sub_one, Nat.sub_self, if_true, if_false, ite_true, ite_false, Bool.false_eq_true, reduceCtorEq, if_pos, Nat.reduceEqDiff, Nat.reduceLeDiff, decide_true, decide_false, Bool.not_true, Bool.not_false, f0.1, f0.2]
end
end Pr

set_option Elab.async false
set_option linter.all false
set_option maxRecDepth 100000
set_option maxHeartbeats 4000000
/-! what the checks of kinds and models do -/
namespace Pr
open PySem PySem.Spec PyProof.Rows L2 Core
section
variable {s : Mem} {k : Nat}
def hdD : D → D
  | .tup (a :: _) => a
  | d => d
theorem lc_tup {me el : EM} {g : TGm} {vs : List Nat} {l : Core.Loc} {s s1 : Mem} {tt : TM} {ds : List D} (h : me l s = .ok (.tup ds) s1) : mLc (iSeq me) g vs tt el l s = loopC (fun _ => true) g vs l tt el s1.length ds (s1 ++ [.lst []]) := by
  unfold mLc iSeq; rw [h]; rfl
theorem tup_len {xs : List D} {lo hi : Int} (h : tupB (.tup xs) lo hi = true) : lo ≤ xs.length ∧ (xs.length : Int) ≤ hi := by
  have h : (decide (lo ≤ (xs.length : Int)) && decide ((xs.length : Int) ≤ hi)) = true := h
  rw [Bool.and_eq_true, decide_eq_true_eq, decide_eq_true_eq] at h
  exact h
theorem field_is {d : D} (h : fieldB d = true) : ∃ a b c, d = .tup [a, b, c] := by
  unfold fieldB at h
  split at h
  · exact ⟨_, _, _, rfl⟩
  · cases h
def fieldsB (d : D) : Bool := tupB d 1 4 && (match d with
  | .tup xs => xs.all fieldB && diffB (xs.map hdD)
  | _ => false)
theorem livs_hd {xs : List D} (h : livs s xs = true) : livs s (xs.map hdD) = true := by
  induction xs with
  | nil => rfl
  | cons x r ih =>
    unfold livs at h
    rw [Bool.and_eq_true] at h
    show (liv s (hdD x) && livs s (r.map hdD)) = true
    rw [ih h.2, Bool.and_true]
    cases x with
    | tup ys =>
      cases ys with
      | nil => exact h.1
      | cons y ys => exact livs_mem (xs := y :: ys) h.1 y List.mem_cons_self
    | _ => exact h.1
theorem last_at {u : Ob} : (s ++ [u])[s.length]? = some u := by simp
theorem c_check_fields {d : D} (h : liv s d = true) : ChkR s (fieldsB d) (call (k + 4) .check_fields [d] s) := by
  show ChkR s (fieldsB d) (Core.fin (m_check_fields (call (k + 3)) [some d, none, none, none, none] s))
  have rq : call (k + 3) .require_tuple [d, .int 1, .int 4] s = _ := c_require_tuple (k := k + 1) h 1 4
  unfold m_check_fields
  cases ht : tupB d 1 4 with
  | false =>
    rw [seq_err (c := "BadModel") (l1 := [some d, none, none, none, none]) (s1 := s) (by simp only [mSeq, mExpr, mRet, mRetN, mIfS, mSet, mAug, mCall, mCons, mNil, mVar, mC, mOp, mUn, mApp, mTup, mLst, mNx, mRaise, mAnd, mOr, mNot, mIf, tstB, tstAnd, tstOr, tstNot, mChain, bind_ok, bind_err, bind_no, toS_ok, toS_err, nox_ok, fin_nx, fin_rt, fin_err, startL, List.map_cons, List.map_nil, List.length_cons, List.length_nil, List.cons_append, List.nil_append, List.getElem?_cons_zero, List.getElem?_cons_succ, List.set_cons_zero, List.set_cons_succ, List.replicate_succ, List.replicate_zero, Nat.zero_add, Nat.reduceAdd, Nat.reduceSub, Nat.add_one_sub_one, Nat.sub_self, if_true, if_false, ite_true, ite_false, Bool.false_eq_true, reduceCtorEq, if_pos, Nat.reduceEqDiff, Nat.reduceLeDiff, decide_true, decide_false, Bool.not_true, Bool.not_false, rq, ht])]
    exact ⟨[], by unfold fieldsB; rw [ht]; simp [fin_err]⟩
  | true =>
    rw [seq_nx (l1 := [some d, none, none, none, none]) (s1 := s) (by simp only [mSeq, mExpr, mRet, mRetN, mIfS, mSet, mAug, mCall, mCons, mNil, mVar, mC, mOp, mUn, mApp, mTup, mLst, mNx, mRaise, mAnd, mOr, mNot, mIf, tstB, tstAnd, tstOr, tstNot, mChain, bind_ok, bind_err, bind_no, toS_ok, toS_err, nox_ok, fin_nx, fin_rt, fin_err, startL, List.map_cons, List.map_nil, List.length_cons, List.length_nil, List.cons_append, List.nil_append, List.getElem?_cons_zero, List.getElem?_cons_succ, List.set_cons_zero, List.set_cons_succ, List.replicate_succ, List.replicate_zero, Nat.zero_add, Nat.reduceAdd, Nat.reduceSub, Nat.add_one_sub_one, Nat.sub_self, if_true, if_false, ite_true, ite_false, Bool.false_eq_true, reduceCtorEq, if_pos, Nat.reduceEqDiff, Nat.reduceLeDiff, decide_true, decide_false, Bool.not_true, Bool.not_false, rq, ht])]
    cases d with
    | tup xs =>
      have hl : livs s xs = true := h
      have hf : fieldsB (.tup xs) = (xs.all fieldB && diffB (xs.map hdD)) := by unfold fieldsB; rw [ht]; rfl
      obtain ⟨ln1, ln2⟩ := tup_len ht
      have key := loop_chk (s := s) (ok := fun _ => true) (i := 1) (body := mExpr (mCall 1 (call (k + 3) .check_field) (mCons (mVar 1) mNil))) (V := fun d => some (fieldB d)) (Lk := fun l => ∃ o, l = [some (.tup xs), o, none, none, none]) xs [some (.tup xs), none, none, none, none] [] (xs.all fieldB) (fun t => rfl)
        (fun d hd l t b ⟨o, hl1⟩ e => by
          subst hl1
          cases e
          have hd' : liv (s ++ t) d = true := liv_ext app_lst (livs_mem hl d hd)
          simp only [mSeq, mExpr, mRet, mRetN, mIfS, mSet, mAug, mCall, mCons, mNil, mVar, mC, mOp, mUn, mApp, mTup, mLst, mNx, mRaise, mAnd, mOr, mNot, mIf, tstB, tstAnd, tstOr, tstNot, mChain, bind_ok, bind_err, bind_no, toS_ok, toS_err, nox_ok, fin_nx, fin_rt, fin_err, startL, List.map_cons, List.map_nil, List.length_cons, List.length_nil, List.cons_append, List.nil_append, List.getElem?_cons_zero, List.getElem?_cons_succ, List.set_cons_zero, List.set_cons_succ, List.replicate_succ, List.replicate_zero, Nat.zero_add, Nat.reduceAdd, Nat.reduceSub, Nat.add_one_sub_one, Nat.sub_self, if_true, if_false, ite_true, ite_false, Bool.false_eq_true, reduceCtorEq, if_pos, Nat.reduceEqDiff, Nat.reduceLeDiff, decide_true, decide_false, Bool.not_true, Bool.not_false, c_check_field hd']
          cases fieldB d <;> simp only [mSeq, mExpr, mRet, mRetN, mIfS, mSet, mAug, mCall, mCons, mNil, mVar, mC, mOp, mUn, mApp, mTup, mLst, mNx, mRaise, mAnd, mOr, mNot, mIf, tstB, tstAnd, tstOr, tstNot, mChain, bind_ok, bind_err, bind_no, toS_ok, toS_err, nox_ok, fin_nx, fin_rt, fin_err, startL, List.map_cons, List.map_nil, List.length_cons, List.length_nil, List.cons_append, List.nil_append, List.getElem?_cons_zero, List.getElem?_cons_succ, List.set_cons_zero, List.set_cons_succ, List.replicate_succ, List.replicate_zero, Nat.zero_add, Nat.reduceAdd, Nat.reduceSub, Nat.add_one_sub_one, Nat.sub_self, if_true, if_false, ite_true, ite_false, Bool.false_eq_true, reduceCtorEq, if_pos, Nat.reduceEqDiff, Nat.reduceLeDiff, decide_true, decide_false, Bool.not_true, Bool.not_false]
          · exact ⟨[some (.tup xs), some d, none, none, none], [], by simp, some d, rfl⟩
          · exact ⟨[some (.tup xs), some d, none, none, none], [], by simp, some d, rfl⟩) ⟨_, rfl⟩ (allV_some fieldB xs)
      obtain ⟨l, t, h1, o, rfl⟩ := key
      simp only [List.append_nil] at h1
      have h2 := (for_tup (me := mVar 0) (l := [some (.tup xs), none, none, none, none]) (s1 := s) rfl).trans h1
      rw [hf]
      cases hn1 : xs.all fieldB with
      | false => rw [hn1, if_neg Bool.false_ne_true] at h2; rw [seq_err h2]; exact ⟨t, rfl⟩
      | true =>
        rw [hn1, if_pos rfl] at h2
        rw [seq_nx h2, Bool.true_and]
        have lc := lc_map (s := s ++ t) (ok := fun _ => true) (g := gmTup 3 (gmCons (gmName 2) (gmCons (gmName 3) (gmCons (gmName 4) gmNil)))) (vs := [2, 3, 4]) (l := [some (.tup xs), o, none, none, none]) (me := mVar 2) (F := hdD) xs [] (fun _ => rfl) (fun d hd => by
          obtain ⟨a, b, c, rfl⟩ := field_is (List.all_eq_true.mp hn1 d hd)
          exact ⟨[some (.tup xs), o, some a, some b, some c], rfl, fun u => rfl⟩) (by simp only [List.length_nil]; omega)
        rw [List.nil_append] at lc
        have e1 : mLc (iSeq (mVar 0)) (gmTup 3 (gmCons (gmName 2) (gmCons (gmName 3) (gmCons (gmName 4) gmNil)))) [2, 3, 4] tYes' (mVar 2) [some (.tup xs), o, none, none, none] (s ++ t) = _ := (lc_tup (s1 := s ++ t) rfl).trans lc
        have dn := c_diff (s := s ++ t ++ [.lst (xs.map hdD)]) (k := k + 1) (m := (s ++ t).length) (ds := xs.map hdD) last_at (livs_hd (livs_ext app_lst (livs_ext app_lst hl))) (by rw [List.length_map]; omega)
        obtain ⟨t2, dn⟩ := dn
        simp only [mSeq, mExpr, mRet, mRetN, mIfS, mSet, mAug, mCall, mCons, mNil, mVar, mC, mOp, mUn, mApp, mTup, mLst, mNx, mRaise, mAnd, mOr, mNot, mIf, tstB, tstAnd, tstOr, tstNot, mChain, bind_ok, bind_err, bind_no, toS_ok, toS_err, nox_ok, fin_nx, fin_rt, fin_err, startL, List.map_cons, List.map_nil, List.length_cons, List.length_nil, List.cons_append, List.nil_append, List.getElem?_cons_zero, List.getElem?_cons_succ, List.set_cons_zero, List.set_cons_succ, List.replicate_succ, List.replicate_zero, Nat.zero_add, Nat.reduceAdd, Nat.reduceSub, Nat.add_one_sub_one, Nat.sub_self, if_true, if_false, ite_true, ite_false, Bool.false_eq_true, reduceCtorEq, if_pos, Nat.reduceEqDiff, Nat.reduceLeDiff, decide_true, decide_false, Bool.not_true, Bool.not_false, e1]
        rw [dn]
        cases diffB (xs.map hdD) <;> simp only [mSeq, mExpr, mRet, mRetN, mIfS, mSet, mAug, mCall, mCons, mNil, mVar, mC, mOp, mUn, mApp, mTup, mLst, mNx, mRaise, mAnd, mOr, mNot, mIf, tstB, tstAnd, tstOr, tstNot, mChain, bind_ok, bind_err, bind_no, toS_ok, toS_err, nox_ok, fin_nx, fin_rt, fin_err, startL, List.map_cons, List.map_nil, List.length_cons, List.length_nil, List.cons_append, List.nil_append, List.getElem?_cons_zero, List.getElem?_cons_succ, List.set_cons_zero, List.set_cons_succ, List.replicate_succ, List.replicate_zero, Nat.zero_add, Nat.reduceAdd, Nat.reduceSub, Nat.add_one_sub_one, Nat.sub_self, if_true, if_false, ite_true, ite_false, Bool.false_eq_true, reduceCtorEq, if_pos, Nat.reduceEqDiff, Nat.reduceLeDiff, decide_true, decide_false, Bool.not_true, Bool.not_false]
        · exact ⟨t ++ ([.lst (xs.map hdD)] ++ t2), by simp⟩
        · exact ⟨t ++ ([.lst (xs.map hdD)] ++ t2), by simp⟩
    | _ => cases ht
/-! ### programs -/
def sendsB (r : Option (Int × Int)) : Bool := match r with
  | some (_, x) => decide (x ≤ 4)
  | none => false
def progR (names : List Str) (d : D) : Option Bool := (progV (fun d n => stmtV names 12 d 1 n) d 0).map sendsB
theorem c_init {f : Nat} : call (k + 1) .ProgramCheck_init [.ref s.length, .ref f] (s ++ [.ins "ProgramCheck" []]) = .ok .non (stN (s ++ [.ins "ProgramCheck" []]) s.length f 0) := by
  show Core.fin (m_ProgramCheck_init (call k) [some (.ref s.length), some (.ref f)] (s ++ [.ins "ProgramCheck" []])) = _
  have e0 : (s ++ [Ob.ins "ProgramCheck" []])[s.length]? = some (Ob.ins "ProgramCheck" []) := last_at
  have e1 : ((s ++ [Ob.ins "ProgramCheck" []]).set s.length (Ob.ins "ProgramCheck" [("fields", .ref f)]))[s.length]? = some (Ob.ins "ProgramCheck" [("fields", .ref f)]) := by simp
  have p1 : putD ("fields" : Str) (D.ref f) [] = [(("fields" : Str), D.ref f)] := rfl
  have p2 : putD ("nodes" : Str) (D.int 0) [(("fields" : Str), D.ref f)] = [(("fields" : Str), D.ref f), (("nodes" : Str), D.int 0)] := rfl
  unfold m_ProgramCheck_init
  simp only [mSeq, mExpr, mRet, mRetN, mIfS, mSet, mAug, mCall, mCons, mNil, mVar, mC, mOp, mUn, mApp, mTup, mLst, mNx, mRaise, mAnd, mOr, mNot, mIf, tstB, tstAnd, tstOr, tstNot, mChain, bind_ok, bind_err, bind_no, toS_ok, toS_err, nox_ok, fin_nx, fin_rt, fin_err, startL, List.map_cons, List.map_nil, List.length_cons, List.length_nil, List.cons_append, List.nil_append, List.getElem?_cons_zero, List.getElem?_cons_succ, List.set_cons_zero, List.set_cons_succ, List.replicate_succ, List.replicate_zero, Nat.zero_add, Nat.reduceAdd, Nat.reduceSub, Nat.add_one_sub_one, Nat.sub_self, if_true, if_false, ite_true, ite_false, Bool.false_eq_true, reduceCtorEq, if_pos, Nat.reduceEqDiff, Nat.reduceLeDiff, decide_true, decide_false, Bool.not_true, Bool.not_false, mSetF, e0, mem1, p1, and_self, true_and, Nat.reduceLT, e1, p2, List.set_set]
  rfl
theorem stN_app {f : Nat} {m : Int} : stN (s ++ [.ins "ProgramCheck" []]) s.length f m = s ++ [.ins "ProgramCheck" [("fields", .ref f), ("nodes", .int m)]] := by unfold stN; simp
theorem c_check_program {f : Nat} {names : List Str} {d : D} {b : Bool} (hf : s[f]? = some (.lst (names.map D.str))) (h : liv s d = true) (e : progR names d = some b) : ChkR s b (call (k + 28) .check_program [d, .ref f] s) := by
  show ChkR s b (Core.fin (m_check_program (call (k + 27)) [some d, some (.ref f), none] s))
  have fl : f < s.length := (List.getElem?_eq_some_iff.mp hf).1
  have C : Chk (s ++ [.ins "ProgramCheck" []]) s.length f names := ⟨by simp, Nat.ne_of_lt fl, by rw [List.getElem?_append_left fl]; exact hf, fun xs z => by rw [last_at] at z; cases z⟩
  unfold progR at e
  cases q : progV (fun d n => stmtV names 12 d 1 n) d 0 with
  | none => rw [q] at e; cases e
  | some r =>
    rw [q] at e
    cases e
    have st : StOk (s ++ [.ins "ProgramCheck" []]) s.length f (k + 25 + 1) 1 (fun d n => stmtV names 12 d 1 n) := fun d n r h q => c_statement C 12 k d 1 n r h q
    have key : OutP (s ++ [.ins "ProgramCheck" []]) s.length f r (call (k + 27) .ProgramCheck_program [.ref s.length, d, .int 1] (stN (s ++ [.ins "ProgramCheck" []]) s.length f 0)) := c_prog C st (liv_ext app_lst h) q
    have ini : call (k + 27) .ProgramCheck_init [.ref s.length, .ref f] (s ++ [.ins "ProgramCheck" []]) = _ := c_init (k := k + 26)
    have lk : ([(("fields" : Str), D.ref f), (("nodes" : Str), D.int 0)] : List (Str × D)).lookup ("program" : Str) = none := rfl
    unfold m_check_program
    simp only [mSeq, mExpr, mRet, mRetN, mIfS, mSet, mAug, mCall, mCons, mNil, mVar, mC, mOp, mUn, mApp, mTup, mLst, mNx, mRaise, mAnd, mOr, mNot, mIf, tstB, tstAnd, tstOr, tstNot, mChain, bind_ok, bind_err, bind_no, toS_ok, toS_err, nox_ok, fin_nx, fin_rt, fin_err, startL, List.map_cons, List.map_nil, List.length_cons, List.length_nil, List.cons_append, List.nil_append, List.getElem?_cons_zero, List.getElem?_cons_succ, List.set_cons_zero, List.set_cons_succ, List.replicate_succ, List.replicate_zero, Nat.zero_add, Nat.reduceAdd, Nat.reduceSub, Nat.add_one_sub_one, Nat.sub_self, if_true, if_false, ite_true, ite_false, Bool.false_eq_true, reduceCtorEq, if_pos, Nat.reduceEqDiff, Nat.reduceLeDiff, decide_true, decide_false, Bool.not_true, Bool.not_false, mMethC, mMake, ini, C.at_p, lk, and_self, true_and]
    cases r with
    | none =>
      obtain ⟨m, key⟩ := key
      simp only [mSeq, mExpr, mRet, mRetN, mIfS, mSet, mAug, mCall, mCons, mNil, mVar, mC, mOp, mUn, mApp, mTup, mLst, mNx, mRaise, mAnd, mOr, mNot, mIf, tstB, tstAnd, tstOr, tstNot, mChain, bind_ok, bind_err, bind_no, toS_ok, toS_err, nox_ok, fin_nx, fin_rt, fin_err, startL, List.map_cons, List.map_nil, List.length_cons, List.length_nil, List.cons_append, List.nil_append, List.getElem?_cons_zero, List.getElem?_cons_succ, List.set_cons_zero, List.set_cons_succ, List.replicate_succ, List.replicate_zero, Nat.zero_add, Nat.reduceAdd, Nat.reduceSub, Nat.add_one_sub_one, Nat.sub_self, if_true, if_false, ite_true, ite_false, Bool.false_eq_true, reduceCtorEq, if_pos, Nat.reduceEqDiff, Nat.reduceLeDiff, decide_true, decide_false, Bool.not_true, Bool.not_false, key]
      exact ⟨[.ins "ProgramCheck" [("fields", .ref f), ("nodes", .int m)]], by rw [stN_app]; rfl⟩
    | some mx =>
      obtain ⟨m, x⟩ := mx
      dsimp only [OutP] at key
      simp only [mSeq, mExpr, mRet, mRetN, mIfS, mSet, mAug, mCall, mCons, mNil, mVar, mC, mOp, mUn, mApp, mTup, mLst, mNx, mRaise, mAnd, mOr, mNot, mIf, tstB, tstAnd, tstOr, tstNot, mChain, bind_ok, bind_err, bind_no, toS_ok, toS_err, nox_ok, fin_nx, fin_rt, fin_err, startL, List.map_cons, List.map_nil, List.length_cons, List.length_nil, List.cons_append, List.nil_append, List.getElem?_cons_zero, List.getElem?_cons_succ, List.set_cons_zero, List.set_cons_succ, List.replicate_succ, List.replicate_zero, Nat.zero_add, Nat.reduceAdd, Nat.reduceSub, Nat.add_one_sub_one, Nat.sub_self, if_true, if_false, ite_true, ite_false, Bool.false_eq_true, reduceCtorEq, if_pos, Nat.reduceEqDiff, Nat.reduceLeDiff, decide_true, decide_false, Bool.not_true, Bool.not_false, key, gLe, gOrd]
      rw [show k + 27 = (k + 26) + 1 from rfl, c_require]
      refine ⟨[.ins "ProgramCheck" [("fields", .ref f), ("nodes", .int m)]], ?_⟩
      rw [stN_app]
      dsimp only [sendsB]
      by_cases hx : x ≤ 4 <;> simp only [mSeq, mExpr, mRet, mRetN, mIfS, mSet, mAug, mCall, mCons, mNil, mVar, mC, mOp, mUn, mApp, mTup, mLst, mNx, mRaise, mAnd, mOr, mNot, mIf, tstB, tstAnd, tstOr, tstNot, mChain, bind_ok, bind_err, bind_no, toS_ok, toS_err, nox_ok, fin_nx, fin_rt, fin_err, startL, List.map_cons, List.map_nil, List.length_cons, List.length_nil, List.cons_append, List.nil_append, List.getElem?_cons_zero, List.getElem?_cons_succ, List.set_cons_zero, List.set_cons_succ, List.replicate_succ, List.replicate_zero, Nat.zero_add, Nat.reduceAdd, Nat.reduceSub, Nat.add_one_sub_one, Nat.sub_self, if_true, if_false, ite_true, ite_false, Bool.false_eq_true, reduceCtorEq, if_pos, Nat.reduceEqDiff, Nat.reduceLeDiff, decide_true, decide_false, Bool.not_true, Bool.not_false, hx]
/-! ### handlers -/
theorem loop_ext {V : D → Option Bool} {xs : List D} {b : Bool} (h : allV V xs = some b) (hb : b = true) : ∀ d ∈ xs, V d = some true := by
  subst hb
  induction xs with
  | nil => exact fun d hd => absurd hd List.not_mem_nil
  | cons x r ih =>
    unfold allV at h
    cases q : V x with
    | none => rw [q] at h; cases h
    | some b' =>
      rw [q] at h
      cases b' with
      | false => cases h
      | true =>
        intro d hd
        rcases List.mem_cons.mp hd with rfl | hd
        · exact q
        · exact ih h d hd
def handV (names : List Str) : D → Option Bool
  | .tup [_, p] => progR names p
  | _ => some false
def handsV (names : List Str) (d : D) : Option Bool := if tupB d 0 4 = true then match d with
    | .tup xs => match allV (handV names) xs with
      | some true => some (diffB (xs.map hdD))
      | x => x
    | _ => some false
  else some false
theorem not2 {xs : List D} (h : ∀ a b, xs ≠ [a, b]) {names : List Str} : tupB (.tup xs) 2 2 = false ∧ handV names (.tup xs) = some false := by
  match xs, h with
  | [], _ => exact ⟨by decide, rfl⟩
  | [_], _ => exact ⟨show (decide ((2 : Int) ≤ ((1 : Nat) : Int)) && decide (((1 : Nat) : Int) ≤ 2)) = false from by decide, rfl⟩
  | [a, b], h => exact absurd rfl (h a b)
  | a :: b :: c :: r, _ =>
    refine ⟨?_, rfl⟩
    have : decide (((r.length + 1 + 1 + 1 : Nat) : Int) ≤ 2) = false := decide_eq_false (by omega)
    show (decide ((2 : Int) ≤ ((r.length + 1 + 1 + 1 : Nat) : Int)) && decide (((r.length + 1 + 1 + 1 : Nat) : Int) ≤ 2)) = false
    rw [this, Bool.and_false]
theorem hand_is {names : List Str} {d : D} (h : handV names d = some true) : ∃ a b, d = .tup [a, b] := by
  unfold handV at h
  split at h
  · exact ⟨_, _, rfl⟩
  · cases h
theorem c_check_handlers {f : Nat} {names : List Str} {d : D} {b : Bool} (hf : s[f]? = some (.lst (names.map D.str))) (h : liv s d = true) (e : handsV names d = some b) : ChkR s b (call (k + 29) .check_handlers [d, .ref f] s) := by
  show ChkR s b (Core.fin (m_check_handlers (call (k + 28)) [some d, some (.ref f), none, none, none] s))
  have rq : call (k + 28) .require_tuple [d, .int 0, .int 4] s = _ := c_require_tuple (k := k + 26) h 0 4
  have fl : f < s.length := (List.getElem?_eq_some_iff.mp hf).1
  unfold m_check_handlers
  unfold handsV at e
  cases ht : tupB d 0 4 with
  | false =>
    rw [ht] at e
    cases e
    rw [seq_err (c := "BadModel") (l1 := [some d, some (.ref f), none, none, none]) (s1 := s) (by simp only [mSeq, mExpr, mRet, mRetN, mIfS, mSet, mAug, mCall, mCons, mNil, mVar, mC, mOp, mUn, mApp, mTup, mLst, mNx, mRaise, mAnd, mOr, mNot, mIf, tstB, tstAnd, tstOr, tstNot, mChain, bind_ok, bind_err, bind_no, toS_ok, toS_err, nox_ok, fin_nx, fin_rt, fin_err, startL, List.map_cons, List.map_nil, List.length_cons, List.length_nil, List.cons_append, List.nil_append, List.getElem?_cons_zero, List.getElem?_cons_succ, List.set_cons_zero, List.set_cons_succ, List.replicate_succ, List.replicate_zero, Nat.zero_add, Nat.reduceAdd, Nat.reduceSub, Nat.add_one_sub_one, Nat.sub_self, if_true, if_false, ite_true, ite_false, Bool.false_eq_true, reduceCtorEq, if_pos, Nat.reduceEqDiff, Nat.reduceLeDiff, decide_true, decide_false, Bool.not_true, Bool.not_false, rq, ht])]
    exact ⟨[], by simp [fin_err]⟩
  | true =>
    rw [ht, if_pos rfl] at e
    rw [seq_nx (l1 := [some d, some (.ref f), none, none, none]) (s1 := s) (by simp only [mSeq, mExpr, mRet, mRetN, mIfS, mSet, mAug, mCall, mCons, mNil, mVar, mC, mOp, mUn, mApp, mTup, mLst, mNx, mRaise, mAnd, mOr, mNot, mIf, tstB, tstAnd, tstOr, tstNot, mChain, bind_ok, bind_err, bind_no, toS_ok, toS_err, nox_ok, fin_nx, fin_rt, fin_err, startL, List.map_cons, List.map_nil, List.length_cons, List.length_nil, List.cons_append, List.nil_append, List.getElem?_cons_zero, List.getElem?_cons_succ, List.set_cons_zero, List.set_cons_succ, List.replicate_succ, List.replicate_zero, Nat.zero_add, Nat.reduceAdd, Nat.reduceSub, Nat.add_one_sub_one, Nat.sub_self, if_true, if_false, ite_true, ite_false, Bool.false_eq_true, reduceCtorEq, if_pos, Nat.reduceEqDiff, Nat.reduceLeDiff, decide_true, decide_false, Bool.not_true, Bool.not_false, rq, ht])]
    cases d with
    | tup xs =>
      have hl : livs s xs = true := h
      have e : (match allV (handV names) xs with
        | some true => some (diffB (xs.map hdD))
        | x => x) = some b := e
      obtain ⟨ln1, ln2⟩ := tup_len ht
      cases qa : allV (handV names) xs with
      | none => rw [qa] at e; cases e
      | some ba =>
      rw [qa] at e
      have key := loop_chk (s := s) (ok := fun _ => true) (i := 2) (body := mSeq (mExpr (mCall 3 (call (k + 28) .require_tuple) (mCons (mVar 2) (mCons (mC (.int 2)) (mCons (mC (.int 2)) mNil))))) (mExpr (mCall 2 (call (k + 28) .check_program) (mCons (mOp gIx (mVar 2) (mC (.int 1))) (mCons (mVar 1) mNil))))) (V := handV names) (Lk := fun l => ∃ o, l = [some (.tup xs), some (.ref f), o, none, none]) xs [some (.tup xs), some (.ref f), none, none, none] [] ba (fun t => rfl)
        (fun d hd l t b ⟨o, hl1⟩ e => by
          subst hl1
          have hd' : liv (s ++ t) d = true := liv_ext app_lst (livs_mem hl d hd)
          have rq2 : call (k + 28) .require_tuple [d, .int 2, .int 2] (s ++ t) = _ := c_require_tuple (k := k + 26) hd' 2 2
          by_cases hp : ∃ a p, d = .tup [a, p]
          · obtain ⟨a, p, rfl⟩ := hp
            have t2 : tupB (.tup [a, p]) 2 2 = true := by show (decide ((2 : Int) ≤ (2 : Nat)) && decide (((2 : Nat) : Int) ≤ 2)) = true; decide
            obtain ⟨t3, cp⟩ := c_check_program (s := s ++ t) (k := k) (f := f) (names := names) (d := p) (b := b) (by rw [List.getElem?_append_left fl]; exact hf) (livs_mem (xs := [a, p]) hd' p (by simp)) e
            simp only [mSeq, mExpr, mRet, mRetN, mIfS, mSet, mAug, mCall, mCons, mNil, mVar, mC, mOp, mUn, mApp, mTup, mLst, mNx, mRaise, mAnd, mOr, mNot, mIf, tstB, tstAnd, tstOr, tstNot, mChain, bind_ok, bind_err, bind_no, toS_ok, toS_err, nox_ok, fin_nx, fin_rt, fin_err, startL, List.map_cons, List.map_nil, List.length_cons, List.length_nil, List.cons_append, List.nil_append, List.getElem?_cons_zero, List.getElem?_cons_succ, List.set_cons_zero, List.set_cons_succ, List.replicate_succ, List.replicate_zero, Nat.zero_add, Nat.reduceAdd, Nat.reduceSub, Nat.add_one_sub_one, Nat.sub_self, if_true, if_false, ite_true, ite_false, Bool.false_eq_true, reduceCtorEq, if_pos, Nat.reduceEqDiff, Nat.reduceLeDiff, decide_true, decide_false, Bool.not_true, Bool.not_false, rq2, t2, ix1, cp]
            cases b <;> simp only [mSeq, mExpr, mRet, mRetN, mIfS, mSet, mAug, mCall, mCons, mNil, mVar, mC, mOp, mUn, mApp, mTup, mLst, mNx, mRaise, mAnd, mOr, mNot, mIf, tstB, tstAnd, tstOr, tstNot, mChain, bind_ok, bind_err, bind_no, toS_ok, toS_err, nox_ok, fin_nx, fin_rt, fin_err, startL, List.map_cons, List.map_nil, List.length_cons, List.length_nil, List.cons_append, List.nil_append, List.getElem?_cons_zero, List.getElem?_cons_succ, List.set_cons_zero, List.set_cons_succ, List.replicate_succ, List.replicate_zero, Nat.zero_add, Nat.reduceAdd, Nat.reduceSub, Nat.add_one_sub_one, Nat.sub_self, if_true, if_false, ite_true, ite_false, Bool.false_eq_true, reduceCtorEq, if_pos, Nat.reduceEqDiff, Nat.reduceLeDiff, decide_true, decide_false, Bool.not_true, Bool.not_false]
            · exact ⟨[some (.tup xs), some (.ref f), some (.tup [a, p]), none, none], t3, rfl, _, rfl⟩
            · exact ⟨[some (.tup xs), some (.ref f), some (.tup [a, p]), none, none], t3, rfl, _, rfl⟩
          · have f0 : tupB d 2 2 = false ∧ handV names d = some false := by
              cases d with
              | tup ys => exact not2 fun a p z => hp ⟨a, p, by rw [z]⟩
              | _ => exact ⟨rfl, rfl⟩
            rw [f0.2] at e
            cases e
            simp only [mSeq, mExpr, mRet, mRetN, mIfS, mSet, mAug, mCall, mCons, mNil, mVar, mC, mOp, mUn, mApp, mTup, mLst, mNx, mRaise, mAnd, mOr, mNot, mIf, tstB, tstAnd, tstOr, tstNot, mChain, bind_ok, bind_err, bind_no, toS_ok, toS_err, nox_ok, fin_nx, fin_rt, fin_err, startL, List.map_cons, List.map_nil, List.length_cons, List.length_nil, List.cons_append, List.nil_append, List.getElem?_cons_zero, List.getElem?_cons_succ, List.set_cons_zero, List.set_cons_succ, List.replicate_succ, List.replicate_zero, Nat.zero_add, Nat.reduceAdd, Nat.reduceSub, Nat.add_one_sub_one, Nat.sub_self, if_true, if_false, ite_true, ite_false, Bool.false_eq_true, reduceCtorEq, if_pos, Nat.reduceEqDiff, Nat.reduceLeDiff, decide_true, decide_false, Bool.not_true, Bool.not_false, rq2, f0.1]
            exact ⟨[some (.tup xs), some (.ref f), some d, none, none], [], by simp, some d, rfl⟩) ⟨_, rfl⟩ qa
      obtain ⟨l, t, h1, o, rfl⟩ := key
      simp only [List.append_nil] at h1
      have h2 := (for_tup (me := mVar 0) (l := [some (.tup xs), some (.ref f), none, none, none]) (s1 := s) rfl).trans h1
      cases ba with
      | false => rw [if_neg Bool.false_ne_true] at h2; rw [seq_err h2]; cases e; exact ⟨t, rfl⟩
      | true =>
        rw [if_pos rfl] at h2
        cases e
        have all := loop_ext qa rfl
        rw [seq_nx h2]
        have lc := lc_map (s := s ++ t) (ok := fun _ => true) (g := gmTup 2 (gmCons (gmName 3) (gmCons (gmName 4) gmNil))) (vs := [3, 4]) (l := [some (.tup xs), some (.ref f), o, none, none]) (me := mVar 3) (F := hdD) xs [] (fun _ => rfl) (fun d hd => by
          obtain ⟨a, p, rfl⟩ := hand_is (all d hd)
          exact ⟨[some (.tup xs), some (.ref f), o, some a, some p], rfl, fun u => rfl⟩) (by simp only [List.length_nil]; omega)
        rw [List.nil_append] at lc
        have e1 : mLc (iSeq (mVar 0)) (gmTup 2 (gmCons (gmName 3) (gmCons (gmName 4) gmNil))) [3, 4] tYes' (mVar 3) [some (.tup xs), some (.ref f), o, none, none] (s ++ t) = _ := (lc_tup (s1 := s ++ t) rfl).trans lc
        have dn := c_diff (s := s ++ t ++ [.lst (xs.map hdD)]) (k := k + 26) (m := (s ++ t).length) (ds := xs.map hdD) last_at (livs_hd (livs_ext app_lst (livs_ext app_lst hl))) (by rw [List.length_map]; omega)
        obtain ⟨t2, dn⟩ := dn
        simp only [mSeq, mExpr, mRet, mRetN, mIfS, mSet, mAug, mCall, mCons, mNil, mVar, mC, mOp, mUn, mApp, mTup, mLst, mNx, mRaise, mAnd, mOr, mNot, mIf, tstB, tstAnd, tstOr, tstNot, mChain, bind_ok, bind_err, bind_no, toS_ok, toS_err, nox_ok, fin_nx, fin_rt, fin_err, startL, List.map_cons, List.map_nil, List.length_cons, List.length_nil, List.cons_append, List.nil_append, List.getElem?_cons_zero, List.getElem?_cons_succ, List.set_cons_zero, List.set_cons_succ, List.replicate_succ, List.replicate_zero, Nat.zero_add, Nat.reduceAdd, Nat.reduceSub, Nat.add_one_sub_one, Nat.sub_self, if_true, if_false, ite_true, ite_false, Bool.false_eq_true, reduceCtorEq, if_pos, Nat.reduceEqDiff, Nat.reduceLeDiff, decide_true, decide_false, Bool.not_true, Bool.not_false, e1]
        rw [dn]
        cases diffB (xs.map hdD) <;> simp only [mSeq, mExpr, mRet, mRetN, mIfS, mSet, mAug, mCall, mCons, mNil, mVar, mC, mOp, mUn, mApp, mTup, mLst, mNx, mRaise, mAnd, mOr, mNot, mIf, tstB, tstAnd, tstOr, tstNot, mChain, bind_ok, bind_err, bind_no, toS_ok, toS_err, nox_ok, fin_nx, fin_rt, fin_err, startL, List.map_cons, List.map_nil, List.length_cons, List.length_nil, List.cons_append, List.nil_append, List.getElem?_cons_zero, List.getElem?_cons_succ, List.set_cons_zero, List.set_cons_succ, List.replicate_succ, List.replicate_zero, Nat.zero_add, Nat.reduceAdd, Nat.reduceSub, Nat.add_one_sub_one, Nat.sub_self, if_true, if_false, ite_true, ite_false, Bool.false_eq_true, reduceCtorEq, if_pos, Nat.reduceEqDiff, Nat.reduceLeDiff, decide_true, decide_false, Bool.not_true, Bool.not_false]
        · exact ⟨t ++ ([.lst (xs.map hdD)] ++ t2), by simp⟩
        · exact ⟨t ++ ([.lst (xs.map hdD)] ++ t2), by simp⟩
    | _ => cases ht
end
end Pr

set_option Elab.async false
set_option linter.all false
set_option maxRecDepth 100000
set_option maxHeartbeats 4000000
/-! what the check of a model does -/
namespace Pr
open PySem PySem.Spec PyProof.Rows L2 Core
section
variable {s : Mem} {k : Nat}
theorem names_back : ∀ {ds : List D}, ds.all nameB = true → (ds.map strOf).map D.str = ds
  | [], _ => rfl
  | d :: r, h => by
    rw [List.all_cons, Bool.and_eq_true] at h
    rw [List.map_cons, List.map_cons, names_back h.2]
    cases d with
    | str z => rfl
    | _ => cases h.1
def fnames : D → List Str
  | .tup xs => (xs.map hdD).map strOf
  | _ => []
theorem fields_is {d : D} (h : fieldsB d = true) : ∃ xs, d = .tup xs ∧ 1 ≤ xs.length ∧ xs.length ≤ 4 ∧ (∀ x ∈ xs, fieldB x = true) ∧ diffB (xs.map hdD) = true := by
  unfold fieldsB at h
  rw [Bool.and_eq_true] at h
  obtain ⟨h1, h2⟩ := h
  cases d with
  | tup xs =>
    have h2 : (xs.all fieldB && diffB (xs.map hdD)) = true := h2
    rw [Bool.and_eq_true] at h2
    obtain ⟨a, b⟩ := tup_len h1
    exact ⟨xs, rfl, by omega, by omega, List.all_eq_true.mp h2.1, h2.2⟩
  | _ => cases h1
theorem diff_all {ds : List D} (h : diffB ds = true) : ds.all nameB = true := by unfold diffB at h; rw [Bool.and_eq_true] at h; exact h.1
def kindV : D → Option Bool
  | .tup [_, fl, hs] => if fieldsB fl = true then handsV (fnames fl) hs else some false
  | _ => some false
theorem not3' {xs : List D} (h : ∀ a b c, xs ≠ [a, b, c]) : kindV (.tup xs) = some false := by
  match xs, h with
  | [], _ => rfl
  | [_], _ => rfl
  | [_, _], _ => rfl
  | [a, b, c], h => exact absurd rfl (h a b c)
  | a :: b :: c :: d :: r, _ => rfl
theorem kind_is {d : D} (h : kindV d = some true) : ∃ a b c, d = .tup [a, b, c] := by
  unfold kindV at h
  split at h
  · exact ⟨_, _, _, rfl⟩
  · cases h
theorem c_check_kind {d : D} {b : Bool} (h : liv s d = true) (e : kindV d = some b) : ChkR s b (call (k + 30) .check_kind [d] s) := by
  show ChkR s b (Core.fin (m_check_kind (call (k + 29)) [some d, none, none, none, none, none] s))
  have rq : call (k + 29) .require_tuple [d, .int 3, .int 3] s = _ := c_require_tuple (k := k + 27) h 3 3
  unfold m_check_kind
  by_cases hd : ∃ a fl hs, d = .tup [a, fl, hs]
  · obtain ⟨a, fl, hs, rfl⟩ := hd
    have t3 : tupB (.tup [a, fl, hs]) 3 3 = true := by show (decide ((3 : Int) ≤ (3 : Nat)) && decide (((3 : Nat) : Int) ≤ 3)) = true; decide
    have hfl : liv s fl = true := livs_mem (xs := [a, fl, hs]) h fl (by simp)
    have hhs : liv s hs = true := livs_mem (xs := [a, fl, hs]) h hs (by simp)
    have e : (if fieldsB fl = true then handsV (fnames fl) hs else some false) = some b := e
    obtain ⟨t, cf⟩ := c_check_fields (s := s) (k := k + 25) hfl
    simp only [mSeq, mExpr, mRet, mRetN, mIfS, mSet, mAug, mCall, mCons, mNil, mVar, mC, mOp, mUn, mApp, mTup, mLst, mNx, mRaise, mAnd, mOr, mNot, mIf, tstB, tstAnd, tstOr, tstNot, mChain, bind_ok, bind_err, bind_no, toS_ok, toS_err, nox_ok, fin_nx, fin_rt, fin_err, startL, List.map_cons, List.map_nil, List.length_cons, List.length_nil, List.cons_append, List.nil_append, List.getElem?_cons_zero, List.getElem?_cons_succ, List.set_cons_zero, List.set_cons_succ, List.replicate_succ, List.replicate_zero, Nat.zero_add, Nat.reduceAdd, Nat.reduceSub, Nat.add_one_sub_one, Nat.sub_self, if_true, if_false, ite_true, ite_false, Bool.false_eq_true, reduceCtorEq, if_pos, Nat.reduceEqDiff, Nat.reduceLeDiff, decide_true, decide_false, Bool.not_true, Bool.not_false, rq, t3, ix1, ix2, cf]
    cases hf : fieldsB fl with
    | false =>
      rw [hf, if_neg Bool.false_ne_true] at e
      cases e
      simp only [mSeq, mExpr, mRet, mRetN, mIfS, mSet, mAug, mCall, mCons, mNil, mVar, mC, mOp, mUn, mApp, mTup, mLst, mNx, mRaise, mAnd, mOr, mNot, mIf, tstB, tstAnd, tstOr, tstNot, mChain, bind_ok, bind_err, bind_no, toS_ok, toS_err, nox_ok, fin_nx, fin_rt, fin_err, startL, List.map_cons, List.map_nil, List.length_cons, List.length_nil, List.cons_append, List.nil_append, List.getElem?_cons_zero, List.getElem?_cons_succ, List.set_cons_zero, List.set_cons_succ, List.replicate_succ, List.replicate_zero, Nat.zero_add, Nat.reduceAdd, Nat.reduceSub, Nat.add_one_sub_one, Nat.sub_self, if_true, if_false, ite_true, ite_false, Bool.false_eq_true, reduceCtorEq, if_pos, Nat.reduceEqDiff, Nat.reduceLeDiff, decide_true, decide_false, Bool.not_true, Bool.not_false]
      exact ⟨t, rfl⟩
    | true =>
      rw [hf, if_pos rfl] at e
      obtain ⟨xs, rfl, l1, l2, hall, hdf⟩ := fields_is hf
      have lc := lc_map (s := s ++ t) (ok := fun _ => true) (g := gmTup 3 (gmCons (gmName 3) (gmCons (gmName 4) (gmCons (gmName 5) gmNil)))) (vs := [3, 4, 5]) (l := [some (.tup [a, .tup xs, hs]), some (.tup xs), some hs, none, none, none]) (me := mVar 3) (F := hdD) xs [] (fun _ => rfl) (fun d hd => by
        obtain ⟨x, y, z, rfl⟩ := field_is (hall d hd)
        exact ⟨[some (.tup [a, .tup _, hs]), some (.tup _), some hs, some x, some y, some z], rfl, fun u => rfl⟩) (by simp only [List.length_nil]; omega)
      rw [List.nil_append] at lc
      have e1 : mLc (iSeq (mVar 1)) (gmTup 3 (gmCons (gmName 3) (gmCons (gmName 4) (gmCons (gmName 5) gmNil)))) [3, 4, 5] tYes' (mVar 3) [some (.tup [a, .tup xs, hs]), some (.tup xs), some hs, none, none, none] (s ++ t) = _ := (lc_tup (s1 := s ++ t) rfl).trans lc
      obtain ⟨t2, dn⟩ := c_check_handlers (s := s ++ t ++ [.lst (xs.map hdD)]) (k := k) (f := (s ++ t).length) (names := fnames (.tup xs)) (d := hs) (b := b) (by rw [last_at]; show some (Ob.lst (xs.map hdD)) = some (Ob.lst (((xs.map hdD).map strOf).map D.str)); rw [names_back (diff_all hdf)]) (liv_ext app_lst (liv_ext app_lst hhs)) e
      simp only [mSeq, mExpr, mRet, mRetN, mIfS, mSet, mAug, mCall, mCons, mNil, mVar, mC, mOp, mUn, mApp, mTup, mLst, mNx, mRaise, mAnd, mOr, mNot, mIf, tstB, tstAnd, tstOr, tstNot, mChain, bind_ok, bind_err, bind_no, toS_ok, toS_err, nox_ok, fin_nx, fin_rt, fin_err, startL, List.map_cons, List.map_nil, List.length_cons, List.length_nil, List.cons_append, List.nil_append, List.getElem?_cons_zero, List.getElem?_cons_succ, List.set_cons_zero, List.set_cons_succ, List.replicate_succ, List.replicate_zero, Nat.zero_add, Nat.reduceAdd, Nat.reduceSub, Nat.add_one_sub_one, Nat.sub_self, if_true, if_false, ite_true, ite_false, Bool.false_eq_true, reduceCtorEq, if_pos, Nat.reduceEqDiff, Nat.reduceLeDiff, decide_true, decide_false, Bool.not_true, Bool.not_false, e1]
      rw [dn]
      cases b <;> simp only [mSeq, mExpr, mRet, mRetN, mIfS, mSet, mAug, mCall, mCons, mNil, mVar, mC, mOp, mUn, mApp, mTup, mLst, mNx, mRaise, mAnd, mOr, mNot, mIf, tstB, tstAnd, tstOr, tstNot, mChain, bind_ok, bind_err, bind_no, toS_ok, toS_err, nox_ok, fin_nx, fin_rt, fin_err, startL, List.map_cons, List.map_nil, List.length_cons, List.length_nil, List.cons_append, List.nil_append, List.getElem?_cons_zero, List.getElem?_cons_succ, List.set_cons_zero, List.set_cons_succ, List.replicate_succ, List.replicate_zero, Nat.zero_add, Nat.reduceAdd, Nat.reduceSub, Nat.add_one_sub_one, Nat.sub_self, if_true, if_false, ite_true, ite_false, Bool.false_eq_true, reduceCtorEq, if_pos, Nat.reduceEqDiff, Nat.reduceLeDiff, decide_true, decide_false, Bool.not_true, Bool.not_false]
      · exact ⟨t ++ ([.lst (xs.map hdD)] ++ t2), by simp⟩
      · exact ⟨t ++ ([.lst (xs.map hdD)] ++ t2), by simp⟩
  · have f0 : tupB d 3 3 = false ∧ kindV d = some false := by
      cases d with
      | tup ys => exact ⟨(not3 fun a p c z => hd ⟨a, p, c, by rw [z]⟩).1, not3' fun a p c z => hd ⟨a, p, c, by rw [z]⟩⟩
      | _ => exact ⟨rfl, rfl⟩
    rw [f0.2] at e
    cases e
    simp only [mSeq, mExpr, mRet, mRetN, mIfS, mSet, mAug, mCall, mCons, mNil, mVar, mC, mOp, mUn, mApp, mTup, mLst, mNx, mRaise, mAnd, mOr, mNot, mIf, tstB, tstAnd, tstOr, tstNot, mChain, bind_ok, bind_err, bind_no, toS_ok, toS_err, nox_ok, fin_nx, fin_rt, fin_err, startL, List.map_cons, List.map_nil, List.length_cons, List.length_nil, List.cons_append, List.nil_append, List.getElem?_cons_zero, List.getElem?_cons_succ, List.set_cons_zero, List.set_cons_succ, List.replicate_succ, List.replicate_zero, Nat.zero_add, Nat.reduceAdd, Nat.reduceSub, Nat.add_one_sub_one, Nat.sub_self, if_true, if_false, ite_true, ite_false, Bool.false_eq_true, reduceCtorEq, if_pos, Nat.reduceEqDiff, Nat.reduceLeDiff, decide_true, decide_false, Bool.not_true, Bool.not_false, rq, f0.1]
    exact ⟨[], by simp⟩
def kindsV (d : D) : Option Bool := if tupB d 1 4 = true then match d with
    | .tup xs => match allV kindV xs with
      | some true => some (diffB (xs.map hdD))
      | x => x
    | _ => some false
  else some false
theorem c_check_kinds {d : D} {b : Bool} (h : liv s d = true) (e : kindsV d = some b) : ChkR s b (call (k + 31) .check_kinds [d] s) := by
  show ChkR s b (Core.fin (m_check_kinds (call (k + 30)) [some d, none, none, none, none] s))
  have rq : call (k + 30) .require_tuple [d, .int 1, .int 4] s = _ := c_require_tuple (k := k + 28) h 1 4
  unfold m_check_kinds
  unfold kindsV at e
  cases ht : tupB d 1 4 with
  | false =>
    rw [ht] at e
    cases e
    rw [seq_err (c := "BadModel") (l1 := [some d, none, none, none, none]) (s1 := s) (by simp only [mSeq, mExpr, mRet, mRetN, mIfS, mSet, mAug, mCall, mCons, mNil, mVar, mC, mOp, mUn, mApp, mTup, mLst, mNx, mRaise, mAnd, mOr, mNot, mIf, tstB, tstAnd, tstOr, tstNot, mChain, bind_ok, bind_err, bind_no, toS_ok, toS_err, nox_ok, fin_nx, fin_rt, fin_err, startL, List.map_cons, List.map_nil, List.length_cons, List.length_nil, List.cons_append, List.nil_append, List.getElem?_cons_zero, List.getElem?_cons_succ, List.set_cons_zero, List.set_cons_succ, List.replicate_succ, List.replicate_zero, Nat.zero_add, Nat.reduceAdd, Nat.reduceSub, Nat.add_one_sub_one, Nat.sub_self, if_true, if_false, ite_true, ite_false, Bool.false_eq_true, reduceCtorEq, if_pos, Nat.reduceEqDiff, Nat.reduceLeDiff, decide_true, decide_false, Bool.not_true, Bool.not_false, rq, ht])]
    exact ⟨[], by simp [fin_err]⟩
  | true =>
    rw [ht, if_pos rfl] at e
    rw [seq_nx (l1 := [some d, none, none, none, none]) (s1 := s) (by simp only [mSeq, mExpr, mRet, mRetN, mIfS, mSet, mAug, mCall, mCons, mNil, mVar, mC, mOp, mUn, mApp, mTup, mLst, mNx, mRaise, mAnd, mOr, mNot, mIf, tstB, tstAnd, tstOr, tstNot, mChain, bind_ok, bind_err, bind_no, toS_ok, toS_err, nox_ok, fin_nx, fin_rt, fin_err, startL, List.map_cons, List.map_nil, List.length_cons, List.length_nil, List.cons_append, List.nil_append, List.getElem?_cons_zero, List.getElem?_cons_succ, List.set_cons_zero, List.set_cons_succ, List.replicate_succ, List.replicate_zero, Nat.zero_add, Nat.reduceAdd, Nat.reduceSub, Nat.add_one_sub_one, Nat.sub_self, if_true, if_false, ite_true, ite_false, Bool.false_eq_true, reduceCtorEq, if_pos, Nat.reduceEqDiff, Nat.reduceLeDiff, decide_true, decide_false, Bool.not_true, Bool.not_false, rq, ht])]
    cases d with
    | tup xs =>
      have hl : livs s xs = true := h
      have e : (match allV kindV xs with
        | some true => some (diffB (xs.map hdD))
        | x => x) = some b := e
      obtain ⟨ln1, ln2⟩ := tup_len ht
      cases qa : allV kindV xs with
      | none => rw [qa] at e; cases e
      | some ba =>
      rw [qa] at e
      have key := loop_chk (s := s) (ok := fun _ => true) (i := 1) (body := mExpr (mCall 1 (call (k + 30) .check_kind) (mCons (mVar 1) mNil))) (V := kindV) (Lk := fun l => ∃ o, l = [some (.tup xs), o, none, none, none]) xs [some (.tup xs), none, none, none, none] [] ba (fun t => rfl)
        (fun d hd l t b ⟨o, hl1⟩ e => by
          subst hl1
          obtain ⟨t3, ck⟩ := c_check_kind (s := s ++ t) (k := k) (liv_ext app_lst (livs_mem hl d hd)) e
          simp only [mSeq, mExpr, mRet, mRetN, mIfS, mSet, mAug, mCall, mCons, mNil, mVar, mC, mOp, mUn, mApp, mTup, mLst, mNx, mRaise, mAnd, mOr, mNot, mIf, tstB, tstAnd, tstOr, tstNot, mChain, bind_ok, bind_err, bind_no, toS_ok, toS_err, nox_ok, fin_nx, fin_rt, fin_err, startL, List.map_cons, List.map_nil, List.length_cons, List.length_nil, List.cons_append, List.nil_append, List.getElem?_cons_zero, List.getElem?_cons_succ, List.set_cons_zero, List.set_cons_succ, List.replicate_succ, List.replicate_zero, Nat.zero_add, Nat.reduceAdd, Nat.reduceSub, Nat.add_one_sub_one, Nat.sub_self, if_true, if_false, ite_true, ite_false, Bool.false_eq_true, reduceCtorEq, if_pos, Nat.reduceEqDiff, Nat.reduceLeDiff, decide_true, decide_false, Bool.not_true, Bool.not_false, ck]
          cases b <;> simp only [mSeq, mExpr, mRet, mRetN, mIfS, mSet, mAug, mCall, mCons, mNil, mVar, mC, mOp, mUn, mApp, mTup, mLst, mNx, mRaise, mAnd, mOr, mNot, mIf, tstB, tstAnd, tstOr, tstNot, mChain, bind_ok, bind_err, bind_no, toS_ok, toS_err, nox_ok, fin_nx, fin_rt, fin_err, startL, List.map_cons, List.map_nil, List.length_cons, List.length_nil, List.cons_append, List.nil_append, List.getElem?_cons_zero, List.getElem?_cons_succ, List.set_cons_zero, List.set_cons_succ, List.replicate_succ, List.replicate_zero, Nat.zero_add, Nat.reduceAdd, Nat.reduceSub, Nat.add_one_sub_one, Nat.sub_self, if_true, if_false, ite_true, ite_false, Bool.false_eq_true, reduceCtorEq, if_pos, Nat.reduceEqDiff, Nat.reduceLeDiff, decide_true, decide_false, Bool.not_true, Bool.not_false]
          · exact ⟨[some (.tup xs), some d, none, none, none], t3, rfl, some d, rfl⟩
          · exact ⟨[some (.tup xs), some d, none, none, none], t3, rfl, some d, rfl⟩) ⟨_, rfl⟩ qa
      obtain ⟨l, t, h1, o, rfl⟩ := key
      simp only [List.append_nil] at h1
      have h2 := (for_tup (me := mVar 0) (l := [some (.tup xs), none, none, none, none]) (s1 := s) rfl).trans h1
      cases ba with
      | false => rw [if_neg Bool.false_ne_true] at h2; rw [seq_err h2]; cases e; exact ⟨t, rfl⟩
      | true =>
        rw [if_pos rfl] at h2
        cases e
        have all := loop_ext qa rfl
        rw [seq_nx h2]
        have lc := lc_map (s := s ++ t) (ok := fun _ => true) (g := gmTup 3 (gmCons (gmName 2) (gmCons (gmName 3) (gmCons (gmName 4) gmNil)))) (vs := [2, 3, 4]) (l := [some (.tup xs), o, none, none, none]) (me := mVar 2) (F := hdD) xs [] (fun _ => rfl) (fun d hd => by
          obtain ⟨a, p, c, rfl⟩ := kind_is (all d hd)
          exact ⟨[some (.tup xs), o, some a, some p, some c], rfl, fun u => rfl⟩) (by simp only [List.length_nil]; omega)
        rw [List.nil_append] at lc
        have e1 : mLc (iSeq (mVar 0)) (gmTup 3 (gmCons (gmName 2) (gmCons (gmName 3) (gmCons (gmName 4) gmNil)))) [2, 3, 4] tYes' (mVar 2) [some (.tup xs), o, none, none, none] (s ++ t) = _ := (lc_tup (s1 := s ++ t) rfl).trans lc
        have dn := c_diff (s := s ++ t ++ [.lst (xs.map hdD)]) (k := k + 28) (m := (s ++ t).length) (ds := xs.map hdD) last_at (livs_hd (livs_ext app_lst (livs_ext app_lst hl))) (by rw [List.length_map]; omega)
        obtain ⟨t2, dn⟩ := dn
        simp only [mSeq, mExpr, mRet, mRetN, mIfS, mSet, mAug, mCall, mCons, mNil, mVar, mC, mOp, mUn, mApp, mTup, mLst, mNx, mRaise, mAnd, mOr, mNot, mIf, tstB, tstAnd, tstOr, tstNot, mChain, bind_ok, bind_err, bind_no, toS_ok, toS_err, nox_ok, fin_nx, fin_rt, fin_err, startL, List.map_cons, List.map_nil, List.length_cons, List.length_nil, List.cons_append, List.nil_append, List.getElem?_cons_zero, List.getElem?_cons_succ, List.set_cons_zero, List.set_cons_succ, List.replicate_succ, List.replicate_zero, Nat.zero_add, Nat.reduceAdd, Nat.reduceSub, Nat.add_one_sub_one, Nat.sub_self, if_true, if_false, ite_true, ite_false, Bool.false_eq_true, reduceCtorEq, if_pos, Nat.reduceEqDiff, Nat.reduceLeDiff, decide_true, decide_false, Bool.not_true, Bool.not_false, e1]
        rw [dn]
        cases diffB (xs.map hdD) <;> simp only [mSeq, mExpr, mRet, mRetN, mIfS, mSet, mAug, mCall, mCons, mNil, mVar, mC, mOp, mUn, mApp, mTup, mLst, mNx, mRaise, mAnd, mOr, mNot, mIf, tstB, tstAnd, tstOr, tstNot, mChain, bind_ok, bind_err, bind_no, toS_ok, toS_err, nox_ok, fin_nx, fin_rt, fin_err, startL, List.map_cons, List.map_nil, List.length_cons, List.length_nil, List.cons_append, List.nil_append, List.getElem?_cons_zero, List.getElem?_cons_succ, List.set_cons_zero, List.set_cons_succ, List.replicate_succ, List.replicate_zero, Nat.zero_add, Nat.reduceAdd, Nat.reduceSub, Nat.add_one_sub_one, Nat.sub_self, if_true, if_false, ite_true, ite_false, Bool.false_eq_true, reduceCtorEq, if_pos, Nat.reduceEqDiff, Nat.reduceLeDiff, decide_true, decide_false, Bool.not_true, Bool.not_false]
        · exact ⟨t ++ ([.lst (xs.map hdD)] ++ t2), by simp⟩
        · exact ⟨t ++ ([.lst (xs.map hdD)] ++ t2), by simp⟩
    | _ => cases ht
end
end Pr

set_option Elab.async false
set_option linter.all false
set_option maxRecDepth 100000
set_option maxHeartbeats 4000000
/-! what the check of a model does -/
namespace Pr
open PySem PySem.Spec PyProof.Rows L2 Core
section
variable {s : Mem} {k : Nat}
theorem in_strs {x : D} {b : Bool} {m : Nat} {names : List Str} (hm : s[m]? = some (.lst (names.map D.str))) (h : inN names x = some b) : gIn x (.ref m) s = .ok (.bl b) s := by
  have e1 : seqD s (.ref m) = some (names.map D.str) := by unfold seqD rdL; dsimp only; rw [hm]
  have e2 : (names.map D.str).mapM toV = some (names.map V.str) := by
    clear h hm e1
    induction names with
    | nil => rfl
    | cons a r ih => rw [List.map_cons, List.mapM_cons, ih]; rfl
  have key : ∀ v, toV x = some v → inV v (names.map V.str) = b → gIn x (.ref m) s = .ok (.bl b) s := fun v h1 h2 => by
    unfold gIn gInB
    rw [h1, e1]
    simp only [e2, Option.map_some, h2]
  cases x with
  | str z => cases h; refine key _ rfl ?_; unfold inV; rw [List.any_map]; rfl
  | int z => cases h; refine key _ rfl ?_; unfold inV; rw [List.any_map]; exact List.any_eq_false.mpr fun a _ => Bool.false_ne_true
  | _ => cases h
def objsV (names : List Str) (d : D) : Option Bool := if tupB d 1 8 = true then match d with
    | .tup xs => allV (inN names) xs
    | _ => some false
  else some false
theorem c_check_objects {d : D} {ks : List D} {b : Bool} (h : liv s d = true) (hk : ∀ x ∈ ks, kindV x = some true) (hn : (ks.map hdD).all nameB = true) (hl4 : ks.length ≤ 4) (e : objsV ((ks.map hdD).map strOf) d = some b) :
    ChkR s b (call (k + 31) .check_objects [d, .tup ks] s) := by
  show ChkR s b (Core.fin (m_check_objects (call (k + 30)) [some d, some (.tup ks), none, none, none] s))
  have lc := lc_map (s := s) (ok := fun _ => true) (g := gmName 4) (vs := [4]) (l := [some d, some (.tup ks), none, none, none]) (me := mOp gIx (mVar 4) (mC (.int 0))) (F := hdD) ks [] (fun _ => rfl) (fun x hx => by
    obtain ⟨a, p, c, rfl⟩ := kind_is (hk x hx)
    exact ⟨[some d, some (.tup ks), none, none, some (.tup [a, p, c])], rfl, fun u => by simp only [mSeq, mExpr, mRet, mRetN, mIfS, mSet, mAug, mCall, mCons, mNil, mVar, mC, mOp, mUn, mApp, mTup, mLst, mNx, mRaise, mAnd, mOr, mNot, mIf, tstB, tstAnd, tstOr, tstNot, mChain, bind_ok, bind_err, bind_no, toS_ok, toS_err, nox_ok, fin_nx, fin_rt, fin_err, startL, List.map_cons, List.map_nil, List.length_cons, List.length_nil, List.cons_append, List.nil_append, List.getElem?_cons_zero, List.getElem?_cons_succ, List.set_cons_zero, List.set_cons_succ, List.replicate_succ, List.replicate_zero, Nat.zero_add, Nat.reduceAdd, Nat.reduceSub, Nat.add_one_sub_one, Nat.sub_self, if_true, if_false, ite_true, ite_false, Bool.false_eq_true, reduceCtorEq, if_pos, Nat.reduceEqDiff, Nat.reduceLeDiff, decide_true, decide_false, Bool.not_true, Bool.not_false, ix0]; rfl⟩) (by simp only [List.length_nil]; omega)
  rw [List.nil_append] at lc
  have e1 : mLc (iSeq (mVar 1)) (gmName 4) [4] tYes' (mOp gIx (mVar 4) (mC (.int 0))) [some d, some (.tup ks), none, none, none] s = _ := (lc_tup (s1 := s) rfl).trans lc
  have hm : (s ++ [Ob.lst (ks.map hdD)])[s.length]? = some (Ob.lst (((ks.map hdD).map strOf).map D.str)) := by rw [last_at, names_back hn]
  have h' : liv (s ++ [Ob.lst (ks.map hdD)]) d = true := liv_ext app_lst h
  have rq : call (k + 30) .require_tuple [d, .int 1, .int 8] (s ++ [Ob.lst (ks.map hdD)]) = _ := c_require_tuple (k := k + 28) h' 1 8
  unfold m_check_objects
  rw [seq_nx (l1 := [some d, some (.tup ks), some (.ref s.length), none, none]) (s1 := s ++ [Ob.lst (ks.map hdD)]) (by simp only [mSeq, mExpr, mRet, mRetN, mIfS, mSet, mAug, mCall, mCons, mNil, mVar, mC, mOp, mUn, mApp, mTup, mLst, mNx, mRaise, mAnd, mOr, mNot, mIf, tstB, tstAnd, tstOr, tstNot, mChain, bind_ok, bind_err, bind_no, toS_ok, toS_err, nox_ok, fin_nx, fin_rt, fin_err, startL, List.map_cons, List.map_nil, List.length_cons, List.length_nil, List.cons_append, List.nil_append, List.getElem?_cons_zero, List.getElem?_cons_succ, List.set_cons_zero, List.set_cons_succ, List.replicate_succ, List.replicate_zero, Nat.zero_add, Nat.reduceAdd, Nat.reduceSub, Nat.add_one_sub_one, Nat.sub_self, if_true, if_false, ite_true, ite_false, Bool.false_eq_true, reduceCtorEq, if_pos, Nat.reduceEqDiff, Nat.reduceLeDiff, decide_true, decide_false, Bool.not_true, Bool.not_false, e1])]
  unfold objsV at e
  cases ht : tupB d 1 8 with
  | false =>
    rw [ht] at e
    cases e
    rw [seq_err (c := "BadModel") (l1 := [some d, some (.tup ks), some (.ref s.length), none, none]) (s1 := s ++ [Ob.lst (ks.map hdD)]) (by simp only [mSeq, mExpr, mRet, mRetN, mIfS, mSet, mAug, mCall, mCons, mNil, mVar, mC, mOp, mUn, mApp, mTup, mLst, mNx, mRaise, mAnd, mOr, mNot, mIf, tstB, tstAnd, tstOr, tstNot, mChain, bind_ok, bind_err, bind_no, toS_ok, toS_err, nox_ok, fin_nx, fin_rt, fin_err, startL, List.map_cons, List.map_nil, List.length_cons, List.length_nil, List.cons_append, List.nil_append, List.getElem?_cons_zero, List.getElem?_cons_succ, List.set_cons_zero, List.set_cons_succ, List.replicate_succ, List.replicate_zero, Nat.zero_add, Nat.reduceAdd, Nat.reduceSub, Nat.add_one_sub_one, Nat.sub_self, if_true, if_false, ite_true, ite_false, Bool.false_eq_true, reduceCtorEq, if_pos, Nat.reduceEqDiff, Nat.reduceLeDiff, decide_true, decide_false, Bool.not_true, Bool.not_false, rq, ht])]
    exact ⟨[Ob.lst (ks.map hdD)], rfl⟩
  | true =>
    rw [ht, if_pos rfl] at e
    rw [seq_nx (l1 := [some d, some (.tup ks), some (.ref s.length), none, none]) (s1 := s ++ [Ob.lst (ks.map hdD)]) (by simp only [mSeq, mExpr, mRet, mRetN, mIfS, mSet, mAug, mCall, mCons, mNil, mVar, mC, mOp, mUn, mApp, mTup, mLst, mNx, mRaise, mAnd, mOr, mNot, mIf, tstB, tstAnd, tstOr, tstNot, mChain, bind_ok, bind_err, bind_no, toS_ok, toS_err, nox_ok, fin_nx, fin_rt, fin_err, startL, List.map_cons, List.map_nil, List.length_cons, List.length_nil, List.cons_append, List.nil_append, List.getElem?_cons_zero, List.getElem?_cons_succ, List.set_cons_zero, List.set_cons_succ, List.replicate_succ, List.replicate_zero, Nat.zero_add, Nat.reduceAdd, Nat.reduceSub, Nat.add_one_sub_one, Nat.sub_self, if_true, if_false, ite_true, ite_false, Bool.false_eq_true, reduceCtorEq, if_pos, Nat.reduceEqDiff, Nat.reduceLeDiff, decide_true, decide_false, Bool.not_true, Bool.not_false, rq, ht])]
    cases d with
    | tup xs =>
      have e : allV (inN ((ks.map hdD).map strOf)) xs = some b := e
      have key := loop_chk (s := s ++ [Ob.lst (ks.map hdD)]) (ok := fun _ => true) (i := 3) (body := mExpr (mCall 1 (call (k + 30) .require) (mCons (mOp gIn (mVar 3) (mVar 2)) mNil))) (V := inN ((ks.map hdD).map strOf)) (Lk := fun l => ∃ o, l = [some (.tup xs), some (.tup ks), some (.ref s.length), o, none]) xs [some (.tup xs), some (.tup ks), some (.ref s.length), none, none] [] b (fun t => rfl)
        (fun d hd l t b ⟨o, hl1⟩ e => by
          subst hl1
          have hm2 : (s ++ [Ob.lst (ks.map hdD)] ++ t)[s.length]? = some (Ob.lst (((ks.map hdD).map strOf).map D.str)) := by rw [List.getElem?_append_left (by simp)]; exact hm
          simp only [mSeq, mExpr, mRet, mRetN, mIfS, mSet, mAug, mCall, mCons, mNil, mVar, mC, mOp, mUn, mApp, mTup, mLst, mNx, mRaise, mAnd, mOr, mNot, mIf, tstB, tstAnd, tstOr, tstNot, mChain, bind_ok, bind_err, bind_no, toS_ok, toS_err, nox_ok, fin_nx, fin_rt, fin_err, startL, List.map_cons, List.map_nil, List.length_cons, List.length_nil, List.cons_append, List.nil_append, List.getElem?_cons_zero, List.getElem?_cons_succ, List.set_cons_zero, List.set_cons_succ, List.replicate_succ, List.replicate_zero, Nat.zero_add, Nat.reduceAdd, Nat.reduceSub, Nat.add_one_sub_one, Nat.sub_self, if_true, if_false, ite_true, ite_false, Bool.false_eq_true, reduceCtorEq, if_pos, Nat.reduceEqDiff, Nat.reduceLeDiff, decide_true, decide_false, Bool.not_true, Bool.not_false, in_strs hm2 e]
          rw [show k + 30 = (k + 29) + 1 from rfl, c_require]
          cases b <;> simp only [mSeq, mExpr, mRet, mRetN, mIfS, mSet, mAug, mCall, mCons, mNil, mVar, mC, mOp, mUn, mApp, mTup, mLst, mNx, mRaise, mAnd, mOr, mNot, mIf, tstB, tstAnd, tstOr, tstNot, mChain, bind_ok, bind_err, bind_no, toS_ok, toS_err, nox_ok, fin_nx, fin_rt, fin_err, startL, List.map_cons, List.map_nil, List.length_cons, List.length_nil, List.cons_append, List.nil_append, List.getElem?_cons_zero, List.getElem?_cons_succ, List.set_cons_zero, List.set_cons_succ, List.replicate_succ, List.replicate_zero, Nat.zero_add, Nat.reduceAdd, Nat.reduceSub, Nat.add_one_sub_one, Nat.sub_self, if_true, if_false, ite_true, ite_false, Bool.false_eq_true, reduceCtorEq, if_pos, Nat.reduceEqDiff, Nat.reduceLeDiff, decide_true, decide_false, Bool.not_true, Bool.not_false]
          · exact ⟨[some (.tup xs), some (.tup ks), some (.ref s.length), some d, none], [], by simp, some d, rfl⟩
          · exact ⟨[some (.tup xs), some (.tup ks), some (.ref s.length), some d, none], [], by simp, some d, rfl⟩) ⟨_, rfl⟩ e
      obtain ⟨l, t, h1, o, rfl⟩ := key
      simp only [List.append_nil] at h1
      have h2 := (for_tup (me := mVar 0) (l := [some (.tup xs), some (.tup ks), some (.ref s.length), none, none]) (s1 := s ++ [Ob.lst (ks.map hdD)]) rfl).trans h1
      rw [h2]
      cases b
      · exact ⟨[Ob.lst (ks.map hdD)] ++ t, by simp [fin_err]⟩
      · exact ⟨[Ob.lst (ks.map hdD)] ++ t, by simp [fin_nx]⟩
    | _ => cases ht
theorem chk_err {Lk : Core.Loc → Prop} {l : Core.Loc} (h : Lk l) : ChkS s Lk false (.err "BadModel" l s) := ⟨l, [], by simp, h⟩
theorem chk_ok {Lk : Core.Loc → Prop} {l : Core.Loc} (h : Lk l) : ChkS s Lk true (.nx l s) := ⟨l, [], by simp, h⟩
/-! ### start events -/
def eventB (many en : Int) : D → Bool
  | .tup [t, g, n, a] => tyI t 0 en && (tyI g 0 (many - 1) && (nameB n && tyI a (-999) 999))
  | _ => false
def startB (d : D) (many en : Int) : Bool := tupB d 0 12 && (match d with
  | .tup xs => xs.all (eventB many en)
  | _ => false)
theorem not4 {xs : List D} (h : ∀ a b c d, xs ≠ [a, b, c, d]) : tupB (.tup xs) 4 4 = false ∧ ∀ many en, eventB many en (.tup xs) = false := by
  match xs, h with
  | [], _ => exact ⟨by decide, fun _ _ => rfl⟩
  | [_], _ => exact ⟨show (decide ((4 : Int) ≤ ((1 : Nat) : Int)) && decide (((1 : Nat) : Int) ≤ 4)) = false from by decide, fun _ _ => rfl⟩
  | [_, _], _ => exact ⟨show (decide ((4 : Int) ≤ ((2 : Nat) : Int)) && decide (((2 : Nat) : Int) ≤ 4)) = false from by decide, fun _ _ => rfl⟩
  | [_, _, _], _ => exact ⟨show (decide ((4 : Int) ≤ ((3 : Nat) : Int)) && decide (((3 : Nat) : Int) ≤ 4)) = false from by decide, fun _ _ => rfl⟩
  | [a, b, c, d], h => exact absurd rfl (h a b c d)
  | a :: b :: c :: d :: e :: r, _ =>
    refine ⟨?_, fun _ _ => rfl⟩
    have : decide (((r.length + 1 + 1 + 1 + 1 + 1 : Nat) : Int) ≤ 4) = false := decide_eq_false (by omega)
    show (decide ((4 : Int) ≤ ((r.length + 1 + 1 + 1 + 1 + 1 : Nat) : Int)) && decide (((r.length + 1 + 1 + 1 + 1 + 1 : Nat) : Int) ≤ 4)) = false
    rw [this, Bool.and_false]
theorem t4 {a b c d : D} : tupB (.tup [a, b, c, d]) 4 4 = true := by show (decide ((4 : Int) ≤ (4 : Nat)) && decide (((4 : Nat) : Int) ≤ 4)) = true; decide
theorem c_check_start {d : D} {many en : Int} (h : liv s d = true) : ChkR s (startB d many en) (call (k + 31) .check_start [d, .int many, .int en] s) := by
  show ChkR s (startB d many en) (Core.fin (m_check_start (call (k + 30)) [some d, some (.int many), some (.int en), none, none, none, none, none] s))
  have rq : call (k + 30) .require_tuple [d, .int 0, .int 12] s = _ := c_require_tuple (k := k + 28) h 0 12
  unfold m_check_start
  cases ht : tupB d 0 12 with
  | false =>
    rw [seq_err (c := "BadModel") (l1 := [some d, some (.int many), some (.int en), none, none, none, none, none]) (s1 := s) (by simp only [mSeq, mExpr, mRet, mRetN, mIfS, mSet, mAug, mCall, mCons, mNil, mVar, mC, mOp, mUn, mApp, mTup, mLst, mNx, mRaise, mAnd, mOr, mNot, mIf, tstB, tstAnd, tstOr, tstNot, mChain, bind_ok, bind_err, bind_no, toS_ok, toS_err, nox_ok, fin_nx, fin_rt, fin_err, startL, List.map_cons, List.map_nil, List.length_cons, List.length_nil, List.cons_append, List.nil_append, List.getElem?_cons_zero, List.getElem?_cons_succ, List.set_cons_zero, List.set_cons_succ, List.replicate_succ, List.replicate_zero, Nat.zero_add, Nat.reduceAdd, Nat.reduceSub, Nat.add_one_sub_one, Nat.sub_self, if_true, if_false, ite_true, ite_false, Bool.false_eq_true, reduceCtorEq, if_pos, Nat.reduceEqDiff, Nat.reduceLeDiff, decide_true, decide_false, Bool.not_true, Bool.not_false, rq, ht])]
    exact ⟨[], by unfold startB; rw [ht]; simp [fin_err]⟩
  | true =>
    rw [seq_nx (l1 := [some d, some (.int many), some (.int en), none, none, none, none, none]) (s1 := s) (by simp only [mSeq, mExpr, mRet, mRetN, mIfS, mSet, mAug, mCall, mCons, mNil, mVar, mC, mOp, mUn, mApp, mTup, mLst, mNx, mRaise, mAnd, mOr, mNot, mIf, tstB, tstAnd, tstOr, tstNot, mChain, bind_ok, bind_err, bind_no, toS_ok, toS_err, nox_ok, fin_nx, fin_rt, fin_err, startL, List.map_cons, List.map_nil, List.length_cons, List.length_nil, List.cons_append, List.nil_append, List.getElem?_cons_zero, List.getElem?_cons_succ, List.set_cons_zero, List.set_cons_succ, List.replicate_succ, List.replicate_zero, Nat.zero_add, Nat.reduceAdd, Nat.reduceSub, Nat.add_one_sub_one, Nat.sub_self, if_true, if_false, ite_true, ite_false, Bool.false_eq_true, reduceCtorEq, if_pos, Nat.reduceEqDiff, Nat.reduceLeDiff, decide_true, decide_false, Bool.not_true, Bool.not_false, rq, ht])]
    cases d with
    | tup xs =>
      have hl : livs s xs = true := h
      have hf : startB (.tup xs) many en = xs.all (eventB many en) := by unfold startB; rw [ht]; rfl
      rw [for_tup (me := mVar 0) (s1 := s) (ds := xs) rfl]
      have key := loop_chk (s := s) (ok := fun _ => true) (i := 3) (body := (mSeq (mExpr (mCall 3 (call (k + 30) .require_tuple) (mCons (mVar 3) (mCons (mC (.int 4)) (mCons (mC (.int 4)) mNil)))))
    (mSeq (mAsg (mVar 3) (gmTup 4 (gmCons (gmName 4) (gmCons (gmName 5) (gmCons (gmName 6) (gmCons (gmName 7) gmNil))))))
    (mSeq (mExpr (mCall 1 (call (k + 30) .require) (mCons (mCall 3 (call (k + 30) .is_integer) (mCons (mVar 4) (mCons (mC (.int 0)) (mCons (mVar 2) mNil)))) mNil)))
    (mSeq (mExpr (mCall 1 (call (k + 30) .require) (mCons (mCall 3 (call (k + 30) .is_integer) (mCons (mVar 5) (mCons (mC (.int 0)) (mCons (mOp gSub (mVar 1) (mC (.int 1))) mNil)))) mNil)))
    (mSeq (mExpr (mCall 1 (call (k + 30) .require) (mCons (mCall 1 (call (k + 30) .is_name) (mCons (mVar 6) mNil)) mNil)))
    (mExpr (mCall 1 (call (k + 30) .require) (mCons (mCall 3 (call (k + 30) .is_integer) (mCons (mVar 7) (mCons (mUn gNeg (mC (.int 999))) (mCons (mC (.int 999)) mNil)))) mNil)))))))))
        (V := fun d => some (eventB many en d)) (Lk := fun l => ∃ o1 o2 o3 o4 o5, l = [some (.tup xs), some (.int many), some (.int en), o1, o2, o3, o4, o5]) xs [some (.tup xs), some (.int many), some (.int en), none, none, none, none, none] [] (xs.all (eventB many en)) (fun t => rfl)
        (fun d hd l t b ⟨o1, o2, o3, o4, o5, hl1⟩ e => by
          subst hl1
          cases e
          have hd' : liv (s ++ t) d = true := liv_ext app_lst (livs_mem hl d hd)
          have rq2 : call (k + 30) .require_tuple [d, .int 4, .int 4] (s ++ t) = _ := c_require_tuple (k := k + 28) hd' 4 4
          by_cases hp : ∃ a b c e, d = .tup [a, b, c, e]
          · obtain ⟨a, b, c, e, rfl⟩ := hp
            obtain ⟨ta, ea⟩ := liv_ty (livs_mem (xs := [a, b, c, e]) hd' a (by simp))
            obtain ⟨tb, eb⟩ := liv_ty (livs_mem (xs := [a, b, c, e]) hd' b (by simp))
            have hc := livs_mem (xs := [a, b, c, e]) hd' c (by simp)
            obtain ⟨te, ee⟩ := liv_ty (livs_mem (xs := [a, b, c, e]) hd' e (by simp))
            simp only [mSeq, mExpr, mRet, mRetN, mIfS, mSet, mAug, mCall, mCons, mNil, mVar, mC, mOp, mUn, mApp, mTup, mLst, mNx, mRaise, mAnd, mOr, mNot, mIf, tstB, tstAnd, tstOr, tstNot, mChain, bind_ok, bind_err, bind_no, toS_ok, toS_err, nox_ok, fin_nx, fin_rt, fin_err, startL, List.map_cons, List.map_nil, List.length_cons, List.length_nil, List.cons_append, List.nil_append, List.getElem?_cons_zero, List.getElem?_cons_succ, List.set_cons_zero, List.set_cons_succ, List.replicate_succ, List.replicate_zero, Nat.zero_add, Nat.reduceAdd, Nat.reduceSub, Nat.add_one_sub_one, Nat.sub_self, if_true, if_false, ite_true, ite_false, Bool.false_eq_true, reduceCtorEq, if_pos, Nat.reduceEqDiff, Nat.reduceLeDiff, decide_true, decide_false, Bool.not_true, Bool.not_false, rq2, t4, mAsg, gmTup, gmCons, gmName, gmNil]
            rw [show k + 30 = (k + 29) + 1 from rfl, c_is_integer ea]
            simp only [mSeq, mExpr, mRet, mRetN, mIfS, mSet, mAug, mCall, mCons, mNil, mVar, mC, mOp, mUn, mApp, mTup, mLst, mNx, mRaise, mAnd, mOr, mNot, mIf, tstB, tstAnd, tstOr, tstNot, mChain, bind_ok, bind_err, bind_no, toS_ok, toS_err, nox_ok, fin_nx, fin_rt, fin_err, startL, List.map_cons, List.map_nil, List.length_cons, List.length_nil, List.cons_append, List.nil_append, List.getElem?_cons_zero, List.getElem?_cons_succ, List.set_cons_zero, List.set_cons_succ, List.replicate_succ, List.replicate_zero, Nat.zero_add, Nat.reduceAdd, Nat.reduceSub, Nat.add_one_sub_one, Nat.sub_self, if_true, if_false, ite_true, ite_false, Bool.false_eq_true, reduceCtorEq, if_pos, Nat.reduceEqDiff, Nat.reduceLeDiff, decide_true, decide_false, Bool.not_true, Bool.not_false, c_require]
            cases h1 : tyI a 0 en with
            | false => simp only [mSeq, mExpr, mRet, mRetN, mIfS, mSet, mAug, mCall, mCons, mNil, mVar, mC, mOp, mUn, mApp, mTup, mLst, mNx, mRaise, mAnd, mOr, mNot, mIf, tstB, tstAnd, tstOr, tstNot, mChain, bind_ok, bind_err, bind_no, toS_ok, toS_err, nox_ok, fin_nx, fin_rt, fin_err, startL, List.map_cons, List.map_nil, List.length_cons, List.length_nil, List.cons_append, List.nil_append, List.getElem?_cons_zero, List.getElem?_cons_succ, List.set_cons_zero, List.set_cons_succ, List.replicate_succ, List.replicate_zero, Nat.zero_add, Nat.reduceAdd, Nat.reduceSub, Nat.add_one_sub_one, Nat.sub_self, if_true, if_false, ite_true, ite_false, Bool.false_eq_true, reduceCtorEq, if_pos, Nat.reduceEqDiff, Nat.reduceLeDiff, decide_true, decide_false, Bool.not_true, Bool.not_false, eventB, h1, Bool.false_and]; exact chk_err ⟨_, _, _, _, _, rfl⟩
            | true =>
              simp only [mSeq, mExpr, mRet, mRetN, mIfS, mSet, mAug, mCall, mCons, mNil, mVar, mC, mOp, mUn, mApp, mTup, mLst, mNx, mRaise, mAnd, mOr, mNot, mIf, tstB, tstAnd, tstOr, tstNot, mChain, bind_ok, bind_err, bind_no, toS_ok, toS_err, nox_ok, fin_nx, fin_rt, fin_err, startL, List.map_cons, List.map_nil, List.length_cons, List.length_nil, List.cons_append, List.nil_append, List.getElem?_cons_zero, List.getElem?_cons_succ, List.set_cons_zero, List.set_cons_succ, List.replicate_succ, List.replicate_zero, Nat.zero_add, Nat.reduceAdd, Nat.reduceSub, Nat.add_one_sub_one, Nat.sub_self, if_true, if_false, ite_true, ite_false, Bool.false_eq_true, reduceCtorEq, if_pos, Nat.reduceEqDiff, Nat.reduceLeDiff, decide_true, decide_false, Bool.not_true, Bool.not_false, Core.gSub, gI2, c_is_integer eb, c_require]
              cases h2 : tyI b 0 (many - 1) with
              | false => simp only [mSeq, mExpr, mRet, mRetN, mIfS, mSet, mAug, mCall, mCons, mNil, mVar, mC, mOp, mUn, mApp, mTup, mLst, mNx, mRaise, mAnd, mOr, mNot, mIf, tstB, tstAnd, tstOr, tstNot, mChain, bind_ok, bind_err, bind_no, toS_ok, toS_err, nox_ok, fin_nx, fin_rt, fin_err, startL, List.map_cons, List.map_nil, List.length_cons, List.length_nil, List.cons_append, List.nil_append, List.getElem?_cons_zero, List.getElem?_cons_succ, List.set_cons_zero, List.set_cons_succ, List.replicate_succ, List.replicate_zero, Nat.zero_add, Nat.reduceAdd, Nat.reduceSub, Nat.add_one_sub_one, Nat.sub_self, if_true, if_false, ite_true, ite_false, Bool.false_eq_true, reduceCtorEq, if_pos, Nat.reduceEqDiff, Nat.reduceLeDiff, decide_true, decide_false, Bool.not_true, Bool.not_false, eventB, h1, h2, Bool.false_and, Bool.true_and]; exact chk_err ⟨_, _, _, _, _, rfl⟩
              | true =>
                simp only [mSeq, mExpr, mRet, mRetN, mIfS, mSet, mAug, mCall, mCons, mNil, mVar, mC, mOp, mUn, mApp, mTup, mLst, mNx, mRaise, mAnd, mOr, mNot, mIf, tstB, tstAnd, tstOr, tstNot, mChain, bind_ok, bind_err, bind_no, toS_ok, toS_err, nox_ok, fin_nx, fin_rt, fin_err, startL, List.map_cons, List.map_nil, List.length_cons, List.length_nil, List.cons_append, List.nil_append, List.getElem?_cons_zero, List.getElem?_cons_succ, List.set_cons_zero, List.set_cons_succ, List.replicate_succ, List.replicate_zero, Nat.zero_add, Nat.reduceAdd, Nat.reduceSub, Nat.add_one_sub_one, Nat.sub_self, if_true, if_false, ite_true, ite_false, Bool.false_eq_true, reduceCtorEq, if_pos, Nat.reduceEqDiff, Nat.reduceLeDiff, decide_true, decide_false, Bool.not_true, Bool.not_false, c_is_name hc, c_require]
                cases h3 : nameB c with
                | false => simp only [mSeq, mExpr, mRet, mRetN, mIfS, mSet, mAug, mCall, mCons, mNil, mVar, mC, mOp, mUn, mApp, mTup, mLst, mNx, mRaise, mAnd, mOr, mNot, mIf, tstB, tstAnd, tstOr, tstNot, mChain, bind_ok, bind_err, bind_no, toS_ok, toS_err, nox_ok, fin_nx, fin_rt, fin_err, startL, List.map_cons, List.map_nil, List.length_cons, List.length_nil, List.cons_append, List.nil_append, List.getElem?_cons_zero, List.getElem?_cons_succ, List.set_cons_zero, List.set_cons_succ, List.replicate_succ, List.replicate_zero, Nat.zero_add, Nat.reduceAdd, Nat.reduceSub, Nat.add_one_sub_one, Nat.sub_self, if_true, if_false, ite_true, ite_false, Bool.false_eq_true, reduceCtorEq, if_pos, Nat.reduceEqDiff, Nat.reduceLeDiff, decide_true, decide_false, Bool.not_true, Bool.not_false, eventB, h1, h2, h3, Bool.false_and, Bool.true_and]; exact chk_err ⟨_, _, _, _, _, rfl⟩
                | true =>
                  simp only [mSeq, mExpr, mRet, mRetN, mIfS, mSet, mAug, mCall, mCons, mNil, mVar, mC, mOp, mUn, mApp, mTup, mLst, mNx, mRaise, mAnd, mOr, mNot, mIf, tstB, tstAnd, tstOr, tstNot, mChain, bind_ok, bind_err, bind_no, toS_ok, toS_err, nox_ok, fin_nx, fin_rt, fin_err, startL, List.map_cons, List.map_nil, List.length_cons, List.length_nil, List.cons_append, List.nil_append, List.getElem?_cons_zero, List.getElem?_cons_succ, List.set_cons_zero, List.set_cons_succ, List.replicate_succ, List.replicate_zero, Nat.zero_add, Nat.reduceAdd, Nat.reduceSub, Nat.add_one_sub_one, Nat.sub_self, if_true, if_false, ite_true, ite_false, Bool.false_eq_true, reduceCtorEq, if_pos, Nat.reduceEqDiff, Nat.reduceLeDiff, decide_true, decide_false, Bool.not_true, Bool.not_false, gNeg, c_is_integer ee, c_require, eventB, h1, h2, h3, Bool.true_and]
                  cases tyI e (-999) 999 <;> simp only [mSeq, mExpr, mRet, mRetN, mIfS, mSet, mAug, mCall, mCons, mNil, mVar, mC, mOp, mUn, mApp, mTup, mLst, mNx, mRaise, mAnd, mOr, mNot, mIf, tstB, tstAnd, tstOr, tstNot, mChain, bind_ok, bind_err, bind_no, toS_ok, toS_err, nox_ok, fin_nx, fin_rt, fin_err, startL, List.map_cons, List.map_nil, List.length_cons, List.length_nil, List.cons_append, List.nil_append, List.getElem?_cons_zero, List.getElem?_cons_succ, List.set_cons_zero, List.set_cons_succ, List.replicate_succ, List.replicate_zero, Nat.zero_add, Nat.reduceAdd, Nat.reduceSub, Nat.add_one_sub_one, Nat.sub_self, if_true, if_false, ite_true, ite_false, Bool.false_eq_true, reduceCtorEq, if_pos, Nat.reduceEqDiff, Nat.reduceLeDiff, decide_true, decide_false, Bool.not_true, Bool.not_false]
                  · exact chk_err ⟨_, _, _, _, _, rfl⟩
                  · exact chk_ok ⟨_, _, _, _, _, rfl⟩
          · have f0 : tupB d 4 4 = false ∧ eventB many en d = false := by
              cases d with
              | tup ys => exact ⟨(not4 fun a b c e z => hp ⟨a, b, c, e, by rw [z]⟩).1, (not4 fun a b c e z => hp ⟨a, b, c, e, by rw [z]⟩).2 _ _⟩
              | _ => exact ⟨rfl, rfl⟩
            simp only [mSeq, mExpr, mRet, mRetN, mIfS, mSet, mAug, mCall, mCons, mNil, mVar, mC, mOp, mUn, mApp, mTup, mLst, mNx, mRaise, mAnd, mOr, mNot, mIf, tstB, tstAnd, tstOr, tstNot, mChain, bind_ok, bind_err, bind_no, toS_ok, toS_err, nox_ok, fin_nx, fin_rt, fin_err, startL, List.map_cons, List.map_nil, List.length_cons, List.length_nil, List.cons_append, List.nil_append, List.getElem?_cons_zero, List.getElem?_cons_succ, List.set_cons_zero, List.set_cons_succ, List.replicate_succ, List.replicate_zero, Nat.zero_add, Nat.reduceAdd, Nat.reduceSub, Nat.add_one_sub_one, Nat.sub_self, if_true, if_false, ite_true, ite_false, Bool.false_eq_true, reduceCtorEq, if_pos, Nat.reduceEqDiff, Nat.reduceLeDiff, decide_true, decide_false, Bool.not_true, Bool.not_false, rq2, f0.1, f0.2]
            exact chk_err ⟨_, _, _, _, _, rfl⟩) ⟨_, _, _, _, _, rfl⟩ (allV_some (eventB many en) xs)
      obtain ⟨l, t, h1, _⟩ := key
      simp only [List.append_nil] at h1
      rw [h1, hf]
      cases xs.all (eventB many en)
      · exact ⟨t, rfl⟩
      · exact ⟨t, rfl⟩
    | _ => cases ht
end
end Pr

set_option Elab.async false
set_option linter.all false
set_option maxRecDepth 100000
set_option maxHeartbeats 4000000
/-! what the check of a model does; what is refused -/
namespace Pr
open PySem PySem.Spec PyProof.Rows L2 Core
section
variable {s : Mem} {k : Nat}
def lenD : D → Int
  | .tup xs => xs.length
  | _ => 0
def endB (os st : D) : D → Bool
  | .int e => tyI (.int e) 0 1000 && startB st (lenD os) e
  | _ => false
def modelV : D → Option Bool
  | .tup [ks, os, st, en] => match kindsV ks with
    | some true => match objsV (fnames ks) os with
      | some true => some (endB os st en)
      | x => x
    | x => x
  | _ => some false
theorem kinds_is {d : D} (h : kindsV d = some true) : ∃ xs, d = .tup xs ∧ 1 ≤ xs.length ∧ xs.length ≤ 4 ∧ (∀ x ∈ xs, kindV x = some true) ∧ diffB (xs.map hdD) = true := by
  unfold kindsV at h
  cases ht : tupB d 1 4 with
  | false => rw [ht] at h; cases h
  | true =>
    rw [ht, if_pos rfl] at h
    cases d with
    | tup xs =>
      have h : (match allV kindV xs with
        | some true => some (diffB (xs.map hdD))
        | x => x) = some true := h
      obtain ⟨a, b⟩ := tup_len ht
      cases q : allV kindV xs with
      | none => rw [q] at h; cases h
      | some b' =>
        rw [q] at h
        cases b' with
        | false => cases h
        | true => exact ⟨xs, rfl, by omega, by omega, loop_ext q rfl, Option.some.inj h⟩
    | _ => cases ht
theorem objs_is {names : List Str} {d : D} (h : objsV names d = some true) : ∃ xs, d = .tup xs ∧ 1 ≤ xs.length ∧ xs.length ≤ 8 ∧ ∀ x ∈ xs, inN names x = some true := by
  unfold objsV at h
  cases ht : tupB d 1 8 with
  | false => rw [ht] at h; cases h
  | true =>
    rw [ht, if_pos rfl] at h
    cases d with
    | tup xs =>
      obtain ⟨a, b⟩ := tup_len ht
      exact ⟨xs, rfl, by omega, by omega, loop_ext h rfl⟩
    | _ => cases ht
def ChkM (s : Mem) (d : D) (b : Bool) (res : Core.R D) : Prop := ∃ t : Mem, res = if b = true then .ok d (s ++ t) else .err "BadModel" (s ++ t)
theorem c_check_model {d : D} {b : Bool} (h : liv s d = true) (e : modelV d = some b) : ChkM s d b (call (k + 32) .check_model [d] s) := by
  show ChkM s d b (Core.fin (m_check_model (call (k + 31)) [some d, none, none, none, none] s))
  have rq : call (k + 31) .require_tuple [d, .int 4, .int 4] s = _ := c_require_tuple (k := k + 29) h 4 4
  unfold m_check_model
  by_cases hp : ∃ ks os st en, d = .tup [ks, os, st, en]
  · obtain ⟨ks, os, st, en, rfl⟩ := hp
    have hks := livs_mem (xs := [ks, os, st, en]) h ks (by simp)
    have hos := livs_mem (xs := [ks, os, st, en]) h os (by simp)
    have hst := livs_mem (xs := [ks, os, st, en]) h st (by simp)
    have hen := livs_mem (xs := [ks, os, st, en]) h en (by simp)
    have e : (match kindsV ks with
      | some true => (match objsV (fnames ks) os with
        | some true => some (endB os st en)
        | x => x)
      | x => x) = some b := e
    cases q1 : kindsV ks with
    | none => rw [q1] at e; cases e
    | some b1 =>
      obtain ⟨t1, ck⟩ := c_check_kinds (s := s) (k := k) hks q1
      simp only [mSeq, mExpr, mRet, mRetN, mIfS, mSet, mAug, mCall, mCons, mNil, mVar, mC, mOp, mUn, mApp, mTup, mLst, mNx, mRaise, mAnd, mOr, mNot, mIf, tstB, tstAnd, tstOr, tstNot, mChain, bind_ok, bind_err, bind_no, toS_ok, toS_err, nox_ok, fin_nx, fin_rt, fin_err, startL, List.map_cons, List.map_nil, List.length_cons, List.length_nil, List.cons_append, List.nil_append, List.getElem?_cons_zero, List.getElem?_cons_succ, List.set_cons_zero, List.set_cons_succ, List.replicate_succ, List.replicate_zero, Nat.zero_add, Nat.reduceAdd, Nat.reduceSub, Nat.add_one_sub_one, Nat.sub_self, if_true, if_false, ite_true, ite_false, Bool.false_eq_true, reduceCtorEq, if_pos, Nat.reduceEqDiff, Nat.reduceLeDiff, decide_true, decide_false, Bool.not_true, Bool.not_false, rq, t4, mAsg, gmTup, gmCons, gmName, gmNil, ck]
      rw [q1] at e
      cases b1 with
      | false => cases e; simp only [mSeq, mExpr, mRet, mRetN, mIfS, mSet, mAug, mCall, mCons, mNil, mVar, mC, mOp, mUn, mApp, mTup, mLst, mNx, mRaise, mAnd, mOr, mNot, mIf, tstB, tstAnd, tstOr, tstNot, mChain, bind_ok, bind_err, bind_no, toS_ok, toS_err, nox_ok, fin_nx, fin_rt, fin_err, startL, List.map_cons, List.map_nil, List.length_cons, List.length_nil, List.cons_append, List.nil_append, List.getElem?_cons_zero, List.getElem?_cons_succ, List.set_cons_zero, List.set_cons_succ, List.replicate_succ, List.replicate_zero, Nat.zero_add, Nat.reduceAdd, Nat.reduceSub, Nat.add_one_sub_one, Nat.sub_self, if_true, if_false, ite_true, ite_false, Bool.false_eq_true, reduceCtorEq, if_pos, Nat.reduceEqDiff, Nat.reduceLeDiff, decide_true, decide_false, Bool.not_true, Bool.not_false]; exact ⟨t1, rfl⟩
      | true =>
        obtain ⟨xs, rfl, l1, l2, hk, hd⟩ := kinds_is q1
        have e : (match objsV (fnames (.tup xs)) os with
          | some true => some (endB os st en)
          | x => x) = some b := e
        cases q2 : objsV (fnames (.tup xs)) os with
        | none => rw [q2] at e; cases e
        | some b2 =>
          obtain ⟨t2, co⟩ := c_check_objects (s := s ++ t1) (k := k) (liv_ext app_lst hos) hk (diff_all hd) l2 q2
          simp only [mSeq, mExpr, mRet, mRetN, mIfS, mSet, mAug, mCall, mCons, mNil, mVar, mC, mOp, mUn, mApp, mTup, mLst, mNx, mRaise, mAnd, mOr, mNot, mIf, tstB, tstAnd, tstOr, tstNot, mChain, bind_ok, bind_err, bind_no, toS_ok, toS_err, nox_ok, fin_nx, fin_rt, fin_err, startL, List.map_cons, List.map_nil, List.length_cons, List.length_nil, List.cons_append, List.nil_append, List.getElem?_cons_zero, List.getElem?_cons_succ, List.set_cons_zero, List.set_cons_succ, List.replicate_succ, List.replicate_zero, Nat.zero_add, Nat.reduceAdd, Nat.reduceSub, Nat.add_one_sub_one, Nat.sub_self, if_true, if_false, ite_true, ite_false, Bool.false_eq_true, reduceCtorEq, if_pos, Nat.reduceEqDiff, Nat.reduceLeDiff, decide_true, decide_false, Bool.not_true, Bool.not_false, co]
          rw [q2] at e
          cases b2 with
          | false => cases e; simp only [mSeq, mExpr, mRet, mRetN, mIfS, mSet, mAug, mCall, mCons, mNil, mVar, mC, mOp, mUn, mApp, mTup, mLst, mNx, mRaise, mAnd, mOr, mNot, mIf, tstB, tstAnd, tstOr, tstNot, mChain, bind_ok, bind_err, bind_no, toS_ok, toS_err, nox_ok, fin_nx, fin_rt, fin_err, startL, List.map_cons, List.map_nil, List.length_cons, List.length_nil, List.cons_append, List.nil_append, List.getElem?_cons_zero, List.getElem?_cons_succ, List.set_cons_zero, List.set_cons_succ, List.replicate_succ, List.replicate_zero, Nat.zero_add, Nat.reduceAdd, Nat.reduceSub, Nat.add_one_sub_one, Nat.sub_self, if_true, if_false, ite_true, ite_false, Bool.false_eq_true, reduceCtorEq, if_pos, Nat.reduceEqDiff, Nat.reduceLeDiff, decide_true, decide_false, Bool.not_true, Bool.not_false]; exact ⟨t1 ++ t2, by simp⟩
          | true =>
            obtain ⟨ys, rfl, m1, m2, ho⟩ := objs_is q2
            have e : some (endB (.tup ys) st en) = some b := e
            obtain ⟨te, ee⟩ := liv_ty (liv_ext (s' := s ++ t1 ++ t2) (fun n xs h => app_lst n xs (by obtain ⟨ys, h'⟩ := app_lst (t := t1) n xs h; rw [List.getElem?_append_left (List.getElem?_eq_some_iff.mp h).1]; exact h)) hen)
            simp only [mSeq, mExpr, mRet, mRetN, mIfS, mSet, mAug, mCall, mCons, mNil, mVar, mC, mOp, mUn, mApp, mTup, mLst, mNx, mRaise, mAnd, mOr, mNot, mIf, tstB, tstAnd, tstOr, tstNot, mChain, bind_ok, bind_err, bind_no, toS_ok, toS_err, nox_ok, fin_nx, fin_rt, fin_err, startL, List.map_cons, List.map_nil, List.length_cons, List.length_nil, List.cons_append, List.nil_append, List.getElem?_cons_zero, List.getElem?_cons_succ, List.set_cons_zero, List.set_cons_succ, List.replicate_succ, List.replicate_zero, Nat.zero_add, Nat.reduceAdd, Nat.reduceSub, Nat.add_one_sub_one, Nat.sub_self, if_true, if_false, ite_true, ite_false, Bool.false_eq_true, reduceCtorEq, if_pos, Nat.reduceEqDiff, Nat.reduceLeDiff, decide_true, decide_false, Bool.not_true, Bool.not_false]
            rw [show k + 31 = (k + 30) + 1 from rfl, c_is_integer ee]
            simp only [mSeq, mExpr, mRet, mRetN, mIfS, mSet, mAug, mCall, mCons, mNil, mVar, mC, mOp, mUn, mApp, mTup, mLst, mNx, mRaise, mAnd, mOr, mNot, mIf, tstB, tstAnd, tstOr, tstNot, mChain, bind_ok, bind_err, bind_no, toS_ok, toS_err, nox_ok, fin_nx, fin_rt, fin_err, startL, List.map_cons, List.map_nil, List.length_cons, List.length_nil, List.cons_append, List.nil_append, List.getElem?_cons_zero, List.getElem?_cons_succ, List.set_cons_zero, List.set_cons_succ, List.replicate_succ, List.replicate_zero, Nat.zero_add, Nat.reduceAdd, Nat.reduceSub, Nat.add_one_sub_one, Nat.sub_self, if_true, if_false, ite_true, ite_false, Bool.false_eq_true, reduceCtorEq, if_pos, Nat.reduceEqDiff, Nat.reduceLeDiff, decide_true, decide_false, Bool.not_true, Bool.not_false, c_require]
            cases h3 : tyI en 0 1000 with
            | false =>
              have : b = false := by
                have e2 := Option.some.inj e
                cases en with
                | int z =>
                  have e2 : (tyI (.int z) 0 1000 && startB st (lenD (.tup ys)) z) = b := e2
                  rw [h3, Bool.false_and] at e2
                  exact e2.symm
                | _ => exact e2.symm
              subst this
              simp only [mSeq, mExpr, mRet, mRetN, mIfS, mSet, mAug, mCall, mCons, mNil, mVar, mC, mOp, mUn, mApp, mTup, mLst, mNx, mRaise, mAnd, mOr, mNot, mIf, tstB, tstAnd, tstOr, tstNot, mChain, bind_ok, bind_err, bind_no, toS_ok, toS_err, nox_ok, fin_nx, fin_rt, fin_err, startL, List.map_cons, List.map_nil, List.length_cons, List.length_nil, List.cons_append, List.nil_append, List.getElem?_cons_zero, List.getElem?_cons_succ, List.set_cons_zero, List.set_cons_succ, List.replicate_succ, List.replicate_zero, Nat.zero_add, Nat.reduceAdd, Nat.reduceSub, Nat.add_one_sub_one, Nat.sub_self, if_true, if_false, ite_true, ite_false, Bool.false_eq_true, reduceCtorEq, if_pos, Nat.reduceEqDiff, Nat.reduceLeDiff, decide_true, decide_false, Bool.not_true, Bool.not_false]
              exact ⟨t1 ++ t2, by simp⟩
            | true =>
              cases en with
              | int ev_ =>
                have e : some (tyI (.int ev_) 0 1000 && startB st (lenD (.tup ys)) ev_) = some b := e
                rw [h3, Bool.true_and] at e
                cases e
                obtain ⟨t3, cs⟩ := c_check_start (s := s ++ t1 ++ t2) (k := k) (d := st) (many := ys.length) (en := ev_) (liv_ext app_lst (liv_ext app_lst hst))
                simp only [mSeq, mExpr, mRet, mRetN, mIfS, mSet, mAug, mCall, mCons, mNil, mVar, mC, mOp, mUn, mApp, mTup, mLst, mNx, mRaise, mAnd, mOr, mNot, mIf, tstB, tstAnd, tstOr, tstNot, mChain, bind_ok, bind_err, bind_no, toS_ok, toS_err, nox_ok, fin_nx, fin_rt, fin_err, startL, List.map_cons, List.map_nil, List.length_cons, List.length_nil, List.cons_append, List.nil_append, List.getElem?_cons_zero, List.getElem?_cons_succ, List.set_cons_zero, List.set_cons_succ, List.replicate_succ, List.replicate_zero, Nat.zero_add, Nat.reduceAdd, Nat.reduceSub, Nat.add_one_sub_one, Nat.sub_self, if_true, if_false, ite_true, ite_false, Bool.false_eq_true, reduceCtorEq, if_pos, Nat.reduceEqDiff, Nat.reduceLeDiff, decide_true, decide_false, Bool.not_true, Bool.not_false, gLen, seqD, cs, lenD]
                cases startB st (ys.length : Int) ev_ <;> simp only [mSeq, mExpr, mRet, mRetN, mIfS, mSet, mAug, mCall, mCons, mNil, mVar, mC, mOp, mUn, mApp, mTup, mLst, mNx, mRaise, mAnd, mOr, mNot, mIf, tstB, tstAnd, tstOr, tstNot, mChain, bind_ok, bind_err, bind_no, toS_ok, toS_err, nox_ok, fin_nx, fin_rt, fin_err, startL, List.map_cons, List.map_nil, List.length_cons, List.length_nil, List.cons_append, List.nil_append, List.getElem?_cons_zero, List.getElem?_cons_succ, List.set_cons_zero, List.set_cons_succ, List.replicate_succ, List.replicate_zero, Nat.zero_add, Nat.reduceAdd, Nat.reduceSub, Nat.add_one_sub_one, Nat.sub_self, if_true, if_false, ite_true, ite_false, Bool.false_eq_true, reduceCtorEq, if_pos, Nat.reduceEqDiff, Nat.reduceLeDiff, decide_true, decide_false, Bool.not_true, Bool.not_false]
                · exact ⟨t1 ++ (t2 ++ t3), by simp⟩
                · exact ⟨t1 ++ (t2 ++ t3), by simp⟩
              | _ => cases h3
  · have f0 : tupB d 4 4 = false ∧ modelV d = some false := by
      cases d with
      | tup ys =>
        refine ⟨(not4 fun a b c e z => hp ⟨a, b, c, e, by rw [z]⟩).1, ?_⟩
        match ys, hp with
        | [], _ => rfl
        | [_], _ => rfl
        | [_, _], _ => rfl
        | [_, _, _], _ => rfl
        | [a, b, c, d], hp => exact absurd ⟨a, b, c, d, rfl⟩ hp
        | _ :: _ :: _ :: _ :: _ :: _, _ => rfl
      | _ => exact ⟨rfl, rfl⟩
    rw [f0.2] at e
    cases e
    simp only [mSeq, mExpr, mRet, mRetN, mIfS, mSet, mAug, mCall, mCons, mNil, mVar, mC, mOp, mUn, mApp, mTup, mLst, mNx, mRaise, mAnd, mOr, mNot, mIf, tstB, tstAnd, tstOr, tstNot, mChain, bind_ok, bind_err, bind_no, toS_ok, toS_err, nox_ok, fin_nx, fin_rt, fin_err, startL, List.map_cons, List.map_nil, List.length_cons, List.length_nil, List.cons_append, List.nil_append, List.getElem?_cons_zero, List.getElem?_cons_succ, List.set_cons_zero, List.set_cons_succ, List.replicate_succ, List.replicate_zero, Nat.zero_add, Nat.reduceAdd, Nat.reduceSub, Nat.add_one_sub_one, Nat.sub_self, if_true, if_false, ite_true, ite_false, Bool.false_eq_true, reduceCtorEq, if_pos, Nat.reduceEqDiff, Nat.reduceLeDiff, decide_true, decide_false, Bool.not_true, Bool.not_false, rq, f0.1]
    exact ⟨[], by simp⟩
theorem c_law_refused {d : D} {b : Bool} (h : liv s d = true) (e : modelV d = some b) : ∃ t, call (k + 33) .law_refused [d] s = .ok (.bl (!b)) (s ++ t) := by
  obtain ⟨t, cm⟩ := c_check_model (k := k) h e
  refine ⟨t, ?_⟩
  show Core.fin (m_law_refused (call (k + 32)) [some d, none] s) = _
  have m1 : ("BadModel" : Str) ∈ (["CourierError", "BadModel"] : List Str) := by decide +kernel
  have m2 : decide (("BadModel" : Str) ∈ (["BadModel"] : List Str)) = true := by decide +kernel
  unfold m_law_refused
  simp only [mSeq, mExpr, mRet, mRetN, mIfS, mSet, mAug, mCall, mCons, mNil, mVar, mC, mOp, mUn, mApp, mTup, mLst, mNx, mRaise, mAnd, mOr, mNot, mIf, tstB, tstAnd, tstOr, tstNot, mChain, bind_ok, bind_err, bind_no, toS_ok, toS_err, nox_ok, fin_nx, fin_rt, fin_err, startL, List.map_cons, List.map_nil, List.length_cons, List.length_nil, List.cons_append, List.nil_append, List.getElem?_cons_zero, List.getElem?_cons_succ, List.set_cons_zero, List.set_cons_succ, List.replicate_succ, List.replicate_zero, Nat.zero_add, Nat.reduceAdd, Nat.reduceSub, Nat.add_one_sub_one, Nat.sub_self, if_true, if_false, ite_true, ite_false, Bool.false_eq_true, reduceCtorEq, if_pos, Nat.reduceEqDiff, Nat.reduceLeDiff, decide_true, decide_false, Bool.not_true, Bool.not_false, mTryAs, cm]
  cases b <;> simp only [mSeq, mExpr, mRet, mRetN, mIfS, mSet, mAug, mCall, mCons, mNil, mVar, mC, mOp, mUn, mApp, mTup, mLst, mNx, mRaise, mAnd, mOr, mNot, mIf, tstB, tstAnd, tstOr, tstNot, mChain, bind_ok, bind_err, bind_no, toS_ok, toS_err, nox_ok, fin_nx, fin_rt, fin_err, startL, List.map_cons, List.map_nil, List.length_cons, List.length_nil, List.cons_append, List.nil_append, List.getElem?_cons_zero, List.getElem?_cons_succ, List.set_cons_zero, List.set_cons_succ, List.replicate_succ, List.replicate_zero, Nat.zero_add, Nat.reduceAdd, Nat.reduceSub, Nat.add_one_sub_one, Nat.sub_self, if_true, if_false, ite_true, ite_false, Bool.false_eq_true, reduceCtorEq, if_pos, Nat.reduceEqDiff, Nat.reduceLeDiff, decide_true, decide_false, Bool.not_true, Bool.not_false, m1, m2, and_self, true_and, Nat.reduceLT]
end
end Pr

set_option Elab.async false
set_option linter.all false
set_option maxRecDepth 100000
set_option maxHeartbeats 4000000
/-! the drawing: draws, the next one -/
namespace Pr
open PySem PySem.Spec PyProof.Rows L2 Core
structure Gs (dr at_ : Nat) (s : Mem) : Prop where
  hd : ∃ xs : List Int, s[dr]? = some (.lst (xs.map D.int))
  ha : ∃ i : Nat, s[at_]? = some (.lst [.int i])
  ne : dr ≠ at_
/-- from s to s': what stood still stands, but for the place of the counter -/
structure Gt (at_ : Nat) (s s' : Mem) : Prop where
  len : s.length ≤ s'.length
  old : ∀ (n : Nat) (o : Ob), n ≠ at_ → s[n]? = some o → s'[n]? = some o
theorem Gt.refl {at_ : Nat} {s : Mem} : Gt at_ s s := ⟨Nat.le_refl _, fun _ _ _ h => h⟩
theorem Gt.trans {at_ : Nat} {s s1 s2 : Mem} (a : Gt at_ s s1) (b : Gt at_ s1 s2) : Gt at_ s s2 := ⟨Nat.le_trans a.len b.len, fun n o h e => b.old n o h (a.old n o h e)⟩
theorem Gt.app {at_ : Nat} {s t : Mem} : Gt at_ s (s ++ t) := ⟨by simp, fun n o _ e => by rw [List.getElem?_append_left (List.getElem?_eq_some_iff.mp e).1]; exact e⟩
/-- what a drawing def does -/
def Dr (dr at_ : Nat) (s : Mem) (P : D → Prop) (res : Core.R D) : Prop := ∃ d s', res = .ok d s' ∧ P d ∧ Gs dr at_ s' ∧ Gt at_ s s'
section
variable {s : Mem} {k dr at_ : Nat}
theorem Gs.app {t : Mem} (g : Gs dr at_ s) : Gs dr at_ (s ++ t) := by
  obtain ⟨⟨xs, h1⟩, ⟨i, h2⟩, h3⟩ := g
  exact ⟨⟨xs, by rw [List.getElem?_append_left (List.getElem?_eq_some_iff.mp h1).1]; exact h1⟩, ⟨i, by rw [List.getElem?_append_left (List.getElem?_eq_some_iff.mp h2).1]; exact h2⟩, h3⟩
theorem rd_lst {s : Mem} {n : Nat} {xs : List D} (h : s[n]? = some (.lst xs)) : rdL s n = some xs := by unfold rdL; rw [h]
theorem sq_lst {s : Mem} {n : Nat} {xs : List D} (h : s[n]? = some (.lst xs)) : seqD s (.ref n) = some xs := rd_lst h
theorem ix_lst {s : Mem} {n i : Nat} {xs : List D} {x : D} (h : s[n]? = some (.lst xs)) (hx : xs[i]? = some x) : gIx (.ref n) (.int i) s = .ok x s := by
  unfold gIx
  dsimp only
  rw [sq_lst h]
  dsimp only
  rw [at_nat hx]
def inR (lo hi : Int) (d : D) : Prop := ∃ v : Int, d = .int v ∧ lo ≤ v ∧ v < hi
theorem c_law_next (g : Gs dr at_ s) {many : Int} (hm : 1 ≤ many) : Dr dr at_ s (inR 0 many) (call (k + 1) .law_next [.ref dr, .ref at_, .int many] s) := by
  show Dr dr at_ s (inR 0 many) (Core.fin (m_law_next (call k) [some (.ref dr), some (.ref at_), some (.int many), none] s))
  obtain ⟨⟨xs, h1⟩, ⟨i, h2⟩, h3⟩ := g
  have al : at_ < s.length := (List.getElem?_eq_some_iff.mp h2).1
  have i0 : gIx (.ref at_) (.int 0) s = .ok (.int i) s := ix_lst (i := 0) h2 rfl
  have h1' : (s.set at_ (.lst [.int ((i : Int) + 1)]))[dr]? = some (.lst (xs.map D.int)) := by rw [List.getElem?_set_ne (Ne.symm h3)]; exact h1
  have h2' : (s.set at_ (.lst [.int ((i : Int) + 1)]))[at_]? = some (.lst [.int ((i + 1 : Nat) : Int)]) := by rw [List.getElem?_set_self al]; rfl
  have gs : Gs dr at_ (s.set at_ (.lst [.int ((i : Int) + 1)])) := ⟨⟨xs, h1'⟩, ⟨i + 1, h2'⟩, h3⟩
  have gt : Gt at_ s (s.set at_ (.lst [.int ((i : Int) + 1)])) := ⟨by simp, fun n o hn e => by rw [List.getElem?_set_ne (Ne.symm hn)]; exact e⟩
  have ix : ixN (1 : Nat) (0 : Int) = some 0 := by decide
  unfold m_law_next
  simp only [mSeq, mExpr, mRet, mRetN, mIfS, mSet, mAug, mCall, mCons, mNil, mVar, mC, mOp, mUn, mApp, mTup, mLst, mNx, mRaise, mAnd, mOr, mNot, mIf, tstB, tstAnd, tstOr, tstNot, mChain, bind_ok, bind_err, bind_no, toS_ok, toS_err, nox_ok, fin_nx, fin_rt, fin_err, startL, List.map_cons, List.map_nil, List.length_cons, List.length_nil, List.cons_append, List.nil_append, List.getElem?_cons_zero, List.getElem?_cons_succ, List.set_cons_zero, List.set_cons_succ, List.replicate_succ, List.replicate_zero, Nat.zero_add, Nat.reduceAdd, Nat.reduceSub, Nat.add_one_sub_one, Nat.sub_self, if_true, if_false, ite_true, ite_false, Bool.false_eq_true, reduceCtorEq, if_pos, Nat.reduceEqDiff, Nat.reduceLeDiff, decide_true, decide_false, Bool.not_true, Bool.not_false, i0, mSub, gAdd, h2, ix, gLen, sq_lst h1', gOrd]
  by_cases hl : i < xs.length
  · have e1 : decide ((i : Int) < ((xs.map D.int).length : Int)) = true := decide_eq_true (by rw [List.length_map]; omega)
    have e2 : gIx (.ref dr) (.int i) (s.set at_ (.lst [.int ((i : Int) + 1)])) = .ok (.int xs[i]) (s.set at_ (.lst [.int ((i : Int) + 1)])) := ix_lst h1' (by rw [List.getElem?_map, List.getElem?_eq_getElem hl]; rfl)
    simp only [mSeq, mExpr, mRet, mRetN, mIfS, mSet, mAug, mCall, mCons, mNil, mVar, mC, mOp, mUn, mApp, mTup, mLst, mNx, mRaise, mAnd, mOr, mNot, mIf, tstB, tstAnd, tstOr, tstNot, mChain, bind_ok, bind_err, bind_no, toS_ok, toS_err, nox_ok, fin_nx, fin_rt, fin_err, startL, List.map_cons, List.map_nil, List.length_cons, List.length_nil, List.cons_append, List.nil_append, List.getElem?_cons_zero, List.getElem?_cons_succ, List.set_cons_zero, List.set_cons_succ, List.replicate_succ, List.replicate_zero, Nat.zero_add, Nat.reduceAdd, Nat.reduceSub, Nat.add_one_sub_one, Nat.sub_self, if_true, if_false, ite_true, ite_false, Bool.false_eq_true, reduceCtorEq, if_pos, Nat.reduceEqDiff, Nat.reduceLeDiff, decide_true, decide_false, Bool.not_true, Bool.not_false, e1, e2, gInt1, gMod, gI2C, decide_eq_true (show (0 : Int) < many by omega)]
    exact ⟨_, _, rfl, ⟨_, rfl, Int.emod_nonneg _ (by omega), Int.emod_lt_of_pos _ (by omega)⟩, gs, gt⟩
  · have e1 : decide ((i : Int) < ((xs.map D.int).length : Int)) = false := decide_eq_false (by rw [List.length_map]; omega)
    simp only [mSeq, mExpr, mRet, mRetN, mIfS, mSet, mAug, mCall, mCons, mNil, mVar, mC, mOp, mUn, mApp, mTup, mLst, mNx, mRaise, mAnd, mOr, mNot, mIf, tstB, tstAnd, tstOr, tstNot, mChain, bind_ok, bind_err, bind_no, toS_ok, toS_err, nox_ok, fin_nx, fin_rt, fin_err, startL, List.map_cons, List.map_nil, List.length_cons, List.length_nil, List.cons_append, List.nil_append, List.getElem?_cons_zero, List.getElem?_cons_succ, List.set_cons_zero, List.set_cons_succ, List.replicate_succ, List.replicate_zero, Nat.zero_add, Nat.reduceAdd, Nat.reduceSub, Nat.add_one_sub_one, Nat.sub_self, if_true, if_false, ite_true, ite_false, Bool.false_eq_true, reduceCtorEq, if_pos, Nat.reduceEqDiff, Nat.reduceLeDiff, decide_true, decide_false, Bool.not_true, Bool.not_false, e1]
    exact ⟨_, _, rfl, ⟨0, rfl, by omega, by omega⟩, gs, gt⟩
end
end Pr

set_option Elab.async false
set_option linter.all false
set_option maxRecDepth 100000
set_option maxHeartbeats 4000000
/-! drawn expressions -/
namespace Pr
open PySem PySem.Spec PyProof.Rows L2 Core
inductive Wx (names : List Str) : Nat → D → Nat → Prop
  | int {h : Nat} {v : Int} : tyI (.int v) (-999) 999 = true → Wx names (h + 1) (.tup [.str "int", .int v]) 1
  | fld {h : Nat} {x : Str} : x ∈ names → Wx names (h + 1) (.tup [.str "field", .str x]) 1
  | leaf {h : Nat} {z : Str} : z ∈ ops1 → Wx names (h + 1) (.tup [.str z]) 1
  | neg {h c : Nat} {a : D} : Wx names h a c → Wx names (h + 1) (.tup [.str "not", a]) (c + 1)
  | div {h c : Nat} {a : D} {z : Str} {v : Int} : z ∈ ops2 → Wx names h a c → tyI (.int v) 1 999 = true → Wx names (h + 1) (.tup [.str z, a, .int v]) (c + 1)
  | bin {h c c' : Nat} {a b : D} {z : Str} : z ∈ ops3 → Wx names h a c → Wx names h b c' → Wx names (h + 1) (.tup [.str z, a, b]) (c + c' + 1)
theorem Wx.le {names : List Str} {h c : Nat} {e : D} (w : Wx names h e c) : c + 1 ≤ 2 ^ h ∧ 1 ≤ h := by
  induction w with
  | int _ => refine ⟨?_, by omega⟩; rename_i h _ _; have := Nat.one_le_two_pow (n := h); rw [Nat.pow_succ]; omega
  | fld _ => refine ⟨?_, by omega⟩; rename_i h _ _; have := Nat.one_le_two_pow (n := h); rw [Nat.pow_succ]; omega
  | leaf _ => refine ⟨?_, by omega⟩; rename_i h _ _; have := Nat.one_le_two_pow (n := h); rw [Nat.pow_succ]; omega
  | neg _ ih => refine ⟨?_, by omega⟩; rw [Nat.pow_succ]; omega
  | div _ _ _ ih => refine ⟨?_, by omega⟩; rw [Nat.pow_succ]; omega
  | bin _ _ _ ih1 ih2 => refine ⟨?_, by omega⟩; rw [Nat.pow_succ]; omega
theorem wx_v {names : List Str} {h c : Nat} {e : D} (w : Wx names h e c) : ∀ (fu : Nat) (depth n : Int), h ≤ fu → depth + h ≤ 9 → n + c ≤ 80 → exprV names fu e depth n = some (some (n + c)) := by
  induction w with
  | @int h v hv =>
    intro fu depth n h1 h2 h3
    obtain ⟨fu, rfl⟩ : ∃ f, fu = f + 1 := ⟨fu - 1, by omega⟩
    unfold exprV
    rw [if_pos ⟨by omega, by omega⟩]
    show (if ("int" : Str) = "int" then some (if tyI (.int v) (-999) 999 = true then some (n + 1) else none) else _) = _
    rw [if_pos rfl, if_pos hv]; rfl
  | @fld h x hx =>
    intro fu depth n h1 h2 h3
    obtain ⟨fu, rfl⟩ : ∃ f, fu = f + 1 := ⟨fu - 1, by omega⟩
    unfold exprV
    rw [if_pos ⟨by omega, by omega⟩]
    show (if ("field" : Str) = "int" then _ else if ("field" : Str) = "field" then (inN names (.str x)).map (fun b => if b = true then some (n + 1) else none) else _) = _
    rw [if_neg (by decide +kernel), if_pos rfl]
    have e : names.any (· == x) = true := List.any_eq_true.mpr ⟨x, hx, by simp⟩
    simp only [inN, e, Option.map_some, if_true]; rfl
  | @leaf h z hz =>
    intro fu depth n h1 h2 h3
    obtain ⟨fu, rfl⟩ : ∃ f, fu = f + 1 := ⟨fu - 1, by omega⟩
    unfold exprV
    rw [if_pos ⟨by omega, by omega⟩]
    show some (if z ∈ ops1 then some (n + 1) else none) = _
    rw [if_pos hz]; rfl
  | @neg h c a w ih =>
    intro fu depth n h1 h2 h3
    obtain ⟨fu, rfl⟩ : ∃ f, fu = f + 1 := ⟨fu - 1, by omega⟩
    unfold exprV
    rw [if_pos ⟨by omega, by omega⟩]
    show (if ("not" : Str) = "int" then _ else if ("not" : Str) = "field" then _ else if ("not" : Str) = "not" then exprV names fu a (depth + 1) (n + 1) else _) = _
    rw [if_neg (by decide +kernel), if_neg (by decide +kernel), if_pos rfl, ih fu (depth + 1) (n + 1) (by omega) (by omega) (by omega)]
    congr 2; omega
  | @div h c a z v hz w hv ih =>
    intro fu depth n h1 h2 h3
    obtain ⟨fu, rfl⟩ : ∃ f, fu = f + 1 := ⟨fu - 1, by omega⟩
    unfold exprV
    rw [if_pos ⟨by omega, by omega⟩]
    show (if z ∈ ops2 then (match exprV names fu a (depth + 1) (n + 1) with
      | some (some m) => some (if tyI (.int v) 1 999 = true then some m else none)
      | x => x) else _) = _
    rw [if_pos hz, ih fu (depth + 1) (n + 1) (by omega) (by omega) (by omega)]
    dsimp only
    rw [if_pos hv]
    congr 2; omega
  | @bin h c c' a b z hz w w' ih ih' =>
    intro fu depth n h1 h2 h3
    obtain ⟨fu, rfl⟩ : ∃ f, fu = f + 1 := ⟨fu - 1, by omega⟩
    have hz2 : ¬ z ∈ ops2 := fun q => by
      have : ∀ x ∈ ops3, ¬ x ∈ ops2 := by decide +kernel
      exact this z hz q
    unfold exprV
    rw [if_pos ⟨by omega, by omega⟩]
    show (if z ∈ ops2 then _ else if z ∈ ops3 then (match exprV names fu a (depth + 1) (n + 1) with
      | some (some m) => exprV names fu b (depth + 1) m
      | x => x) else _) = _
    rw [if_neg hz2, if_pos hz, ih fu (depth + 1) (n + 1) (by omega) (by omega) (by omega)]
    dsimp only
    rw [ih' fu (depth + 1) (n + 1 + c) (by omega) (by omega) (by omega)]
    congr 2; omega
end Pr

set_option Elab.async false
set_option linter.all false
set_option maxRecDepth 100000
set_option maxHeartbeats 4000000
/-! drawn expressions -/
namespace Pr
open PySem PySem.Spec PyProof.Rows L2 Core
section
variable {s : Mem} {k dr at_ nm : Nat} {names : List Str}
theorem pickL {r : Nat} {xs : List D} {v : Int} (h : s[r]? = some (.lst xs)) (h0 : 0 ≤ v) (h1 : v < xs.length) : ∃ j, ∃ hj : j < xs.length, v = (j : Int) ∧ gIx (.ref r) (.int v) s = .ok xs[j] s := by
  obtain ⟨j, rfl⟩ : ∃ j : Nat, v = j := ⟨v.toNat, by omega⟩
  have hj : j < xs.length := by omega
  exact ⟨j, hj, rfl, ix_lst h (List.getElem?_eq_getElem hj)⟩
theorem pickN {r : Nat} {xs : List Str} {v : Int} (h : s[r]? = some (.lst (xs.map D.str))) (h0 : 0 ≤ v) (h1 : v < xs.length) : ∃ x ∈ xs, gIx (.ref r) (.int v) s = .ok (.str x) s := by
  obtain ⟨j, hj, rfl, e⟩ := pickL h h0 (by rw [List.length_map]; exact h1)
  rw [List.getElem_map] at e
  exact ⟨_, List.getElem_mem _, e⟩
theorem add_lst {a b : Nat} {xs ys : List D} (h : s[a]? = some (.lst xs)) (h' : s[b]? = some (.lst ys)) (hl : xs.length + ys.length ≤ 100000) : Core.gAdd (.ref a) (.ref b) s = .ok (.ref s.length) (s ++ [.lst (xs ++ ys)]) := by
  unfold Core.gAdd
  dsimp only
  rw [h, h']
  dsimp only
  rw [if_pos hl]
theorem Gt.fresh {s s1 s2 : Mem} {u : Ob} (t : Gt at_ (s ++ [u]) s2) (h : at_ < s.length) : s2[s.length]? = some u := t.old s.length u (Nat.ne_of_gt h) last_at
theorem Gs.lt (g : Gs dr at_ s) : at_ < s.length := let ⟨_, h⟩ := g.ha; (List.getElem?_eq_some_iff.mp h).1
theorem leaf_ok (g : Gs dr at_ s) (hnm : s[nm]? = some (.lst (names.map D.str))) (hne : nm ≠ at_) (h0 : 1 ≤ names.length) (h : Nat) (d v : Int) :
    ∃ e s', (mSeq (mSet 5 (mLst (mCons (mTup (mCons (mC (.str "int")) (mCons (mOp Core.gSub (mCall 3 (call (k + 1) .law_next) (mCons (mVar 0) (mCons (mVar 1) (mCons (mC (.int 19)) mNil)))) (mC (.int 9))) mNil))) (mCons (mTup (mCons (mC (.str "field")) (mCons (mOp gIx (mVar 2) (mCall 3 (call (k + 1) .law_next) (mCons (mVar 0) (mCons (mVar 1) (mCons (mApp gLen (mCons (mVar 2) mNil)) mNil))))) mNil))) (mCons (mTup (mCons (mC (.str "arg")) mNil)) (mCons (mTup (mCons (mC (.str "now")) mNil)) mNil))))))
    (mSeq (mSet 5 (mOp Core.gAdd (mVar 5) (mLst (mCons (mTup (mCons (mC (.str "self")) mNil)) (mCons (mTup (mCons (mC (.str "int")) (mCons (mOp gMulA (mCall 3 (call (k + 1) .law_next) (mCons (mVar 0) (mCons (mVar 1) (mCons (mC (.int 999)) mNil)))) (mOp gIx (mLst (mCons (mC (.int 1)) (mCons (mUn gNeg (mC (.int 1))) mNil))) (mCall 3 (call (k + 1) .law_next) (mCons (mVar 0) (mCons (mVar 1) (mCons (mC (.int 2)) mNil)))))) mNil))) mNil)))))
    (mRet (mOp gIx (mVar 5) (mCall 3 (call (k + 1) .law_next) (mCons (mVar 0) (mCons (mVar 1) (mCons (mC (.int 6)) mNil)))))))) [some (.ref dr), some (.ref at_), some (.ref nm), some (.int d), some (.int v), none, none, none] s = .rt e s' ∧ (∃ c, Wx names (h + 1) e c) ∧ Gs dr at_ s' ∧ Gt at_ s s' := by
  obtain ⟨_, s1, e1, ⟨v1, rfl, a1, b1⟩, g1, t1⟩ := c_law_next (k := k) g (many := 19) (by omega)
  have hn1 := t1.old nm _ hne hnm
  obtain ⟨_, s2, e2, ⟨v2, rfl, a2, b2⟩, g2, t2⟩ := c_law_next (k := k) g1 (many := (names.map D.str).length) (by rw [List.length_map]; omega)
  have hn2 := t2.old nm _ hne hn1
  obtain ⟨x, hx, p2⟩ := pickN hn2 a2 (by rw [List.length_map] at b2; exact b2)
  simp only [mSeq, mExpr, mRet, mRetN, mIfS, mSet, mAug, mCall, mCons, mNil, mVar, mC, mOp, mUn, mApp, mTup, mLst, mNx, mRaise, mAnd, mOr, mNot, mIf, tstB, tstAnd, tstOr, tstNot, mChain, bind_ok, bind_err, bind_no, toS_ok, toS_err, nox_ok, fin_nx, fin_rt, fin_err, startL, List.map_cons, List.map_nil, List.length_cons, List.length_nil, List.cons_append, List.nil_append, List.getElem?_cons_zero, List.getElem?_cons_succ, List.set_cons_zero, List.set_cons_succ, List.replicate_succ, List.replicate_zero, Nat.zero_add, Nat.reduceAdd, Nat.reduceSub, Nat.add_one_sub_one, Nat.sub_self, if_true, if_false, ite_true, ite_false, Bool.false_eq_true, reduceCtorEq, if_pos, Nat.reduceEqDiff, Nat.reduceLeDiff, decide_true, decide_false, Bool.not_true, Bool.not_false, e1, Core.gSub, gI2, gLen, sq_lst hn1, e2, p2]
  obtain ⟨L1, hL1⟩ : ∃ L : List D, L = [.tup [.str "int", .int (v1 - 9)], .tup [.str "field", .str x], .tup [.str "arg"], .tup [.str "now"]] := ⟨_, rfl⟩
  rw [← hL1]
  have g3 : Gs dr at_ (s2 ++ [Ob.lst L1]) := g2.app
  have r1 : (s2 ++ [Ob.lst L1])[s2.length]? = some (Ob.lst L1) := last_at
  obtain ⟨_, s4, e4, ⟨v4, rfl, a4, b4⟩, g4, t4⟩ := c_law_next (k := k) g3 (many := 999) (by omega)
  have r4 := t4.old _ _ (Nat.ne_of_gt g2.lt) r1
  have g5 : Gs dr at_ (s4 ++ [Ob.lst [.int 1, .int (-1)]]) := g4.app
  obtain ⟨_, s6, e6, ⟨v6, rfl, a6, b6⟩, g6, t6⟩ := c_law_next (k := k) g5 (many := 2) (by omega)
  have q6 : s6[s4.length]? = some (Ob.lst [.int 1, .int (-1)]) := t6.fresh (s1 := s6) g4.lt
  have r6 : s6[s2.length]? = some (Ob.lst L1) := t6.old _ _ (Nat.ne_of_gt g2.lt) (Gt.app.old _ _ (Nat.ne_of_gt g2.lt) r4)
  obtain ⟨j6, hj6, rfl, p6⟩ := pickL q6 a6 b6
  obtain ⟨sg, hsg, hs1⟩ : ∃ sg : Int, ([.int 1, .int (-1)] : List D)[j6] = .int sg ∧ (sg = 1 ∨ sg = -1) := by
    match j6, hj6 with
    | 0, _ => exact ⟨1, rfl, .inl rfl⟩
    | 1, _ => exact ⟨-1, rfl, .inr rfl⟩
  rw [hsg] at p6
  have mu : gMulA (.int v4) (.int sg) s6 = .ok (.int (v4 * sg)) s6 := by
    show (if (-(2 ^ 64) < v4 ∧ v4 < 2 ^ 64) ∨ (-(2 ^ 64) < sg ∧ sg < 2 ^ 64) then Core.R.ok (D.int (v4 * sg)) s6 else .no) = _
    rw [if_pos (.inl ⟨by omega, by omega⟩)]
  obtain ⟨L2_, hL2⟩ : ∃ L : List D, L = [.tup [.str "self"], .tup [.str "int", .int (v4 * sg)]] := ⟨_, rfl⟩
  have r7 : (s6 ++ [Ob.lst L2_])[s2.length]? = some (Ob.lst L1) := Gt.app.old _ _ (Nat.ne_of_gt g2.lt) r6
  have ad : Core.gAdd (.ref s2.length) (.ref s6.length) (s6 ++ [Ob.lst L2_]) = .ok (.ref (s6 ++ [Ob.lst L2_]).length) (s6 ++ [Ob.lst L2_] ++ [Ob.lst (L1 ++ L2_)]) := add_lst r7 last_at (by rw [hL1, hL2]; show 4 + 2 ≤ 100000; omega)
  have g8 : Gs dr at_ (s6 ++ [Ob.lst L2_] ++ [Ob.lst (L1 ++ L2_)]) := g6.app.app
  obtain ⟨_, s9, e9, ⟨v9, rfl, a9, b9⟩, g9, t9⟩ := c_law_next (k := k) g8 (many := 6) (by omega)
  have q9 : s9[(s6 ++ [Ob.lst L2_]).length]? = some (Ob.lst (L1 ++ L2_)) := t9.fresh (s1 := s9) g6.app.lt
  obtain ⟨j9, hj9, rfl, p9⟩ := pickL q9 a9 (by rw [hL1, hL2]; exact b9)
  simp only [mSeq, mExpr, mRet, mRetN, mIfS, mSet, mAug, mCall, mCons, mNil, mVar, mC, mOp, mUn, mApp, mTup, mLst, mNx, mRaise, mAnd, mOr, mNot, mIf, tstB, tstAnd, tstOr, tstNot, mChain, bind_ok, bind_err, bind_no, toS_ok, toS_err, nox_ok, fin_nx, fin_rt, fin_err, startL, List.map_cons, List.map_nil, List.length_cons, List.length_nil, List.cons_append, List.nil_append, List.getElem?_cons_zero, List.getElem?_cons_succ, List.set_cons_zero, List.set_cons_succ, List.replicate_succ, List.replicate_zero, Nat.zero_add, Nat.reduceAdd, Nat.reduceSub, Nat.add_one_sub_one, Nat.sub_self, if_true, if_false, ite_true, ite_false, Bool.false_eq_true, reduceCtorEq, if_pos, Nat.reduceEqDiff, Nat.reduceLeDiff, decide_true, decide_false, Bool.not_true, Bool.not_false, e4, gNeg, e6, p6, mu]
  rw [← hL2]
  simp only [mSeq, mExpr, mRet, mRetN, mIfS, mSet, mAug, mCall, mCons, mNil, mVar, mC, mOp, mUn, mApp, mTup, mLst, mNx, mRaise, mAnd, mOr, mNot, mIf, tstB, tstAnd, tstOr, tstNot, mChain, bind_ok, bind_err, bind_no, toS_ok, toS_err, nox_ok, fin_nx, fin_rt, fin_err, startL, List.map_cons, List.map_nil, List.length_cons, List.length_nil, List.cons_append, List.nil_append, List.getElem?_cons_zero, List.getElem?_cons_succ, List.set_cons_zero, List.set_cons_succ, List.replicate_succ, List.replicate_zero, Nat.zero_add, Nat.reduceAdd, Nat.reduceSub, Nat.add_one_sub_one, Nat.sub_self, if_true, if_false, ite_true, ite_false, Bool.false_eq_true, reduceCtorEq, if_pos, Nat.reduceEqDiff, Nat.reduceLeDiff, decide_true, decide_false, Bool.not_true, Bool.not_false, ad, e9, p9]
  refine ⟨_, _, rfl, ?_, g9, (t1.trans t2).trans (Gt.app.trans (t4.trans (Gt.app.trans (t6.trans (Gt.app.trans (Gt.app.trans t9))))))⟩
  subst hL1 hL2
  match j9, hj9 with
  | 0, _ => exact ⟨1, .int (by show (decide ((-999 : Int) ≤ v1 - 9) && decide (v1 - 9 ≤ 999)) = true; rw [decide_eq_true (by omega), decide_eq_true (by omega)]; rfl)⟩
  | 1, _ => exact ⟨1, .fld hx⟩
  | 2, _ => exact ⟨1, .leaf (by decide +kernel)⟩
  | 3, _ => exact ⟨1, .leaf (by decide +kernel)⟩
  | 4, _ => exact ⟨1, .leaf (by decide +kernel)⟩
  | 5, _ =>
    refine ⟨1, .int ?_⟩
    show (decide ((-999 : Int) ≤ v4 * sg) && decide (v4 * sg ≤ 999)) = true
    rcases hs1 with rfl | rfl <;> rw [decide_eq_true (by omega), decide_eq_true (by omega)] <;> rfl
end
end Pr

set_option Elab.async false
set_option linter.all false
set_option maxRecDepth 100000
set_option maxHeartbeats 4000000
/-! drawn expressions -/
namespace Pr
open PySem PySem.Spec PyProof.Rows L2 Core
section
variable {dr at_ nm : Nat} {names : List Str}
theorem c_law_expression (h0 : 1 ≤ names.length) (hne : nm ≠ at_) : ∀ (d k : Nat) (s : Mem), Gs dr at_ s → s[nm]? = some (.lst (names.map D.str)) →
    Dr dr at_ s (fun e => ∃ c, Wx names (d + 1) e c) (call (k + d + 2) .law_expression [.ref dr, .ref at_, .ref nm, .int d] s)
  | d, k, s, g, hnm => by
    show Dr dr at_ s _ (Core.fin (m_law_expression (call (k + d + 1)) [some (.ref dr), some (.ref at_), some (.ref nm), some (.int d), none, none, none, none] s))
    obtain ⟨_, s1, e1, ⟨v, rfl, a1, b1⟩, g1, t1⟩ := c_law_next (k := k + d) g (many := 16) (by omega)
    have hn1 := t1.old nm _ hne hnm
    unfold m_law_expression
    rw [seq_nx (l1 := [some (.ref dr), some (.ref at_), some (.ref nm), some (.int d), some (.int v), none, none, none]) (s1 := s1) (by simp only [mSeq, mExpr, mRet, mRetN, mIfS, mSet, mAug, mCall, mCons, mNil, mVar, mC, mOp, mUn, mApp, mTup, mLst, mNx, mRaise, mAnd, mOr, mNot, mIf, tstB, tstAnd, tstOr, tstNot, mChain, bind_ok, bind_err, bind_no, toS_ok, toS_err, nox_ok, fin_nx, fin_rt, fin_err, startL, List.map_cons, List.map_nil, List.length_cons, List.length_nil, List.cons_append, List.nil_append, List.getElem?_cons_zero, List.getElem?_cons_succ, List.set_cons_zero, List.set_cons_succ, List.replicate_succ, List.replicate_zero, Nat.zero_add, Nat.reduceAdd, Nat.reduceSub, Nat.add_one_sub_one, Nat.sub_self, if_true, if_false, ite_true, ite_false, Bool.false_eq_true, reduceCtorEq, if_pos, Nat.reduceEqDiff, Nat.reduceLeDiff, decide_true, decide_false, Bool.not_true, Bool.not_false, e1])]
    by_cases hb : d = 0 ∨ v < 4
    · have te : tstOr (tstB (mOp gEq (mVar 3) (mC (.int 0)))) (tstB (mOp gLt (mVar 4) (mC (.int 4)))) [some (.ref dr), some (.ref at_), some (.ref nm), some (.int d), some (.int v), none, none, none] s1 = .ok true s1 := by
        simp only [mSeq, mExpr, mRet, mRetN, mIfS, mSet, mAug, mCall, mCons, mNil, mVar, mC, mOp, mUn, mApp, mTup, mLst, mNx, mRaise, mAnd, mOr, mNot, mIf, tstB, tstAnd, tstOr, tstNot, mChain, bind_ok, bind_err, bind_no, toS_ok, toS_err, nox_ok, fin_nx, fin_rt, fin_err, startL, List.map_cons, List.map_nil, List.length_cons, List.length_nil, List.cons_append, List.nil_append, List.getElem?_cons_zero, List.getElem?_cons_succ, List.set_cons_zero, List.set_cons_succ, List.replicate_succ, List.replicate_zero, Nat.zero_add, Nat.reduceAdd, Nat.reduceSub, Nat.add_one_sub_one, Nat.sub_self, if_true, if_false, ite_true, ite_false, Bool.false_eq_true, reduceCtorEq, if_pos, Nat.reduceEqDiff, Nat.reduceLeDiff, decide_true, decide_false, Bool.not_true, Bool.not_false, gEq, gEqB, gOrd]
        rcases hb with rfl | hb
        · rfl
        · cases ((d : Int) == 0) <;> simp only [mSeq, mExpr, mRet, mRetN, mIfS, mSet, mAug, mCall, mCons, mNil, mVar, mC, mOp, mUn, mApp, mTup, mLst, mNx, mRaise, mAnd, mOr, mNot, mIf, tstB, tstAnd, tstOr, tstNot, mChain, bind_ok, bind_err, bind_no, toS_ok, toS_err, nox_ok, fin_nx, fin_rt, fin_err, startL, List.map_cons, List.map_nil, List.length_cons, List.length_nil, List.cons_append, List.nil_append, List.getElem?_cons_zero, List.getElem?_cons_succ, List.set_cons_zero, List.set_cons_succ, List.replicate_succ, List.replicate_zero, Nat.zero_add, Nat.reduceAdd, Nat.reduceSub, Nat.add_one_sub_one, Nat.sub_self, if_true, if_false, ite_true, ite_false, Bool.false_eq_true, reduceCtorEq, if_pos, Nat.reduceEqDiff, Nat.reduceLeDiff, decide_true, decide_false, Bool.not_true, Bool.not_false, hb]
      obtain ⟨e, s2, h1, h2, g2, t2⟩ := leaf_ok (k := k + d) g1 hn1 hne h0 d d v
      have lf := h1
      rw [seq_rt (d := e) (s1 := s2)]
      · exact ⟨e, s2, rfl, h2, g2, t1.trans t2⟩
      · unfold mIfS
        rw [te, toS_ok, if_pos rfl]
        exact lf
    · have hd : ¬ d = 0 := fun z => hb (.inl z)
      have hv : 4 ≤ v := by have : ¬ v < 4 := fun z => hb (.inr z); omega
      obtain ⟨d, rfl⟩ : ∃ d', d = d' + 1 := ⟨d - 1, by omega⟩
      have c0 : (((d + 1 : Nat) : Int) == 0) = false := beq_eq_false_iff_ne.mpr (by omega)
      have c1 : decide (v < 4) = false := decide_eq_false (by omega)
      have cd : ((d + 1 : Nat) : Int) - 1 = (d : Int) := by omega
      rw [seq_nx (l1 := [some (.ref dr), some (.ref at_), some (.ref nm), some (.int ((d + 1 : Nat) : Int)), some (.int v), none, none, none]) (s1 := s1) (by simp only [mSeq, mExpr, mRet, mRetN, mIfS, mSet, mAug, mCall, mCons, mNil, mVar, mC, mOp, mUn, mApp, mTup, mLst, mNx, mRaise, mAnd, mOr, mNot, mIf, tstB, tstAnd, tstOr, tstNot, mChain, bind_ok, bind_err, bind_no, toS_ok, toS_err, nox_ok, fin_nx, fin_rt, fin_err, startL, List.map_cons, List.map_nil, List.length_cons, List.length_nil, List.cons_append, List.nil_append, List.getElem?_cons_zero, List.getElem?_cons_succ, List.set_cons_zero, List.set_cons_succ, List.replicate_succ, List.replicate_zero, Nat.zero_add, Nat.reduceAdd, Nat.reduceSub, Nat.add_one_sub_one, Nat.sub_self, if_true, if_false, ite_true, ite_false, Bool.false_eq_true, reduceCtorEq, if_pos, Nat.reduceEqDiff, Nat.reduceLeDiff, decide_true, decide_false, Bool.not_true, Bool.not_false, gEq, gEqB, gOrd, c0, c1])]
      by_cases h6 : v < 6
      · -- div, mod
        obtain ⟨j, hj, ej⟩ : ∃ j : Nat, j < 2 ∧ v - 4 = (j : Int) := ⟨(v - 4).toNat, by omega, by omega⟩
        obtain ⟨L, hL⟩ : ∃ L : List D, L = [.str "div", .str "mod"] := ⟨_, rfl⟩
        have g2 : Gs dr at_ (s1 ++ [Ob.lst L]) := g1.app
        obtain ⟨z, hz, p2⟩ : ∃ z, z ∈ ops2 ∧ gIx (.ref s1.length) (.int (v - 4)) (s1 ++ [Ob.lst L]) = .ok (.str z) (s1 ++ [Ob.lst L]) := by
          rw [ej]
          match j, hj with
          | 0, _ => exact ⟨"div", by decide +kernel, ix_lst last_at (by rw [hL]; rfl)⟩
          | 1, _ => exact ⟨"mod", by decide +kernel, ix_lst last_at (by rw [hL]; rfl)⟩
        have hn2 : (s1 ++ [Ob.lst L])[nm]? = _ := Gt.app.old nm _ hne hn1
        obtain ⟨a, s3, e3, ⟨c, wa⟩, g3, t3⟩ := c_law_expression h0 hne d k _ g2 hn2
        obtain ⟨_, s4, e4, ⟨w, rfl, a4, b4⟩, g4, t4⟩ := c_law_next (k := k + (d + 1)) g3 (many := 9) (by omega)
        have e3' : call (k + (d + 1) + 1) .law_expression [.ref dr, .ref at_, .ref nm, .int d] (s1 ++ [Ob.lst L]) = .ok a s3 := by rw [show k + (d + 1) + 1 = k + d + 2 by omega]; exact e3
        have c6 : decide (v < 6) = true := decide_eq_true h6
        rw [seq_rt (d := .tup [.str z, a, .int (1 + w)]) (s1 := s4)]
        · exact ⟨_, s4, rfl, ⟨_, .div hz wa (by show (decide ((1 : Int) ≤ 1 + w) && decide (1 + w ≤ 999)) = true; rw [decide_eq_true (by omega), decide_eq_true (by omega)]; rfl)⟩, g4, t1.trans (Gt.app.trans (t3.trans t4))⟩
        · simp only [mSeq, mExpr, mRet, mRetN, mIfS, mSet, mAug, mCall, mCons, mNil, mVar, mC, mOp, mUn, mApp, mTup, mLst, mNx, mRaise, mAnd, mOr, mNot, mIf, tstB, tstAnd, tstOr, tstNot, mChain, bind_ok, bind_err, bind_no, toS_ok, toS_err, nox_ok, fin_nx, fin_rt, fin_err, startL, List.map_cons, List.map_nil, List.length_cons, List.length_nil, List.cons_append, List.nil_append, List.getElem?_cons_zero, List.getElem?_cons_succ, List.set_cons_zero, List.set_cons_succ, List.replicate_succ, List.replicate_zero, Nat.zero_add, Nat.reduceAdd, Nat.reduceSub, Nat.add_one_sub_one, Nat.sub_self, if_true, if_false, ite_true, ite_false, Bool.false_eq_true, reduceCtorEq, if_pos, Nat.reduceEqDiff, Nat.reduceLeDiff, decide_true, decide_false, Bool.not_true, Bool.not_false, gOrd, c6, Core.gSub, gI2]
          rw [← hL]
          simp only [mSeq, mExpr, mRet, mRetN, mIfS, mSet, mAug, mCall, mCons, mNil, mVar, mC, mOp, mUn, mApp, mTup, mLst, mNx, mRaise, mAnd, mOr, mNot, mIf, tstB, tstAnd, tstOr, tstNot, mChain, bind_ok, bind_err, bind_no, toS_ok, toS_err, nox_ok, fin_nx, fin_rt, fin_err, startL, List.map_cons, List.map_nil, List.length_cons, List.length_nil, List.cons_append, List.nil_append, List.getElem?_cons_zero, List.getElem?_cons_succ, List.set_cons_zero, List.set_cons_succ, List.replicate_succ, List.replicate_zero, Nat.zero_add, Nat.reduceAdd, Nat.reduceSub, Nat.add_one_sub_one, Nat.sub_self, if_true, if_false, ite_true, ite_false, Bool.false_eq_true, reduceCtorEq, if_pos, Nat.reduceEqDiff, Nat.reduceLeDiff, decide_true, decide_false, Bool.not_true, Bool.not_false, p2, cd, e3', e4, Core.gAdd]
      · rw [seq_nx (l1 := [some (.ref dr), some (.ref at_), some (.ref nm), some (.int ((d + 1 : Nat) : Int)), some (.int v), none, none, none]) (s1 := s1) (by simp only [mSeq, mExpr, mRet, mRetN, mIfS, mSet, mAug, mCall, mCons, mNil, mVar, mC, mOp, mUn, mApp, mTup, mLst, mNx, mRaise, mAnd, mOr, mNot, mIf, tstB, tstAnd, tstOr, tstNot, mChain, bind_ok, bind_err, bind_no, toS_ok, toS_err, nox_ok, fin_nx, fin_rt, fin_err, startL, List.map_cons, List.map_nil, List.length_cons, List.length_nil, List.cons_append, List.nil_append, List.getElem?_cons_zero, List.getElem?_cons_succ, List.set_cons_zero, List.set_cons_succ, List.replicate_succ, List.replicate_zero, Nat.zero_add, Nat.reduceAdd, Nat.reduceSub, Nat.add_one_sub_one, Nat.sub_self, if_true, if_false, ite_true, ite_false, Bool.false_eq_true, reduceCtorEq, if_pos, Nat.reduceEqDiff, Nat.reduceLeDiff, decide_true, decide_false, Bool.not_true, Bool.not_false, gOrd, decide_eq_false h6])]
        by_cases h7 : v = 6
        · subst h7
          obtain ⟨a, s3, e3, ⟨c, wa⟩, g3, t3⟩ := c_law_expression h0 hne d k _ g1 hn1
          have e3' : call (k + (d + 1) + 1) .law_expression [.ref dr, .ref at_, .ref nm, .int d] s1 = .ok a s3 := by rw [show k + (d + 1) + 1 = k + d + 2 by omega]; exact e3
          rw [seq_rt (d := .tup [.str "not", a]) (s1 := s3)]
          · exact ⟨_, s3, rfl, ⟨_, .neg wa⟩, g3, t1.trans t3⟩
          · simp only [mSeq, mExpr, mRet, mRetN, mIfS, mSet, mAug, mCall, mCons, mNil, mVar, mC, mOp, mUn, mApp, mTup, mLst, mNx, mRaise, mAnd, mOr, mNot, mIf, tstB, tstAnd, tstOr, tstNot, mChain, bind_ok, bind_err, bind_no, toS_ok, toS_err, nox_ok, fin_nx, fin_rt, fin_err, startL, List.map_cons, List.map_nil, List.length_cons, List.length_nil, List.cons_append, List.nil_append, List.getElem?_cons_zero, List.getElem?_cons_succ, List.set_cons_zero, List.set_cons_succ, List.replicate_succ, List.replicate_zero, Nat.zero_add, Nat.reduceAdd, Nat.reduceSub, Nat.add_one_sub_one, Nat.sub_self, if_true, if_false, ite_true, ite_false, Bool.false_eq_true, reduceCtorEq, if_pos, Nat.reduceEqDiff, Nat.reduceLeDiff, decide_true, decide_false, Bool.not_true, Bool.not_false, gEq, gEqB, show ((6 : Int) == 6) = true from rfl, Core.gSub, gI2, cd, e3']
        · have c7 : (v == 6) = false := beq_eq_false_iff_ne.mpr h7
          rw [seq_nx (l1 := [some (.ref dr), some (.ref at_), some (.ref nm), some (.int ((d + 1 : Nat) : Int)), some (.int v), none, none, none]) (s1 := s1) (by simp only [mSeq, mExpr, mRet, mRetN, mIfS, mSet, mAug, mCall, mCons, mNil, mVar, mC, mOp, mUn, mApp, mTup, mLst, mNx, mRaise, mAnd, mOr, mNot, mIf, tstB, tstAnd, tstOr, tstNot, mChain, bind_ok, bind_err, bind_no, toS_ok, toS_err, nox_ok, fin_nx, fin_rt, fin_err, startL, List.map_cons, List.map_nil, List.length_cons, List.length_nil, List.cons_append, List.nil_append, List.getElem?_cons_zero, List.getElem?_cons_succ, List.set_cons_zero, List.set_cons_succ, List.replicate_succ, List.replicate_zero, Nat.zero_add, Nat.reduceAdd, Nat.reduceSub, Nat.add_one_sub_one, Nat.sub_self, if_true, if_false, ite_true, ite_false, Bool.false_eq_true, reduceCtorEq, if_pos, Nat.reduceEqDiff, Nat.reduceLeDiff, decide_true, decide_false, Bool.not_true, Bool.not_false, gEq, gEqB, c7])]
          obtain ⟨j, hj, ej⟩ : ∃ j : Nat, j < 9 ∧ v - 7 = (j : Int) := ⟨(v - 7).toNat, by omega, by omega⟩
          obtain ⟨L, hL⟩ : ∃ L : List D, L = (["add", "sub", "mul", "min", "max", "less", "same", "both", "either"] : List Str).map D.str := ⟨_, rfl⟩
          have g2 : Gs dr at_ (s1 ++ [Ob.lst L]) := g1.app
          obtain ⟨z, hz, p2⟩ : ∃ z, z ∈ ops3 ∧ gIx (.ref s1.length) (.int (v - 7)) (s1 ++ [Ob.lst L]) = .ok (.str z) (s1 ++ [Ob.lst L]) := by
            rw [ej]
            have hj' : j < ops3.length := hj
            exact ⟨ops3[j], List.getElem_mem hj', ix_lst last_at (by rw [hL]; show (ops3.map D.str)[j]? = _; rw [List.getElem?_map, List.getElem?_eq_getElem hj']; rfl)⟩
          have hn2 : (s1 ++ [Ob.lst L])[nm]? = _ := Gt.app.old nm _ hne hn1
          obtain ⟨a, s3, e3, ⟨c, wa⟩, g3, t3⟩ := c_law_expression h0 hne d k _ g2 hn2
          have hn3 := t3.old nm _ hne hn2
          obtain ⟨b, s4, e4, ⟨c', wb⟩, g4, t4⟩ := c_law_expression h0 hne d k _ g3 hn3
          have e3' : call (k + (d + 1) + 1) .law_expression [.ref dr, .ref at_, .ref nm, .int d] (s1 ++ [Ob.lst L]) = .ok a s3 := by rw [show k + (d + 1) + 1 = k + d + 2 by omega]; exact e3
          have e4' : call (k + (d + 1) + 1) .law_expression [.ref dr, .ref at_, .ref nm, .int d] s3 = .ok b s4 := by rw [show k + (d + 1) + 1 = k + d + 2 by omega]; exact e4
          have hL' : L = [D.str "add", D.str "sub", D.str "mul", D.str "min", D.str "max", D.str "less", D.str "same", D.str "both", D.str "either"] := hL
          refine ⟨.tup [.str z, a, b], s4, ?_, ⟨_, .bin hz wa wb⟩, g4, t1.trans (Gt.app.trans (t3.trans t4))⟩
          simp only [mSeq, mExpr, mRet, mRetN, mIfS, mSet, mAug, mCall, mCons, mNil, mVar, mC, mOp, mUn, mApp, mTup, mLst, mNx, mRaise, mAnd, mOr, mNot, mIf, tstB, tstAnd, tstOr, tstNot, mChain, bind_ok, bind_err, bind_no, toS_ok, toS_err, nox_ok, fin_nx, fin_rt, fin_err, startL, List.map_cons, List.map_nil, List.length_cons, List.length_nil, List.cons_append, List.nil_append, List.getElem?_cons_zero, List.getElem?_cons_succ, List.set_cons_zero, List.set_cons_succ, List.replicate_succ, List.replicate_zero, Nat.zero_add, Nat.reduceAdd, Nat.reduceSub, Nat.add_one_sub_one, Nat.sub_self, if_true, if_false, ite_true, ite_false, Bool.false_eq_true, reduceCtorEq, if_pos, Nat.reduceEqDiff, Nat.reduceLeDiff, decide_true, decide_false, Bool.not_true, Bool.not_false, Core.gSub, gI2]
          rw [← hL']
          simp only [mSeq, mExpr, mRet, mRetN, mIfS, mSet, mAug, mCall, mCons, mNil, mVar, mC, mOp, mUn, mApp, mTup, mLst, mNx, mRaise, mAnd, mOr, mNot, mIf, tstB, tstAnd, tstOr, tstNot, mChain, bind_ok, bind_err, bind_no, toS_ok, toS_err, nox_ok, fin_nx, fin_rt, fin_err, startL, List.map_cons, List.map_nil, List.length_cons, List.length_nil, List.cons_append, List.nil_append, List.getElem?_cons_zero, List.getElem?_cons_succ, List.set_cons_zero, List.set_cons_succ, List.replicate_succ, List.replicate_zero, Nat.zero_add, Nat.reduceAdd, Nat.reduceSub, Nat.add_one_sub_one, Nat.sub_self, if_true, if_false, ite_true, ite_false, Bool.false_eq_true, reduceCtorEq, if_pos, Nat.reduceEqDiff, Nat.reduceLeDiff, decide_true, decide_false, Bool.not_true, Bool.not_false, p2, cd, e3', e4']
end
end Pr

set_option Elab.async false
set_option linter.all false
set_option maxRecDepth 100000
set_option maxHeartbeats 4000000
/-! statements and programs that are accepted -/
namespace Pr
open PySem PySem.Spec PyProof.Rows L2 Core
/-- a statement of h levels, c nodes, x sends -/
def SV (names : List Str) (h c x : Nat) (d : D) : Prop := ∀ (fu : Nat) (depth n : Int), h ≤ fu → depth + h ≤ 9 → n + c ≤ 80 → stmtV names fu d depth n = some (some (n + c, (x : Int)))
def LV (names : List Str) (h c x : Nat) (ds : List D) : Prop := ∀ (fu : Nat) (depth n acc : Int), h ≤ fu → depth + h ≤ 9 → n + c ≤ 80 → stmtsV (fun d n => stmtV names fu d depth n) ds n acc = some (some (n + c, acc + x))
section
variable {names : List Str} {h h' c c' x x' : Nat} {d e : D} {ds es : List D}
theorem SV.up (w : SV names h c x d) (hh : h ≤ h') : SV names h' c x d := fun fu depth n h1 h2 h3 => w fu depth n (by omega) (by omega) h3
theorem LV.up (w : LV names h c x ds) (hh : h ≤ h') : LV names h' c x ds := fun fu depth n acc h1 h2 h3 => w fu depth n acc (by omega) (by omega) h3
theorem lv_nil : LV names h 0 0 [] := fun fu depth n acc h1 h2 h3 => by
  unfold stmtsV
  congr 2
  · congr 1 <;> simp
theorem lv_cons (w : SV names h c x d) (ws : LV names h c' x' ds) : LV names h (c + c') (x + x') (d :: ds) := fun fu depth n acc h1 h2 h3 => by
  unfold stmtsV
  rw [w fu depth n h1 h2 (by omega)]
  dsimp only
  rw [ws fu depth (n + c) (acc + x) h1 h2 (by omega)]
  congr 3 <;> omega
theorem lv_app : ∀ {ds : List D} {c x : Nat}, LV names h c x ds → LV names h c' x' es → LV names h (c + c') (x + x') (ds ++ es) := fun {ds c x} w ws fu depth n acc h1 h2 h3 => by
  have key : ∀ (ds : List D) (n acc m y : Int), stmtsV (fun d n => stmtV names fu d depth n) ds n acc = some (some (m, y)) → stmtsV (fun d n => stmtV names fu d depth n) (ds ++ es) n acc = stmtsV (fun d n => stmtV names fu d depth n) es m y := by
    intro ds
    induction ds with
    | nil => intro n acc m y e; unfold stmtsV at e; cases e; rfl
    | cons d ds ih =>
      intro n acc m y e
      unfold stmtsV at e
      rw [List.cons_append]
      conv => lhs; unfold stmtsV
      cases q : stmtV names fu d depth n with
      | none => rw [q] at e; cases e
      | some r =>
        rw [q] at e
        cases r with
        | none => cases e
        | some mk => obtain ⟨m1, k1⟩ := mk; exact ih m1 (acc + k1) m y e
  rw [key ds n acc _ _ (w fu depth n acc h1 h2 (by omega)), ws fu depth (n + c) (acc + x) h1 h2 (by omega)]
  congr 3 <;> omega
theorem pv_of (w : LV names h c x ds) (hne : ds ≠ []) {fu : Nat} {depth n : Int} (h1 : h ≤ fu) (h2 : depth + h ≤ 9) (h3 : n + c ≤ 80) : progV (fun d n => stmtV names fu d depth n) (.tup ds) n = some (some (n + c, (x : Int))) := by
  cases ds with
  | nil => exact absurd rfl hne
  | cons d ds => unfold progV; dsimp only; rw [w fu depth n 0 h1 h2 h3, Int.zero_add]
theorem sv_set {y : Str} {ex : D} (hy : y ∈ names) (w : Wx names h ex c) : SV names (h + 1) (c + 1) 0 (.tup [.str "set", .str y, ex]) := fun fu depth n h1 h2 h3 => by
  obtain ⟨fu, rfl⟩ : ∃ f, fu = f + 1 := ⟨fu - 1, by omega⟩
  have e : names.any (· == y) = true := List.any_eq_true.mpr ⟨y, hy, by simp⟩
  unfold stmtV
  rw [if_pos ⟨by omega, by omega⟩]
  show (if ("set" : Str) = "set" then (match some (names.any (· == y)) with
    | some true => andE (exprV names fu ex (depth + 1) (n + 1)) fun m => some (some (m, (0 : Int)))
    | some false => some none
    | none => none) else _) = _
  rw [if_pos rfl, e]
  dsimp only
  rw [wx_v w fu (depth + 1) (n + 1) (by omega) (by omega) (by omega)]
  dsimp only [andE]
  congr 3; omega
theorem sv_skip : SV names 1 1 0 (.tup [.str "skip"]) := fun fu depth n h1 h2 h3 => by
  obtain ⟨fu, rfl⟩ : ∃ f, fu = f + 1 := ⟨fu - 1, by omega⟩
  unfold stmtV
  rw [if_pos ⟨by omega, by omega⟩]
  show some (if ("skip" : Str) = "skip" then some (n + 1, (0 : Int)) else none) = _
  rw [if_pos rfl]; rfl
theorem sv_send {nm t dl ar : D} {c1 c2 c3 : Nat} (hn : nameB nm = true) (w1 : Wx names h t c1) (w2 : Wx names h dl c2) (w3 : Wx names h ar c3) : SV names (h + 1) (c1 + c2 + c3 + 1) 1 (.tup [.str "send", t, dl, nm, ar]) := fun fu depth n h1 h2 h3 => by
  obtain ⟨fu, rfl⟩ : ∃ f, fu = f + 1 := ⟨fu - 1, by omega⟩
  unfold stmtV
  rw [if_pos ⟨by omega, by omega⟩]
  show (if ("send" : Str) = "send" then if nameB nm = true then andE (exprV names fu t (depth + 1) (n + 1)) fun m1 => andE (exprV names fu dl (depth + 1) m1) fun m2 => andE (exprV names fu ar (depth + 1) m2) fun m3 => some (some (m3, (1 : Int)))
        else some none else some none) = _
  rw [if_pos rfl, if_pos hn, wx_v w1 fu (depth + 1) (n + 1) (by omega) (by omega) (by omega)]
  dsimp only [andE]
  rw [wx_v w2 fu (depth + 1) (n + 1 + c1) (by omega) (by omega) (by omega)]
  dsimp only [andE]
  rw [wx_v w3 fu (depth + 1) (n + 1 + c1 + c2) (by omega) (by omega) (by omega)]
  dsimp only [andE]
  congr 3; omega
theorem sv_if {e : D} {as bs : List D} {ca cb xa xb : Nat} (w : Wx names h e c) (wa : LV names h ca xa as) (wb : LV names h cb xb bs) (ha : as ≠ []) (hb : bs ≠ []) : SV names (h + 1) (c + ca + cb + 1) (max xa xb) (.tup [.str "if", e, .tup as, .tup bs]) := fun fu depth n h1 h2 h3 => by
  obtain ⟨fu, rfl⟩ : ∃ f, fu = f + 1 := ⟨fu - 1, by omega⟩
  unfold stmtV
  rw [if_pos ⟨by omega, by omega⟩]
  show (if ("if" : Str) = "if" then andE (exprV names fu e (depth + 1) (n + 1)) fun m =>
          andP (progV (fun d n => stmtV names fu d (depth + 1) n) (.tup as) m) fun m1 x => andP (progV (fun d n => stmtV names fu d (depth + 1) n) (.tup bs) m1) fun m2 y => some (some (m2, if y > x then y else x))
        else some none) = _
  rw [if_pos rfl, wx_v w fu (depth + 1) (n + 1) (by omega) (by omega) (by omega)]
  dsimp only [andE]
  rw [pv_of wa ha (by omega) (by omega) (by omega)]
  dsimp only [andP]
  rw [pv_of wb hb (by omega) (by omega) (by omega)]
  dsimp only [andP]
  congr 3
  · omega
  · by_cases q : (xb : Int) > xa
    · rw [if_pos q]; omega
    · rw [if_neg q]; omega
/-- bounded -/
def SB (names : List Str) (h C X : Nat) (d : D) : Prop := ∃ c x, c ≤ C ∧ x ≤ X ∧ SV names h c x d
def LB (names : List Str) (h C X : Nat) (ds : List D) : Prop := ∃ c x, c ≤ C ∧ x ≤ X ∧ LV names h c x ds
theorem lb_all {C X : Nat} : ∀ {ds : List D}, (∀ d ∈ ds, SB names h C X d) → LB names h (C * ds.length) (X * ds.length) ds
  | [], _ => ⟨0, 0, Nat.zero_le _, Nat.zero_le _, lv_nil⟩
  | d :: ds, hd => by
    obtain ⟨c, x, h1, h2, w⟩ := hd d List.mem_cons_self
    obtain ⟨c', x', h3, h4, ws⟩ := lb_all (ds := ds) fun d' hd' => hd d' (List.mem_cons_of_mem _ hd')
    refine ⟨c + c', x + x', ?_, ?_, lv_cons w ws⟩
    · rw [List.length_cons, Nat.mul_succ]; omega
    · rw [List.length_cons, Nat.mul_succ]; omega
theorem lb_app {C X C' X' : Nat} (a : LB names h C X ds) (b : LB names h C' X' es) : LB names h (C + C') (X + X') (ds ++ es) := by
  obtain ⟨c, x, h1, h2, w⟩ := a
  obtain ⟨c', x', h3, h4, w'⟩ := b
  exact ⟨c + c', x + x', by omega, by omega, lv_app w w'⟩
theorem LB.up {C X C' X' : Nat} (a : LB names h C X ds) (hh : h ≤ h') (hC : C ≤ C') (hX : X ≤ X') : LB names h' C' X' ds := by
  obtain ⟨c, x, h1, h2, w⟩ := a
  exact ⟨c, x, by omega, by omega, w.up hh⟩
theorem SB.up {C X C' X' : Nat} (a : SB names h C X d) (hh : h ≤ h') (hC : C ≤ C') (hX : X ≤ X') : SB names h' C' X' d := by
  obtain ⟨c, x, h1, h2, w⟩ := a
  exact ⟨c, x, by omega, by omega, w.up hh⟩
theorem lb_one {C X : Nat} (a : SB names h C X d) : LB names h C X [d] := by
  have := lb_all (names := names) (h := h) (C := C) (X := X) (ds := [d]) (by simpa using a)
  simpa using this
theorem sb_if {e : D} {as bs : List D} {Ca Cb Xa Xb C : Nat} (w : Wx names h e c) (hc : c ≤ C) (wa : LB names h Ca Xa as) (wb : LB names h Cb Xb bs) (ha : as ≠ []) (hb : bs ≠ []) : SB names (h + 1) (C + Ca + Cb + 1) (max Xa Xb) (.tup [.str "if", e, .tup as, .tup bs]) := by
  obtain ⟨ca, xa, h1, h2, wa⟩ := wa
  obtain ⟨cb, xb, h3, h4, wb⟩ := wb
  exact ⟨_, _, by omega, by omega, sv_if w wa wb ha hb⟩
/-- a program that is accepted -/
theorem prog_ok {C X : Nat} (a : LB names h C X ds) (hh : h ≤ 8) (hC : C ≤ 80) (hX : X ≤ 4) (hne : ds ≠ []) : progR names (.tup ds) = some true := by
  obtain ⟨c, x, h1, h2, w⟩ := a
  unfold progR
  rw [pv_of w hne (by omega) (by omega) (by omega)]
  show some (decide ((x : Int) ≤ 4)) = some true
  rw [decide_eq_true (by omega)]
end
end Pr

set_option Elab.async false
set_option linter.all false
set_option maxRecDepth 100000
set_option maxHeartbeats 4000000
/-! plain values; loops that draw -/
namespace Pr
open PySem PySem.Spec PyProof.Rows L2 Core
/-- no objects, at most n levels, short texts -/
def pl : Nat → D → Bool
  | 0, _ => false
  | n + 1, .tup xs => xs.all (pl n)
  | _ + 1, .str z => PyData.strOk z && decide (z.length ≤ 100000)
  | _ + 1, .ref _ => false
  | _ + 1, _ => true
theorem pl_up : ∀ {n m : Nat} {d : D}, n ≤ m → pl n d = true → pl m d = true
  | 0, m, d, h, e => by cases e
  | n + 1, 0, d, h, e => by omega
  | n + 1, m + 1, .tup xs, h, e => by
    have e : xs.all (pl n) = true := e
    show xs.all (pl m) = true
    exact List.all_eq_true.mpr fun x hx => pl_up (by omega) (List.all_eq_true.mp e x hx)
  | n + 1, m + 1, .str z, h, e => e
  | n + 1, m + 1, .ref z, h, e => by cases e
  | n + 1, m + 1, .non, h, e => rfl
  | n + 1, m + 1, .bl _, h, e => rfl
  | n + 1, m + 1, .int _, h, e => rfl
theorem pl_tup {n : Nat} {xs : List D} (h : ∀ x ∈ xs, pl n x = true) : pl (n + 1) (.tup xs) = true := List.all_eq_true.mpr h
theorem livs_all {s : Mem} : ∀ {xs : List D}, (∀ x ∈ xs, liv s x = true) → livs s xs = true
  | [], _ => rfl
  | x :: r, h => by
    show (liv s x && livs s r) = true
    rw [h x List.mem_cons_self, livs_all fun y hy => h y (List.mem_cons_of_mem _ hy)]; rfl
theorem pl_liv {s : Mem} : ∀ {n : Nat} {d : D}, pl n d = true → liv s d = true
  | n + 1, .tup xs, e => by
    have e : xs.all (pl n) = true := e
    show livs s xs = true
    exact livs_all fun x hx => pl_liv (List.all_eq_true.mp e x hx)
  | n + 1, .str z, e => by
    have e : (PyData.strOk z && decide (z.length ≤ 100000)) = true := e
    rw [Bool.and_eq_true] at e
    exact e.2
  | n + 1, .ref z, e => by cases e
  | n + 1, .non, e => rfl
  | n + 1, .bl _, e => rfl
  | n + 1, .int _, e => rfl
theorem pl_t1 {n : Nat} {a : D} (h1 : pl n a = true) : pl (n + 1) (.tup [a]) = true := by show List.all [a] (pl n) = true; simp only [List.all_cons, List.all_nil, h1]; rfl
theorem pl_t2 {n : Nat} {a b : D} (h1 : pl n a = true) (h2 : pl n b = true) : pl (n + 1) (.tup [a, b]) = true := by show List.all [a, b] (pl n) = true; simp only [List.all_cons, List.all_nil, h1, h2]; rfl
theorem pl_t3 {n : Nat} {a b c : D} (h1 : pl n a = true) (h2 : pl n b = true) (h3 : pl n c = true) : pl (n + 1) (.tup [a, b, c]) = true := by show List.all [a, b, c] (pl n) = true; simp only [List.all_cons, List.all_nil, h1, h2, h3]; rfl
theorem pl_t4 {n : Nat} {a b c d : D} (h1 : pl n a = true) (h2 : pl n b = true) (h3 : pl n c = true) (h4 : pl n d = true) : pl (n + 1) (.tup [a, b, c, d]) = true := by show List.all [a, b, c, d] (pl n) = true; simp only [List.all_cons, List.all_nil, h1, h2, h3, h4]; rfl
theorem pl_t5 {n : Nat} {a b c d e : D} (h1 : pl n a = true) (h2 : pl n b = true) (h3 : pl n c = true) (h4 : pl n d = true) (h5 : pl n e = true) : pl (n + 1) (.tup [a, b, c, d, e]) = true := by show List.all [a, b, c, d, e] (pl n) = true; simp only [List.all_cons, List.all_nil, h1, h2, h3, h4, h5]; rfl
def opsW : List Str := ["int", "field", "not", "set", "send", "if", "skip", "go", "tell", "ask", "none", "n", "m", "k", "box", "lamp"]
theorem pl_ops : ∀ z ∈ ops1 ++ ops2 ++ ops3 ++ opsW, pl 1 (.str z) = true := by decide +kernel
theorem pl_s {n : Nat} {z : Str} (h : pl 1 (.str z) = true) : pl (n + 1) (.str z) = true := h
theorem pl_i {n : Nat} {z : Int} : pl (n + 1) (.int z) = true := rfl
theorem pl_w {n : Nat} {z : Str} (h : z ∈ ops1 ++ ops2 ++ ops3 ++ opsW) : pl (n + 1) (.str z) = true := pl_ops z h
theorem wx_pl {names : List Str} (hn : ∀ x ∈ names, pl 1 (.str x) = true) {h c : Nat} {e : D} (w : Wx names h e c) : pl (h + 1) e = true := by
  induction w with
  | int _ => exact pl_t2 (pl_w (by decide +kernel)) pl_i
  | fld hx0 => exact pl_t2 (pl_w (by decide +kernel)) (pl_s (hn _ hx0))
  | leaf hz => exact pl_t1 (pl_w (by simp [hz]))
  | neg w ih => exact pl_t2 (pl_w (by decide +kernel)) ih
  | div hz w _ ih => exact pl_t3 (pl_w (by simp [hz])) ih pl_i
  | bin hz w w' ih ih' => exact pl_t3 (pl_w (by simp [hz])) ih ih'
/-- the same as Gt, but for one more place -/
structure Gt2 (at_ r : Nat) (s s' : Mem) : Prop where
  len : s.length ≤ s'.length
  old : ∀ (n : Nat) (o : Ob), n ≠ at_ → n ≠ r → s[n]? = some o → s'[n]? = some o
section
variable {at_ r dr : Nat} {s s1 s2 : Mem}
theorem Gt.two (t : Gt at_ s s1) : Gt2 at_ r s s1 := ⟨t.len, fun n o h _ e => t.old n o h e⟩
theorem Gt2.refl : Gt2 at_ r s s := ⟨Nat.le_refl _, fun _ _ _ _ h => h⟩
theorem Gt2.trans (a : Gt2 at_ r s s1) (b : Gt2 at_ r s1 s2) : Gt2 at_ r s s2 := ⟨Nat.le_trans a.len b.len, fun n o h h' e => b.old n o h h' (a.old n o h h' e)⟩
theorem Gt2.set {u : Ob} : Gt2 at_ r s (s.set r u) := ⟨by simp, fun n o _ h e => by rw [List.getElem?_set_ne (Ne.symm h)]; exact e⟩
/-- the place was new -/
theorem Gt2.close {u : Ob} (t : Gt2 at_ s.length (s ++ [u]) s1) : Gt at_ s s1 := ⟨Nat.le_trans (by simp) t.len, fun n o h e => t.old n o h (Nat.ne_of_lt (List.getElem?_eq_some_iff.mp e).1) (Gt.app.old n o h e)⟩
theorem Gs.set {u : Ob} (g : Gs dr at_ s) (h1 : r ≠ dr) (h2 : r ≠ at_) : Gs dr at_ (s.set r u) := by
  obtain ⟨⟨xs, a⟩, ⟨i, b⟩, c⟩ := g
  exact ⟨⟨xs, by rw [List.getElem?_set_ne h1]; exact a⟩, ⟨i, by rw [List.getElem?_set_ne h2]; exact b⟩, c⟩
theorem app_at {y : D} {rs : List D} (h : s[r]? = some (.lst rs)) (hl : rs.length < 100000) : gAppend (.ref r) [y] s = .ok .non (s.set r (.lst (rs ++ [y]))) := by
  unfold gAppend
  dsimp only
  rw [h]
  dsimp only
  rw [if_pos hl]
theorem set_at {u v : Ob} (h : s[r]? = some v) : (s.set r u)[r]? = some u := List.getElem?_set_self (List.getElem?_eq_some_iff.mp h).1
/-- a loop that puts one drawn thing behind a list at each turn -/
theorem loop_app {ok : Mem → Bool} {i : Nat} {body : SM} {Lk : Core.Loc → Prop} {P : D → Prop} {Kp : Mem → Prop} (hok : ∀ s, Kp s → ok s = true) (hkp : ∀ s s', Gt2 at_ r s s' → Kp s → Kp s') : ∀ (ds : List D) (l : Core.Loc) (s : Mem) (rs : List D),
    (∀ d ∈ ds, ∀ l s rs, Lk l → Gs dr at_ s → Kp s → s[r]? = some (.lst rs) → rs.length < 100000 → ∃ l' s' y, body (l.set i (some d)) s = .nx l' s' ∧ Lk l' ∧ P y ∧ Gs dr at_ s' ∧ Gt2 at_ r s s' ∧ s'[r]? = some (.lst (rs ++ [y]))) →
    Lk l → Gs dr at_ s → Kp s → s[r]? = some (.lst rs) → rs.length + ds.length ≤ 100000 →
    ∃ l' s' ys, loopS ok (gmName i) body ds l s = .nx l' s' ∧ Lk l' ∧ s'[r]? = some (.lst (rs ++ ys)) ∧ ys.length = ds.length ∧ (∀ y ∈ ys, P y) ∧ Gs dr at_ s' ∧ Gt2 at_ r s s'
  | [], l, s, rs, hb, hl, g, kp, hr, hlen => by
    unfold loopS
    rw [if_pos (hok s kp)]
    exact ⟨l, s, [], rfl, hl, by rw [List.append_nil]; exact hr, rfl, fun y h => absurd h List.not_mem_nil, g, .refl⟩
  | d :: ds, l, s, rs, hb, hl, g, kp, hr, hlen => by
    obtain ⟨l1, s1, y, h1, h2, h3, h4, h5, h6⟩ := hb d List.mem_cons_self l s rs hl g kp hr (by rw [List.length_cons] at hlen; omega)
    obtain ⟨l2, s2, ys, k1, k2, k3, k4, k5, k6, k7⟩ := loop_app hok hkp ds l1 s1 (rs ++ [y]) (fun d hd => hb d (List.mem_cons_of_mem _ hd)) h2 h4 (hkp _ _ h5 kp) h6 (by rw [List.length_cons] at hlen; rw [List.length_append, List.length_singleton]; omega)
    unfold loopS
    rw [if_pos (hok s kp)]
    dsimp only [gmName]
    rw [h1]
    dsimp only
    refine ⟨l2, s2, y :: ys, k1, k2, by rw [k3, List.append_assoc]; rfl, by rw [List.length_cons, List.length_cons, k4], fun z hz => ?_, k6, h5.trans k7⟩
    rcases List.mem_cons.mp hz with rfl | hz
    · exact h3
    · exact k5 z hz
/-- a comprehension whose element is drawn -/
theorem lc_draw {ok : Mem → Bool} {g : TGm} {vs : List Nat} {l : Core.Loc} {me : EM} {P : D → Prop} {Kp : Mem → Prop} (hok : ∀ s, Kp s → ok s = true) (hkp : ∀ s s', Gt2 at_ r s s' → Kp s → Kp s') (h1 : r ≠ dr) (h2 : r ≠ at_) : ∀ (ds : List D) (s : Mem) (rs : List D),
    (∀ d ∈ ds, ∃ l1, g d (wipeL l vs) = some l1 ∧ ∀ s, Gs dr at_ s → Kp s → Dr dr at_ s P (me l1 s)) → Gs dr at_ s → Kp s → s[r]? = some (.lst rs) → rs.length + ds.length ≤ 100000 →
    ∃ s' ys, loopC ok g vs l tYes' me r ds s = .ok (.ref r) s' ∧ s'[r]? = some (.lst (rs ++ ys)) ∧ ys.length = ds.length ∧ (∀ y ∈ ys, P y) ∧ Gs dr at_ s' ∧ Gt2 at_ r s s'
  | [], s, rs, hb, g, kp, hr, hlen => by
    unfold loopC
    rw [if_pos (hok s kp)]
    exact ⟨s, [], rfl, by rw [List.append_nil]; exact hr, rfl, fun y h => absurd h List.not_mem_nil, g, .refl⟩
  | d :: ds, s, rs, hb, g, kp, hr, hlen => by
    obtain ⟨l1, e1, f⟩ := hb d List.mem_cons_self
    obtain ⟨y, s1, e2, py, g1, t1⟩ := f s g kp
    have r1 := t1.old r _ h2 hr
    have g2 := g1.set (u := .lst (rs ++ [y])) h1 h2
    have t2 : Gt2 at_ r s (s1.set r (.lst (rs ++ [y]))) := t1.two.trans .set
    obtain ⟨s2, ys, k1, k2, k3, k4, k5, k6⟩ := lc_draw hok hkp h1 h2 ds _ (rs ++ [y]) (fun d hd => hb d (List.mem_cons_of_mem _ hd)) g2 (hkp _ _ t2 kp) (set_at r1) (by rw [List.length_cons] at hlen; rw [List.length_append, List.length_singleton]; omega)
    unfold loopC
    have e3 : rs.length < 100000 := by rw [List.length_cons] at hlen; omega
    rw [if_pos (hok s kp), e1]
    simp only [tYes', nox_ok, if_true, e2, r1, e3]
    refine ⟨s2, y :: ys, k1, by rw [k2, List.append_assoc]; rfl, by rw [List.length_cons, List.length_cons, k3], fun z hz => ?_, k5, t2.trans k6⟩
    rcases List.mem_cons.mp hz with rfl | hz
    · exact py
    · exact k4 z hz
end
end Pr

set_option Elab.async false
set_option linter.all false
set_option maxRecDepth 100000
set_option maxHeartbeats 4000000
/-! drawn statements and programs -/
namespace Pr
open PySem PySem.Spec PyProof.Rows L2 Core
section
variable {dr at_ nm : Nat} {names : List Str} {s : Mem} {k : Nat}
def w4 : List Str := ["go", "tell", "ask", "none"]
theorem w4_name : ∀ z ∈ w4, nameB (.str z) = true := by decide +kernel
theorem w4_pl : ∀ z ∈ w4, z ∈ ops1 ++ ops2 ++ ops3 ++ opsW := by decide +kernel
def SendP (names : List Str) (d : D) : Prop := SB names 3 10 1 d ∧ pl 4 d = true
theorem c_law_send (hn : ∀ x ∈ names, pl 1 (.str x) = true) (h0 : 1 ≤ names.length) (hne : nm ≠ at_) (g : Gs dr at_ s) (hnm : s[nm]? = some (.lst (names.map D.str))) :
    Dr dr at_ s (SendP names) (call (k + 4) .law_send [.ref dr, .ref at_, .ref nm] s) := by
  show Dr dr at_ s _ (Core.fin (m_law_send (call (k + 3)) [some (.ref dr), some (.ref at_), some (.ref nm), none, none, none] s))
  obtain ⟨e1, s1, q1, ⟨c1, w1⟩, g1, t1⟩ := c_law_expression h0 hne 1 k s g hnm
  have q1 : call (k + 3) .law_expression [.ref dr, .ref at_, .ref nm, .int 1] s = .ok e1 s1 := q1
  have hn1 := t1.old nm _ hne hnm
  obtain ⟨_, s2, q2, ⟨v2, rfl, a2, b2⟩, g2, t2⟩ := c_law_next (k := k + 2) g1 (many := 4) (by omega)
  have hn2 := t2.old nm _ hne hn1
  obtain ⟨_, s3, q3, ⟨v3, rfl, a3, b3⟩, g3, t3⟩ := c_law_next (k := k + 2) g2 (many := 4) (by omega)
  have hn3 := t3.old nm _ hne hn2
  -- the delay
  obtain ⟨dl, s4, c2, hq4, w2, g4, t4⟩ : ∃ dl s4 c2, (mIfS (tstB (mOp gEq (mCall 3 (call (k + 3) .law_next) (mCons (mVar 0) (mCons (mVar 1) (mCons (mC (.int 4)) mNil)))) (mC (.int 0)))) (mSet 4 (mCall 4 (call (k + 3) .law_expression) (mCons (mVar 0) (mCons (mVar 1) (mCons (mVar 2) (mCons (mC (.int 1)) mNil)))))) mNx)
      [some (.ref dr), some (.ref at_), some (.ref nm), some e1, some (.tup [.str "int", .int (1 + v2)]), none] s2 = .nx [some (.ref dr), some (.ref at_), some (.ref nm), some e1, some dl, none] s4 ∧ Wx names 2 dl c2 ∧ Gs dr at_ s4 ∧ Gt at_ s2 s4 := by
    by_cases h : v3 = 0
    · subst h
      obtain ⟨e4, s4, q4, ⟨c4, w4⟩, g4, t4⟩ := c_law_expression h0 hne 1 k s3 g3 hn3
      have q4 : call (k + 3) .law_expression [.ref dr, .ref at_, .ref nm, .int 1] s3 = .ok e4 s4 := q4
      exact ⟨e4, s4, c4, by simp only [mSeq, mExpr, mRet, mRetN, mIfS, mSet, mAug, mCall, mCons, mNil, mVar, mC, mOp, mUn, mApp, mTup, mLst, mNx, mRaise, mAnd, mOr, mNot, mIf, tstB, tstAnd, tstOr, tstNot, mChain, bind_ok, bind_err, bind_no, toS_ok, toS_err, nox_ok, fin_nx, fin_rt, fin_err, startL, List.map_cons, List.map_nil, List.length_cons, List.length_nil, List.cons_append, List.nil_append, List.getElem?_cons_zero, List.getElem?_cons_succ, List.set_cons_zero, List.set_cons_succ, List.replicate_succ, List.replicate_zero, Nat.zero_add, Nat.reduceAdd, Nat.reduceSub, Nat.add_one_sub_one, Nat.sub_self, if_true, if_false, ite_true, ite_false, Bool.false_eq_true, reduceCtorEq, if_pos, Nat.reduceEqDiff, Nat.reduceLeDiff, decide_true, decide_false, Bool.not_true, Bool.not_false, q3, gEq, gEqB, show ((0 : Int) == 0) = true from rfl, q4], w4, g4, t3.trans t4⟩
    · have hb : (v3 == 0) = false := beq_eq_false_iff_ne.mpr h
      exact ⟨.tup [.str "int", .int (1 + v2)], s3, 1, by simp only [mSeq, mExpr, mRet, mRetN, mIfS, mSet, mAug, mCall, mCons, mNil, mVar, mC, mOp, mUn, mApp, mTup, mLst, mNx, mRaise, mAnd, mOr, mNot, mIf, tstB, tstAnd, tstOr, tstNot, mChain, bind_ok, bind_err, bind_no, toS_ok, toS_err, nox_ok, fin_nx, fin_rt, fin_err, startL, List.map_cons, List.map_nil, List.length_cons, List.length_nil, List.cons_append, List.nil_append, List.getElem?_cons_zero, List.getElem?_cons_succ, List.set_cons_zero, List.set_cons_succ, List.replicate_succ, List.replicate_zero, Nat.zero_add, Nat.reduceAdd, Nat.reduceSub, Nat.add_one_sub_one, Nat.sub_self, if_true, if_false, ite_true, ite_false, Bool.false_eq_true, reduceCtorEq, if_pos, Nat.reduceEqDiff, Nat.reduceLeDiff, decide_true, decide_false, Bool.not_true, Bool.not_false, q3, gEq, gEqB, hb], .int (by show (decide ((-999 : Int) ≤ 1 + v2) && decide (1 + v2 ≤ 999)) = true; rw [decide_eq_true (by omega), decide_eq_true (by omega)]; rfl), g3, t3⟩
  obtain ⟨L, hL⟩ : ∃ L : List D, L = w4.map D.str := ⟨_, rfl⟩
  have hL' : L = [D.str "go", D.str "tell", D.str "ask", D.str "none"] := hL
  have g5 : Gs dr at_ (s4 ++ [Ob.lst L]) := g4.app
  obtain ⟨_, s6, q6, ⟨v6, rfl, a6, b6⟩, g6, t6⟩ := c_law_next (k := k + 2) g5 (many := 4) (by omega)
  have r6 : s6[s4.length]? = some (Ob.lst (w4.map D.str)) := by rw [← hL]; exact t6.fresh (s1 := s6) g4.lt
  obtain ⟨z, hz, p6⟩ := pickN r6 a6 (by exact b6)
  unfold m_law_send
  rw [seq_nx (l1 := [some (.ref dr), some (.ref at_), some (.ref nm), some e1, none, none]) (s1 := s1) (by simp only [mSeq, mExpr, mRet, mRetN, mIfS, mSet, mAug, mCall, mCons, mNil, mVar, mC, mOp, mUn, mApp, mTup, mLst, mNx, mRaise, mAnd, mOr, mNot, mIf, tstB, tstAnd, tstOr, tstNot, mChain, bind_ok, bind_err, bind_no, toS_ok, toS_err, nox_ok, fin_nx, fin_rt, fin_err, startL, List.map_cons, List.map_nil, List.length_cons, List.length_nil, List.cons_append, List.nil_append, List.getElem?_cons_zero, List.getElem?_cons_succ, List.set_cons_zero, List.set_cons_succ, List.replicate_succ, List.replicate_zero, Nat.zero_add, Nat.reduceAdd, Nat.reduceSub, Nat.add_one_sub_one, Nat.sub_self, if_true, if_false, ite_true, ite_false, Bool.false_eq_true, reduceCtorEq, if_pos, Nat.reduceEqDiff, Nat.reduceLeDiff, decide_true, decide_false, Bool.not_true, Bool.not_false, q1]),
    seq_nx (l1 := [some (.ref dr), some (.ref at_), some (.ref nm), some e1, some (.tup [.str "int", .int (1 + v2)]), none]) (s1 := s2) (by simp only [mSeq, mExpr, mRet, mRetN, mIfS, mSet, mAug, mCall, mCons, mNil, mVar, mC, mOp, mUn, mApp, mTup, mLst, mNx, mRaise, mAnd, mOr, mNot, mIf, tstB, tstAnd, tstOr, tstNot, mChain, bind_ok, bind_err, bind_no, toS_ok, toS_err, nox_ok, fin_nx, fin_rt, fin_err, startL, List.map_cons, List.map_nil, List.length_cons, List.length_nil, List.cons_append, List.nil_append, List.getElem?_cons_zero, List.getElem?_cons_succ, List.set_cons_zero, List.set_cons_succ, List.replicate_succ, List.replicate_zero, Nat.zero_add, Nat.reduceAdd, Nat.reduceSub, Nat.add_one_sub_one, Nat.sub_self, if_true, if_false, ite_true, ite_false, Bool.false_eq_true, reduceCtorEq, if_pos, Nat.reduceEqDiff, Nat.reduceLeDiff, decide_true, decide_false, Bool.not_true, Bool.not_false, q2, Core.gAdd]), seq_nx hq4]
  rw [seq_nx (l1 := [some (.ref dr), some (.ref at_), some (.ref nm), some e1, some dl, some (.str z)]) (s1 := s6) (by simp only [mSeq, mExpr, mRet, mRetN, mIfS, mSet, mAug, mCall, mCons, mNil, mVar, mC, mOp, mUn, mApp, mTup, mLst, mNx, mRaise, mAnd, mOr, mNot, mIf, tstB, tstAnd, tstOr, tstNot, mChain, bind_ok, bind_err, bind_no, toS_ok, toS_err, nox_ok, fin_nx, fin_rt, fin_err, startL, List.map_cons, List.map_nil, List.length_cons, List.length_nil, List.cons_append, List.nil_append, List.getElem?_cons_zero, List.getElem?_cons_succ, List.set_cons_zero, List.set_cons_succ, List.replicate_succ, List.replicate_zero, Nat.zero_add, Nat.reduceAdd, Nat.reduceSub, Nat.add_one_sub_one, Nat.sub_self, if_true, if_false, ite_true, ite_false, Bool.false_eq_true, reduceCtorEq, if_pos, Nat.reduceEqDiff, Nat.reduceLeDiff, decide_true, decide_false, Bool.not_true, Bool.not_false]; rw [← hL']; simp only [mSeq, mExpr, mRet, mRetN, mIfS, mSet, mAug, mCall, mCons, mNil, mVar, mC, mOp, mUn, mApp, mTup, mLst, mNx, mRaise, mAnd, mOr, mNot, mIf, tstB, tstAnd, tstOr, tstNot, mChain, bind_ok, bind_err, bind_no, toS_ok, toS_err, nox_ok, fin_nx, fin_rt, fin_err, startL, List.map_cons, List.map_nil, List.length_cons, List.length_nil, List.cons_append, List.nil_append, List.getElem?_cons_zero, List.getElem?_cons_succ, List.set_cons_zero, List.set_cons_succ, List.replicate_succ, List.replicate_zero, Nat.zero_add, Nat.reduceAdd, Nat.reduceSub, Nat.add_one_sub_one, Nat.sub_self, if_true, if_false, ite_true, ite_false, Bool.false_eq_true, reduceCtorEq, if_pos, Nat.reduceEqDiff, Nat.reduceLeDiff, decide_true, decide_false, Bool.not_true, Bool.not_false, q6, p6])]
  simp only [mSeq, mExpr, mRet, mRetN, mIfS, mSet, mAug, mCall, mCons, mNil, mVar, mC, mOp, mUn, mApp, mTup, mLst, mNx, mRaise, mAnd, mOr, mNot, mIf, tstB, tstAnd, tstOr, tstNot, mChain, bind_ok, bind_err, bind_no, toS_ok, toS_err, nox_ok, fin_nx, fin_rt, fin_err, startL, List.map_cons, List.map_nil, List.length_cons, List.length_nil, List.cons_append, List.nil_append, List.getElem?_cons_zero, List.getElem?_cons_succ, List.set_cons_zero, List.set_cons_succ, List.replicate_succ, List.replicate_zero, Nat.zero_add, Nat.reduceAdd, Nat.reduceSub, Nat.add_one_sub_one, Nat.sub_self, if_true, if_false, ite_true, ite_false, Bool.false_eq_true, reduceCtorEq, if_pos, Nat.reduceEqDiff, Nat.reduceLeDiff, decide_true, decide_false, Bool.not_true, Bool.not_false]
  have w3 : Wx names 2 (.tup [.str "sub", .tup [.str "arg"], .tup [.str "int", .int 1]]) (1 + 1 + 1) := .bin (by decide +kernel) (.leaf (by decide +kernel)) (.int (by decide +kernel))
  have l1 := w1.le
  have l2 := w2.le
  refine ⟨_, _, rfl, ⟨⟨_, 1, ?_, Nat.le_refl _, sv_send (w4_name z hz) w1 w2 w3⟩, pl_t5 (pl_w (by decide +kernel)) (wx_pl hn w1) (wx_pl hn w2) (pl_w (w4_pl z hz)) (wx_pl hn w3)⟩, g6, (t1.trans t2).trans (t4.trans (Gt.app.trans t6))⟩
  omega
theorem rng1 {ma : AM} {l : Core.Loc} {s s1 : Mem} {j : Int} (h : ma l s = .ok [.int j] s1) (h1 : j < 100000) (h2 : -100000 < j) {g : TGm} {body : SM} : mFor (iRange1 ma) g body l s = loopS (fun _ => true) g body ((List.range j.toNat).map fun (i : Nat) => D.int (0 + (i : Int))) l s1 := by
  unfold mFor iRange1; rw [h, bind_ok]; dsimp only; rw [if_pos ⟨h1, h2⟩, toS_ok]
theorem lrng1 {ma : AM} {l : Core.Loc} {s s1 : Mem} {j : Int} (h : ma l s = .ok [.int j] s1) (h1 : j < 100000) (h2 : -100000 < j) {g : TGm} {vs : List Nat} {tt : TM} {el : EM} : mLc (iRange1 ma) g vs tt el l s = loopC (fun _ => true) g vs l tt el s1.length ((List.range j.toNat).map fun (i : Nat) => D.int (0 + (i : Int))) (s1 ++ [.lst []]) := by
  unfold mLc iRange1; rw [h, bind_ok]; dsimp only; rw [if_pos ⟨h1, h2⟩, bind_ok]
theorem rng_len {n : Nat} : ((List.range n).map fun (i : Nat) => D.int (0 + (i : Int))).length = n := by simp
def SetP (names : List Str) (d : D) : Prop := SB names 4 8 0 d ∧ pl 5 d = true
abbrev bSet (k : Nat) : SM := mExpr (mLm gAppend (mVar 3) (mCons (mTup (mCons (mC (.str "set")) (mCons (mOp gIx (mVar 2) (mCall 3 (call (k + 4) .law_next) (mCons (mVar 0) (mCons (mVar 1) (mCons (mApp gLen (mCons (mVar 2) mNil)) mNil))))) (mCons (mCall 4 (call (k + 4) .law_expression) (mCons (mVar 0) (mCons (mVar 1) (mCons (mVar 2) (mCons (mC (.int 2)) mNil))))) mNil)))) mNil))
/-- one row of a drawn program -/
theorem set_row (hn : ∀ x ∈ names, pl 1 (.str x) = true) (h0 : 1 ≤ names.length) (hne : nm ≠ at_) {r : Nat} (hr1 : r ≠ dr) (hr2 : r ≠ at_) (hr3 : nm ≠ r) (g : Gs dr at_ s) (hnm : s[nm]? = some (.lst (names.map D.str))) {rs : List D} (hr : s[r]? = some (.lst rs)) (hl : rs.length < 100000) {o4 : Option D} :
    ∃ s' y, bSet k [some (.ref dr), some (.ref at_), some (.ref nm), some (.ref r), o4, none, none] s = .nx [some (.ref dr), some (.ref at_), some (.ref nm), some (.ref r), o4, none, none] s' ∧ SetP names y ∧ Gs dr at_ s' ∧ Gt2 at_ r s s' ∧ s'[r]? = some (.lst (rs ++ [y])) := by
  obtain ⟨_, s1, q1, ⟨v1, rfl, a1, b1⟩, g1, t1⟩ := c_law_next (k := k + 3) g (many := (names.map D.str).length) (by rw [List.length_map]; omega)
  have hn1 := t1.old nm _ hne hnm
  obtain ⟨x, hx, p1⟩ := pickN hn1 a1 (by rw [List.length_map] at b1; exact b1)
  obtain ⟨e2, s2, q2, ⟨c2, w2⟩, g2, t2⟩ := c_law_expression h0 hne 2 k s1 g1 hn1
  have q2 : call (k + 4) .law_expression [.ref dr, .ref at_, .ref nm, .int 2] s1 = .ok e2 s2 := q2
  have hr' := t2.old r _ hr2 (t1.old r _ hr2 hr)
  have l2 := w2.le
  refine ⟨s2.set r (.lst (rs ++ [.tup [.str "set", .str x, e2]])), .tup [.str "set", .str x, e2], ?_, ⟨⟨c2 + 1, 0, by omega, Nat.le_refl _, sv_set hx w2⟩, pl_t3 (pl_w (by decide +kernel)) (pl_s (hn x hx)) (wx_pl hn w2)⟩, g2.set hr1 hr2, (t1.trans t2).two.trans .set, set_at hr'⟩
  simp only [mSeq, mExpr, mRet, mRetN, mIfS, mSet, mAug, mCall, mCons, mNil, mVar, mC, mOp, mUn, mApp, mTup, mLst, mNx, mRaise, mAnd, mOr, mNot, mIf, tstB, tstAnd, tstOr, tstNot, mChain, bind_ok, bind_err, bind_no, toS_ok, toS_err, nox_ok, fin_nx, fin_rt, fin_err, startL, List.map_cons, List.map_nil, List.length_cons, List.length_nil, List.cons_append, List.nil_append, List.getElem?_cons_zero, List.getElem?_cons_succ, List.set_cons_zero, List.set_cons_succ, List.replicate_succ, List.replicate_zero, Nat.zero_add, Nat.reduceAdd, Nat.reduceSub, Nat.add_one_sub_one, Nat.sub_self, if_true, if_false, ite_true, ite_false, Bool.false_eq_true, reduceCtorEq, if_pos, Nat.reduceEqDiff, Nat.reduceLeDiff, decide_true, decide_false, Bool.not_true, Bool.not_false, mLm, hr, gLen, sq_lst hnm, q1, p1, q2, app_at hr' hl]
end
end Pr

set_option Elab.async false
set_option linter.all false
set_option maxRecDepth 100000
set_option maxHeartbeats 4000000
/-! drawn programs -/
namespace Pr
open PySem PySem.Spec PyProof.Rows L2 Core
theorem Wx.up {names : List Str} {h c : Nat} {e : D} (w : Wx names h e c) : ∀ {h' : Nat}, h ≤ h' → Wx names h' e c := by
  induction w with
  | int a => intro h' hh; obtain ⟨m, rfl⟩ : ∃ m, h' = m + 1 := ⟨h' - 1, by omega⟩; exact .int a
  | fld a => intro h' hh; obtain ⟨m, rfl⟩ : ∃ m, h' = m + 1 := ⟨h' - 1, by omega⟩; exact .fld a
  | leaf a => intro h' hh; obtain ⟨m, rfl⟩ : ∃ m, h' = m + 1 := ⟨h' - 1, by omega⟩; exact .leaf a
  | neg _ ih => intro h' hh; obtain ⟨m, rfl⟩ : ∃ m, h' = m + 1 := ⟨h' - 1, by omega⟩; exact .neg (ih (by omega))
  | div a _ b ih => intro h' hh; obtain ⟨m, rfl⟩ : ∃ m, h' = m + 1 := ⟨h' - 1, by omega⟩; exact .div a (ih (by omega)) b
  | bin a _ _ ih ih' => intro h' hh; obtain ⟨m, rfl⟩ : ∃ m, h' = m + 1 := ⟨h' - 1, by omega⟩; exact .bin a (ih (by omega)) (ih' (by omega))
section
variable {dr at_ nm : Nat} {names : List Str} {s : Mem} {k : Nat}
theorem tup_lst {r : Nat} {xs : List D} (h : s[r]? = some (.lst xs)) : gTuple [.ref r] s = .ok (.tup xs) s := by unfold gTuple; dsimp only; rw [sq_lst h]
theorem rev_lst {r : Nat} {xs : List D} (h : s[r]? = some (.lst xs)) : gRevL (.ref r) s = .ok (.ref s.length) (s ++ [.lst xs.reverse]) := by unfold gRevL; dsimp only; rw [rd_lst h]
def skipD : D := .tup [.str "skip"]
theorem skip_sb : SB names 1 1 0 skipD := ⟨1, 0, Nat.le_refl _, Nat.le_refl _, sv_skip⟩
theorem skip_pl {n : Nat} : pl (n + 2) skipD = true := pl_up (n := 2) (by omega) (by decide +kernel)
def lessD : D := .tup [.str "less", .tup [.str "int", .int 0], .tup [.str "arg"]]
def PrgP (names : List Str) (d : D) : Prop := progR names d = some true ∧ pl 9 d = true
theorem pl_upL {n m : Nat} {xs : List D} (hh : n ≤ m) (h : ∀ x ∈ xs, pl n x = true) : ∀ x ∈ xs, pl m x = true := fun x hx => pl_up hh (h x hx)
theorem add_tup {a b : List D} (h : a.length + b.length ≤ 100000) : Core.gAdd (.tup a) (.tup b) s = .ok (.tup (a ++ b)) s := by unfold Core.gAdd; dsimp only; rw [if_pos h]
theorem c_law_program (hn : ∀ x ∈ names, pl 1 (.str x) = true) (h0 : 1 ≤ names.length) (hne : nm ≠ at_) (g : Gs dr at_ s) (hnm : s[nm]? = some (.lst (names.map D.str))) :
    Dr dr at_ s (PrgP names) (call (k + 5) .law_program [.ref dr, .ref at_, .ref nm] s) := by
  show Dr dr at_ s _ (Core.fin (m_law_program (call (k + 4)) [some (.ref dr), some (.ref at_), some (.ref nm), none, none, none, none] s))
  have dl : dr < s.length := let ⟨_, h⟩ := g.hd; (List.getElem?_eq_some_iff.mp h).1
  have nl : nm < s.length := (List.getElem?_eq_some_iff.mp hnm).1
  have al := g.lt
  -- the rows
  have g1 : Gs dr at_ (s ++ [Ob.lst []]) := g.app
  obtain ⟨_, s2, q2, ⟨v2, rfl, a2, b2⟩, g2, t2⟩ := c_law_next (k := k + 3) g1 (many := 2) (by omega)
  have r2 : s2[s.length]? = some (Ob.lst []) := t2.fresh (s1 := s2) al
  have hn2 := t2.old nm _ hne (Gt.app.old nm _ hne hnm)
  obtain ⟨l3, s3, ys, e3, ⟨o3, rfl⟩, r3, n3, p3, g3, t3⟩ := loop_app (dr := dr) (at_ := at_) (r := s.length) (ok := fun _ => true) (i := 4) (body := bSet k) (Lk := fun l => ∃ o, l = [some (.ref dr), some (.ref at_), some (.ref nm), some (.ref s.length), o, none, none]) (P := SetP names) (Kp := fun s => s[nm]? = some (.lst (names.map D.str)))
    (fun _ _ => rfl) (fun s1 s2 t h => t.old nm _ hne (Nat.ne_of_lt nl) h) ((List.range (1 + v2).toNat).map fun (i : Nat) => D.int (0 + (i : Int))) [some (.ref dr), some (.ref at_), some (.ref nm), some (.ref s.length), none, none, none] s2 []
    (fun d hd l s1 rs ⟨o, hl⟩ gs kp hr hlen => by
      subst hl
      obtain ⟨s', y, h1, h2, h3, h4, h5⟩ := set_row (k := k) (o4 := some d) hn h0 hne (Nat.ne_of_gt dl) (Nat.ne_of_gt al) (Nat.ne_of_lt nl) gs kp hr hlen
      exact ⟨_, s', y, h1, ⟨_, rfl⟩, h2, h3, h4, h5⟩) ⟨_, rfl⟩ g2 hn2 r2 (by rw [rng_len, List.length_nil]; omega)
  rw [List.nil_append] at r3
  rw [rng_len] at n3
  have ny : ys.length ≤ 2 := by omega
  have hn3 := t3.old nm _ hne (Nat.ne_of_lt nl) hn2
  -- the sends
  obtain ⟨_, s4, q4, ⟨v4, rfl, a4, b4⟩, g4, t4⟩ := c_law_next (k := k + 3) g3 (many := 3) (by omega)
  have hn4 := t4.old nm _ hne hn3
  have r4 := t4.old s.length _ (Nat.ne_of_gt al) r3
  have g5 : Gs dr at_ (s4 ++ [Ob.lst []]) := g4.app
  have nl4 : nm < s4.length := (List.getElem?_eq_some_iff.mp hn4).1
  have dl4 : dr < s4.length := let ⟨_, h⟩ := g4.hd; (List.getElem?_eq_some_iff.mp h).1
  obtain ⟨s6, zs, e6, r6, n6, p6, g6, t6⟩ := lc_draw (dr := dr) (at_ := at_) (r := s4.length) (ok := fun _ => true) (g := gmName 4) (vs := [4]) (l := [some (.ref dr), some (.ref at_), some (.ref nm), some (.ref s.length), o3, none, none]) (me := mCall 3 (call (k + 4) .law_send) (mCons (mVar 0) (mCons (mVar 1) (mCons (mVar 2) mNil)))) (P := SendP names) (Kp := fun s => s[nm]? = some (.lst (names.map D.str)))
    (fun _ _ => rfl) (fun s1 s2 t h => t.old nm _ hne (Nat.ne_of_lt nl4) h) (Nat.ne_of_gt dl4) (Nat.ne_of_gt g4.lt) ((List.range v4.toNat).map fun (i : Nat) => D.int (0 + (i : Int))) (s4 ++ [Ob.lst []]) []
    (fun d hd => ⟨[some (.ref dr), some (.ref at_), some (.ref nm), some (.ref s.length), some d, none, none], rfl, fun s1 gs kp => by
      obtain ⟨e, s2, h1, h2⟩ := c_law_send (k := k) hn h0 hne gs kp
      exact ⟨e, s2, by simp only [mSeq, mExpr, mRet, mRetN, mIfS, mSet, mAug, mCall, mCons, mNil, mVar, mC, mOp, mUn, mApp, mTup, mLst, mNx, mRaise, mAnd, mOr, mNot, mIf, tstB, tstAnd, tstOr, tstNot, mChain, bind_ok, bind_err, bind_no, toS_ok, toS_err, nox_ok, fin_nx, fin_rt, fin_err, startL, List.map_cons, List.map_nil, List.length_cons, List.length_nil, List.cons_append, List.nil_append, List.getElem?_cons_zero, List.getElem?_cons_succ, List.set_cons_zero, List.set_cons_succ, List.replicate_succ, List.replicate_zero, Nat.zero_add, Nat.reduceAdd, Nat.reduceSub, Nat.add_one_sub_one, Nat.sub_self, if_true, if_false, ite_true, ite_false, Bool.false_eq_true, reduceCtorEq, if_pos, Nat.reduceEqDiff, Nat.reduceLeDiff, decide_true, decide_false, Bool.not_true, Bool.not_false, h1], h2⟩⟩) g5 (Gt.app.old nm _ hne hn4) last_at (by rw [rng_len, List.length_nil]; omega)
  rw [List.nil_append] at r6
  rw [rng_len] at n6
  have nz : zs.length ≤ 2 := by omega
  have t46 : Gt at_ s4 s6 := t6.close
  have hn6 := t46.old nm _ hne hn4
  have rr6 := t46.old s.length _ (Nat.ne_of_gt al) r4
  obtain ⟨_, s7, q7, ⟨v7, rfl, a7, b7⟩, g7, t7⟩ := c_law_next (k := k + 3) g6 (many := 4) (by omega)
  have hn7 := t7.old nm _ hne hn6
  have rr7 := t7.old s.length _ (Nat.ne_of_gt al) rr6
  have rz7 := t7.old s4.length _ (Nat.ne_of_gt g4.lt) r6
  have zl : LB names 3 20 2 zs := (lb_all (C := 10) (X := 1) fun z hz => (p6 z hz).1).up (Nat.le_refl _) (by omega) (by omega)
  have zp : ∀ z ∈ zs, pl 4 z = true := fun z hz => (p6 z hz).2
  have zk : LB names 3 21 2 (zs ++ [skipD]) := lb_app zl ((lb_one skip_sb).up (by omega) (Nat.le_refl _) (Nat.le_refl _))
  obtain ⟨s8, rz, sd, e8, h8, hz8, lb8, pl8, ln8, g8, t8⟩ : ∃ s8 rz sd, (mIfS (tstB (mOp gEq (mVar 6) (mC (.int 0))))
    (mSet 5 (mLst (mCons (mTup (mCons (mC (.str "if")) (mCons (mCall 4 (call (k + 4) .law_expression) (mCons (mVar 0) (mCons (mVar 1) (mCons (mVar 2) (mCons (mC (.int 1)) mNil))))) (mCons (mOp Core.gAdd (mApp gTuple (mCons (mVar 5) mNil)) (mTup (mCons (mTup (mCons (mC (.str "skip")) mNil)) mNil))) (mCons (mTup (mCons (mCall 3 (call (k + 4) .law_send) (mCons (mVar 0) (mCons (mVar 1) (mCons (mVar 2) mNil)))) mNil)) mNil))))) mNil)))
    mNx) [some (.ref dr), some (.ref at_), some (.ref nm), some (.ref s.length), o3, some (.ref s4.length), some (.int v7)] s7 = .nx [some (.ref dr), some (.ref at_), some (.ref nm), some (.ref s.length), o3, some (.ref rz), some (.int v7)] s8 ∧ s8[rz]? = some (.lst sd) ∧ rz ≠ at_ ∧ LB names 4 35 2 sd ∧ (∀ x ∈ sd, pl 6 x = true) ∧ sd.length ≤ 2 ∧ Gs dr at_ s8 ∧ Gt at_ s7 s8 := by
    by_cases h : v7 = 0
    · subst h
      obtain ⟨e1, sa, qa, ⟨c1, w1⟩, ga, ta⟩ := c_law_expression h0 hne 1 (k + 1) s7 g7 hn7
      have qa : call (k + 4) .law_expression [.ref dr, .ref at_, .ref nm, .int 1] s7 = .ok e1 sa := qa
      have hna := ta.old nm _ hne hn7
      have rza := ta.old s4.length _ (Nat.ne_of_gt g4.lt) rz7
      obtain ⟨e2, sb, qb, ⟨sb1, sb2⟩, gb, tb⟩ := c_law_send (k := k) hn h0 hne ga hna
      have ad : Core.gAdd (.tup zs) (.tup [skipD]) sa = .ok (.tup (zs ++ [skipD])) sa := add_tup (by rw [List.length_singleton]; omega)
      have ad : Core.gAdd (.tup zs) (.tup [.tup [.str "skip"]]) sa = .ok (.tup (zs ++ [skipD])) sa := ad
      have l1 := w1.le
      refine ⟨sb ++ [Ob.lst [.tup [.str "if", e1, .tup (zs ++ [skipD]), .tup [e2]]]], sb.length, [.tup [.str "if", e1, .tup (zs ++ [skipD]), .tup [e2]]], ?_, last_at, Nat.ne_of_gt gb.lt, ?_, ?_, by simp, gb.app, ta.trans (tb.trans Gt.app)⟩
      · simp only [mSeq, mExpr, mRet, mRetN, mIfS, mSet, mAug, mCall, mCons, mNil, mVar, mC, mOp, mUn, mApp, mTup, mLst, mNx, mRaise, mAnd, mOr, mNot, mIf, tstB, tstAnd, tstOr, tstNot, mChain, bind_ok, bind_err, bind_no, toS_ok, toS_err, nox_ok, fin_nx, fin_rt, fin_err, startL, List.map_cons, List.map_nil, List.length_cons, List.length_nil, List.cons_append, List.nil_append, List.getElem?_cons_zero, List.getElem?_cons_succ, List.set_cons_zero, List.set_cons_succ, List.replicate_succ, List.replicate_zero, Nat.zero_add, Nat.reduceAdd, Nat.reduceSub, Nat.add_one_sub_one, Nat.sub_self, if_true, if_false, ite_true, ite_false, Bool.false_eq_true, reduceCtorEq, if_pos, Nat.reduceEqDiff, Nat.reduceLeDiff, decide_true, decide_false, Bool.not_true, Bool.not_false, gEq, gEqB, show ((0 : Int) == 0) = true from rfl, qa, tup_lst rza, ad, qb]
      · exact (lb_one (sb_if (C := 3) (w1.up (h' := 3) (by omega)) (by omega) zk (lb_one sb1) (by simp) (by simp))).up (by omega) (by omega) (by omega)
      · intro x hx
        rw [List.mem_singleton.mp hx]
        refine pl_t4 (pl_w (by decide +kernel)) (pl_up (by omega) (wx_pl hn w1)) (pl_tup fun y hy => ?_) (pl_t1 (pl_up (by omega) sb2))
        rcases List.mem_append.mp hy with hy | hy
        · exact pl_up (by omega) (zp y hy)
        · rw [List.mem_singleton.mp hy]; exact skip_pl
    · have hb : (v7 == 0) = false := beq_eq_false_iff_ne.mpr h
      exact ⟨s7, s4.length, zs, by simp only [mSeq, mExpr, mRet, mRetN, mIfS, mSet, mAug, mCall, mCons, mNil, mVar, mC, mOp, mUn, mApp, mTup, mLst, mNx, mRaise, mAnd, mOr, mNot, mIf, tstB, tstAnd, tstOr, tstNot, mChain, bind_ok, bind_err, bind_no, toS_ok, toS_err, nox_ok, fin_nx, fin_rt, fin_err, startL, List.map_cons, List.map_nil, List.length_cons, List.length_nil, List.cons_append, List.nil_append, List.getElem?_cons_zero, List.getElem?_cons_succ, List.set_cons_zero, List.set_cons_succ, List.replicate_succ, List.replicate_zero, Nat.zero_add, Nat.reduceAdd, Nat.reduceSub, Nat.add_one_sub_one, Nat.sub_self, if_true, if_false, ite_true, ite_false, Bool.false_eq_true, reduceCtorEq, if_pos, Nat.reduceEqDiff, Nat.reduceLeDiff, decide_true, decide_false, Bool.not_true, Bool.not_false, gEq, gEqB, hb], rz7, Nat.ne_of_gt g4.lt, zl.up (by omega) (by omega) (by omega), pl_upL (by omega) zp, nz, g7, .refl⟩
  have rr8 := t8.old s.length _ (Nat.ne_of_gt al) rr7
  have ad8 : Core.gAdd (.tup sd) (.tup [.tup [.str "skip"]]) s8 = .ok (.tup (sd ++ [skipD])) s8 := add_tup (by rw [List.length_singleton]; omega)
  let st : D := .tup [.str "if", lessD, .tup (sd ++ [skipD]), .tup [skipD]]
  have wl : Wx names 4 lessD (1 + 1 + 1) := .bin (by decide +kernel) (.int (by decide +kernel)) (.leaf (by decide +kernel))
  have st_sb : SB names 5 41 2 st := (sb_if (C := 3) wl (by omega) (lb_app lb8 ((lb_one skip_sb).up (h' := 4) (C' := 1) (X' := 0) (by omega) (by omega) (by omega))) ((lb_one skip_sb).up (h' := 4) (C' := 1) (X' := 0) (by omega) (by omega) (by omega)) (by simp) (by simp)).up (by omega) (by omega) (by omega)
  have st_pl : pl 8 st = true := by
    refine pl_t4 (pl_w (by decide +kernel)) (pl_up (n := 3) (by omega) (by decide +kernel)) (pl_tup fun y hy => ?_) (pl_t1 skip_pl)
    rcases List.mem_append.mp hy with hy | hy
    · exact pl8 y hy
    · rw [List.mem_singleton.mp hy]; exact skip_pl
  have yl : LB names 5 16 0 ys := (lb_all (C := 8) (X := 0) fun z hz => (p3 z hz).1).up (by omega) (by omega) (by omega)
  have yl' : LB names 5 16 0 ys.reverse := (lb_all (C := 8) (X := 0) fun z hz => (p3 z (List.mem_reverse.mp hz)).1).up (by omega) (by rw [List.length_reverse]; omega) (by omega)
  have app := app_at (y := st) rr8 (by omega)
  have r9 : (s8.set s.length (.lst (ys ++ [st])))[s.length]? = some (.lst (ys ++ [st])) := set_at rr8
  have g9 : Gs dr at_ (s8.set s.length (.lst (ys ++ [st]))) := g8.set (Nat.ne_of_gt dl) (Nat.ne_of_gt al)
  have t19 : Gt2 at_ s.length (s ++ [Ob.lst []]) (s8.set s.length (.lst (ys ++ [st]))) := ((t2.two.trans t3).trans (t4.two.trans (t46.two.trans (t7.two.trans t8.two)))).trans .set
  have t09 : Gt at_ s (s8.set s.length (.lst (ys ++ [st]))) := t19.close
  have pall : ∀ x ∈ ys ++ [st], pl 8 x = true := fun x hx => by
    rcases List.mem_append.mp hx with hx | hx
    · exact pl_up (by omega) (p3 x hx).2
    · rw [List.mem_singleton.mp hx]; exact st_pl
  unfold m_law_program
  rw [seq_nx (l1 := [some (.ref dr), some (.ref at_), some (.ref nm), some (.ref s.length), none, none, none]) (s1 := s ++ [Ob.lst []]) (by simp only [mSeq, mExpr, mRet, mRetN, mIfS, mSet, mAug, mCall, mCons, mNil, mVar, mC, mOp, mUn, mApp, mTup, mLst, mNx, mRaise, mAnd, mOr, mNot, mIf, tstB, tstAnd, tstOr, tstNot, mChain, bind_ok, bind_err, bind_no, toS_ok, toS_err, nox_ok, fin_nx, fin_rt, fin_err, startL, List.map_cons, List.map_nil, List.length_cons, List.length_nil, List.cons_append, List.nil_append, List.getElem?_cons_zero, List.getElem?_cons_succ, List.set_cons_zero, List.set_cons_succ, List.replicate_succ, List.replicate_zero, Nat.zero_add, Nat.reduceAdd, Nat.reduceSub, Nat.add_one_sub_one, Nat.sub_self, if_true, if_false, ite_true, ite_false, Bool.false_eq_true, reduceCtorEq, if_pos, Nat.reduceEqDiff, Nat.reduceLeDiff, decide_true, decide_false, Bool.not_true, Bool.not_false]),
    seq_nx ((rng1 (s1 := s2) (j := 1 + v2) (by simp only [mSeq, mExpr, mRet, mRetN, mIfS, mSet, mAug, mCall, mCons, mNil, mVar, mC, mOp, mUn, mApp, mTup, mLst, mNx, mRaise, mAnd, mOr, mNot, mIf, tstB, tstAnd, tstOr, tstNot, mChain, bind_ok, bind_err, bind_no, toS_ok, toS_err, nox_ok, fin_nx, fin_rt, fin_err, startL, List.map_cons, List.map_nil, List.length_cons, List.length_nil, List.cons_append, List.nil_append, List.getElem?_cons_zero, List.getElem?_cons_succ, List.set_cons_zero, List.set_cons_succ, List.replicate_succ, List.replicate_zero, Nat.zero_add, Nat.reduceAdd, Nat.reduceSub, Nat.add_one_sub_one, Nat.sub_self, if_true, if_false, ite_true, ite_false, Bool.false_eq_true, reduceCtorEq, if_pos, Nat.reduceEqDiff, Nat.reduceLeDiff, decide_true, decide_false, Bool.not_true, Bool.not_false, q2, Core.gAdd]) (by omega) (by omega)).trans e3)]
  have lcE := (lrng1 (g := gmName 4) (vs := [4]) (tt := tYes') (el := mCall 3 (call (k + 4) .law_send) (mCons (mVar 0) (mCons (mVar 1) (mCons (mVar 2) mNil)))) (ma := mCons (mCall 3 (call (k + 4) .law_next) (mCons (mVar 0) (mCons (mVar 1) (mCons (mC (.int 3)) mNil)))) mNil) (l := [some (.ref dr), some (.ref at_), some (.ref nm), some (.ref s.length), o3, none, none]) (s := s3) (s1 := s4) (j := v4) (by simp only [mSeq, mExpr, mRet, mRetN, mIfS, mSet, mAug, mCall, mCons, mNil, mVar, mC, mOp, mUn, mApp, mTup, mLst, mNx, mRaise, mAnd, mOr, mNot, mIf, tstB, tstAnd, tstOr, tstNot, mChain, bind_ok, bind_err, bind_no, toS_ok, toS_err, nox_ok, fin_nx, fin_rt, fin_err, startL, List.map_cons, List.map_nil, List.length_cons, List.length_nil, List.cons_append, List.nil_append, List.getElem?_cons_zero, List.getElem?_cons_succ, List.set_cons_zero, List.set_cons_succ, List.replicate_succ, List.replicate_zero, Nat.zero_add, Nat.reduceAdd, Nat.reduceSub, Nat.add_one_sub_one, Nat.sub_self, if_true, if_false, ite_true, ite_false, Bool.false_eq_true, reduceCtorEq, if_pos, Nat.reduceEqDiff, Nat.reduceLeDiff, decide_true, decide_false, Bool.not_true, Bool.not_false, q4]) (by omega) (by omega)).trans e6
  rw [seq_nx (l1 := [some (.ref dr), some (.ref at_), some (.ref nm), some (.ref s.length), o3, some (.ref s4.length), none]) (s1 := s6) (by unfold mSet; rw [lcE]; rfl),
    seq_nx (l1 := [some (.ref dr), some (.ref at_), some (.ref nm), some (.ref s.length), o3, some (.ref s4.length), some (.int v7)]) (s1 := s7) (by simp only [mSeq, mExpr, mRet, mRetN, mIfS, mSet, mAug, mCall, mCons, mNil, mVar, mC, mOp, mUn, mApp, mTup, mLst, mNx, mRaise, mAnd, mOr, mNot, mIf, tstB, tstAnd, tstOr, tstNot, mChain, bind_ok, bind_err, bind_no, toS_ok, toS_err, nox_ok, fin_nx, fin_rt, fin_err, startL, List.map_cons, List.map_nil, List.length_cons, List.length_nil, List.cons_append, List.nil_append, List.getElem?_cons_zero, List.getElem?_cons_succ, List.set_cons_zero, List.set_cons_succ, List.replicate_succ, List.replicate_zero, Nat.zero_add, Nat.reduceAdd, Nat.reduceSub, Nat.add_one_sub_one, Nat.sub_self, if_true, if_false, ite_true, ite_false, Bool.false_eq_true, reduceCtorEq, if_pos, Nat.reduceEqDiff, Nat.reduceLeDiff, decide_true, decide_false, Bool.not_true, Bool.not_false, q7]), seq_nx e8,
    seq_nx (l1 := [some (.ref dr), some (.ref at_), some (.ref nm), some (.ref s.length), o3, some (.ref rz), some (.int v7)]) (s1 := s8.set s.length (.lst (ys ++ [st]))) (by simp only [mSeq, mExpr, mRet, mRetN, mIfS, mSet, mAug, mCall, mCons, mNil, mVar, mC, mOp, mUn, mApp, mTup, mLst, mNx, mRaise, mAnd, mOr, mNot, mIf, tstB, tstAnd, tstOr, tstNot, mChain, bind_ok, bind_err, bind_no, toS_ok, toS_err, nox_ok, fin_nx, fin_rt, fin_err, startL, List.map_cons, List.map_nil, List.length_cons, List.length_nil, List.cons_append, List.nil_append, List.getElem?_cons_zero, List.getElem?_cons_succ, List.set_cons_zero, List.set_cons_succ, List.replicate_succ, List.replicate_zero, Nat.zero_add, Nat.reduceAdd, Nat.reduceSub, Nat.add_one_sub_one, Nat.sub_self, if_true, if_false, ite_true, ite_false, Bool.false_eq_true, reduceCtorEq, if_pos, Nat.reduceEqDiff, Nat.reduceLeDiff, decide_true, decide_false, Bool.not_true, Bool.not_false, mLm, rr8, tup_lst h8, ad8]; rw [show gAppend (.ref s.length) [.tup [.str "if", .tup [.str "less", .tup [.str "int", .int 0], .tup [.str "arg"]], .tup (sd ++ [skipD]), .tup [.tup [.str "skip"]]]] s8 = _ from app]; rfl)]
  by_cases h1 : v7 = 1
  · subst h1
    have rv := rev_lst r9
    refine ⟨.tup (ys ++ [st]).reverse, s8.set s.length (.lst (ys ++ [st])) ++ [Ob.lst (ys ++ [st]).reverse], ?_, ⟨?_, ?_⟩, g9.app, t09.trans Gt.app⟩
    · simp only [mSeq, mExpr, mRet, mRetN, mIfS, mSet, mAug, mCall, mCons, mNil, mVar, mC, mOp, mUn, mApp, mTup, mLst, mNx, mRaise, mAnd, mOr, mNot, mIf, tstB, tstAnd, tstOr, tstNot, mChain, bind_ok, bind_err, bind_no, toS_ok, toS_err, nox_ok, fin_nx, fin_rt, fin_err, startL, List.map_cons, List.map_nil, List.length_cons, List.length_nil, List.cons_append, List.nil_append, List.getElem?_cons_zero, List.getElem?_cons_succ, List.set_cons_zero, List.set_cons_succ, List.replicate_succ, List.replicate_zero, Nat.zero_add, Nat.reduceAdd, Nat.reduceSub, Nat.add_one_sub_one, Nat.sub_self, if_true, if_false, ite_true, ite_false, Bool.false_eq_true, reduceCtorEq, if_pos, Nat.reduceEqDiff, Nat.reduceLeDiff, decide_true, decide_false, Bool.not_true, Bool.not_false, gEq, gEqB, show ((1 : Int) == 1) = true from rfl, rv]
      rw [tup_lst last_at]
      simp only [mSeq, mExpr, mRet, mRetN, mIfS, mSet, mAug, mCall, mCons, mNil, mVar, mC, mOp, mUn, mApp, mTup, mLst, mNx, mRaise, mAnd, mOr, mNot, mIf, tstB, tstAnd, tstOr, tstNot, mChain, bind_ok, bind_err, bind_no, toS_ok, toS_err, nox_ok, fin_nx, fin_rt, fin_err, startL, List.map_cons, List.map_nil, List.length_cons, List.length_nil, List.cons_append, List.nil_append, List.getElem?_cons_zero, List.getElem?_cons_succ, List.set_cons_zero, List.set_cons_succ, List.replicate_succ, List.replicate_zero, Nat.zero_add, Nat.reduceAdd, Nat.reduceSub, Nat.add_one_sub_one, Nat.sub_self, if_true, if_false, ite_true, ite_false, Bool.false_eq_true, reduceCtorEq, if_pos, Nat.reduceEqDiff, Nat.reduceLeDiff, decide_true, decide_false, Bool.not_true, Bool.not_false]
    · rw [List.reverse_append]
      exact prog_ok (lb_app (lb_one st_sb) yl') (by omega) (by omega) (by omega) (by simp)
    · exact pl_tup fun x hx => pall x (List.mem_reverse.mp hx)
  · have hb : (v7 == 1) = false := beq_eq_false_iff_ne.mpr h1
    refine ⟨.tup (ys ++ [st]), s8.set s.length (.lst (ys ++ [st])), ?_, ⟨prog_ok (lb_app yl (lb_one st_sb)) (by omega) (by omega) (by omega) (by simp), pl_tup pall⟩, g9, t09⟩
    simp only [mSeq, mExpr, mRet, mRetN, mIfS, mSet, mAug, mCall, mCons, mNil, mVar, mC, mOp, mUn, mApp, mTup, mLst, mNx, mRaise, mAnd, mOr, mNot, mIf, tstB, tstAnd, tstOr, tstNot, mChain, bind_ok, bind_err, bind_no, toS_ok, toS_err, nox_ok, fin_nx, fin_rt, fin_err, startL, List.map_cons, List.map_nil, List.length_cons, List.length_nil, List.cons_append, List.nil_append, List.getElem?_cons_zero, List.getElem?_cons_succ, List.set_cons_zero, List.set_cons_succ, List.replicate_succ, List.replicate_zero, Nat.zero_add, Nat.reduceAdd, Nat.reduceSub, Nat.add_one_sub_one, Nat.sub_self, if_true, if_false, ite_true, ite_false, Bool.false_eq_true, reduceCtorEq, if_pos, Nat.reduceEqDiff, Nat.reduceLeDiff, decide_true, decide_false, Bool.not_true, Bool.not_false, gEq, gEqB, hb]
    rw [tup_lst r9]
    simp only [mSeq, mExpr, mRet, mRetN, mIfS, mSet, mAug, mCall, mCons, mNil, mVar, mC, mOp, mUn, mApp, mTup, mLst, mNx, mRaise, mAnd, mOr, mNot, mIf, tstB, tstAnd, tstOr, tstNot, mChain, bind_ok, bind_err, bind_no, toS_ok, toS_err, nox_ok, fin_nx, fin_rt, fin_err, startL, List.map_cons, List.map_nil, List.length_cons, List.length_nil, List.cons_append, List.nil_append, List.getElem?_cons_zero, List.getElem?_cons_succ, List.set_cons_zero, List.set_cons_succ, List.replicate_succ, List.replicate_zero, Nat.zero_add, Nat.reduceAdd, Nat.reduceSub, Nat.add_one_sub_one, Nat.sub_self, if_true, if_false, ite_true, ite_false, Bool.false_eq_true, reduceCtorEq, if_pos, Nat.reduceEqDiff, Nat.reduceLeDiff, decide_true, decide_false, Bool.not_true, Bool.not_false]
end
end Pr

set_option Elab.async false
set_option linter.all false
set_option maxRecDepth 100000
set_option maxHeartbeats 4000000
/-! drawn kinds -/
namespace Pr
open PySem PySem.Spec PyProof.Rows L2 Core
inductive Two (P : D → D → Prop) : List D → List D → Prop
  | nil : Two P [] []
  | cons {d y : D} {ds ys : List D} : P d y → Two P ds ys → Two P (d :: ds) (y :: ys)
theorem Two.len {P : D → D → Prop} {ds ys : List D} (t : Two P ds ys) : ys.length = ds.length := by
  induction t with
  | nil => rfl
  | cons _ _ ih => rw [List.length_cons, List.length_cons, ih]
theorem Two.hd {P : D → D → Prop} {ds ys : List D} (t : Two P ds ys) (h : ∀ d y, P d y → hdD y = d) : ys.map hdD = ds := by
  induction t with
  | nil => rfl
  | cons a _ ih => rw [List.map_cons, ih, h _ _ a]
theorem Two.all {P : D → D → Prop} {Q : D → Prop} {ds ys : List D} (t : Two P ds ys) (h : ∀ d y, P d y → Q y) : ∀ y ∈ ys, Q y := by
  induction t with
  | nil => exact fun y hy => absurd hy List.not_mem_nil
  | cons a _ ih =>
    intro y hy
    rcases List.mem_cons.mp hy with rfl | hy
    · exact h _ _ a
    · exact ih y hy
section
variable {at_ r dr : Nat}
theorem loop_app2 {ok : Mem → Bool} {i : Nat} {body : SM} {Lk : Core.Loc → Prop} {P : D → D → Prop} {Kp : Mem → Prop} (hok : ∀ s, Kp s → ok s = true) (hkp : ∀ s s', Gt2 at_ r s s' → Kp s → Kp s') : ∀ (ds : List D) (l : Core.Loc) (s : Mem) (rs : List D),
    (∀ d ∈ ds, ∀ l s rs, Lk l → Gs dr at_ s → Kp s → s[r]? = some (.lst rs) → rs.length < 100000 → ∃ l' s' y, body (l.set i (some d)) s = .nx l' s' ∧ Lk l' ∧ P d y ∧ Gs dr at_ s' ∧ Gt2 at_ r s s' ∧ s'[r]? = some (.lst (rs ++ [y]))) →
    Lk l → Gs dr at_ s → Kp s → s[r]? = some (.lst rs) → rs.length + ds.length ≤ 100000 →
    ∃ l' s' ys, loopS ok (gmName i) body ds l s = .nx l' s' ∧ Lk l' ∧ s'[r]? = some (.lst (rs ++ ys)) ∧ Two P ds ys ∧ Gs dr at_ s' ∧ Gt2 at_ r s s'
  | [], l, s, rs, hb, hl, g, kp, hr, hlen => by
    unfold loopS
    rw [if_pos (hok s kp)]
    exact ⟨l, s, [], rfl, hl, by rw [List.append_nil]; exact hr, .nil, g, .refl⟩
  | d :: ds, l, s, rs, hb, hl, g, kp, hr, hlen => by
    obtain ⟨l1, s1, y, h1, h2, h3, h4, h5, h6⟩ := hb d List.mem_cons_self l s rs hl g kp hr (by rw [List.length_cons] at hlen; omega)
    obtain ⟨l2, s2, ys, k1, k2, k3, k4, k6, k7⟩ := loop_app2 hok hkp ds l1 s1 (rs ++ [y]) (fun d hd => hb d (List.mem_cons_of_mem _ hd)) h2 h4 (hkp _ _ h5 kp) h6 (by rw [List.length_cons] at hlen; rw [List.length_append, List.length_singleton]; omega)
    unfold loopS
    rw [if_pos (hok s kp)]
    dsimp only [gmName]
    rw [h1]
    dsimp only
    exact ⟨l2, s2, y :: ys, k1, k2, by rw [k3, List.append_assoc]; rfl, .cons h3 k4, k6, h5.trans k7⟩
theorem lc_draw2 {ok : Mem → Bool} {g : TGm} {vs : List Nat} {l : Core.Loc} {me : EM} {P : D → D → Prop} {Kp : Mem → Prop} (hok : ∀ s, Kp s → ok s = true) (hkp : ∀ s s', Gt2 at_ r s s' → Kp s → Kp s') (h1 : r ≠ dr) (h2 : r ≠ at_) : ∀ (ds : List D) (s : Mem) (rs : List D),
    (∀ d ∈ ds, ∃ l1, g d (wipeL l vs) = some l1 ∧ ∀ s, Gs dr at_ s → Kp s → Dr dr at_ s (P d) (me l1 s)) → Gs dr at_ s → Kp s → s[r]? = some (.lst rs) → rs.length + ds.length ≤ 100000 →
    ∃ s' ys, loopC ok g vs l tYes' me r ds s = .ok (.ref r) s' ∧ s'[r]? = some (.lst (rs ++ ys)) ∧ Two P ds ys ∧ Gs dr at_ s' ∧ Gt2 at_ r s s'
  | [], s, rs, hb, g, kp, hr, hlen => by
    unfold loopC
    rw [if_pos (hok s kp)]
    exact ⟨s, [], rfl, by rw [List.append_nil]; exact hr, .nil, g, .refl⟩
  | d :: ds, s, rs, hb, g, kp, hr, hlen => by
    obtain ⟨l1, e1, f⟩ := hb d List.mem_cons_self
    obtain ⟨y, s1, e2, py, g1, t1⟩ := f s g kp
    have r1 := t1.old r _ h2 hr
    have g2 := g1.set (u := .lst (rs ++ [y])) h1 h2
    have t2 : Gt2 at_ r s (s1.set r (.lst (rs ++ [y]))) := t1.two.trans .set
    obtain ⟨s2, ys, k1, k2, k3, k5, k6⟩ := lc_draw2 hok hkp h1 h2 ds _ (rs ++ [y]) (fun d hd => hb d (List.mem_cons_of_mem _ hd)) g2 (hkp _ _ t2 kp) (set_at r1) (by rw [List.length_cons] at hlen; rw [List.length_append, List.length_singleton]; omega)
    unfold loopC
    have e3 : rs.length < 100000 := by rw [List.length_cons] at hlen; omega
    rw [if_pos (hok s kp), e1]
    simp only [tYes', nox_ok, if_true, e2, r1, e3]
    exact ⟨s2, y :: ys, k1, by rw [k2, List.append_assoc]; rfl, .cons py k3, k5, t2.trans k6⟩
end
/-- a drawn field, a drawn handler -/
def FldP (d y : D) : Prop := ∃ (one : Str) (lo hi : Int), d = .str one ∧ y = .tup [.str one, .int lo, .int hi] ∧ -50 ≤ lo ∧ lo ≤ hi ∧ hi ≤ 1000
def HndP (names : List Str) (d y : D) : Prop := ∃ p, y = .tup [d, p] ∧ PrgP names p
def fN : List Str := ["n", "m", "k"]
def hN : List Str := ["go", "tell", "ask"]
def KindP (z : D) (d : D) : Prop := ∃ (j i : Nat) (fs hs : List D), 1 ≤ j ∧ j ≤ 3 ∧ 1 ≤ i ∧ i ≤ 3 ∧ d = .tup [z, .tup fs, .tup hs] ∧ Two FldP ((fN.take j).map D.str) fs ∧ Two (HndP (fN.take j)) ((hN.take i).map D.str) hs
section
variable {dr at_ : Nat} {s : Mem} {k : Nat}
theorem sl_lst {r : Nat} {xs : List D} {j : Nat} (h : s[r]? = some (.lst xs)) (hj : j ≤ xs.length) : gSl none (some (j : Int)) (.ref r) s = .ok (.ref s.length) (s ++ [.lst (xs.take j)]) := by
  unfold gSl
  dsimp only
  rw [rd_lst h]
  dsimp only
  have e : Core.cutD xs none (some (j : Int)) = xs.take j := by
    unfold Core.cutD
    rw [HT.sIx_none, HT.sIx_nat, Nat.sub_zero, List.drop_zero, Nat.min_eq_left hj]
  rw [e]
end
end Pr

set_option Elab.async false
set_option linter.all false
set_option maxRecDepth 100000
set_option maxHeartbeats 4000000
/-! drawn kinds -/
namespace Pr
open PySem PySem.Spec PyProof.Rows L2 Core
section
variable {dr at_ : Nat} {s : Mem} {k : Nat}
theorem fN_pl {j : Nat} : ∀ x ∈ fN.take j, pl 1 (.str x) = true := fun x hx => by
  have : ∀ x ∈ fN, pl 1 (.str x) = true := by decide +kernel
  exact this x (List.mem_of_mem_take hx)
abbrev bFld (k : Nat) : SM := (mSeq (mSet 6 (mOp Core.gSub (mCall 3 (call (k + 1) .law_next) (mCons (mVar 0) (mCons (mVar 1) (mCons (mC (.int 60)) mNil)))) (mC (.int 50))))
    (mExpr (mLm gAppend (mVar 4) (mCons (mTup (mCons (mVar 5) (mCons (mVar 6) (mCons (mOp Core.gAdd (mVar 6) (mCall 3 (call (k + 1) .law_next) (mCons (mVar 0) (mCons (mVar 1) (mCons (mC (.int 200)) mNil))))) mNil)))) mNil))))
theorem fld_row {r : Nat} (hr1 : r ≠ dr) (hr2 : r ≠ at_) (g : Gs dr at_ s) {rs : List D} (hr : s[r]? = some (.lst rs)) (hl : rs.length < 100000) {z c3 : Option D} {one : Str} {o6 : Option D} :
    ∃ s' y o, bFld k [some (.ref dr), some (.ref at_), z, c3, some (.ref r), some (.str one), o6, none] s = .nx [some (.ref dr), some (.ref at_), z, c3, some (.ref r), some (.str one), o, none] s' ∧ FldP (.str one) y ∧ Gs dr at_ s' ∧ Gt2 at_ r s s' ∧ s'[r]? = some (.lst (rs ++ [y])) := by
  obtain ⟨_, s1, q1, ⟨v1, rfl, a1, b1⟩, g1, t1⟩ := c_law_next (k := k) g (many := 60) (by omega)
  obtain ⟨_, s2, q2, ⟨v2, rfl, a2, b2⟩, g2, t2⟩ := c_law_next (k := k) g1 (many := 200) (by omega)
  have r1 := t1.old r _ hr2 hr
  have r2 := t2.old r _ hr2 r1
  refine ⟨s2.set r (.lst (rs ++ [.tup [.str one, .int (v1 - 50), .int (v1 - 50 + v2)]])), .tup [.str one, .int (v1 - 50), .int (v1 - 50 + v2)], some (.int (v1 - 50)), ?_, ⟨one, _, _, rfl, rfl, by omega, by omega, by omega⟩, g2.set hr1 hr2, (t1.trans t2).two.trans .set, set_at r2⟩
  simp only [mSeq, mExpr, mRet, mRetN, mIfS, mSet, mAug, mCall, mCons, mNil, mVar, mC, mOp, mUn, mApp, mTup, mLst, mNx, mRaise, mAnd, mOr, mNot, mIf, tstB, tstAnd, tstOr, tstNot, mChain, bind_ok, bind_err, bind_no, toS_ok, toS_err, nox_ok, fin_nx, fin_rt, fin_err, startL, List.map_cons, List.map_nil, List.length_cons, List.length_nil, List.cons_append, List.nil_append, List.getElem?_cons_zero, List.getElem?_cons_succ, List.set_cons_zero, List.set_cons_succ, List.replicate_succ, List.replicate_zero, Nat.zero_add, Nat.reduceAdd, Nat.reduceSub, Nat.add_one_sub_one, Nat.sub_self, if_true, if_false, ite_true, ite_false, Bool.false_eq_true, reduceCtorEq, if_pos, Nat.reduceEqDiff, Nat.reduceLeDiff, decide_true, decide_false, Bool.not_true, Bool.not_false, q1, Core.gSub, gI2, mLm, r1, q2, Core.gAdd, app_at r2 hl]
theorem c_law_kind (z : D) (g : Gs dr at_ s) : Dr dr at_ s (KindP z) (call (k + 6) .law_kind [.ref dr, .ref at_, z] s) := by
  show Dr dr at_ s _ (Core.fin (m_law_kind (call (k + 5)) [some (.ref dr), some (.ref at_), some z, none, none, none, none, none] s))
  have dl : dr < s.length := let ⟨_, h⟩ := g.hd; (List.getElem?_eq_some_iff.mp h).1
  have al := g.lt
  -- the names
  obtain ⟨N, hN0⟩ : ∃ L : List D, L = fN.map D.str := ⟨_, rfl⟩
  have hN' : N = [D.str "n", D.str "m", D.str "k"] := hN0
  have ln : N.length = 3 := by rw [hN']; rfl
  obtain ⟨_, s2, q2, ⟨v2, rfl, a2, b2⟩, g2, t2⟩ := c_law_next (k := k + 4) (g.app (t := [Ob.lst N])) (many := 3) (by omega)
  have r2 : s2[s.length]? = some (Ob.lst N) := t2.fresh (s1 := s2) al
  obtain ⟨j, hj⟩ : ∃ j : Nat, (1 + v2) = (j : Int) := ⟨(1 + v2).toNat, by omega⟩
  have sl1 := sl_lst (j := j) r2 (by omega)
  have nmE : N.take j = (fN.take j).map D.str := by rw [hN0, List.map_take]
  rw [nmE] at sl1
  -- the fields
  have g4 : Gs dr at_ (s2 ++ [Ob.lst ((fN.take j).map D.str)] ++ [Ob.lst []]) := g2.app.app
  have nmA : (s2 ++ [Ob.lst ((fN.take j).map D.str)] ++ [Ob.lst []])[s2.length]? = some (Ob.lst ((fN.take j).map D.str)) := by rw [List.getElem?_append_left (by simp)]; exact last_at
  have fr : (s2 ++ [Ob.lst ((fN.take j).map D.str)] ++ [Ob.lst []])[(s2 ++ [Ob.lst ((fN.take j).map D.str)]).length]? = some (Ob.lst []) := last_at
  obtain ⟨R, hR⟩ : ∃ R, R = (s2 ++ [Ob.lst ((fN.take j).map D.str)]).length := ⟨_, rfl⟩
  rw [← hR] at fr
  have Rl : s2.length < R := by rw [hR]; simp
  have l2 : s.length ≤ s2.length := Nat.le_trans (by simp) t2.len
  have nm_at : s2.length ≠ at_ := Nat.ne_of_gt g2.lt
  have nm_R : s2.length ≠ R := Nat.ne_of_lt Rl
  obtain ⟨l3, s3, fs, e3, ⟨o3, o3', rfl⟩, r3, w3, g3, t3⟩ := loop_app2 (dr := dr) (at_ := at_) (r := R) (ok := okL s2.length ((fN.take j).map D.str)) (i := 5) (body := bFld (k + 4)) (Lk := fun l => ∃ o o', l = [some (.ref dr), some (.ref at_), some z, some (.ref s2.length), some (.ref R), o, o', none]) (P := FldP) (Kp := fun s => s[s2.length]? = some (.lst ((fN.take j).map D.str)))
    (fun s1 h => okL_of (rd_lst h)) (fun s1 s2' t h => t.old _ _ nm_at nm_R h) ((fN.take j).map D.str) [some (.ref dr), some (.ref at_), some z, some (.ref s2.length), some (.ref R), none, none, none] (s2 ++ [Ob.lst ((fN.take j).map D.str)] ++ [Ob.lst []]) []
    (fun d hd l s1 rs ⟨o, o', hl⟩ gs kp hr hlen => by
      subst hl
      obtain ⟨one, _, rfl⟩ := List.mem_map.mp hd
      obtain ⟨s', y, o2, h1, h2, h3, h4, h5⟩ := fld_row (k := k + 4) (z := some z) (c3 := some (.ref s2.length)) (one := one) (o6 := o') (by omega) (by omega) gs hr hlen
      exact ⟨_, s', y, h1, ⟨_, _, rfl⟩, h2, h3, h4, h5⟩) ⟨_, _, rfl⟩ g4 nmA fr (by rw [List.length_nil, List.length_map, List.length_take]; show 0 + min j 3 ≤ 100000; omega)
  rw [List.nil_append] at r3
  have nm3 := t3.old _ _ nm_at nm_R nmA
  -- the handlers
  obtain ⟨M, hM0⟩ : ∃ L : List D, L = hN.map D.str := ⟨_, rfl⟩
  have hM' : M = [D.str "go", D.str "tell", D.str "ask"] := hM0
  have lm : M.length = 3 := by rw [hM']; rfl
  obtain ⟨_, s5, q5, ⟨v5, rfl, a5, b5⟩, g5, t5⟩ := c_law_next (k := k + 4) (g3.app (t := [Ob.lst M])) (many := 3) (by omega)
  have r5 : s5[s3.length]? = some (Ob.lst M) := t5.fresh (s1 := s5) g3.lt
  have nm5 := t5.old _ _ nm_at (Gt.app.old _ _ nm_at nm3)
  have R_at : R ≠ at_ := by omega
  have fr5 := t5.old _ _ R_at (Gt.app.old _ _ R_at r3)
  obtain ⟨i, hi⟩ : ∃ i : Nat, (1 + v5) = (i : Int) := ⟨(1 + v5).toNat, by omega⟩
  have sl2 := sl_lst (j := i) r5 (by omega)
  have hnE : M.take i = (hN.take i).map D.str := by rw [hM0, List.map_take]
  rw [hnE] at sl2
  have g6 : Gs dr at_ (s5 ++ [Ob.lst ((hN.take i).map D.str)]) := g5.app
  obtain ⟨T, hT⟩ : ∃ T, T = (s5 ++ [Ob.lst ((hN.take i).map D.str)]).length := ⟨_, rfl⟩
  have Tl : s5.length < T := by rw [hT]; simp
  have l5 : R < s5.length := (List.getElem?_eq_some_iff.mp fr5).1
  have hd5 : dr < s5.length := let ⟨_, h⟩ := g5.hd; (List.getElem?_eq_some_iff.mp h).1
  obtain ⟨s7, hs, e7, r7, w7, g7, t7⟩ := lc_draw2 (dr := dr) (at_ := at_) (r := T) (ok := okL s5.length ((hN.take i).map D.str)) (g := gmName 5) (vs := [5]) (l := [some (.ref dr), some (.ref at_), some z, some (.ref s2.length), some (.ref R), o3, o3', none]) (me := mTup (mCons (mVar 5) (mCons (mCall 3 (call (k + 5) .law_program) (mCons (mVar 0) (mCons (mVar 1) (mCons (mVar 3) mNil)))) mNil))) (P := HndP (fN.take j))
    (Kp := fun s => s[s2.length]? = some (.lst ((fN.take j).map D.str)) ∧ s[s5.length]? = some (.lst ((hN.take i).map D.str)))
    (fun s1 h => okL_of (rd_lst h.2)) (fun s1 s2' t h => ⟨t.old _ _ nm_at (by omega) h.1, t.old _ _ (Nat.ne_of_gt g5.lt) (by omega) h.2⟩) (by omega) (by have := g5.lt; omega) ((hN.take i).map D.str) (s5 ++ [Ob.lst ((hN.take i).map D.str)] ++ [Ob.lst []]) []
    (fun d hd => ⟨[some (.ref dr), some (.ref at_), some z, some (.ref s2.length), some (.ref R), some d, o3', none], rfl, fun s1 gs kp => by
      obtain ⟨p, s2', h1, h2, h3, h4⟩ := c_law_program (k := k) (names := fN.take j) fN_pl (by rw [List.length_take]; show 1 ≤ min j 3; omega) nm_at gs kp.1
      exact ⟨.tup [d, p], s2', by simp only [mSeq, mExpr, mRet, mRetN, mIfS, mSet, mAug, mCall, mCons, mNil, mVar, mC, mOp, mUn, mApp, mTup, mLst, mNx, mRaise, mAnd, mOr, mNot, mIf, tstB, tstAnd, tstOr, tstNot, mChain, bind_ok, bind_err, bind_no, toS_ok, toS_err, nox_ok, fin_nx, fin_rt, fin_err, startL, List.map_cons, List.map_nil, List.length_cons, List.length_nil, List.cons_append, List.nil_append, List.getElem?_cons_zero, List.getElem?_cons_succ, List.set_cons_zero, List.set_cons_succ, List.replicate_succ, List.replicate_zero, Nat.zero_add, Nat.reduceAdd, Nat.reduceSub, Nat.add_one_sub_one, Nat.sub_self, if_true, if_false, ite_true, ite_false, Bool.false_eq_true, reduceCtorEq, if_pos, Nat.reduceEqDiff, Nat.reduceLeDiff, decide_true, decide_false, Bool.not_true, Bool.not_false, h1], ⟨p, rfl, h2⟩, h3, h4⟩⟩) g6.app ⟨Gt.app.old _ _ nm_at (Gt.app.old _ _ nm_at nm5), by rw [List.getElem?_append_left (by simp)]; exact last_at⟩ (by rw [hT]; exact last_at) (by rw [List.length_nil, List.length_map, List.length_take]; show 0 + min i 3 ≤ 100000; omega)
  rw [List.nil_append] at r7
  have fr7 : s7[R]? = some (.lst fs) := t7.old _ _ R_at (by omega) (Gt.app.old _ _ R_at (Gt.app.old _ _ R_at fr5))
  have tall : Gt at_ s s7 := by
    have x1 : Gt at_ s s2 := Gt.app.trans t2
    have x2 : Gt at_ s2 s3 := Gt.app.trans (by subst hR; exact t3.close)
    have x3 : Gt at_ s3 s5 := Gt.app.trans t5
    have x4 : Gt at_ s5 s7 := Gt.app.trans (by subst hT; exact t7.close)
    exact x1.trans (x2.trans (x3.trans x4))
  refine ⟨.tup [z, .tup fs, .tup hs], s7, ?_, ⟨j, i, fs, hs, by omega, by omega, by omega, by omega, rfl, w3, w7⟩, g7, tall⟩
  unfold m_law_kind
  rw [seq_nx (l1 := [some (.ref dr), some (.ref at_), some z, some (.ref s2.length), none, none, none, none]) (s1 := s2 ++ [Ob.lst ((fN.take j).map D.str)]) (by simp only [mSeq, mExpr, mRet, mRetN, mIfS, mSet, mAug, mCall, mCons, mNil, mVar, mC, mOp, mUn, mApp, mTup, mLst, mNx, mRaise, mAnd, mOr, mNot, mIf, tstB, tstAnd, tstOr, tstNot, mChain, bind_ok, bind_err, bind_no, toS_ok, toS_err, nox_ok, fin_nx, fin_rt, fin_err, startL, List.map_cons, List.map_nil, List.length_cons, List.length_nil, List.cons_append, List.nil_append, List.getElem?_cons_zero, List.getElem?_cons_succ, List.set_cons_zero, List.set_cons_succ, List.replicate_succ, List.replicate_zero, Nat.zero_add, Nat.reduceAdd, Nat.reduceSub, Nat.add_one_sub_one, Nat.sub_self, if_true, if_false, ite_true, ite_false, Bool.false_eq_true, reduceCtorEq, if_pos, Nat.reduceEqDiff, Nat.reduceLeDiff, decide_true, decide_false, Bool.not_true, Bool.not_false, mSl, oNone, oSome]; rw [← hN']; simp only [mSeq, mExpr, mRet, mRetN, mIfS, mSet, mAug, mCall, mCons, mNil, mVar, mC, mOp, mUn, mApp, mTup, mLst, mNx, mRaise, mAnd, mOr, mNot, mIf, tstB, tstAnd, tstOr, tstNot, mChain, bind_ok, bind_err, bind_no, toS_ok, toS_err, nox_ok, fin_nx, fin_rt, fin_err, startL, List.map_cons, List.map_nil, List.length_cons, List.length_nil, List.cons_append, List.nil_append, List.getElem?_cons_zero, List.getElem?_cons_succ, List.set_cons_zero, List.set_cons_succ, List.replicate_succ, List.replicate_zero, Nat.zero_add, Nat.reduceAdd, Nat.reduceSub, Nat.add_one_sub_one, Nat.sub_self, if_true, if_false, ite_true, ite_false, Bool.false_eq_true, reduceCtorEq, if_pos, Nat.reduceEqDiff, Nat.reduceLeDiff, decide_true, decide_false, Bool.not_true, Bool.not_false, q2, Core.gAdd]; rw [hj, sl1]; simp only [mSeq, mExpr, mRet, mRetN, mIfS, mSet, mAug, mCall, mCons, mNil, mVar, mC, mOp, mUn, mApp, mTup, mLst, mNx, mRaise, mAnd, mOr, mNot, mIf, tstB, tstAnd, tstOr, tstNot, mChain, bind_ok, bind_err, bind_no, toS_ok, toS_err, nox_ok, fin_nx, fin_rt, fin_err, startL, List.map_cons, List.map_nil, List.length_cons, List.length_nil, List.cons_append, List.nil_append, List.getElem?_cons_zero, List.getElem?_cons_succ, List.set_cons_zero, List.set_cons_succ, List.replicate_succ, List.replicate_zero, Nat.zero_add, Nat.reduceAdd, Nat.reduceSub, Nat.add_one_sub_one, Nat.sub_self, if_true, if_false, ite_true, ite_false, Bool.false_eq_true, reduceCtorEq, if_pos, Nat.reduceEqDiff, Nat.reduceLeDiff, decide_true, decide_false, Bool.not_true, Bool.not_false]),
    seq_nx (l1 := [some (.ref dr), some (.ref at_), some z, some (.ref s2.length), some (.ref R), none, none, none]) (s1 := s2 ++ [Ob.lst ((fN.take j).map D.str)] ++ [Ob.lst []]) (by simp only [mSeq, mExpr, mRet, mRetN, mIfS, mSet, mAug, mCall, mCons, mNil, mVar, mC, mOp, mUn, mApp, mTup, mLst, mNx, mRaise, mAnd, mOr, mNot, mIf, tstB, tstAnd, tstOr, tstNot, mChain, bind_ok, bind_err, bind_no, toS_ok, toS_err, nox_ok, fin_nx, fin_rt, fin_err, startL, List.map_cons, List.map_nil, List.length_cons, List.length_nil, List.cons_append, List.nil_append, List.getElem?_cons_zero, List.getElem?_cons_succ, List.set_cons_zero, List.set_cons_succ, List.replicate_succ, List.replicate_zero, Nat.zero_add, Nat.reduceAdd, Nat.reduceSub, Nat.add_one_sub_one, Nat.sub_self, if_true, if_false, ite_true, ite_false, Bool.false_eq_true, reduceCtorEq, if_pos, Nat.reduceEqDiff, Nat.reduceLeDiff, decide_true, decide_false, Bool.not_true, Bool.not_false]; rw [hR]),
    seq_nx ((for_ref (s1 := s2 ++ [Ob.lst ((fN.take j).map D.str)] ++ [Ob.lst []]) (m := s2.length) rfl (rd_lst nmA)).trans e3)]
  have lcE : mLc (iSeq (mSl (mLst (mCons (mC (.str "go")) (mCons (mC (.str "tell")) (mCons (mC (.str "ask")) mNil)))) oNone (oSome (mOp Core.gAdd (mC (.int 1)) (mCall 3 (call (k + 5) .law_next) (mCons (mVar 0) (mCons (mVar 1) (mCons (mC (.int 3)) mNil)))))))) (gmName 5) [5] tYes' (mTup (mCons (mVar 5) (mCons (mCall 3 (call (k + 5) .law_program) (mCons (mVar 0) (mCons (mVar 1) (mCons (mVar 3) mNil)))) mNil))) [some (.ref dr), some (.ref at_), some z, some (.ref s2.length), some (.ref R), o3, o3', none] s3 = .ok (.ref T) s7 := by
    have it : iSeq (mSl (mLst (mCons (mC (.str "go")) (mCons (mC (.str "tell")) (mCons (mC (.str "ask")) mNil)))) oNone (oSome (mOp Core.gAdd (mC (.int 1)) (mCall 3 (call (k + 5) .law_next) (mCons (mVar 0) (mCons (mVar 1) (mCons (mC (.int 3)) mNil))))))) [some (.ref dr), some (.ref at_), some z, some (.ref s2.length), some (.ref R), o3, o3', none] s3 = .ok ⟨(hN.take i).map D.str, okL s5.length ((hN.take i).map D.str)⟩ (s5 ++ [Ob.lst ((hN.take i).map D.str)]) := by
      unfold iSeq
      simp only [mSeq, mExpr, mRet, mRetN, mIfS, mSet, mAug, mCall, mCons, mNil, mVar, mC, mOp, mUn, mApp, mTup, mLst, mNx, mRaise, mAnd, mOr, mNot, mIf, tstB, tstAnd, tstOr, tstNot, mChain, bind_ok, bind_err, bind_no, toS_ok, toS_err, nox_ok, fin_nx, fin_rt, fin_err, startL, List.map_cons, List.map_nil, List.length_cons, List.length_nil, List.cons_append, List.nil_append, List.getElem?_cons_zero, List.getElem?_cons_succ, List.set_cons_zero, List.set_cons_succ, List.replicate_succ, List.replicate_zero, Nat.zero_add, Nat.reduceAdd, Nat.reduceSub, Nat.add_one_sub_one, Nat.sub_self, if_true, if_false, ite_true, ite_false, Bool.false_eq_true, reduceCtorEq, if_pos, Nat.reduceEqDiff, Nat.reduceLeDiff, decide_true, decide_false, Bool.not_true, Bool.not_false, mSl, oNone, oSome]
      rw [← hM']
      simp only [mSeq, mExpr, mRet, mRetN, mIfS, mSet, mAug, mCall, mCons, mNil, mVar, mC, mOp, mUn, mApp, mTup, mLst, mNx, mRaise, mAnd, mOr, mNot, mIf, tstB, tstAnd, tstOr, tstNot, mChain, bind_ok, bind_err, bind_no, toS_ok, toS_err, nox_ok, fin_nx, fin_rt, fin_err, startL, List.map_cons, List.map_nil, List.length_cons, List.length_nil, List.cons_append, List.nil_append, List.getElem?_cons_zero, List.getElem?_cons_succ, List.set_cons_zero, List.set_cons_succ, List.replicate_succ, List.replicate_zero, Nat.zero_add, Nat.reduceAdd, Nat.reduceSub, Nat.add_one_sub_one, Nat.sub_self, if_true, if_false, ite_true, ite_false, Bool.false_eq_true, reduceCtorEq, if_pos, Nat.reduceEqDiff, Nat.reduceLeDiff, decide_true, decide_false, Bool.not_true, Bool.not_false, q5, Core.gAdd]
      rw [hi, sl2]
      simp only [mSeq, mExpr, mRet, mRetN, mIfS, mSet, mAug, mCall, mCons, mNil, mVar, mC, mOp, mUn, mApp, mTup, mLst, mNx, mRaise, mAnd, mOr, mNot, mIf, tstB, tstAnd, tstOr, tstNot, mChain, bind_ok, bind_err, bind_no, toS_ok, toS_err, nox_ok, fin_nx, fin_rt, fin_err, startL, List.map_cons, List.map_nil, List.length_cons, List.length_nil, List.cons_append, List.nil_append, List.getElem?_cons_zero, List.getElem?_cons_succ, List.set_cons_zero, List.set_cons_succ, List.replicate_succ, List.replicate_zero, Nat.zero_add, Nat.reduceAdd, Nat.reduceSub, Nat.add_one_sub_one, Nat.sub_self, if_true, if_false, ite_true, ite_false, Bool.false_eq_true, reduceCtorEq, if_pos, Nat.reduceEqDiff, Nat.reduceLeDiff, decide_true, decide_false, Bool.not_true, Bool.not_false, rd_lst (s := s5 ++ [Ob.lst ((hN.take i).map D.str)]) (n := s5.length) last_at]
    unfold mLc
    rw [it, bind_ok]
    dsimp only
    rw [← hT]
    exact e7
  rw [seq_nx (l1 := [some (.ref dr), some (.ref at_), some z, some (.ref s2.length), some (.ref R), o3, o3', some (.ref T)]) (s1 := s7) (by unfold mSet; rw [lcE]; rfl)]
  simp only [mSeq, mExpr, mRet, mRetN, mIfS, mSet, mAug, mCall, mCons, mNil, mVar, mC, mOp, mUn, mApp, mTup, mLst, mNx, mRaise, mAnd, mOr, mNot, mIf, tstB, tstAnd, tstOr, tstNot, mChain, bind_ok, bind_err, bind_no, toS_ok, toS_err, nox_ok, fin_nx, fin_rt, fin_err, startL, List.map_cons, List.map_nil, List.length_cons, List.length_nil, List.cons_append, List.nil_append, List.getElem?_cons_zero, List.getElem?_cons_succ, List.set_cons_zero, List.set_cons_succ, List.replicate_succ, List.replicate_zero, Nat.zero_add, Nat.reduceAdd, Nat.reduceSub, Nat.add_one_sub_one, Nat.sub_self, if_true, if_false, ite_true, ite_false, Bool.false_eq_true, reduceCtorEq, if_pos, Nat.reduceEqDiff, Nat.reduceLeDiff, decide_true, decide_false, Bool.not_true, Bool.not_false, tup_lst fr7, tup_lst r7]
end
end Pr

set_option Elab.async false
set_option linter.all false
set_option maxRecDepth 100000
set_option maxHeartbeats 4000000
/-! drawn models -/
namespace Pr
open PySem PySem.Spec PyProof.Rows L2 Core
def bN : List Str := ["box", "lamp"]
def KnP (d y : D) : Prop := ∃ i : Nat, d = .int (0 + (i : Int)) ∧ ∃ z : Str, bN[i]? = some z ∧ KindP (.str z) y
def ObP (j : Nat) (y : D) : Prop := ∃ z ∈ bN.take j, y = .str z
def EvP (many e : Int) (y : D) : Prop := ∃ (t g a : Int) (n : Str), y = .tup [.int t, .int g, .str n, .int a] ∧ 0 ≤ t ∧ t ≤ e ∧ 0 ≤ g ∧ g < many ∧ n ∈ hN ∧ 0 ≤ a ∧ a ≤ 5
def ModelP (d : D) : Prop := ∃ (j : Nat) (ks os st : List D) (e : Int), d = .tup [.tup ks, .tup os, .tup st, .int e] ∧ 1 ≤ j ∧ j ≤ 2 ∧ Two KnP ((List.range j).map fun (i : Nat) => D.int (0 + (i : Int))) ks ∧ 1 ≤ os.length ∧ os.length ≤ 8 ∧ (∀ o ∈ os, ObP j o) ∧ st.length ≤ 8 ∧ (∀ y ∈ st, EvP os.length e y) ∧ 0 ≤ e ∧ e ≤ 30
section
variable {dr at_ : Nat} {s : Mem} {k : Nat}
abbrev bEv (k : Nat) : SM := (mSeq (mSet 9 (mOp gIx (mLst (mCons (mC (.str "go")) (mCons (mC (.str "tell")) (mCons (mC (.str "ask")) mNil)))) (mCall 3 (call (k + 1) .law_next) (mCons (mVar 0) (mCons (mVar 1) (mCons (mC (.int 3)) mNil))))))
    (mExpr (mLm gAppend (mVar 7) (mCons (mTup (mCons (mCall 3 (call (k + 1) .law_next) (mCons (mVar 0) (mCons (mVar 1) (mCons (mOp Core.gAdd (mVar 6) (mC (.int 1))) mNil)))) (mCons (mCall 3 (call (k + 1) .law_next) (mCons (mVar 0) (mCons (mVar 1) (mCons (mApp gLen (mCons (mVar 5) mNil)) mNil)))) (mCons (mVar 9) (mCons (mCall 3 (call (k + 1) .law_next) (mCons (mVar 0) (mCons (mVar 1) (mCons (mVar 4) mNil)))) mNil))))) mNil))))
theorem ev_row {r : Nat} (hr1 : r ≠ dr) (hr2 : r ≠ at_) (g : Gs dr at_ s) {rs os : List D} (hr : s[r]? = some (.lst rs)) (hl : rs.length < 100000) {c2 c3 c8 c9 : Option D} {most e : Int} (h1 : 1 ≤ most) (h2 : most ≤ 5) (h3 : 0 ≤ e) (h4 : 1 ≤ os.length) :
    ∃ s' y o9, bEv k [some (.ref dr), some (.ref at_), c2, c3, some (.int most), some (.tup os), some (.int e), some (.ref r), c8, c9] s = .nx [some (.ref dr), some (.ref at_), c2, c3, some (.int most), some (.tup os), some (.int e), some (.ref r), c8, o9] s' ∧ EvP os.length e y ∧ Gs dr at_ s' ∧ Gt2 at_ r s s' ∧ s'[r]? = some (.lst (rs ++ [y])) := by
  obtain ⟨M, hM0⟩ : ∃ L : List D, L = hN.map D.str := ⟨_, rfl⟩
  have hM' : M = [D.str "go", D.str "tell", D.str "ask"] := hM0
  obtain ⟨_, s1, q1, ⟨v1, rfl, a1, b1⟩, g1, t1⟩ := c_law_next (k := k) (g.app (t := [Ob.lst M])) (many := 3) (by omega)
  have m1 : s1[s.length]? = some (Ob.lst (hN.map D.str)) := by rw [← hM0]; exact t1.fresh (s1 := s1) g.lt
  obtain ⟨z, hz, p1⟩ := pickN m1 a1 (by exact b1)
  have r1 := t1.old r _ hr2 (Gt.app.old r _ hr2 hr)
  obtain ⟨_, s2, q2, ⟨v2, rfl, a2, b2⟩, g2, t2⟩ := c_law_next (k := k) g1 (many := e + 1) (by omega)
  obtain ⟨_, s3, q3, ⟨v3, rfl, a3, b3⟩, g3, t3⟩ := c_law_next (k := k) g2 (many := os.length) (by omega)
  obtain ⟨_, s4, q4, ⟨v4, rfl, a4, b4⟩, g4, t4⟩ := c_law_next (k := k) g3 (many := most) (by omega)
  have r4 := t4.old r _ hr2 (t3.old r _ hr2 (t2.old r _ hr2 r1))
  refine ⟨s4.set r (.lst (rs ++ [.tup [.int v2, .int v3, .str z, .int v4]])), .tup [.int v2, .int v3, .str z, .int v4], some (.str z), ?_, ⟨v2, v3, v4, z, rfl, by omega, by omega, by omega, by omega, hz, by omega, by omega⟩, g4.set hr1 hr2, (Gt.app.trans (t1.trans (t2.trans (t3.trans t4)))).two.trans .set, set_at r4⟩
  simp only [mSeq, mExpr, mRet, mRetN, mIfS, mSet, mAug, mCall, mCons, mNil, mVar, mC, mOp, mUn, mApp, mTup, mLst, mNx, mRaise, mAnd, mOr, mNot, mIf, tstB, tstAnd, tstOr, tstNot, mChain, bind_ok, bind_err, bind_no, toS_ok, toS_err, nox_ok, fin_nx, fin_rt, fin_err, startL, List.map_cons, List.map_nil, List.length_cons, List.length_nil, List.cons_append, List.nil_append, List.getElem?_cons_zero, List.getElem?_cons_succ, List.set_cons_zero, List.set_cons_succ, List.replicate_succ, List.replicate_zero, Nat.zero_add, Nat.reduceAdd, Nat.reduceSub, Nat.add_one_sub_one, Nat.sub_self, if_true, if_false, ite_true, ite_false, Bool.false_eq_true, reduceCtorEq, if_pos, Nat.reduceEqDiff, Nat.reduceLeDiff, decide_true, decide_false, Bool.not_true, Bool.not_false]
  rw [← hM']
  simp only [mSeq, mExpr, mRet, mRetN, mIfS, mSet, mAug, mCall, mCons, mNil, mVar, mC, mOp, mUn, mApp, mTup, mLst, mNx, mRaise, mAnd, mOr, mNot, mIf, tstB, tstAnd, tstOr, tstNot, mChain, bind_ok, bind_err, bind_no, toS_ok, toS_err, nox_ok, fin_nx, fin_rt, fin_err, startL, List.map_cons, List.map_nil, List.length_cons, List.length_nil, List.cons_append, List.nil_append, List.getElem?_cons_zero, List.getElem?_cons_succ, List.set_cons_zero, List.set_cons_succ, List.replicate_succ, List.replicate_zero, Nat.zero_add, Nat.reduceAdd, Nat.reduceSub, Nat.add_one_sub_one, Nat.sub_self, if_true, if_false, ite_true, ite_false, Bool.false_eq_true, reduceCtorEq, if_pos, Nat.reduceEqDiff, Nat.reduceLeDiff, decide_true, decide_false, Bool.not_true, Bool.not_false, q1, p1, mLm, r1, Core.gAdd, q2, gLen, seqD, q3, q4, app_at r4 hl]
theorem c_law_model (g : Gs dr at_ s) : Dr dr at_ s ModelP (call (k + 7) .law_model [.ref dr, .ref at_] s) := by
  show Dr dr at_ s _ (Core.fin (m_law_model (call (k + 6)) [some (.ref dr), some (.ref at_), none, none, none, none, none, none, none, none] s))
  have dl : ∀ {s : Mem}, Gs dr at_ s → dr < s.length := fun g => let ⟨_, h⟩ := g.hd; (List.getElem?_eq_some_iff.mp h).1
  obtain ⟨B, hB0⟩ : ∃ L : List D, L = bN.map D.str := ⟨_, rfl⟩
  have hB' : B = [D.str "box", D.str "lamp"] := hB0
  have lB : B.length = 2 := by rw [hB']; rfl
  -- the kinds
  obtain ⟨_, s1, q1, ⟨v1, rfl, a1, b1⟩, g1, t1⟩ := c_law_next (k := k + 5) g (many := 2) (by omega)
  obtain ⟨j, hj⟩ : ∃ j : Nat, (1 + v1) = (j : Int) := ⟨(1 + v1).toNat, by omega⟩
  obtain ⟨s2, ks, e2, r2, w2, g2, t2⟩ := lc_draw2 (dr := dr) (at_ := at_) (r := s1.length) (ok := fun _ => true) (g := gmName 8) (vs := [8]) (l := [some (.ref dr), some (.ref at_), none, none, none, none, none, none, none, none]) (me := mCall 3 (call (k + 6) .law_kind) (mCons (mVar 0) (mCons (mVar 1) (mCons (mOp gIx (mLst (mCons (mC (.str "box")) (mCons (mC (.str "lamp")) mNil))) (mVar 8)) mNil)))) (P := KnP) (Kp := fun _ => True)
    (fun _ _ => rfl) (fun _ _ _ _ => trivial) (Nat.ne_of_gt (dl g1)) (Nat.ne_of_gt g1.lt) ((List.range j).map fun (i : Nat) => D.int (0 + (i : Int))) (s1 ++ [Ob.lst []]) []
    (fun d hd => ⟨[some (.ref dr), some (.ref at_), none, none, none, none, none, none, some d, none], rfl, fun s' gs _ => by
      obtain ⟨i, hi, rfl⟩ := List.mem_map.mp hd
      have hi := List.mem_range.mp hi
      have hi2 : i < bN.length := by show i < 2; omega
      have p : gIx (.ref s'.length) (.int (0 + (i : Int))) (s' ++ [Ob.lst B]) = .ok (.str bN[i]) (s' ++ [Ob.lst B]) := by
        rw [Int.zero_add]
        exact ix_lst last_at (by rw [hB0, List.getElem?_map, List.getElem?_eq_getElem hi2]; rfl)
      obtain ⟨y, s3, h1, h2, h3, h4⟩ := c_law_kind (k := k) (.str bN[i]) (gs.app (t := [Ob.lst B]))
      refine ⟨y, s3, ?_, ⟨i, rfl, _, List.getElem?_eq_getElem hi2, h2⟩, h3, Gt.app.trans h4⟩
      simp only [mSeq, mExpr, mRet, mRetN, mIfS, mSet, mAug, mCall, mCons, mNil, mVar, mC, mOp, mUn, mApp, mTup, mLst, mNx, mRaise, mAnd, mOr, mNot, mIf, tstB, tstAnd, tstOr, tstNot, mChain, bind_ok, bind_err, bind_no, toS_ok, toS_err, nox_ok, fin_nx, fin_rt, fin_err, startL, List.map_cons, List.map_nil, List.length_cons, List.length_nil, List.cons_append, List.nil_append, List.getElem?_cons_zero, List.getElem?_cons_succ, List.set_cons_zero, List.set_cons_succ, List.replicate_succ, List.replicate_zero, Nat.zero_add, Nat.reduceAdd, Nat.reduceSub, Nat.add_one_sub_one, Nat.sub_self, if_true, if_false, ite_true, ite_false, Bool.false_eq_true, reduceCtorEq, if_pos, Nat.reduceEqDiff, Nat.reduceLeDiff, decide_true, decide_false, Bool.not_true, Bool.not_false]
      rw [← hB']
      simp only [mSeq, mExpr, mRet, mRetN, mIfS, mSet, mAug, mCall, mCons, mNil, mVar, mC, mOp, mUn, mApp, mTup, mLst, mNx, mRaise, mAnd, mOr, mNot, mIf, tstB, tstAnd, tstOr, tstNot, mChain, bind_ok, bind_err, bind_no, toS_ok, toS_err, nox_ok, fin_nx, fin_rt, fin_err, startL, List.map_cons, List.map_nil, List.length_cons, List.length_nil, List.cons_append, List.nil_append, List.getElem?_cons_zero, List.getElem?_cons_succ, List.set_cons_zero, List.set_cons_succ, List.replicate_succ, List.replicate_zero, Nat.zero_add, Nat.reduceAdd, Nat.reduceSub, Nat.add_one_sub_one, Nat.sub_self, if_true, if_false, ite_true, ite_false, Bool.false_eq_true, reduceCtorEq, if_pos, Nat.reduceEqDiff, Nat.reduceLeDiff, decide_true, decide_false, Bool.not_true, Bool.not_false, p, h1]⟩) g1.app trivial last_at (by rw [rng_len, List.length_nil]; omega)
  rw [List.nil_append] at r2
  have t12 : Gt at_ s1 s2 := t2.close
  have lk : ks.length = j := by rw [w2.len, rng_len]
  have K_at : s1.length ≠ at_ := Nat.ne_of_gt g1.lt
  -- many, most
  obtain ⟨C, hC⟩ : ∃ L : List D, L = [.tup [.int 5, .int 5], .tup [.int 8, .int 4]] := ⟨_, rfl⟩
  obtain ⟨_, s3, q3, ⟨v3, rfl, a3, b3⟩, g3, t3⟩ := c_law_next (k := k + 5) (g2.app (t := [Ob.lst C])) (many := 2) (by omega)
  have m3 : s3[s2.length]? = some (Ob.lst C) := t3.fresh (s1 := s3) g2.lt
  obtain ⟨many, most, p3, hmm⟩ : ∃ many most : Int, gIx (.ref s2.length) (.int v3) s3 = .ok (.tup [.int many, .int most]) s3 ∧ ((many = 5 ∧ most = 5) ∨ (many = 8 ∧ most = 4)) := by
    obtain ⟨i, hi, rfl, p⟩ := pickL m3 a3 (by rw [hC]; exact b3)
    subst hC
    match i, hi with
    | 0, _ => exact ⟨5, 5, p, .inl ⟨rfl, rfl⟩⟩
    | 1, _ => exact ⟨8, 4, p, .inr ⟨rfl, rfl⟩⟩
  have K3 := t3.old _ _ K_at (Gt.app.old _ _ K_at r2)
  -- the objects
  obtain ⟨_, s4, q4, ⟨v4, rfl, a4, b4⟩, g4, t4⟩ := c_law_next (k := k + 5) g3 (many := many) (by omega)
  have K4 := t4.old _ _ K_at K3
  have Kl : s1.length < s4.length := (List.getElem?_eq_some_iff.mp K4).1
  obtain ⟨s5, os, e5, r5, n5, p5, g5, t5⟩ := lc_draw (dr := dr) (at_ := at_) (r := s4.length) (ok := fun _ => true) (g := gmName 8) (vs := [8]) (l := [some (.ref dr), some (.ref at_), some (.ref s1.length), some (.int many), some (.int most), none, none, none, none, none]) (me := mOp gIx (mLst (mCons (mC (.str "box")) (mCons (mC (.str "lamp")) mNil))) (mCall 3 (call (k + 6) .law_next) (mCons (mVar 0) (mCons (mVar 1) (mCons (mApp gLen (mCons (mVar 2) mNil)) mNil))))) (P := ObP j) (Kp := fun s => s[s1.length]? = some (.lst ks))
    (fun _ _ => rfl) (fun s1' s2' t h => t.old _ _ K_at (by omega) h) (Nat.ne_of_gt (dl g4)) (Nat.ne_of_gt g4.lt) ((List.range (1 + v4).toNat).map fun (i : Nat) => D.int (0 + (i : Int))) (s4 ++ [Ob.lst []]) []
    (fun d hd => ⟨[some (.ref dr), some (.ref at_), some (.ref s1.length), some (.int many), some (.int most), none, none, none, some d, none], rfl, fun s' gs kp => by
      have kp' := Gt.app (t := [Ob.lst B]).old _ _ K_at kp
      obtain ⟨_, sx, qx, ⟨vx, rfl, ax, bx⟩, gx', tx⟩ := c_law_next (k := k + 5) (gs.app (t := [Ob.lst B])) (many := ks.length) (by omega)
      have mx : sx[s'.length]? = some (Ob.lst B) := tx.fresh (s1 := sx) gs.lt
      obtain ⟨i, rfl⟩ : ∃ i : Nat, vx = (i : Int) := ⟨vx.toNat, by omega⟩
      have hi2 : i < bN.length := by show i < 2; omega
      have p : gIx (.ref s'.length) (.int (i : Int)) sx = .ok (.str bN[i]) sx := ix_lst mx (by rw [hB0, List.getElem?_map, List.getElem?_eq_getElem hi2]; rfl)
      refine ⟨.str bN[i], sx, ?_, ⟨bN[i], List.mem_take_iff_getElem.mpr ⟨i, by omega, rfl⟩, rfl⟩, gx', Gt.app.trans tx⟩
      simp only [mSeq, mExpr, mRet, mRetN, mIfS, mSet, mAug, mCall, mCons, mNil, mVar, mC, mOp, mUn, mApp, mTup, mLst, mNx, mRaise, mAnd, mOr, mNot, mIf, tstB, tstAnd, tstOr, tstNot, mChain, bind_ok, bind_err, bind_no, toS_ok, toS_err, nox_ok, fin_nx, fin_rt, fin_err, startL, List.map_cons, List.map_nil, List.length_cons, List.length_nil, List.cons_append, List.nil_append, List.getElem?_cons_zero, List.getElem?_cons_succ, List.set_cons_zero, List.set_cons_succ, List.replicate_succ, List.replicate_zero, Nat.zero_add, Nat.reduceAdd, Nat.reduceSub, Nat.add_one_sub_one, Nat.sub_self, if_true, if_false, ite_true, ite_false, Bool.false_eq_true, reduceCtorEq, if_pos, Nat.reduceEqDiff, Nat.reduceLeDiff, decide_true, decide_false, Bool.not_true, Bool.not_false]
      rw [← hB']
      simp only [mSeq, mExpr, mRet, mRetN, mIfS, mSet, mAug, mCall, mCons, mNil, mVar, mC, mOp, mUn, mApp, mTup, mLst, mNx, mRaise, mAnd, mOr, mNot, mIf, tstB, tstAnd, tstOr, tstNot, mChain, bind_ok, bind_err, bind_no, toS_ok, toS_err, nox_ok, fin_nx, fin_rt, fin_err, startL, List.map_cons, List.map_nil, List.length_cons, List.length_nil, List.cons_append, List.nil_append, List.getElem?_cons_zero, List.getElem?_cons_succ, List.set_cons_zero, List.set_cons_succ, List.replicate_succ, List.replicate_zero, Nat.zero_add, Nat.reduceAdd, Nat.reduceSub, Nat.add_one_sub_one, Nat.sub_self, if_true, if_false, ite_true, ite_false, Bool.false_eq_true, reduceCtorEq, if_pos, Nat.reduceEqDiff, Nat.reduceLeDiff, decide_true, decide_false, Bool.not_true, Bool.not_false, gLen, sq_lst kp', qx, p]⟩) g4.app (Gt.app.old _ _ K_at K4) last_at (by rw [rng_len, List.length_nil]; omega)
  rw [List.nil_append] at r5
  rw [rng_len] at n5
  have t45 : Gt at_ s4 s5 := t5.close
  have K5 := t45.old _ _ K_at K4
  -- the end
  obtain ⟨E, hE⟩ : ∃ L : List D, L = [.int 12, .int 7, .int 3, .int 30, .int 0] := ⟨_, rfl⟩
  obtain ⟨_, s6, q6, ⟨v6, rfl, a6, b6⟩, g6, t6⟩ := c_law_next (k := k + 5) (g5.app (t := [Ob.lst E])) (many := 5) (by omega)
  have m6 : s6[s5.length]? = some (Ob.lst E) := t6.fresh (s1 := s6) g5.lt
  obtain ⟨e, p6, he0, he1⟩ : ∃ e : Int, gIx (.ref s5.length) (.int v6) s6 = .ok (.int e) s6 ∧ 0 ≤ e ∧ e ≤ 30 := by
    obtain ⟨i, hi, rfl, p⟩ := pickL m6 a6 (by rw [hE]; exact b6)
    subst hE
    match i, hi with
    | 0, _ => exact ⟨12, p, by omega, by omega⟩
    | 1, _ => exact ⟨7, p, by omega, by omega⟩
    | 2, _ => exact ⟨3, p, by omega, by omega⟩
    | 3, _ => exact ⟨30, p, by omega, by omega⟩
    | 4, _ => exact ⟨0, p, by omega, by omega⟩
  have K6 := t6.old _ _ K_at (Gt.app.old _ _ K_at K5)
  -- the start
  obtain ⟨F, hF⟩ : ∃ L : List D, L = [.int 5, .int 9] := ⟨_, rfl⟩
  have g7 : Gs dr at_ (s6 ++ [Ob.lst []] ++ [Ob.lst F]) := g6.app.app
  have mF : (s6 ++ [Ob.lst []] ++ [Ob.lst F])[(s6 ++ [Ob.lst []]).length]? = some (Ob.lst F) := last_at
  obtain ⟨most2, pF, hm2⟩ : ∃ m : Int, gIx (.ref (s6 ++ [Ob.lst []]).length) (.int (if (many == 8) = true then 1 else 0)) (s6 ++ [Ob.lst []] ++ [Ob.lst F]) = .ok (.int m) (s6 ++ [Ob.lst []] ++ [Ob.lst F]) ∧ 1 ≤ m ∧ m ≤ 9 := by
    rcases hmm with ⟨rfl, _⟩ | ⟨rfl, _⟩
    · exact ⟨5, ix_lst (i := 0) mF (by rw [hF]; rfl), by omega, by omega⟩
    · exact ⟨9, ix_lst (i := 1) mF (by rw [hF]; rfl), by omega, by omega⟩
  obtain ⟨_, s8, q8, ⟨v8, rfl, a8, b8⟩, g8, t8⟩ := c_law_next (k := k + 5) g7 (many := most2) hm2.1
  have R_at : s6.length ≠ at_ := Nat.ne_of_gt g6.lt
  have R8 : s8[s6.length]? = some (Ob.lst []) := t8.old _ _ R_at (by rw [List.getElem?_append_left (by simp)]; exact last_at)
  have hmost : 1 ≤ most ∧ most ≤ 5 := by rcases hmm with ⟨_, rfl⟩ | ⟨_, rfl⟩ <;> omega
  have hmany : many ≤ 8 := by rcases hmm with ⟨rfl, _⟩ | ⟨rfl, _⟩ <;> omega
  have los : 1 ≤ os.length := by omega
  obtain ⟨l9, s9, st, e9, ⟨o8, o9, rfl⟩, r9, n9, p9, g9, t9⟩ := loop_app (dr := dr) (at_ := at_) (r := s6.length) (ok := fun _ => true) (i := 8) (body := bEv (k + 5)) (Lk := fun l => ∃ o o', l = [some (.ref dr), some (.ref at_), some (.ref s1.length), some (.int many), some (.int most), some (.tup os), some (.int e), some (.ref s6.length), o, o']) (P := EvP os.length e) (Kp := fun _ => True)
    (fun _ _ => rfl) (fun _ _ _ _ => trivial) ((List.range v8.toNat).map fun (i : Nat) => D.int (0 + (i : Int))) [some (.ref dr), some (.ref at_), some (.ref s1.length), some (.int many), some (.int most), some (.tup os), some (.int e), some (.ref s6.length), none, none] s8 []
    (fun d hd l s1' rs ⟨o, o', hl⟩ gs kp hr hlen => by
      subst hl
      obtain ⟨s', y, o2, h1, h2, h3, h4, h5⟩ := ev_row (k := k + 5) (c2 := some (.ref s1.length)) (c3 := some (.int many)) (c8 := some d) (c9 := o') (os := os) (most := most) (e := e) (Nat.ne_of_gt (dl g6)) R_at gs hr hlen hmost.1 hmost.2 he0 los
      exact ⟨_, s', y, h1, ⟨_, _, rfl⟩, h2, h3, h4, h5⟩) ⟨_, _, rfl⟩ g8 trivial R8 (by rw [rng_len, List.length_nil]; omega)
  rw [List.nil_append] at r9
  rw [rng_len] at n9
  have t69 : Gt at_ s6 s9 := by
    have x : Gt2 at_ s6.length (s6 ++ [Ob.lst []]) s9 := (Gt.app.trans t8).two.trans t9
    exact x.close
  have K9 : s9[s1.length]? = some (.lst ks) := t69.old _ _ K_at K6
  have tall : Gt at_ s s9 := t1.trans (t12.trans ((Gt.app.trans t3).trans (t4.trans (t45.trans ((Gt.app.trans t6).trans t69)))))
  refine ⟨.tup [.tup ks, .tup os, .tup st, .int e], s9, ?_, ⟨j, ks, os, st, e, rfl, by omega, by omega, w2, los, by omega, p5, by omega, p9, he0, he1⟩, g9, tall⟩
  unfold m_law_model
  have lcE := (lrng1 (g := gmName 8) (vs := [8]) (tt := tYes') (el := mCall 3 (call (k + 6) .law_kind) (mCons (mVar 0) (mCons (mVar 1) (mCons (mOp gIx (mLst (mCons (mC (.str "box")) (mCons (mC (.str "lamp")) mNil))) (mVar 8)) mNil)))) (ma := mCons (mOp Core.gAdd (mC (.int 1)) (mCall 3 (call (k + 6) .law_next) (mCons (mVar 0) (mCons (mVar 1) (mCons (mC (.int 2)) mNil))))) mNil) (l := [some (.ref dr), some (.ref at_), none, none, none, none, none, none, none, none]) (s := s) (s1 := s1) (j := (j : Int)) (by simp only [mSeq, mExpr, mRet, mRetN, mIfS, mSet, mAug, mCall, mCons, mNil, mVar, mC, mOp, mUn, mApp, mTup, mLst, mNx, mRaise, mAnd, mOr, mNot, mIf, tstB, tstAnd, tstOr, tstNot, mChain, bind_ok, bind_err, bind_no, toS_ok, toS_err, nox_ok, fin_nx, fin_rt, fin_err, startL, List.map_cons, List.map_nil, List.length_cons, List.length_nil, List.cons_append, List.nil_append, List.getElem?_cons_zero, List.getElem?_cons_succ, List.set_cons_zero, List.set_cons_succ, List.replicate_succ, List.replicate_zero, Nat.zero_add, Nat.reduceAdd, Nat.reduceSub, Nat.add_one_sub_one, Nat.sub_self, if_true, if_false, ite_true, ite_false, Bool.false_eq_true, reduceCtorEq, if_pos, Nat.reduceEqDiff, Nat.reduceLeDiff, decide_true, decide_false, Bool.not_true, Bool.not_false, q1, Core.gAdd]; rw [hj]) (by omega) (by omega))
  rw [Int.toNat_natCast] at lcE
  have lcE := lcE.trans e2
  rw [seq_nx (l1 := [some (.ref dr), some (.ref at_), some (.ref s1.length), none, none, none, none, none, none, none]) (s1 := s2) (by unfold mSet; rw [lcE]; rfl),
    seq_nx (l1 := [some (.ref dr), some (.ref at_), some (.ref s1.length), some (.int many), some (.int most), none, none, none, none, none]) (s1 := s3) (by unfold mAsg; simp only [mSeq, mExpr, mRet, mRetN, mIfS, mSet, mAug, mCall, mCons, mNil, mVar, mC, mOp, mUn, mApp, mTup, mLst, mNx, mRaise, mAnd, mOr, mNot, mIf, tstB, tstAnd, tstOr, tstNot, mChain, bind_ok, bind_err, bind_no, toS_ok, toS_err, nox_ok, fin_nx, fin_rt, fin_err, startL, List.map_cons, List.map_nil, List.length_cons, List.length_nil, List.cons_append, List.nil_append, List.getElem?_cons_zero, List.getElem?_cons_succ, List.set_cons_zero, List.set_cons_succ, List.replicate_succ, List.replicate_zero, Nat.zero_add, Nat.reduceAdd, Nat.reduceSub, Nat.add_one_sub_one, Nat.sub_self, if_true, if_false, ite_true, ite_false, Bool.false_eq_true, reduceCtorEq, if_pos, Nat.reduceEqDiff, Nat.reduceLeDiff, decide_true, decide_false, Bool.not_true, Bool.not_false]; rw [← hC]; simp only [mSeq, mExpr, mRet, mRetN, mIfS, mSet, mAug, mCall, mCons, mNil, mVar, mC, mOp, mUn, mApp, mTup, mLst, mNx, mRaise, mAnd, mOr, mNot, mIf, tstB, tstAnd, tstOr, tstNot, mChain, bind_ok, bind_err, bind_no, toS_ok, toS_err, nox_ok, fin_nx, fin_rt, fin_err, startL, List.map_cons, List.map_nil, List.length_cons, List.length_nil, List.cons_append, List.nil_append, List.getElem?_cons_zero, List.getElem?_cons_succ, List.set_cons_zero, List.set_cons_succ, List.replicate_succ, List.replicate_zero, Nat.zero_add, Nat.reduceAdd, Nat.reduceSub, Nat.add_one_sub_one, Nat.sub_self, if_true, if_false, ite_true, ite_false, Bool.false_eq_true, reduceCtorEq, if_pos, Nat.reduceEqDiff, Nat.reduceLeDiff, decide_true, decide_false, Bool.not_true, Bool.not_false, q3, p3, gmTup, gmCons, gmName, gmNil])]
  have lcE5 := (lrng1 (g := gmName 8) (vs := [8]) (tt := tYes') (el := mOp gIx (mLst (mCons (mC (.str "box")) (mCons (mC (.str "lamp")) mNil))) (mCall 3 (call (k + 6) .law_next) (mCons (mVar 0) (mCons (mVar 1) (mCons (mApp gLen (mCons (mVar 2) mNil)) mNil))))) (ma := mCons (mOp Core.gAdd (mC (.int 1)) (mCall 3 (call (k + 6) .law_next) (mCons (mVar 0) (mCons (mVar 1) (mCons (mVar 3) mNil))))) mNil) (l := [some (.ref dr), some (.ref at_), some (.ref s1.length), some (.int many), some (.int most), none, none, none, none, none]) (s := s3) (s1 := s4) (j := 1 + v4) (by simp only [mSeq, mExpr, mRet, mRetN, mIfS, mSet, mAug, mCall, mCons, mNil, mVar, mC, mOp, mUn, mApp, mTup, mLst, mNx, mRaise, mAnd, mOr, mNot, mIf, tstB, tstAnd, tstOr, tstNot, mChain, bind_ok, bind_err, bind_no, toS_ok, toS_err, nox_ok, fin_nx, fin_rt, fin_err, startL, List.map_cons, List.map_nil, List.length_cons, List.length_nil, List.cons_append, List.nil_append, List.getElem?_cons_zero, List.getElem?_cons_succ, List.set_cons_zero, List.set_cons_succ, List.replicate_succ, List.replicate_zero, Nat.zero_add, Nat.reduceAdd, Nat.reduceSub, Nat.add_one_sub_one, Nat.sub_self, if_true, if_false, ite_true, ite_false, Bool.false_eq_true, reduceCtorEq, if_pos, Nat.reduceEqDiff, Nat.reduceLeDiff, decide_true, decide_false, Bool.not_true, Bool.not_false, q4, Core.gAdd]) (by omega) (by omega)).trans e5
  rw [seq_nx (l1 := [some (.ref dr), some (.ref at_), some (.ref s1.length), some (.int many), some (.int most), some (.tup os), none, none, none, none]) (s1 := s5) (by simp only [mSeq, mExpr, mRet, mRetN, mIfS, mSet, mAug, mCall, mCons, mNil, mVar, mC, mOp, mUn, mApp, mTup, mLst, mNx, mRaise, mAnd, mOr, mNot, mIf, tstB, tstAnd, tstOr, tstNot, mChain, bind_ok, bind_err, bind_no, toS_ok, toS_err, nox_ok, fin_nx, fin_rt, fin_err, startL, List.map_cons, List.map_nil, List.length_cons, List.length_nil, List.cons_append, List.nil_append, List.getElem?_cons_zero, List.getElem?_cons_succ, List.set_cons_zero, List.set_cons_succ, List.replicate_succ, List.replicate_zero, Nat.zero_add, Nat.reduceAdd, Nat.reduceSub, Nat.add_one_sub_one, Nat.sub_self, if_true, if_false, ite_true, ite_false, Bool.false_eq_true, reduceCtorEq, if_pos, Nat.reduceEqDiff, Nat.reduceLeDiff, decide_true, decide_false, Bool.not_true, Bool.not_false, lcE5, tup_lst r5]),
    seq_nx (l1 := [some (.ref dr), some (.ref at_), some (.ref s1.length), some (.int many), some (.int most), some (.tup os), some (.int e), none, none, none]) (s1 := s6) (by simp only [mSeq, mExpr, mRet, mRetN, mIfS, mSet, mAug, mCall, mCons, mNil, mVar, mC, mOp, mUn, mApp, mTup, mLst, mNx, mRaise, mAnd, mOr, mNot, mIf, tstB, tstAnd, tstOr, tstNot, mChain, bind_ok, bind_err, bind_no, toS_ok, toS_err, nox_ok, fin_nx, fin_rt, fin_err, startL, List.map_cons, List.map_nil, List.length_cons, List.length_nil, List.cons_append, List.nil_append, List.getElem?_cons_zero, List.getElem?_cons_succ, List.set_cons_zero, List.set_cons_succ, List.replicate_succ, List.replicate_zero, Nat.zero_add, Nat.reduceAdd, Nat.reduceSub, Nat.add_one_sub_one, Nat.sub_self, if_true, if_false, ite_true, ite_false, Bool.false_eq_true, reduceCtorEq, if_pos, Nat.reduceEqDiff, Nat.reduceLeDiff, decide_true, decide_false, Bool.not_true, Bool.not_false]; rw [← hE]; simp only [mSeq, mExpr, mRet, mRetN, mIfS, mSet, mAug, mCall, mCons, mNil, mVar, mC, mOp, mUn, mApp, mTup, mLst, mNx, mRaise, mAnd, mOr, mNot, mIf, tstB, tstAnd, tstOr, tstNot, mChain, bind_ok, bind_err, bind_no, toS_ok, toS_err, nox_ok, fin_nx, fin_rt, fin_err, startL, List.map_cons, List.map_nil, List.length_cons, List.length_nil, List.cons_append, List.nil_append, List.getElem?_cons_zero, List.getElem?_cons_succ, List.set_cons_zero, List.set_cons_succ, List.replicate_succ, List.replicate_zero, Nat.zero_add, Nat.reduceAdd, Nat.reduceSub, Nat.add_one_sub_one, Nat.sub_self, if_true, if_false, ite_true, ite_false, Bool.false_eq_true, reduceCtorEq, if_pos, Nat.reduceEqDiff, Nat.reduceLeDiff, decide_true, decide_false, Bool.not_true, Bool.not_false, q6, p6]),
    seq_nx (l1 := [some (.ref dr), some (.ref at_), some (.ref s1.length), some (.int many), some (.int most), some (.tup os), some (.int e), some (.ref s6.length), none, none]) (s1 := s6 ++ [Ob.lst []]) (by simp only [mSeq, mExpr, mRet, mRetN, mIfS, mSet, mAug, mCall, mCons, mNil, mVar, mC, mOp, mUn, mApp, mTup, mLst, mNx, mRaise, mAnd, mOr, mNot, mIf, tstB, tstAnd, tstOr, tstNot, mChain, bind_ok, bind_err, bind_no, toS_ok, toS_err, nox_ok, fin_nx, fin_rt, fin_err, startL, List.map_cons, List.map_nil, List.length_cons, List.length_nil, List.cons_append, List.nil_append, List.getElem?_cons_zero, List.getElem?_cons_succ, List.set_cons_zero, List.set_cons_succ, List.replicate_succ, List.replicate_zero, Nat.zero_add, Nat.reduceAdd, Nat.reduceSub, Nat.add_one_sub_one, Nat.sub_self, if_true, if_false, ite_true, ite_false, Bool.false_eq_true, reduceCtorEq, if_pos, Nat.reduceEqDiff, Nat.reduceLeDiff, decide_true, decide_false, Bool.not_true, Bool.not_false])]
  have rg := rng1 (g := gmName 8) (body := bEv (k + 5)) (ma := mCons (mCall 3 (call (k + 6) .law_next) (mCons (mVar 0) (mCons (mVar 1) (mCons (mOp gIx (mLst (mCons (mC (.int 5)) (mCons (mC (.int 9)) mNil))) (mApp gInt1 (mCons (mOp gEq (mVar 3) (mC (.int 8))) mNil))) mNil)))) mNil) (l := [some (.ref dr), some (.ref at_), some (.ref s1.length), some (.int many), some (.int most), some (.tup os), some (.int e), some (.ref s6.length), none, none]) (s := s6 ++ [Ob.lst []]) (s1 := s8) (j := v8) (by simp only [mSeq, mExpr, mRet, mRetN, mIfS, mSet, mAug, mCall, mCons, mNil, mVar, mC, mOp, mUn, mApp, mTup, mLst, mNx, mRaise, mAnd, mOr, mNot, mIf, tstB, tstAnd, tstOr, tstNot, mChain, bind_ok, bind_err, bind_no, toS_ok, toS_err, nox_ok, fin_nx, fin_rt, fin_err, startL, List.map_cons, List.map_nil, List.length_cons, List.length_nil, List.cons_append, List.nil_append, List.getElem?_cons_zero, List.getElem?_cons_succ, List.set_cons_zero, List.set_cons_succ, List.replicate_succ, List.replicate_zero, Nat.zero_add, Nat.reduceAdd, Nat.reduceSub, Nat.add_one_sub_one, Nat.sub_self, if_true, if_false, ite_true, ite_false, Bool.false_eq_true, reduceCtorEq, if_pos, Nat.reduceEqDiff, Nat.reduceLeDiff, decide_true, decide_false, Bool.not_true, Bool.not_false]; rw [← hF]; simp only [mSeq, mExpr, mRet, mRetN, mIfS, mSet, mAug, mCall, mCons, mNil, mVar, mC, mOp, mUn, mApp, mTup, mLst, mNx, mRaise, mAnd, mOr, mNot, mIf, tstB, tstAnd, tstOr, tstNot, mChain, bind_ok, bind_err, bind_no, toS_ok, toS_err, nox_ok, fin_nx, fin_rt, fin_err, startL, List.map_cons, List.map_nil, List.length_cons, List.length_nil, List.cons_append, List.nil_append, List.getElem?_cons_zero, List.getElem?_cons_succ, List.set_cons_zero, List.set_cons_succ, List.replicate_succ, List.replicate_zero, Nat.zero_add, Nat.reduceAdd, Nat.reduceSub, Nat.add_one_sub_one, Nat.sub_self, if_true, if_false, ite_true, ite_false, Bool.false_eq_true, reduceCtorEq, if_pos, Nat.reduceEqDiff, Nat.reduceLeDiff, decide_true, decide_false, Bool.not_true, Bool.not_false, gEq, gEqB, gInt1, pF, q8]) (by omega) (by omega)
  rw [seq_nx (rg.trans e9)]
  simp only [mSeq, mExpr, mRet, mRetN, mIfS, mSet, mAug, mCall, mCons, mNil, mVar, mC, mOp, mUn, mApp, mTup, mLst, mNx, mRaise, mAnd, mOr, mNot, mIf, tstB, tstAnd, tstOr, tstNot, mChain, bind_ok, bind_err, bind_no, toS_ok, toS_err, nox_ok, fin_nx, fin_rt, fin_err, startL, List.map_cons, List.map_nil, List.length_cons, List.length_nil, List.cons_append, List.nil_append, List.getElem?_cons_zero, List.getElem?_cons_succ, List.set_cons_zero, List.set_cons_succ, List.replicate_succ, List.replicate_zero, Nat.zero_add, Nat.reduceAdd, Nat.reduceSub, Nat.add_one_sub_one, Nat.sub_self, if_true, if_false, ite_true, ite_false, Bool.false_eq_true, reduceCtorEq, if_pos, Nat.reduceEqDiff, Nat.reduceLeDiff, decide_true, decide_false, Bool.not_true, Bool.not_false, tup_lst K9, tup_lst r9]
end
end Pr

set_option Elab.async false
set_option linter.all false
set_option maxRecDepth 100000
set_option maxHeartbeats 4000000
/-! drawn models are accepted -/
namespace Pr
open PySem PySem.Spec PyProof.Rows L2 Core
theorem allV_all {V : D → Option Bool} : ∀ {ds : List D}, (∀ d ∈ ds, V d = some true) → allV V ds = some true
  | [], _ => rfl
  | d :: r, h => by
    unfold allV
    rw [h d List.mem_cons_self]
    exact allV_all fun x hx => h x (List.mem_cons_of_mem _ hx)
theorem strOf_map (xs : List Str) : (xs.map D.str).map strOf = xs := by
  rw [List.map_map]
  induction xs with
  | nil => rfl
  | cons x r ih => rw [List.map_cons, ih]; rfl
theorem tupB_at {xs : List D} {lo hi : Int} (h1 : lo ≤ xs.length) (h2 : (xs.length : Int) ≤ hi) : tupB (.tup xs) lo hi = true := by
  show (decide (lo ≤ (xs.length : Int)) && decide ((xs.length : Int) ≤ hi)) = true
  rw [decide_eq_true h1, decide_eq_true h2]; rfl
theorem tyI_at {v lo hi : Int} (h1 : lo ≤ v) (h2 : v ≤ hi) : tyI (.int v) lo hi = true := by
  show (decide (lo ≤ v) && decide (v ≤ hi)) = true
  rw [decide_eq_true h1, decide_eq_true h2]; rfl
theorem two_flen {j : Nat} (h : j ≤ 3) : ((fN.take j).map D.str).length = j := by rw [List.length_map, List.length_take]; show min j 3 = j; omega
theorem two_hlen {j : Nat} (h : j ≤ 3) : ((hN.take j).map D.str).length = j := by rw [List.length_map, List.length_take]; show min j 3 = j; omega
theorem fN_diff {j : Nat} (h1 : 1 ≤ j) (h2 : j ≤ 3) : diffB ((fN.take j).map D.str) = true := by
  have : j = 1 ∨ j = 2 ∨ j = 3 := by omega
  rcases this with rfl | rfl | rfl <;> decide +kernel
theorem hN_diff {j : Nat} (h1 : 1 ≤ j) (h2 : j ≤ 3) : diffB ((hN.take j).map D.str) = true := by
  have : j = 1 ∨ j = 2 ∨ j = 3 := by omega
  rcases this with rfl | rfl | rfl <;> decide +kernel
section
variable {j i : Nat} {fs hs : List D}
theorem fields_ok (h1 : 1 ≤ j) (h2 : j ≤ 3) (t : Two FldP ((fN.take j).map D.str) fs) : fieldsB (.tup fs) = true ∧ fnames (.tup fs) = fN.take j ∧ fs.length = j := by
  have hl : fs.length = j := by rw [t.len, two_flen h2]
  have hh : fs.map hdD = (fN.take j).map D.str := t.hd fun d y ⟨one, lo, hi, e1, e2, _⟩ => by rw [e1, e2]; rfl
  have ha : fs.all fieldB = true := List.all_eq_true.mpr (t.all (Q := fun y => fieldB y = true) fun d y ⟨one, lo, hi, e1, e2, a, b, c⟩ => by
    rw [e2]
    show (tyI (.int lo) (-1000000) 1000000 && tyI (.int hi) lo 1000000) = true
    rw [tyI_at (by omega) (by omega), tyI_at (by omega) (by omega)]; rfl)
  refine ⟨?_, ?_, hl⟩
  · unfold fieldsB
    rw [tupB_at (by omega) (by omega)]
    show (true && (fs.all fieldB && diffB (fs.map hdD))) = true
    rw [ha, hh, fN_diff h1 h2]; rfl
  · show (fs.map hdD).map strOf = _
    rw [hh, strOf_map]
theorem hands_ok (h1 : 1 ≤ i) (h2 : i ≤ 3) {names : List Str} (t : Two (HndP names) ((hN.take i).map D.str) hs) : handsV names (.tup hs) = some true ∧ hs.length = i := by
  have hl : hs.length = i := by rw [t.len, two_hlen h2]
  have hh : hs.map hdD = (hN.take i).map D.str := t.hd fun d y ⟨p, e, _⟩ => by rw [e]; rfl
  have ha : allV (handV names) hs = some true := allV_all (t.all (Q := fun y => handV names y = some true) fun d y ⟨p, e, pp⟩ => by rw [e]; exact pp.1)
  refine ⟨?_, hl⟩
  unfold handsV
  rw [tupB_at (by omega) (by omega), if_pos rfl]
  show (match allV (handV names) hs with
        | some true => some (diffB (hs.map hdD))
        | x => x) = some true
  rw [ha]
  show some (diffB (hs.map hdD)) = some true
  rw [hh, hN_diff h1 h2]
theorem kind_ok {z y : D} (h : KindP z y) : kindV y = some true := by
  obtain ⟨j, i, fs, hs, h1, h2, h3, h4, rfl, t1, t2⟩ := h
  obtain ⟨a, b, _⟩ := fields_ok h1 h2 t1
  show (if fieldsB (.tup fs) = true then handsV (fnames (.tup fs)) (.tup hs) else some false) = some true
  rw [if_pos a, b]
  exact (hands_ok h3 h4 t2).1
theorem kn_hd {ks : List D} (h1 : 1 ≤ j) (h2 : j ≤ 2) (t : Two KnP ((List.range j).map fun (i : Nat) => D.int (0 + (i : Int))) ks) : ks.map hdD = (bN.take j).map D.str ∧ ks.length = j ∧ (∀ y ∈ ks, ∃ z ∈ bN.take j, KindP (.str z) y) ∧ ∃ y r, ks = y :: r ∧ KindP (.str "box") y := by
  have pick : ∀ {i : Nat} {y : D}, KnP (.int (0 + (i : Int))) y → ∃ z, bN[i]? = some z ∧ KindP (.str z) y := fun {i y} ⟨i', e, z, hz, k⟩ => by
    have : i = i' := by injection e with e; omega
    subst this; exact ⟨z, hz, k⟩
  have hdK : ∀ {z y : D}, KindP z y → hdD y = z := fun {z y} ⟨_, _, _, _, _, _, _, _, e, _⟩ => by rw [e]; rfl
  have hj : j = 1 ∨ j = 2 := by omega
  rcases hj with rfl | rfl
  · have t : Two KnP [D.int (0 + ((0 : Nat) : Int))] ks := t
    cases t with
    | cons a t' =>
      cases t'
      obtain ⟨z, hz, k⟩ := pick a
      cases hz
      exact ⟨by rw [List.map_cons, hdK k]; rfl, rfl, fun y hy => ⟨"box", by decide +kernel, by rw [List.mem_singleton.mp hy]; exact k⟩, _, [], rfl, k⟩
  · have t : Two KnP [D.int (0 + ((0 : Nat) : Int)), D.int (0 + ((1 : Nat) : Int))] ks := t
    cases t with
    | cons a t' =>
      cases t' with
      | cons b t'' =>
        cases t''
        obtain ⟨z, hz, k⟩ := pick a
        obtain ⟨z', hz', k'⟩ := pick b
        cases hz
        cases hz'
        refine ⟨by rw [List.map_cons, List.map_cons, hdK k, hdK k']; rfl, rfl, fun y hy => ?_, _, _, rfl, k⟩
        rcases List.mem_cons.mp hy with rfl | hy
        · exact ⟨"box", by decide +kernel, k⟩
        · exact ⟨"lamp", by decide +kernel, by rw [List.mem_singleton.mp hy]; exact k'⟩
theorem bN_diff (h1 : 1 ≤ j) (h2 : j ≤ 2) : diffB ((bN.take j).map D.str) = true := by
  have hj : j = 1 ∨ j = 2 := by omega
  rcases hj with rfl | rfl <;> decide +kernel
theorem kinds_ok {ks : List D} (h1 : 1 ≤ j) (h2 : j ≤ 2) (t : Two KnP ((List.range j).map fun (i : Nat) => D.int (0 + (i : Int))) ks) : kindsV (.tup ks) = some true ∧ fnames (.tup ks) = bN.take j := by
  obtain ⟨a, b, c, _⟩ := kn_hd h1 h2 t
  refine ⟨?_, by show (ks.map hdD).map strOf = _; rw [a, strOf_map]⟩
  unfold kindsV
  rw [tupB_at (by omega) (by omega), if_pos rfl]
  show (match allV kindV ks with
    | some true => some (diffB (ks.map hdD))
    | x => x) = some true
  rw [allV_all fun y hy => let ⟨z, _, k⟩ := c y hy; kind_ok k]
  show some (diffB (ks.map hdD)) = some true
  rw [a, bN_diff h1 h2]
theorem objs_ok {os : List D} (h1 : 1 ≤ os.length) (h2 : os.length ≤ 8) (h : ∀ o ∈ os, ObP j o) : objsV (bN.take j) (.tup os) = some true := by
  unfold objsV
  rw [tupB_at (by omega) (by omega), if_pos rfl]
  show allV (inN (bN.take j)) os = some true
  refine allV_all fun o ho => ?_
  obtain ⟨z, hz, rfl⟩ := h o ho
  show some ((bN.take j).any (· == z)) = some true
  rw [List.any_eq_true.mpr ⟨z, hz, by simp⟩]
theorem hN_name : ∀ z ∈ hN, nameB (.str z) = true := by decide +kernel
theorem event_ok {many e : Int} {y : D} (h : EvP many e y) : eventB many e y = true := by
  obtain ⟨t, g, a, n, rfl, h1, h2, h3, h4, h5, h6, h7⟩ := h
  show (tyI (.int t) 0 e && (tyI (.int g) 0 (many - 1) && (nameB (.str n) && tyI (.int a) (-999) 999))) = true
  rw [tyI_at h1 h2, tyI_at h3 (by omega), hN_name n h5, tyI_at (by omega) (by omega)]; rfl
theorem start_ok {st : List D} {many e : Int} (hl : st.length ≤ 12) (h : ∀ y ∈ st, EvP many e y) : startB (.tup st) many e = true := by
  unfold startB
  rw [tupB_at (by omega) (by omega)]
  show (true && st.all (eventB many e)) = true
  rw [List.all_eq_true.mpr fun y hy => event_ok (h y hy)]; rfl
/-- a model by its parts -/
theorem modelV_at {ks os st en : D} (h1 : kindsV ks = some true) (h2 : objsV (fnames ks) os = some true) : modelV (.tup [ks, os, st, en]) = some (endB os st en) := by
  show (match kindsV ks with
    | some true => match objsV (fnames ks) os with
      | some true => some (endB os st en)
      | x => x
    | x => x) = _
  rw [h1]
  show (match objsV (fnames ks) os with
      | some true => some (endB os st en)
      | x => x) = _
  rw [h2]
theorem model_ok {d : D} (h : ModelP d) : modelV d = some true := by
  obtain ⟨j, ks, os, st, e, rfl, h1, h2, t, h3, h4, ho, h5, he, h6, h7⟩ := h
  obtain ⟨a, b⟩ := kinds_ok h1 h2 t
  rw [modelV_at a (by rw [b]; exact objs_ok h3 h4 ho)]
  show some (tyI (.int e) 0 1000 && startB (.tup st) (os.length : Int) e) = some true
  rw [tyI_at h6 (by omega), start_ok (by omega) he]; rfl
theorem two_mem {P : D → D → Prop} {ds ys : List D} (t : Two P ds ys) : ∀ y ∈ ys, ∃ d ∈ ds, P d y := by
  induction t with
  | nil => exact fun y hy => absurd hy List.not_mem_nil
  | cons a _ ih =>
    intro y hy
    rcases List.mem_cons.mp hy with rfl | hy
    · exact ⟨_, List.mem_cons_self, a⟩
    · obtain ⟨d, hd, p⟩ := ih y hy; exact ⟨d, List.mem_cons_of_mem _ hd, p⟩
/-! plain -/
theorem kind_pl {z : Str} {y : D} (hz : pl 1 (.str z) = true) (h : KindP (.str z) y) : pl 12 y = true := by
  obtain ⟨j, i, fs, hs, h1, h2, h3, h4, rfl, t1, t2⟩ := h
  have pf : ∀ d ∈ (fN.take j).map D.str, pl 1 d = true := fun d hd => by obtain ⟨x, hx, rfl⟩ := List.mem_map.mp hd; exact fN_pl x hx
  refine pl_t3 (pl_s hz) (pl_tup (n := 10) fun f hf => ?_) (pl_tup (n := 10) fun f hf => ?_)
  · obtain ⟨d, hd, one, lo, hi, e1, e2, _⟩ := two_mem t1 f hf
    rw [e2]
    rw [e1] at hd
    exact pl_t3 (pf _ hd) pl_i pl_i
  · obtain ⟨d, hd, p, e, pp⟩ := two_mem t2 f hf
    rw [e]
    obtain ⟨x, hx, rfl⟩ := List.mem_map.mp hd
    have : ∀ x ∈ hN, pl 1 (.str x) = true := by decide +kernel
    exact pl_t2 (pl_s (this x (List.mem_of_mem_take hx))) pp.2
theorem bN_pl : ∀ x ∈ bN, pl 1 (.str x) = true := by decide +kernel
theorem hN_pl : ∀ x ∈ hN, pl 1 (.str x) = true := by decide +kernel
theorem model_pl {d : D} (h : ModelP d) : pl 14 d = true := by
  obtain ⟨j, ks, os, st, e, rfl, h1, h2, t, h3, h4, ho, h5, he, h6, h7⟩ := h
  obtain ⟨_, _, c, _⟩ := kn_hd h1 h2 t
  refine pl_t4 (pl_tup (n := 12) fun y hy => ?_) (pl_tup (n := 12) fun y hy => ?_) (pl_tup (n := 12) fun y hy => ?_) pl_i
  · obtain ⟨z, hz, k⟩ := c y hy
    exact kind_pl (bN_pl z (List.mem_of_mem_take hz)) k
  · obtain ⟨z, hz, rfl⟩ := ho y hy
    exact pl_s (bN_pl z (List.mem_of_mem_take hz))
  · obtain ⟨t, g, a, n, rfl, _, _, _, _, hn, _⟩ := he y hy
    exact pl_t4 pl_i pl_i (pl_s (hN_pl n hn)) pl_i
end
theorem mapM_some {s : Mem} {n : Nat} : ∀ {xs : List D}, (∀ x ∈ xs, ∃ p, py s n x = some p ∧ p.plain = true) → ∃ ps, xs.mapM (py s n) = some ps ∧ PyData.plainAll ps = true
  | [], _ => ⟨[], rfl, rfl⟩
  | x :: r, h => by
    obtain ⟨p, e, hp⟩ := h x List.mem_cons_self
    obtain ⟨ps, e', hps⟩ := mapM_some (xs := r) fun y hy => h y (List.mem_cons_of_mem _ hy)
    exact ⟨p :: ps, by rw [List.mapM_cons, e, e']; rfl, by simp [PyData.plainAll, hp, hps]⟩
theorem py_pl {s : Mem} : ∀ (n : Nat) (d : D), pl n d = true → ∃ p, py s n d = some p ∧ p.plain = true
  | 0, d, h => by cases h
  | n + 1, .tup xs, h => by
    have h : xs.all (pl n) = true := h
    obtain ⟨ps, e, hp⟩ := mapM_some (s := s) (n := n) fun x hx => py_pl n x (List.all_eq_true.mp h x hx)
    exact ⟨.tuple ps, by unfold py; rw [e]; rfl, by simpa [PyData.plain] using hp⟩
  | n + 1, .str z, h => by
    have h : (PyData.strOk z && decide (z.length ≤ 100000)) = true := h
    rw [Bool.and_eq_true] at h
    exact ⟨.str z, by unfold py; rw [if_pos h.1], by simp [PyData.plain]⟩
  | n + 1, .ref z, h => by cases h
  | n + 1, .non, h => ⟨.none, rfl, by simp [PyData.plain]⟩
  | n + 1, .bl b, h => ⟨.bool b, rfl, by simp [PyData.plain]⟩
  | n + 1, .int i, h => ⟨.int i, rfl, by simp [PyData.plain]⟩
theorem ne_self {s : Mem} {xs : List D} {n : Nat} (h : pl n (.tup xs) = true) (hn : n ≤ 40) : gNe (.tup xs) (.tup xs) s = .ok (.bl false) s := by
  obtain ⟨p, e, hp⟩ := py_pl (s := s) pyL (.tup xs) (pl_up hn h)
  have e2 : gEqB s (.tup xs) (.tup xs) = some (PyData.eqv p p) := by
    show (match py s pyL (.tup xs), py s pyL (.tup xs) with
      | some p, some q => some (PyData.eqv p q)
      | _, _ => none) = _
    rw [e]
  unfold gNe
  rw [e2, PySem.SeqAt.eqv_refl_plain p hp]
  rfl
end Pr

set_option Elab.async false
set_option linter.all false
set_option maxRecDepth 100000
set_option maxHeartbeats 4000000
/-! first states, placings -/
namespace Pr
open PySem PySem.Spec PyProof.Rows L2 Core
section
variable {s : Mem} {k : Nat}
theorem lc_filt {ok : Mem → Bool} {g : TGm} {vs : List Nat} {l : Core.Loc} {tt : TM} {me : EM} {T : D → Bool} {F : D → D} : ∀ (ds : List D) (acc : List D), (∀ u, ok (s ++ [u]) = true) →
    (∀ d ∈ ds, ∃ l1, g d (wipeL l vs) = some l1 ∧ (∀ u, tt l1 (s ++ [u]) = .ok (T d) (s ++ [u])) ∧ ∀ u, me l1 (s ++ [u]) = .ok (F d) (s ++ [u])) → acc.length + ds.length ≤ 100000 →
    loopC ok g vs l tt me s.length ds (s ++ [.lst acc]) = .ok (.ref s.length) (s ++ [.lst (acc ++ (ds.filter T).map F)])
  | [], acc, hok, hg, hlen => by
    unfold loopC
    rw [if_pos (hok _), List.filter_nil, List.map_nil, List.append_nil]
  | d :: ds, acc, hok, hg, hlen => by
    obtain ⟨l1, h1, h2, h3⟩ := hg d List.mem_cons_self
    unfold loopC
    rw [if_pos (hok _), h1]
    dsimp only
    rw [h2, nox_ok]
    cases ht : T d with
    | true =>
      have e1 : (s ++ [Ob.lst acc])[s.length]? = some (Ob.lst acc) := by simp
      have e2 : acc.length < 100000 := by simp only [List.length_cons] at hlen; omega
      rw [if_pos rfl, h3, nox_ok, e1]
      dsimp only
      rw [if_pos e2]
      have e3 : (s ++ [Ob.lst acc]).set s.length (Ob.lst (acc ++ [F d])) = s ++ [Ob.lst (acc ++ [F d])] := by simp
      rw [e3, lc_filt ds (acc ++ [F d]) hok (fun d hd => hg d (List.mem_cons_of_mem _ hd)) (by simp only [List.length_cons, List.length_append, List.length_nil] at hlen ⊢; omega)]
      rw [List.filter_cons, if_pos ht]
      simp
    | false =>
      rw [if_neg Bool.false_ne_true, lc_filt ds acc hok (fun d hd => hg d (List.mem_cons_of_mem _ hd)) (by simp only [List.length_cons] at hlen; omega)]
      rw [List.filter_cons, if_neg (by rw [ht]; exact Bool.false_ne_true)]
def isK (z : Str) (d : D) : Bool := strOf (hdD d) == z
def dueF : D → D
  | .tup [_, .int lo, .int hi] => .int (if (if (0 : Int) < hi then 0 else hi) > lo then (if (0 : Int) < hi then 0 else hi) else lo)
  | _ => .non
theorem c_nearest {lo hi : Int} : call (k + 1) .nearest [.int 0, .int lo, .int hi] s = .ok (.int (if (if (0 : Int) < hi then 0 else hi) > lo then (if (0 : Int) < hi then 0 else hi) else lo)) s := by
  show Core.fin (m_nearest (call k) [some (.int 0), some (.int lo), some (.int hi)] s) = _
  unfold m_nearest
  simp only [mSeq, mExpr, mRet, mRetN, mIfS, mSet, mAug, mCall, mCons, mNil, mVar, mC, mOp, mUn, mApp, mTup, mLst, mNx, mRaise, mAnd, mOr, mNot, mIf, tstB, tstAnd, tstOr, tstNot, mChain, bind_ok, bind_err, bind_no, toS_ok, toS_err, nox_ok, fin_nx, fin_rt, fin_err, startL, List.map_cons, List.map_nil, List.length_cons, List.length_nil, List.cons_append, List.nil_append, List.getElem?_cons_zero, List.getElem?_cons_succ, List.set_cons_zero, List.set_cons_succ, List.replicate_succ, List.replicate_zero, Nat.zero_add, Nat.reduceAdd, Nat.reduceSub, Nat.add_one_sub_one, Nat.sub_self, if_true, if_false, ite_true, ite_false, Bool.false_eq_true, reduceCtorEq, if_pos, Nat.reduceEqDiff, Nat.reduceLeDiff, decide_true, decide_false, Bool.not_true, Bool.not_false, gM2]
/-- what a drawn model says of the kind of an object -/
structure KOf (ks os : List D) (n : Nat) (z : Str) (y : D) : Prop where
  at_ : os[n]? = some (.str z)
  fst : ∃ r, ks.filter (isK z) = y :: r
  kind : ∃ z, KindP z y
theorem kof_of {ks os : List D} {j : Nat} (h1 : 1 ≤ j) (h2 : j ≤ 2) (t : Two KnP ((List.range j).map fun (i : Nat) => D.int (0 + (i : Int))) ks) (ho : ∀ o ∈ os, ObP j o) {n : Nat} (hn : n < os.length) : ∃ z y, KOf ks os n z y := by
  obtain ⟨a, b, c, _⟩ := kn_hd h1 h2 t
  obtain ⟨z, hz, e⟩ := ho os[n] (List.getElem_mem hn)
  have : D.str z ∈ ks.map hdD := by rw [a]; exact List.mem_map_of_mem hz
  obtain ⟨y, hy, ey⟩ := List.mem_map.mp this
  have hf : y ∈ ks.filter (isK z) := List.mem_filter.mpr ⟨hy, by unfold isK; rw [ey]; simp [strOf]⟩
  cases q : ks.filter (isK z) with
  | nil => rw [q] at hf; cases hf
  | cons y' r =>
    have hy' : y' ∈ ks := (List.mem_filter.mp (by rw [q]; exact List.mem_cons_self)).1
    obtain ⟨z', _, k⟩ := c y' hy'
    exact ⟨z, y', by rw [List.getElem?_eq_getElem hn, e], ⟨r, q⟩, ⟨_, k⟩⟩
theorem ks_hd {ks : List D} {j : Nat} (h1 : 1 ≤ j) (h2 : j ≤ 2) (t : Two KnP ((List.range j).map fun (i : Nat) => D.int (0 + (i : Int))) ks) : ∀ d ∈ ks, ∃ x b c, d = .tup [.str x, b, c] := fun d hd => by
  obtain ⟨_, _, c, _⟩ := kn_hd h1 h2 t
  obtain ⟨z, _, _, _, _, _, _, _, _, _, e, _⟩ := c d hd
  exact ⟨_, _, _, e⟩
theorem c_kind_of {ks os : List D} {st e : D} {n : Nat} {z : Str} {y : D} (K : KOf ks os n z y) (hk : ∀ d ∈ ks, ∃ x b c, d = .tup [.str x, b, c]) (hl : ks.length ≤ 4) :
    ∃ t, call (k + 1) .kind_of [.tup [.tup ks, .tup os, st, e], .int n] s = .ok y (s ++ t) := by
  refine ⟨[.lst (ks.filter (isK z))], ?_⟩
  show Core.fin (m_kind_of (call k) [some (.tup [.tup ks, .tup os, st, e]), some (.int n), none, none] s) = _
  have lc := lc_filt (s := s) (ok := fun _ => true) (g := gmName 3) (vs := [3]) (l := [some (.tup [.tup ks, .tup os, st, e]), some (.int n), some (.str z), none]) (tt := tstB (mOp gEq (mOp gIx (mVar 3) (mC (.int 0))) (mVar 2))) (me := mVar 3) (T := isK z) (F := id) ks [] (fun _ => rfl) (fun d hd => by
    obtain ⟨x, b, c, rfl⟩ := hk d hd
    exact ⟨[some (.tup [.tup ks, .tup os, st, e]), some (.int n), some (.str z), some (.tup [.str x, b, c])], rfl, fun u => by simp only [mSeq, mExpr, mRet, mRetN, mIfS, mSet, mAug, mCall, mCons, mNil, mVar, mC, mOp, mUn, mApp, mTup, mLst, mNx, mRaise, mAnd, mOr, mNot, mIf, tstB, tstAnd, tstOr, tstNot, mChain, bind_ok, bind_err, bind_no, toS_ok, toS_err, nox_ok, fin_nx, fin_rt, fin_err, startL, List.map_cons, List.map_nil, List.length_cons, List.length_nil, List.cons_append, List.nil_append, List.getElem?_cons_zero, List.getElem?_cons_succ, List.set_cons_zero, List.set_cons_succ, List.replicate_succ, List.replicate_zero, Nat.zero_add, Nat.reduceAdd, Nat.reduceSub, Nat.add_one_sub_one, Nat.sub_self, if_true, if_false, ite_true, ite_false, Bool.false_eq_true, reduceCtorEq, if_pos, Nat.reduceEqDiff, Nat.reduceLeDiff, decide_true, decide_false, Bool.not_true, Bool.not_false, ix0, gEq, gEqB]; rfl, fun u => rfl⟩) (by rw [List.length_nil]; omega)
  rw [List.nil_append, List.map_id] at lc
  have e1 : mLc (iSeq (mOp gIx (mVar 0) (mC (.int 0)))) (gmName 3) [3] (tstB (mOp gEq (mOp gIx (mVar 3) (mC (.int 0))) (mVar 2))) (mVar 3) [some (.tup [.tup ks, .tup os, st, e]), some (.int n), some (.str z), none] s = _ := (lc_tup (s1 := s) (by simp only [mSeq, mExpr, mRet, mRetN, mIfS, mSet, mAug, mCall, mCons, mNil, mVar, mC, mOp, mUn, mApp, mTup, mLst, mNx, mRaise, mAnd, mOr, mNot, mIf, tstB, tstAnd, tstOr, tstNot, mChain, bind_ok, bind_err, bind_no, toS_ok, toS_err, nox_ok, fin_nx, fin_rt, fin_err, startL, List.map_cons, List.map_nil, List.length_cons, List.length_nil, List.cons_append, List.nil_append, List.getElem?_cons_zero, List.getElem?_cons_succ, List.set_cons_zero, List.set_cons_succ, List.replicate_succ, List.replicate_zero, Nat.zero_add, Nat.reduceAdd, Nat.reduceSub, Nat.add_one_sub_one, Nat.sub_self, if_true, if_false, ite_true, ite_false, Bool.false_eq_true, reduceCtorEq, if_pos, Nat.reduceEqDiff, Nat.reduceLeDiff, decide_true, decide_false, Bool.not_true, Bool.not_false, ix0])).trans lc
  obtain ⟨r, hr⟩ := K.fst
  have p : gIx (.ref s.length) (.int ((0 : Nat) : Int)) (s ++ [Ob.lst (ks.filter (isK z))]) = .ok y _ := ix_lst last_at (by rw [hr]; rfl)
  have p : gIx (.ref s.length) (.int 0) (s ++ [Ob.lst (ks.filter (isK z))]) = .ok y (s ++ [Ob.lst (ks.filter (isK z))]) := p
  unfold m_kind_of
  rw [seq_nx (l1 := [some (.tup [.tup ks, .tup os, st, e]), some (.int n), some (.str z), none]) (s1 := s) (by simp only [mSeq, mExpr, mRet, mRetN, mIfS, mSet, mAug, mCall, mCons, mNil, mVar, mC, mOp, mUn, mApp, mTup, mLst, mNx, mRaise, mAnd, mOr, mNot, mIf, tstB, tstAnd, tstOr, tstNot, mChain, bind_ok, bind_err, bind_no, toS_ok, toS_err, nox_ok, fin_nx, fin_rt, fin_err, startL, List.map_cons, List.map_nil, List.length_cons, List.length_nil, List.cons_append, List.nil_append, List.getElem?_cons_zero, List.getElem?_cons_succ, List.set_cons_zero, List.set_cons_succ, List.replicate_succ, List.replicate_zero, Nat.zero_add, Nat.reduceAdd, Nat.reduceSub, Nat.add_one_sub_one, Nat.sub_self, if_true, if_false, ite_true, ite_false, Bool.false_eq_true, reduceCtorEq, if_pos, Nat.reduceEqDiff, Nat.reduceLeDiff, decide_true, decide_false, Bool.not_true, Bool.not_false, ix1, ix_nat K.at_])]
  simp only [mSeq, mExpr, mRet, mRetN, mIfS, mSet, mAug, mCall, mCons, mNil, mVar, mC, mOp, mUn, mApp, mTup, mLst, mNx, mRaise, mAnd, mOr, mNot, mIf, tstB, tstAnd, tstOr, tstNot, mChain, bind_ok, bind_err, bind_no, toS_ok, toS_err, nox_ok, fin_nx, fin_rt, fin_err, startL, List.map_cons, List.map_nil, List.length_cons, List.length_nil, List.cons_append, List.nil_append, List.getElem?_cons_zero, List.getElem?_cons_succ, List.set_cons_zero, List.set_cons_succ, List.replicate_succ, List.replicate_zero, Nat.zero_add, Nat.reduceAdd, Nat.reduceSub, Nat.add_one_sub_one, Nat.sub_self, if_true, if_false, ite_true, ite_false, Bool.false_eq_true, reduceCtorEq, if_pos, Nat.reduceEqDiff, Nat.reduceLeDiff, decide_true, decide_false, Bool.not_true, Bool.not_false, e1, p]
theorem kind_fs {z y : D} (h : KindP z y) : ∃ fs hs, y = .tup [z, .tup fs, .tup hs] ∧ fs.length ≤ 3 ∧ ∀ f ∈ fs, ∃ (one : Str) (lo hi : Int), f = .tup [.str one, .int lo, .int hi] := by
  obtain ⟨j, i, fs, hs, h1, h2, h3, h4, rfl, t1, t2⟩ := h
  refine ⟨fs, hs, rfl, by rw [t1.len, two_flen h2]; exact h2, fun f hf => ?_⟩
  obtain ⟨d, hd, one, lo, hi, e1, e2, _⟩ := two_mem t1 f hf
  exact ⟨one, lo, hi, e2⟩
theorem c_first_state {ks os fs hs : List D} {st e a : D} {n : Nat} {z : Str} (K : KOf ks os n z (.tup [a, .tup fs, .tup hs])) (hk : ∀ d ∈ ks, ∃ x b c, d = .tup [.str x, b, c]) (hl : ks.length ≤ 4) (hf : fs.length ≤ 3) (hfs : ∀ f ∈ fs, ∃ (one : Str) (lo hi : Int), f = .tup [.str one, .int lo, .int hi]) :
    ∃ t, call (k + 2) .first_state [.tup [.tup ks, .tup os, st, e], .int n] s = .ok (.tup (fs.map dueF)) (s ++ t) := by
  obtain ⟨t, ck⟩ := c_kind_of (s := s) (k := k) (st := st) (e := e) K hk hl
  refine ⟨t ++ [.lst (fs.map dueF)], ?_⟩
  show Core.fin (m_first_state (call (k + 1)) [some (.tup [.tup ks, .tup os, st, e]), some (.int n), none, none, none, none] s) = _
  have lc := lc_map (s := s ++ t) (ok := fun _ => true) (g := gmTup 3 (gmCons (gmName 3) (gmCons (gmName 4) (gmCons (gmName 5) gmNil)))) (vs := [3, 4, 5]) (l := [some (.tup [.tup ks, .tup os, st, e]), some (.int n), some (.tup fs), none, none, none]) (me := mCall 3 (call (k + 1) .nearest) (mCons (mC (.int 0)) (mCons (mVar 4) (mCons (mVar 5) mNil)))) (F := dueF) fs [] (fun _ => rfl) (fun d hd => by
    obtain ⟨one, lo, hi, rfl⟩ := hfs d hd
    exact ⟨[some (.tup [.tup ks, .tup os, st, e]), some (.int n), some (.tup fs), some (.str one), some (.int lo), some (.int hi)], rfl, fun u => by simp only [mSeq, mExpr, mRet, mRetN, mIfS, mSet, mAug, mCall, mCons, mNil, mVar, mC, mOp, mUn, mApp, mTup, mLst, mNx, mRaise, mAnd, mOr, mNot, mIf, tstB, tstAnd, tstOr, tstNot, mChain, bind_ok, bind_err, bind_no, toS_ok, toS_err, nox_ok, fin_nx, fin_rt, fin_err, startL, List.map_cons, List.map_nil, List.length_cons, List.length_nil, List.cons_append, List.nil_append, List.getElem?_cons_zero, List.getElem?_cons_succ, List.set_cons_zero, List.set_cons_succ, List.replicate_succ, List.replicate_zero, Nat.zero_add, Nat.reduceAdd, Nat.reduceSub, Nat.add_one_sub_one, Nat.sub_self, if_true, if_false, ite_true, ite_false, Bool.false_eq_true, reduceCtorEq, if_pos, Nat.reduceEqDiff, Nat.reduceLeDiff, decide_true, decide_false, Bool.not_true, Bool.not_false, c_nearest]; rfl⟩) (by rw [List.length_nil]; omega)
  rw [List.nil_append] at lc
  have e1 : mLc (iSeq (mVar 2)) (gmTup 3 (gmCons (gmName 3) (gmCons (gmName 4) (gmCons (gmName 5) gmNil)))) [3, 4, 5] tYes' (mCall 3 (call (k + 1) .nearest) (mCons (mC (.int 0)) (mCons (mVar 4) (mCons (mVar 5) mNil)))) [some (.tup [.tup ks, .tup os, st, e]), some (.int n), some (.tup fs), none, none, none] (s ++ t) = _ := (lc_tup (s1 := s ++ t) rfl).trans lc
  unfold m_first_state
  rw [seq_nx (l1 := [some (.tup [.tup ks, .tup os, st, e]), some (.int n), some (.tup fs), none, none, none]) (s1 := s ++ t) (by simp only [mSeq, mExpr, mRet, mRetN, mIfS, mSet, mAug, mCall, mCons, mNil, mVar, mC, mOp, mUn, mApp, mTup, mLst, mNx, mRaise, mAnd, mOr, mNot, mIf, tstB, tstAnd, tstOr, tstNot, mChain, bind_ok, bind_err, bind_no, toS_ok, toS_err, nox_ok, fin_nx, fin_rt, fin_err, startL, List.map_cons, List.map_nil, List.length_cons, List.length_nil, List.cons_append, List.nil_append, List.getElem?_cons_zero, List.getElem?_cons_succ, List.set_cons_zero, List.set_cons_succ, List.replicate_succ, List.replicate_zero, Nat.zero_add, Nat.reduceAdd, Nat.reduceSub, Nat.add_one_sub_one, Nat.sub_self, if_true, if_false, ite_true, ite_false, Bool.false_eq_true, reduceCtorEq, if_pos, Nat.reduceEqDiff, Nat.reduceLeDiff, decide_true, decide_false, Bool.not_true, Bool.not_false, ck, ix1])]
  simp only [mSeq, mExpr, mRet, mRetN, mIfS, mSet, mAug, mCall, mCons, mNil, mVar, mC, mOp, mUn, mApp, mTup, mLst, mNx, mRaise, mAnd, mOr, mNot, mIf, tstB, tstAnd, tstOr, tstNot, mChain, bind_ok, bind_err, bind_no, toS_ok, toS_err, nox_ok, fin_nx, fin_rt, fin_err, startL, List.map_cons, List.map_nil, List.length_cons, List.length_nil, List.cons_append, List.nil_append, List.getElem?_cons_zero, List.getElem?_cons_succ, List.set_cons_zero, List.set_cons_succ, List.replicate_succ, List.replicate_zero, Nat.zero_add, Nat.reduceAdd, Nat.reduceSub, Nat.add_one_sub_one, Nat.sub_self, if_true, if_false, ite_true, ite_false, Bool.false_eq_true, reduceCtorEq, if_pos, Nat.reduceEqDiff, Nat.reduceLeDiff, decide_true, decide_false, Bool.not_true, Bool.not_false, e1, tup_lst last_at]
  rw [List.append_assoc]
/-! ### placings -/
def placeB (n : Nat) (d : D) : Bool := tupB d n n && (match d with
  | .tup xs => xs.all fun x => tyI x 0 7
  | _ => false)
def maxD : D → Int
  | .tup xs => match intsD xs with
    | some (y :: ys) => maxI y ys
    | _ => 0
  | _ => 0
theorem ints_all : ∀ {xs : List D}, (xs.all fun x => tyI x 0 7) = true → ∃ is, intsD xs = some is ∧ is.length = xs.length
  | [], _ => ⟨[], rfl, rfl⟩
  | x :: r, h => by
    rw [List.all_cons, Bool.and_eq_true] at h
    obtain ⟨is, e, l⟩ := ints_all h.2
    cases x with
    | int v => exact ⟨v :: is, by unfold intsD; rw [e]; rfl, by rw [List.length_cons, List.length_cons, l]⟩
    | _ => cases h.1
theorem c_check_placing {m d a c e : D} {os : List D} (hm : m = .tup [a, .tup os, c, e]) (h : liv s d = true) (hn : 1 ≤ os.length) :
    ∃ t, call (k + 3) .check_placing [m, d] s = if placeB os.length d = true then .ok (.int (maxD d + 1)) (s ++ t) else .err "BadModel" (s ++ t) := by
  subst hm
  show ∃ t, Core.fin (m_check_placing (call (k + 2)) [some (.tup [a, .tup os, c, e]), some d, none, none] s) = _
  have rq : call (k + 2) .require_tuple [d, .int os.length, .int os.length] s = _ := c_require_tuple h _ _
  unfold m_check_placing
  rw [seq_nx (l1 := [some (.tup [a, .tup os, c, e]), some d, some (.tup os), none]) (s1 := s) (by simp only [mSeq, mExpr, mRet, mRetN, mIfS, mSet, mAug, mCall, mCons, mNil, mVar, mC, mOp, mUn, mApp, mTup, mLst, mNx, mRaise, mAnd, mOr, mNot, mIf, tstB, tstAnd, tstOr, tstNot, mChain, bind_ok, bind_err, bind_no, toS_ok, toS_err, nox_ok, fin_nx, fin_rt, fin_err, startL, List.map_cons, List.map_nil, List.length_cons, List.length_nil, List.cons_append, List.nil_append, List.getElem?_cons_zero, List.getElem?_cons_succ, List.set_cons_zero, List.set_cons_succ, List.replicate_succ, List.replicate_zero, Nat.zero_add, Nat.reduceAdd, Nat.reduceSub, Nat.add_one_sub_one, Nat.sub_self, if_true, if_false, ite_true, ite_false, Bool.false_eq_true, reduceCtorEq, if_pos, Nat.reduceEqDiff, Nat.reduceLeDiff, decide_true, decide_false, Bool.not_true, Bool.not_false, ix1])]
  cases ht : tupB d os.length os.length with
  | false =>
    rw [seq_err (c := "BadModel") (l1 := [some (.tup [a, .tup os, c, e]), some d, some (.tup os), none]) (s1 := s) (by simp only [mSeq, mExpr, mRet, mRetN, mIfS, mSet, mAug, mCall, mCons, mNil, mVar, mC, mOp, mUn, mApp, mTup, mLst, mNx, mRaise, mAnd, mOr, mNot, mIf, tstB, tstAnd, tstOr, tstNot, mChain, bind_ok, bind_err, bind_no, toS_ok, toS_err, nox_ok, fin_nx, fin_rt, fin_err, startL, List.map_cons, List.map_nil, List.length_cons, List.length_nil, List.cons_append, List.nil_append, List.getElem?_cons_zero, List.getElem?_cons_succ, List.set_cons_zero, List.set_cons_succ, List.replicate_succ, List.replicate_zero, Nat.zero_add, Nat.reduceAdd, Nat.reduceSub, Nat.add_one_sub_one, Nat.sub_self, if_true, if_false, ite_true, ite_false, Bool.false_eq_true, reduceCtorEq, if_pos, Nat.reduceEqDiff, Nat.reduceLeDiff, decide_true, decide_false, Bool.not_true, Bool.not_false, gLen, seqD, rq, ht])]
    have : placeB os.length d = false := by unfold placeB; rw [ht]; rfl
    rw [this]; exact ⟨[], by simp [fin_err]⟩
  | true =>
    rw [seq_nx (l1 := [some (.tup [a, .tup os, c, e]), some d, some (.tup os), none]) (s1 := s) (by simp only [mSeq, mExpr, mRet, mRetN, mIfS, mSet, mAug, mCall, mCons, mNil, mVar, mC, mOp, mUn, mApp, mTup, mLst, mNx, mRaise, mAnd, mOr, mNot, mIf, tstB, tstAnd, tstOr, tstNot, mChain, bind_ok, bind_err, bind_no, toS_ok, toS_err, nox_ok, fin_nx, fin_rt, fin_err, startL, List.map_cons, List.map_nil, List.length_cons, List.length_nil, List.cons_append, List.nil_append, List.getElem?_cons_zero, List.getElem?_cons_succ, List.set_cons_zero, List.set_cons_succ, List.replicate_succ, List.replicate_zero, Nat.zero_add, Nat.reduceAdd, Nat.reduceSub, Nat.add_one_sub_one, Nat.sub_self, if_true, if_false, ite_true, ite_false, Bool.false_eq_true, reduceCtorEq, if_pos, Nat.reduceEqDiff, Nat.reduceLeDiff, decide_true, decide_false, Bool.not_true, Bool.not_false, gLen, seqD, rq, ht])]
    cases d with
    | tup xs =>
      have hl : livs s xs = true := h
      obtain ⟨l1, l2⟩ := tup_len ht
      have key := loop_chk (s := s) (ok := fun _ => true) (i := 3) (body := mExpr (mCall 1 (call (k + 2) .require) (mCons (mCall 3 (call (k + 2) .is_integer) (mCons (mVar 3) (mCons (mC (.int 0)) (mCons (mOp Core.gSub (mC (.int 8)) (mC (.int 1))) mNil)))) mNil))) (V := fun d => some (tyI d 0 7)) (Lk := fun l => ∃ o, l = [some (.tup [a, .tup os, c, e]), some (.tup xs), some (.tup os), o]) xs [some (.tup [a, .tup os, c, e]), some (.tup xs), some (.tup os), none] [] (xs.all fun x => tyI x 0 7) (fun t => rfl)
        (fun d hd l t b ⟨o, hl1⟩ e => by
          subst hl1
          cases e
          obtain ⟨ta, ea⟩ := liv_ty (liv_ext (app_lst (t := t)) (livs_mem hl d hd))
          simp only [mSeq, mExpr, mRet, mRetN, mIfS, mSet, mAug, mCall, mCons, mNil, mVar, mC, mOp, mUn, mApp, mTup, mLst, mNx, mRaise, mAnd, mOr, mNot, mIf, tstB, tstAnd, tstOr, tstNot, mChain, bind_ok, bind_err, bind_no, toS_ok, toS_err, nox_ok, fin_nx, fin_rt, fin_err, startL, List.map_cons, List.map_nil, List.length_cons, List.length_nil, List.cons_append, List.nil_append, List.getElem?_cons_zero, List.getElem?_cons_succ, List.set_cons_zero, List.set_cons_succ, List.replicate_succ, List.replicate_zero, Nat.zero_add, Nat.reduceAdd, Nat.reduceSub, Nat.add_one_sub_one, Nat.sub_self, if_true, if_false, ite_true, ite_false, Bool.false_eq_true, reduceCtorEq, if_pos, Nat.reduceEqDiff, Nat.reduceLeDiff, decide_true, decide_false, Bool.not_true, Bool.not_false, Core.gSub, gI2]
          rw [show k + 2 = (k + 1) + 1 from rfl, show ((8 : Int) - 1) = 7 from rfl, c_is_integer ea]
          simp only [mSeq, mExpr, mRet, mRetN, mIfS, mSet, mAug, mCall, mCons, mNil, mVar, mC, mOp, mUn, mApp, mTup, mLst, mNx, mRaise, mAnd, mOr, mNot, mIf, tstB, tstAnd, tstOr, tstNot, mChain, bind_ok, bind_err, bind_no, toS_ok, toS_err, nox_ok, fin_nx, fin_rt, fin_err, startL, List.map_cons, List.map_nil, List.length_cons, List.length_nil, List.cons_append, List.nil_append, List.getElem?_cons_zero, List.getElem?_cons_succ, List.set_cons_zero, List.set_cons_succ, List.replicate_succ, List.replicate_zero, Nat.zero_add, Nat.reduceAdd, Nat.reduceSub, Nat.add_one_sub_one, Nat.sub_self, if_true, if_false, ite_true, ite_false, Bool.false_eq_true, reduceCtorEq, if_pos, Nat.reduceEqDiff, Nat.reduceLeDiff, decide_true, decide_false, Bool.not_true, Bool.not_false, c_require]
          cases tyI d 0 7 <;> simp only [mSeq, mExpr, mRet, mRetN, mIfS, mSet, mAug, mCall, mCons, mNil, mVar, mC, mOp, mUn, mApp, mTup, mLst, mNx, mRaise, mAnd, mOr, mNot, mIf, tstB, tstAnd, tstOr, tstNot, mChain, bind_ok, bind_err, bind_no, toS_ok, toS_err, nox_ok, fin_nx, fin_rt, fin_err, startL, List.map_cons, List.map_nil, List.length_cons, List.length_nil, List.cons_append, List.nil_append, List.getElem?_cons_zero, List.getElem?_cons_succ, List.set_cons_zero, List.set_cons_succ, List.replicate_succ, List.replicate_zero, Nat.zero_add, Nat.reduceAdd, Nat.reduceSub, Nat.add_one_sub_one, Nat.sub_self, if_true, if_false, ite_true, ite_false, Bool.false_eq_true, reduceCtorEq, if_pos, Nat.reduceEqDiff, Nat.reduceLeDiff, decide_true, decide_false, Bool.not_true, Bool.not_false]
          · exact chk_err ⟨_, rfl⟩
          · exact chk_ok ⟨_, rfl⟩) ⟨_, rfl⟩ (allV_some (fun d => tyI d 0 7) xs)
      obtain ⟨l, t, h1, o, rfl⟩ := key
      simp only [List.append_nil] at h1
      have h2 := (for_tup (me := mVar 1) (l := [some (.tup [a, .tup os, c, e]), some (.tup xs), some (.tup os), none]) (s1 := s) rfl).trans h1
      have hp : placeB os.length (.tup xs) = xs.all fun x => tyI x 0 7 := by unfold placeB; rw [ht]; rfl
      rw [hp]
      cases hn1 : xs.all fun x => tyI x 0 7 with
      | false => rw [hn1, if_neg Bool.false_ne_true] at h2; rw [seq_err h2]; exact ⟨t, rfl⟩
      | true =>
        rw [hn1, if_pos rfl] at h2
        rw [seq_nx h2]
        obtain ⟨is, e1, e2⟩ := ints_all hn1
        refine ⟨t, ?_⟩
        cases is with
        | nil => rw [List.length_nil] at e2; omega
        | cons y ys =>
          simp only [mSeq, mExpr, mRet, mRetN, mIfS, mSet, mAug, mCall, mCons, mNil, mVar, mC, mOp, mUn, mApp, mTup, mLst, mNx, mRaise, mAnd, mOr, mNot, mIf, tstB, tstAnd, tstOr, tstNot, mChain, bind_ok, bind_err, bind_no, toS_ok, toS_err, nox_ok, fin_nx, fin_rt, fin_err, startL, List.map_cons, List.map_nil, List.length_cons, List.length_nil, List.cons_append, List.nil_append, List.getElem?_cons_zero, List.getElem?_cons_succ, List.set_cons_zero, List.set_cons_succ, List.replicate_succ, List.replicate_zero, Nat.zero_add, Nat.reduceAdd, Nat.reduceSub, Nat.add_one_sub_one, Nat.sub_self, if_true, if_false, ite_true, ite_false, Bool.false_eq_true, reduceCtorEq, if_pos, Nat.reduceEqDiff, Nat.reduceLeDiff, decide_true, decide_false, Bool.not_true, Bool.not_false, gMaxI, seqD, e1, Core.gAdd, maxD]
    | _ => cases ht
theorem c_law_placed {m d a c e : D} {os : List D} (hm : m = .tup [a, .tup os, c, e]) (h : liv s d = true) (hn : 1 ≤ os.length) :
    ∃ t, call (k + 4) .law_placed [m, d] s = .ok (if placeB os.length d = true then .int (maxD d + 1) else .non) (s ++ t) := by
  obtain ⟨t, cp⟩ := c_check_placing (k := k) (s := s) hm h hn
  refine ⟨t, ?_⟩
  show Core.fin (m_law_placed (call (k + 3)) [some m, some d] s) = _
  have m1 : ("BadModel" : Str) ∈ (["CourierError", "BadModel"] : List Str) := by decide +kernel
  have m2 : decide (("BadModel" : Str) ∈ (["BadModel"] : List Str)) = true := by decide +kernel
  unfold m_law_placed
  simp only [mSeq, mExpr, mRet, mRetN, mIfS, mSet, mAug, mCall, mCons, mNil, mVar, mC, mOp, mUn, mApp, mTup, mLst, mNx, mRaise, mAnd, mOr, mNot, mIf, tstB, tstAnd, tstOr, tstNot, mChain, bind_ok, bind_err, bind_no, toS_ok, toS_err, nox_ok, fin_nx, fin_rt, fin_err, startL, List.map_cons, List.map_nil, List.length_cons, List.length_nil, List.cons_append, List.nil_append, List.getElem?_cons_zero, List.getElem?_cons_succ, List.set_cons_zero, List.set_cons_succ, List.replicate_succ, List.replicate_zero, Nat.zero_add, Nat.reduceAdd, Nat.reduceSub, Nat.add_one_sub_one, Nat.sub_self, if_true, if_false, ite_true, ite_false, Bool.false_eq_true, reduceCtorEq, if_pos, Nat.reduceEqDiff, Nat.reduceLeDiff, decide_true, decide_false, Bool.not_true, Bool.not_false, mTry, cp]
  cases placeB os.length d <;> simp only [mSeq, mExpr, mRet, mRetN, mIfS, mSet, mAug, mCall, mCons, mNil, mVar, mC, mOp, mUn, mApp, mTup, mLst, mNx, mRaise, mAnd, mOr, mNot, mIf, tstB, tstAnd, tstOr, tstNot, mChain, bind_ok, bind_err, bind_no, toS_ok, toS_err, nox_ok, fin_nx, fin_rt, fin_err, startL, List.map_cons, List.map_nil, List.length_cons, List.length_nil, List.cons_append, List.nil_append, List.getElem?_cons_zero, List.getElem?_cons_succ, List.set_cons_zero, List.set_cons_succ, List.replicate_succ, List.replicate_zero, Nat.zero_add, Nat.reduceAdd, Nat.reduceSub, Nat.add_one_sub_one, Nat.sub_self, if_true, if_false, ite_true, ite_false, Bool.false_eq_true, reduceCtorEq, if_pos, Nat.reduceEqDiff, Nat.reduceLeDiff, decide_true, decide_false, Bool.not_true, Bool.not_false, m1, m2, noErr]
end
end Pr

set_option Elab.async false
set_option linter.all false
set_option maxRecDepth 100000
set_option maxHeartbeats 4000000
/-! statements that are refused -/
namespace Pr
open PySem PySem.Spec PyProof.Rows L2 Core
def deepD : Nat → D
  | 0 => .tup [.str "arg"]
  | n + 1 => .tup [.str "not", deepD n]
def sendD : D := .tup [.str "send", .tup [.str "int", .int 0], .tup [.str "int", .int 1], .str "go", .tup [.str "int", .int 0]]
def S0 : List D := [(.tup [(.str "set"), (.str "zz"), (.tup [(.str "int"), (.int 1)])]), (.tup [(.str "set"), (.str "n")]), (.tup [(.str "set"), (.str "n"), (.tup [(.str "int"), (.int 1000)])]), (.tup [(.str "set"), (.str "n"), (.tup [(.str "int"), (.bl true)])]), (.tup [(.str "set"), (.str "n"), (.tup [(.str "add"), (.tup [(.str "arg")])])])]
def S1 (R1 : Nat) : List D := [(.tup [(.str "set"), (.str "n"), (.tup [(.str "div"), (.tup [(.str "arg")]), (.int 0)])]), (.tup [(.str "set"), (.str "n"), (.tup [(.str "mod"), (.tup [(.str "arg")]), (.int 1000)])]), (.tup [(.str "set"), (.str "n"), (.tup [(.str "field"), (.str "zz")])]), (.tup [(.str "set"), (.str "n"), (.ref R1)])]
def S2 : List D := [(.tup [(.str "set"), (.str "n"), (.tup [(.str "pow"), (.tup [(.str "arg")]), (.tup [(.str "arg")])])]), (.tup [(.str "set"), (.str "n"), (.tup [(.str "arg"), (.int 1)])]), (.tup [(.str "set"), (.str "n"), (deepD 7)]), (.tup [(.str "skip"), (.int 1)]), (.tup [(.str "stop")])]
def S3 : List D := [(.tup [(.str "send"), (.tup [(.str "int"), (.int 0)]), (.tup [(.str "int"), (.int 1)]), (.str "Go"), (.tup [(.str "int"), (.int 0)])]), (.tup [(.str "send"), (.tup [(.str "int"), (.int 0)]), (.tup [(.str "int"), (.int 1)]), (.str "go")]), (.tup [(.str "if"), (.tup [(.str "arg")]), (.tup []), (.tup [(.tup [(.str "skip")])])])]
def S4 (R1 : Nat) : List D := [(.tup [(.str "if"), (.tup [(.str "arg")]), (.tup [sendD, sendD, sendD]), (.tup (List.replicate 5 sendD))]), (.tup [(.str "if"), (.tup [(.str "arg")]), (.tup [(.tup [(.str "skip")])])]), (.int 7), (.tup [(.str "if"), (.tup [(.str "arg")]), (.ref R1), (.tup [(.tup [(.str "skip")])])])]
def S5 : List D := [(.tup [(.str "set"), (.str "n"), (.tup [(.str "add"), (deepD 6), (.tup [(.str "zz")])])]), (.tup [(.str "set"), (.int 5), (.tup [(.str "arg")])]), (.tup [])]
def BadS (d : D) : Prop := progR (fN.take 1) (.tup [d]) = some false ∧ progR (fN.take 2) (.tup [d]) = some false ∧ progR (fN.take 3) (.tup [d]) = some false
theorem all_nil {P : D → Prop} : ∀ d ∈ ([] : List D), P d := fun d h => absurd h List.not_mem_nil
theorem all_cons {P : D → Prop} {x : D} {r : List D} (h : P x) (t : ∀ d ∈ r, P d) : ∀ d ∈ x :: r, P d := fun d hd => by
  rcases List.mem_cons.mp hd with rfl | hd
  · exact h
  · exact t d hd
theorem all_app {P : D → Prop} {a b : List D} (h : ∀ d ∈ a, P d) (t : ∀ d ∈ b, P d) : ∀ d ∈ a ++ b, P d := fun d hd => by
  rcases List.mem_append.mp hd with hd | hd
  · exact h d hd
  · exact t d hd
theorem bad0 : ∀ d ∈ S0, BadS d := all_cons ⟨by kernel_rfl, by kernel_rfl, by kernel_rfl⟩ (all_cons ⟨by kernel_rfl, by kernel_rfl, by kernel_rfl⟩ (all_cons ⟨by kernel_rfl, by kernel_rfl, by kernel_rfl⟩ (all_cons ⟨by kernel_rfl, by kernel_rfl, by kernel_rfl⟩ (all_cons ⟨by kernel_rfl, by kernel_rfl, by kernel_rfl⟩ all_nil))))
theorem bad1 (r : Nat) : ∀ d ∈ S1 r, BadS d := all_cons ⟨by kernel_rfl, by kernel_rfl, by kernel_rfl⟩ (all_cons ⟨by kernel_rfl, by kernel_rfl, by kernel_rfl⟩ (all_cons ⟨by kernel_rfl, by kernel_rfl, by kernel_rfl⟩ (all_cons ⟨by kernel_rfl, by kernel_rfl, by kernel_rfl⟩ all_nil)))
theorem bad2 : ∀ d ∈ S2, BadS d := all_cons ⟨by kernel_rfl, by kernel_rfl, by kernel_rfl⟩ (all_cons ⟨by kernel_rfl, by kernel_rfl, by kernel_rfl⟩ (all_cons ⟨by kernel_rfl, by kernel_rfl, by kernel_rfl⟩ (all_cons ⟨by kernel_rfl, by kernel_rfl, by kernel_rfl⟩ (all_cons ⟨by kernel_rfl, by kernel_rfl, by kernel_rfl⟩ all_nil))))
theorem bad3 : ∀ d ∈ S3, BadS d := all_cons ⟨by kernel_rfl, by kernel_rfl, by kernel_rfl⟩ (all_cons ⟨by kernel_rfl, by kernel_rfl, by kernel_rfl⟩ (all_cons ⟨by kernel_rfl, by kernel_rfl, by kernel_rfl⟩ all_nil))
theorem bad4 (r : Nat) : ∀ d ∈ S4 r, BadS d := all_cons ⟨by kernel_rfl, by kernel_rfl, by kernel_rfl⟩ (all_cons ⟨by kernel_rfl, by kernel_rfl, by kernel_rfl⟩ (all_cons ⟨by kernel_rfl, by kernel_rfl, by kernel_rfl⟩ (all_cons ⟨by kernel_rfl, by kernel_rfl, by kernel_rfl⟩ all_nil)))
theorem bad5 : ∀ d ∈ S5, BadS d := all_cons ⟨by kernel_rfl, by kernel_rfl, by kernel_rfl⟩ (all_cons ⟨by kernel_rfl, by kernel_rfl, by kernel_rfl⟩ (all_cons ⟨by kernel_rfl, by kernel_rfl, by kernel_rfl⟩ all_nil))
section
variable {s : Mem} {k dr at_ : Nat}
theorem deep7 : call (k + 1) .law_deep [.int 7] s = .ok (deepD 7) s := by kernel_rfl
theorem deep6 : call (k + 1) .law_deep [.int 6] s = .ok (deepD 6) s := by kernel_rfl
theorem add_step {i : Nat} {mA : AM} {l : Core.Loc} {s sA : Mem} {ys xs : List D} {r : Nat} (hA : mA l sA = .ok ys s) (h3 : l[i]? = some (some (.ref r))) (hr : s[r]? = some (.lst xs)) (hl : xs.length + ys.length ≤ 100000) :
    mSet i (mOp Core.gAdd (mVar i) (mLst mA)) l sA = .nx (l.set i (some (.ref (s.length + 1)))) (s ++ [.lst ys] ++ [.lst (xs ++ ys)]) := by
  have r1 : (s ++ [Ob.lst ys])[r]? = some (.lst xs) := by rw [List.getElem?_append_left (List.getElem?_eq_some_iff.mp hr).1]; exact hr
  have ad := add_lst r1 (last_at (s := s) (u := .lst ys)) hl
  have hy : ys.length ≤ 100000 := by omega
  unfold mSet mOp mLst mVar
  rw [h3]
  simp only [bind_ok, hA, if_pos hy, ad, toS_ok, List.length_append, List.length_cons, List.length_nil, Nat.zero_add]
end
end Pr

set_option Elab.async false
set_option linter.all false
set_option maxRecDepth 100000
set_option maxHeartbeats 4000000
/-! the drawn bad statement -/
namespace Pr
open PySem PySem.Spec PyProof.Rows L2 Core
section
variable {s : Mem} {k dr at_ : Nat}
theorem app_keep {s t : Mem} {n : Nat} {o : Ob} (h : s[n]? = some o) : (s ++ t)[n]? = some o := by rw [List.getElem?_append_left (List.getElem?_eq_some_iff.mp h).1]; exact h
theorem add_ex {i : Nat} {mA : AM} {l : Core.Loc} {s t : Mem} {ys xs : List D} {r : Nat} (hA : mA l s = .ok ys (s ++ t)) (h3 : l[i]? = some (some (.ref r))) (hr : s[r]? = some (.lst xs)) (hl : xs.length + ys.length ≤ 100000) :
    ∃ r' t', mSet i (mOp Core.gAdd (mVar i) (mLst mA)) l s = .nx (l.set i (some (.ref r'))) (s ++ t') ∧ (s ++ t')[r']? = some (.lst (xs ++ ys)) ∧ (∃ t2, s ++ t' = s ++ t ++ t2) ∧ r < r' := by
  have q := add_step (sA := s) (s := s ++ t) hA h3 (app_keep hr) hl
  refine ⟨(s ++ t).length + 1, t ++ [.lst ys] ++ [.lst (xs ++ ys)], ?_, ?_, ⟨[.lst ys] ++ [.lst (xs ++ ys)], by simp⟩, by have := (List.getElem?_eq_some_iff.mp hr).1; simp; omega⟩
  · rw [q]; simp only [List.append_assoc]
  · have : s ++ (t ++ [Ob.lst ys] ++ [Ob.lst (xs ++ ys)]) = (s ++ t ++ [Ob.lst ys]) ++ [Ob.lst (xs ++ ys)] := by simp
    rw [this]
    have e : (s ++ t).length + 1 = (s ++ t ++ [Ob.lst ys]).length := by simp; omega
    rw [e]; exact last_at
abbrev A1 (k : Nat) : AM := (mCons (mTup (mCons (mC (.str "set")) (mCons (mC (.str "n")) (mCons (mTup (mCons (mC (.str "div")) (mCons (mTup (mCons (mC (.str "arg")) mNil)) (mCons (mC (.int 0)) mNil)))) mNil)))) (mCons (mTup (mCons (mC (.str "set")) (mCons (mC (.str "n")) (mCons (mTup (mCons (mC (.str "mod")) (mCons (mTup (mCons (mC (.str "arg")) mNil)) (mCons (mC (.int 1000)) mNil)))) mNil)))) (mCons (mTup (mCons (mC (.str "set")) (mCons (mC (.str "n")) (mCons (mTup (mCons (mC (.str "field")) (mCons (mC (.str "zz")) mNil))) mNil)))) (mCons (mTup (mCons (mC (.str "set")) (mCons (mC (.str "n")) (mCons (mLst (mCons (mC (.str "arg")) mNil)) mNil)))) mNil))))
abbrev A2 (k : Nat) : AM := (mCons (mTup (mCons (mC (.str "set")) (mCons (mC (.str "n")) (mCons (mTup (mCons (mC (.str "pow")) (mCons (mTup (mCons (mC (.str "arg")) mNil)) (mCons (mTup (mCons (mC (.str "arg")) mNil)) mNil)))) mNil)))) (mCons (mTup (mCons (mC (.str "set")) (mCons (mC (.str "n")) (mCons (mTup (mCons (mC (.str "arg")) (mCons (mC (.int 1)) mNil))) mNil)))) (mCons (mTup (mCons (mC (.str "set")) (mCons (mC (.str "n")) (mCons (mCall 1 (call (k + 1) .law_deep) (mCons (mC (.int 7)) mNil)) mNil)))) (mCons (mTup (mCons (mC (.str "skip")) (mCons (mC (.int 1)) mNil))) (mCons (mTup (mCons (mC (.str "stop")) mNil)) mNil)))))
abbrev A3 (k : Nat) : AM := (mCons (mTup (mCons (mC (.str "send")) (mCons (mTup (mCons (mC (.str "int")) (mCons (mC (.int 0)) mNil))) (mCons (mTup (mCons (mC (.str "int")) (mCons (mC (.int 1)) mNil))) (mCons (mC (.str "Go")) (mCons (mTup (mCons (mC (.str "int")) (mCons (mC (.int 0)) mNil))) mNil)))))) (mCons (mTup (mCons (mC (.str "send")) (mCons (mTup (mCons (mC (.str "int")) (mCons (mC (.int 0)) mNil))) (mCons (mTup (mCons (mC (.str "int")) (mCons (mC (.int 1)) mNil))) (mCons (mC (.str "go")) mNil))))) (mCons (mTup (mCons (mC (.str "if")) (mCons (mTup (mCons (mC (.str "arg")) mNil)) (mCons (mTup mNil) (mCons (mTup (mCons (mTup (mCons (mC (.str "skip")) mNil)) mNil)) mNil))))) mNil)))
abbrev A4 (k : Nat) : AM := (mCons (mTup (mCons (mC (.str "if")) (mCons (mTup (mCons (mC (.str "arg")) mNil)) (mCons (mTup (mCons (mVar 2) (mCons (mVar 2) (mCons (mVar 2) mNil)))) (mCons (mOp gMulA (mTup (mCons (mVar 2) mNil)) (mC (.int 5))) mNil))))) (mCons (mTup (mCons (mC (.str "if")) (mCons (mTup (mCons (mC (.str "arg")) mNil)) (mCons (mTup (mCons (mTup (mCons (mC (.str "skip")) mNil)) mNil)) mNil)))) (mCons (mC (.int 7)) (mCons (mTup (mCons (mC (.str "if")) (mCons (mTup (mCons (mC (.str "arg")) mNil)) (mCons (mLst (mCons (mTup (mCons (mC (.str "skip")) mNil)) mNil)) (mCons (mTup (mCons (mTup (mCons (mC (.str "skip")) mNil)) mNil)) mNil))))) mNil))))
abbrev A5 (k : Nat) : AM := (mCons (mTup (mCons (mC (.str "set")) (mCons (mC (.str "n")) (mCons (mTup (mCons (mC (.str "add")) (mCons (mCall 1 (call (k + 1) .law_deep) (mCons (mC (.int 6)) mNil)) (mCons (mTup (mCons (mC (.str "zz")) mNil)) mNil)))) mNil)))) (mCons (mTup (mCons (mC (.str "set")) (mCons (mC (.int 5)) (mCons (mTup (mCons (mC (.str "arg")) mNil)) mNil)))) (mCons (mTup mNil) mNil)))
/-- the drawn bad statement, and where its lists stand -/
def StmP (d : D) (s : Mem) : Prop := BadS d ∧ liv s d = true
theorem c_law_statement (g : Gs dr at_ s) : ∃ d s', call (k + 2) .law_statement [.ref dr, .ref at_] s = .ok d s' ∧ StmP d s' ∧ Gs dr at_ s' ∧ Gt at_ s s' := by
  show ∃ d s', Core.fin (m_law_statement (call (k + 1)) [some (.ref dr), some (.ref at_), none, none] s) = .ok d s' ∧ _
  have l0 : (mSet 2 (mTup (mCons (mC (.str "send")) (mCons (mTup (mCons (mC (.str "int")) (mCons (mC (.int 0)) mNil))) (mCons (mTup (mCons (mC (.str "int")) (mCons (mC (.int 1)) mNil))) (mCons (mC (.str "go")) (mCons (mTup (mCons (mC (.str "int")) (mCons (mC (.int 0)) mNil))) mNil))))))) [some (.ref dr), some (.ref at_), none, none] s = .nx [some (.ref dr), some (.ref at_), some sendD, none] s := by simp only [mSeq, mExpr, mRet, mRetN, mIfS, mSet, mAug, mCall, mCons, mNil, mVar, mC, mOp, mUn, mApp, mTup, mLst, mNx, mRaise, mAnd, mOr, mNot, mIf, tstB, tstAnd, tstOr, tstNot, mChain, bind_ok, bind_err, bind_no, toS_ok, toS_err, nox_ok, fin_nx, fin_rt, fin_err, startL, List.map_cons, List.map_nil, List.length_cons, List.length_nil, List.cons_append, List.nil_append, List.getElem?_cons_zero, List.getElem?_cons_succ, List.set_cons_zero, List.set_cons_succ, List.replicate_succ, List.replicate_zero, Nat.zero_add, Nat.reduceAdd, Nat.reduceSub, Nat.add_one_sub_one, Nat.sub_self, if_true, if_false, ite_true, ite_false, Bool.false_eq_true, reduceCtorEq, if_pos, Nat.reduceEqDiff, Nat.reduceLeDiff, decide_true, decide_false, Bool.not_true, Bool.not_false]; rfl
  have mul : gMulA (.tup [sendD]) (.int 5) = fun s => .ok (.tup (List.replicate 5 sendD)) s := by rfl
  unfold m_law_statement
  rw [seq_nx l0]
  rw [seq_nx (l1 := [some (.ref dr), some (.ref at_), some sendD, some (.ref s.length)]) (s1 := s ++ [.lst S0]) (by simp only [mSeq, mExpr, mRet, mRetN, mIfS, mSet, mAug, mCall, mCons, mNil, mVar, mC, mOp, mUn, mApp, mTup, mLst, mNx, mRaise, mAnd, mOr, mNot, mIf, tstB, tstAnd, tstOr, tstNot, mChain, bind_ok, bind_err, bind_no, toS_ok, toS_err, nox_ok, fin_nx, fin_rt, fin_err, startL, List.map_cons, List.map_nil, List.length_cons, List.length_nil, List.cons_append, List.nil_append, List.getElem?_cons_zero, List.getElem?_cons_succ, List.set_cons_zero, List.set_cons_succ, List.replicate_succ, List.replicate_zero, Nat.zero_add, Nat.reduceAdd, Nat.reduceSub, Nat.add_one_sub_one, Nat.sub_self, if_true, if_false, ite_true, ite_false, Bool.false_eq_true, reduceCtorEq, if_pos, Nat.reduceEqDiff, Nat.reduceLeDiff, decide_true, decide_false, Bool.not_true, Bool.not_false]; rfl)]
  -- 1
  obtain ⟨r1, t1, e1, x1, ⟨u1, w1⟩, o1⟩ := add_ex (i := 3) (mA := A1 k) (l := [some (.ref dr), some (.ref at_), some sendD, some (.ref s.length)]) (s := s ++ [.lst S0]) (t := [.lst [.str "arg"]]) (ys := S1 (s ++ [Ob.lst S0]).length) (r := s.length) (by simp only [mSeq, mExpr, mRet, mRetN, mIfS, mSet, mAug, mCall, mCons, mNil, mVar, mC, mOp, mUn, mApp, mTup, mLst, mNx, mRaise, mAnd, mOr, mNot, mIf, tstB, tstAnd, tstOr, tstNot, mChain, bind_ok, bind_err, bind_no, toS_ok, toS_err, nox_ok, fin_nx, fin_rt, fin_err, startL, List.map_cons, List.map_nil, List.length_cons, List.length_nil, List.cons_append, List.nil_append, List.getElem?_cons_zero, List.getElem?_cons_succ, List.set_cons_zero, List.set_cons_succ, List.replicate_succ, List.replicate_zero, Nat.zero_add, Nat.reduceAdd, Nat.reduceSub, Nat.add_one_sub_one, Nat.sub_self, if_true, if_false, ite_true, ite_false, Bool.false_eq_true, reduceCtorEq, if_pos, Nat.reduceEqDiff, Nat.reduceLeDiff, decide_true, decide_false, Bool.not_true, Bool.not_false]; rfl) rfl last_at (by show 5 + 4 ≤ 100000; omega)
  rw [seq_nx e1]
  have a1 : (s ++ [Ob.lst S0] ++ t1)[(s ++ [Ob.lst S0]).length]? = some (.lst [.str "arg"]) := by rw [w1]; exact app_keep last_at
  obtain ⟨Y1, hY1⟩ : ∃ Y, Y = s ++ [Ob.lst S0] ++ t1 := ⟨_, rfl⟩
  obtain ⟨R1, hR1⟩ : ∃ R, R = (s ++ [Ob.lst S0]).length := ⟨_, rfl⟩
  rw [← hR1] at x1 a1
  rw [← hY1] at x1 a1 ⊢
  have y1 : ∃ t, Y1 = s ++ t := ⟨[Ob.lst S0] ++ t1, by rw [hY1]; simp⟩
  -- 2
  obtain ⟨r2, t2, e2, x2, _, o2⟩ := add_ex (i := 3) (mA := A2 k) (l := [some (.ref dr), some (.ref at_), some sendD, some (.ref r1)]) (s := Y1) (t := []) (ys := S2) (r := r1) (by simp only [mSeq, mExpr, mRet, mRetN, mIfS, mSet, mAug, mCall, mCons, mNil, mVar, mC, mOp, mUn, mApp, mTup, mLst, mNx, mRaise, mAnd, mOr, mNot, mIf, tstB, tstAnd, tstOr, tstNot, mChain, bind_ok, bind_err, bind_no, toS_ok, toS_err, nox_ok, fin_nx, fin_rt, fin_err, startL, List.map_cons, List.map_nil, List.length_cons, List.length_nil, List.cons_append, List.nil_append, List.getElem?_cons_zero, List.getElem?_cons_succ, List.set_cons_zero, List.set_cons_succ, List.replicate_succ, List.replicate_zero, Nat.zero_add, Nat.reduceAdd, Nat.reduceSub, Nat.add_one_sub_one, Nat.sub_self, if_true, if_false, ite_true, ite_false, Bool.false_eq_true, reduceCtorEq, if_pos, Nat.reduceEqDiff, Nat.reduceLeDiff, decide_true, decide_false, Bool.not_true, Bool.not_false, deep7]; rw [List.append_nil]; rfl) rfl x1 (by show 9 + 5 ≤ 100000; omega)
  rw [show ([some (.ref dr), some (.ref at_), some sendD, some (.ref s.length)] : Core.Loc).set 3 (some (.ref r1)) = [some (.ref dr), some (.ref at_), some sendD, some (.ref r1)] from rfl, seq_nx e2]
  -- 3
  obtain ⟨r3, t3, e3, x3, _, o3⟩ := add_ex (i := 3) (mA := A3 k) (l := [some (.ref dr), some (.ref at_), some sendD, some (.ref r2)]) (s := Y1 ++ t2) (t := []) (ys := S3) (r := r2) (by simp only [mSeq, mExpr, mRet, mRetN, mIfS, mSet, mAug, mCall, mCons, mNil, mVar, mC, mOp, mUn, mApp, mTup, mLst, mNx, mRaise, mAnd, mOr, mNot, mIf, tstB, tstAnd, tstOr, tstNot, mChain, bind_ok, bind_err, bind_no, toS_ok, toS_err, nox_ok, fin_nx, fin_rt, fin_err, startL, List.map_cons, List.map_nil, List.length_cons, List.length_nil, List.cons_append, List.nil_append, List.getElem?_cons_zero, List.getElem?_cons_succ, List.set_cons_zero, List.set_cons_succ, List.replicate_succ, List.replicate_zero, Nat.zero_add, Nat.reduceAdd, Nat.reduceSub, Nat.add_one_sub_one, Nat.sub_self, if_true, if_false, ite_true, ite_false, Bool.false_eq_true, reduceCtorEq, if_pos, Nat.reduceEqDiff, Nat.reduceLeDiff, decide_true, decide_false, Bool.not_true, Bool.not_false]; rw [List.append_nil]; rfl) rfl x2 (by show 9 + 5 + 3 ≤ 100000; omega)
  rw [show ([some (.ref dr), some (.ref at_), some sendD, some (.ref r1)] : Core.Loc).set 3 (some (.ref r2)) = [some (.ref dr), some (.ref at_), some sendD, some (.ref r2)] from rfl, seq_nx e3]
  -- 4
  obtain ⟨R2, hR2⟩ : ∃ R, R = (Y1 ++ t2 ++ t3).length := ⟨_, rfl⟩
  obtain ⟨r4, t4, e4, x4, ⟨u4, w4⟩, o4⟩ := add_ex (i := 3) (mA := A4 k) (l := [some (.ref dr), some (.ref at_), some sendD, some (.ref r3)]) (s := Y1 ++ t2 ++ t3) (t := [.lst [.tup [.str "skip"]]]) (ys := S4 R2) (r := r3) (by simp only [mSeq, mExpr, mRet, mRetN, mIfS, mSet, mAug, mCall, mCons, mNil, mVar, mC, mOp, mUn, mApp, mTup, mLst, mNx, mRaise, mAnd, mOr, mNot, mIf, tstB, tstAnd, tstOr, tstNot, mChain, bind_ok, bind_err, bind_no, toS_ok, toS_err, nox_ok, fin_nx, fin_rt, fin_err, startL, List.map_cons, List.map_nil, List.length_cons, List.length_nil, List.cons_append, List.nil_append, List.getElem?_cons_zero, List.getElem?_cons_succ, List.set_cons_zero, List.set_cons_succ, List.replicate_succ, List.replicate_zero, Nat.zero_add, Nat.reduceAdd, Nat.reduceSub, Nat.add_one_sub_one, Nat.sub_self, if_true, if_false, ite_true, ite_false, Bool.false_eq_true, reduceCtorEq, if_pos, Nat.reduceEqDiff, Nat.reduceLeDiff, decide_true, decide_false, Bool.not_true, Bool.not_false, mul]; rw [hR2]; rfl) rfl x3 (by show 9 + 5 + 3 + 4 ≤ 100000; omega)
  rw [show ([some (.ref dr), some (.ref at_), some sendD, some (.ref r2)] : Core.Loc).set 3 (some (.ref r3)) = [some (.ref dr), some (.ref at_), some sendD, some (.ref r3)] from rfl, seq_nx e4]
  have a4 : (Y1 ++ t2 ++ t3 ++ t4)[R2]? = some (.lst [.tup [.str "skip"]]) := by rw [w4, hR2]; exact app_keep last_at
  -- 5
  obtain ⟨r5, t5, e5, x5, _, o5⟩ := add_ex (i := 3) (mA := A5 k) (l := [some (.ref dr), some (.ref at_), some sendD, some (.ref r4)]) (s := Y1 ++ t2 ++ t3 ++ t4) (t := []) (ys := S5) (r := r4) (by simp only [mSeq, mExpr, mRet, mRetN, mIfS, mSet, mAug, mCall, mCons, mNil, mVar, mC, mOp, mUn, mApp, mTup, mLst, mNx, mRaise, mAnd, mOr, mNot, mIf, tstB, tstAnd, tstOr, tstNot, mChain, bind_ok, bind_err, bind_no, toS_ok, toS_err, nox_ok, fin_nx, fin_rt, fin_err, startL, List.map_cons, List.map_nil, List.length_cons, List.length_nil, List.cons_append, List.nil_append, List.getElem?_cons_zero, List.getElem?_cons_succ, List.set_cons_zero, List.set_cons_succ, List.replicate_succ, List.replicate_zero, Nat.zero_add, Nat.reduceAdd, Nat.reduceSub, Nat.add_one_sub_one, Nat.sub_self, if_true, if_false, ite_true, ite_false, Bool.false_eq_true, reduceCtorEq, if_pos, Nat.reduceEqDiff, Nat.reduceLeDiff, decide_true, decide_false, Bool.not_true, Bool.not_false, deep6]; rw [List.append_nil]; rfl) rfl x4 (by show 9 + 5 + 3 + 4 + 3 ≤ 100000; omega)
  rw [show ([some (.ref dr), some (.ref at_), some sendD, some (.ref r3)] : Core.Loc).set 3 (some (.ref r4)) = [some (.ref dr), some (.ref at_), some sendD, some (.ref r4)] from rfl, seq_nx e5]
  have a1' : (Y1 ++ t2 ++ t3 ++ t4 ++ t5)[R1]? = some (.lst [.str "arg"]) := app_keep (app_keep (app_keep (app_keep a1)))
  have a4' : (Y1 ++ t2 ++ t3 ++ t4 ++ t5)[R2]? = some (.lst [.tup [.str "skip"]]) := app_keep a4
  obtain ⟨u, rfl⟩ := y1
  have g5 : Gs dr at_ (s ++ u ++ t2 ++ t3 ++ t4 ++ t5) := g.app.app.app.app.app
  obtain ⟨_, s6, q6, ⟨v6, rfl, b6, c6⟩, g6, t6⟩ := c_law_next (k := k) g5 (many := 24) (by omega)
  have t06 : Gt at_ s s6 := Gt.app.trans (Gt.app.trans (Gt.app.trans (Gt.app.trans (Gt.app.trans t6))))
  have al := g.lt
  have x6 := t6.old r5 _ (by omega) x5
  have l6 : ∀ r : Nat, s6[r5]? = some (.lst (S0 ++ S1 R1 ++ S2 ++ S3 ++ S4 R2 ++ S5)) → (S0 ++ S1 R1 ++ S2 ++ S3 ++ S4 R2 ++ S5).length = 24 := fun _ _ => rfl
  obtain ⟨i, hi, rfl, p6⟩ := pickL x6 b6 (by rw [l6 0 x6]; exact c6)
  have R1_at : R1 ≠ at_ := by rw [hR1]; simp; omega
  have R2_at : R2 ≠ at_ := by rw [hR2]; simp; omega
  have f1 := t6.old R1 _ R1_at a1'
  have f4 := t6.old R2 _ R2_at a4'
  have v1 : liv s6 (.ref R1) = true := by unfold liv; rw [f1]
  have v2 : liv s6 (.ref R2) = true := by unfold liv; rw [f4]
  have p0 : ∀ d ∈ S0, pl 14 d = true := by decide +kernel
  have p2 : ∀ d ∈ S2, pl 14 d = true := by decide +kernel
  have p3 : ∀ d ∈ S3, pl 14 d = true := by decide +kernel
  have p5 : ∀ d ∈ S5, pl 14 d = true := by decide +kernel
  have ws : ∀ z ∈ (["set", "n", "if"] : List Str), liv s6 (.str z) = true := fun z hz => pl_liv (n := 1) ((show ∀ z ∈ (["set", "n", "if"] : List Str), pl 1 (.str z) = true by decide +kernel) z hz)
  have lv : ∀ d ∈ S0 ++ S1 R1 ++ S2 ++ S3 ++ S4 R2 ++ S5, liv s6 d = true := by
    refine all_app (all_app (all_app (all_app (all_app (fun d hd => pl_liv (p0 d hd)) ?_) (fun d hd => pl_liv (p2 d hd))) (fun d hd => pl_liv (p3 d hd))) ?_) (fun d hd => pl_liv (p5 d hd))
    · refine all_cons (pl_liv (n := 14) (by decide +kernel)) (all_cons (pl_liv (n := 14) (by decide +kernel)) (all_cons (pl_liv (n := 14) (by decide +kernel)) (all_cons ?_ all_nil)))
      show livs s6 [.str "set", .str "n", .ref R1] = true
      exact livs_all (all_cons (ws _ (by decide +kernel)) (all_cons (ws _ (by decide +kernel)) (all_cons v1 all_nil)))
    · refine all_cons (pl_liv (n := 14) (by decide +kernel)) (all_cons (pl_liv (n := 14) (by decide +kernel)) (all_cons (pl_liv (n := 14) (by decide +kernel)) (all_cons ?_ all_nil)))
      show livs s6 [.str "if", .tup [.str "arg"], .ref R2, .tup [.tup [.str "skip"]]] = true
      exact livs_all (all_cons (ws _ (by decide +kernel)) (all_cons (pl_liv (n := 14) (by decide +kernel)) (all_cons v2 (all_cons (pl_liv (n := 14) (by decide +kernel)) all_nil))))
  have bd : ∀ d ∈ S0 ++ S1 R1 ++ S2 ++ S3 ++ S4 R2 ++ S5, BadS d := all_app (all_app (all_app (all_app (all_app bad0 (bad1 _)) bad2) bad3) (bad4 _)) bad5
  refine ⟨_, s6, ?_, ⟨bd _ (List.getElem_mem hi), lv _ (List.getElem_mem hi)⟩, g6, t06⟩
  have ln : gLen [.ref r5] (s ++ u ++ t2 ++ t3 ++ t4 ++ t5) = .ok (.int 24) (s ++ u ++ t2 ++ t3 ++ t4 ++ t5) := by unfold gLen; dsimp only; rw [sq_lst x5]; rfl
  simp only [mSeq, mExpr, mRet, mRetN, mIfS, mSet, mAug, mCall, mCons, mNil, mVar, mC, mOp, mUn, mApp, mTup, mLst, mNx, mRaise, mAnd, mOr, mNot, mIf, tstB, tstAnd, tstOr, tstNot, mChain, bind_ok, bind_err, bind_no, toS_ok, toS_err, nox_ok, fin_nx, fin_rt, fin_err, startL, List.map_cons, List.map_nil, List.length_cons, List.length_nil, List.cons_append, List.nil_append, List.getElem?_cons_zero, List.getElem?_cons_succ, List.set_cons_zero, List.set_cons_succ, List.replicate_succ, List.replicate_zero, Nat.zero_add, Nat.reduceAdd, Nat.reduceSub, Nat.add_one_sub_one, Nat.sub_self, if_true, if_false, ite_true, ite_false, Bool.false_eq_true, reduceCtorEq, if_pos, Nat.reduceEqDiff, Nat.reduceLeDiff, decide_true, decide_false, Bool.not_true, Bool.not_false, ln, q6, p6]
end
end Pr

set_option Elab.async false
set_option linter.all false
set_option maxRecDepth 100000
set_option maxHeartbeats 4000000
/-! changed models are refused -/
namespace Pr
open PySem PySem.Spec PyProof.Rows L2 Core
def boxD : D := .str "box"
structure MF (j ji : Nat) (ks os st : List D) (e : Int) (fs hs : List D) : Prop where
  j1 : 1 ≤ j
  j2 : j ≤ 2
  t : Two KnP ((List.range j).map fun (i : Nat) => D.int (0 + (i : Int))) ks
  o1 : 1 ≤ os.length
  o2 : os.length ≤ 8
  ho : ∀ o ∈ os, ObP j o
  s8 : st.length ≤ 8
  ev : ∀ y ∈ st, EvP os.length e y
  e0 : 0 ≤ e
  e1 : e ≤ 30
  fst : ∃ r, ks = .tup [boxD, .tup fs, .tup hs] :: r
  f1 : 1 ≤ ji
  f2 : ji ≤ 3
  fs_ : Two FldP ((fN.take ji).map D.str) fs
  hs_ : ∃ i, 1 ≤ i ∧ i ≤ 3 ∧ Two (HndP (fN.take ji)) ((hN.take i).map D.str) hs
theorem mf_of {d : D} (h : ModelP d) : ∃ j ji ks os st e fs hs, d = .tup [.tup ks, .tup os, .tup st, .int e] ∧ MF j ji ks os st e fs hs := by
  obtain ⟨j, ks, os, st, e, rfl, h1, h2, t, h3, h4, ho, h5, he, h6, h7⟩ := h
  obtain ⟨_, _, _, y, r, e1, k⟩ := kn_hd h1 h2 t
  obtain ⟨ji, i, fs, hs, a1, a2, a3, a4, e2, t1, t2⟩ := k
  exact ⟨j, ji, ks, os, st, e, fs, hs, rfl, h1, h2, t, h3, h4, ho, h5, he, h6, h7, ⟨r, by rw [e1, e2]; rfl⟩, a1, a2, t1, ⟨i, a3, a4, t2⟩⟩
section
variable {j ji : Nat} {ks os st fs hs : List D} {e : Int} {K O S E : D}
theorem mv1 (h : kindsV K = some false) : modelV (.tup [K, O, S, E]) = some false := by
  show (match kindsV K with
    | some true => match objsV (fnames K) O with
      | some true => some (endB O S E)
      | x => x
    | x => x) = _
  rw [h]
theorem mv2 (h : kindsV K = some true) (h2 : objsV (fnames K) O = some false) : modelV (.tup [K, O, S, E]) = some false := by
  show (match kindsV K with
    | some true => match objsV (fnames K) O with
      | some true => some (endB O S E)
      | x => x
    | x => x) = _
  rw [h]
  show (match objsV (fnames K) O with
      | some true => some (endB O S E)
      | x => x) = _
  rw [h2]
variable (M : MF j ji ks os st e fs hs)
include M
theorem MF.ok : kindsV (.tup ks) = some true ∧ objsV (fnames (.tup ks)) (.tup os) = some true := by
  obtain ⟨a, b⟩ := kinds_ok M.j1 M.j2 M.t
  exact ⟨a, by rw [b]; exact objs_ok M.o1 M.o2 M.ho⟩
theorem MF.mv (h : endB (.tup os) S E = false) : modelV (.tup [.tup ks, .tup os, S, E]) = some false := by rw [modelV_at M.ok.1 M.ok.2, h]
theorem MF.start {x : D} (h : eventB os.length e x = false) : endB (.tup os) (.tup (st ++ [x])) (.int e) = false := by
  show (tyI (.int e) 0 1000 && startB (.tup (st ++ [x])) (os.length : Int) e) = false
  have : startB (.tup (st ++ [x])) (os.length : Int) e = false := by
    unfold startB
    show (tupB (.tup (st ++ [x])) 0 12 && (st ++ [x]).all (eventB os.length e)) = false
    have : (st ++ [x]).all (eventB os.length e) = false := by rw [List.all_append, List.all_cons, h]; simp
    rw [this, Bool.and_false]
  rw [this, Bool.and_false]
theorem MF.kl : ks.length = j ∧ (∀ y ∈ ks, kindV y = some true) := by
  obtain ⟨_, b, c, _⟩ := kn_hd M.j1 M.j2 M.t
  exact ⟨b, fun y hy => let ⟨z, _, k⟩ := c y hy; kind_ok k⟩
theorem MF.kb1 {b : D} (h : kindV b = some false) : modelV (.tup [.tup (b :: ks.drop 1), O, S, E]) = some false := by
  refine mv1 ?_
  have hl := M.kl.1
  have j1 := M.j1
  have j2 := M.j2
  unfold kindsV
  rw [tupB_at (by rw [List.length_cons, List.length_drop]; omega) (by rw [List.length_cons, List.length_drop]; omega), if_pos rfl]
  show (match allV kindV (b :: ks.drop 1) with
    | some true => some (diffB ((b :: ks.drop 1).map hdD))
    | x => x) = _
  unfold allV
  rw [h]
theorem MF.kb2 {b : D} (h : kindV b = some true) (hn : nameB (hdD b) = false) : modelV (.tup [.tup (b :: ks.drop 1), O, S, E]) = some false := by
  refine mv1 ?_
  have hl := M.kl.1
  have j1 := M.j1
  have j2 := M.j2
  unfold kindsV
  rw [tupB_at (by rw [List.length_cons, List.length_drop]; omega) (by rw [List.length_cons, List.length_drop]; omega), if_pos rfl]
  show (match allV kindV (b :: ks.drop 1) with
    | some true => some (diffB ((b :: ks.drop 1).map hdD))
    | x => x) = _
  rw [allV_all (all_cons h fun d hd => M.kl.2 d (List.mem_of_mem_drop hd))]
  show some (diffB (hdD b :: (ks.drop 1).map hdD)) = _
  unfold diffB
  rw [List.all_cons, hn]; rfl
theorem MF.fl : fieldsB (.tup fs) = true ∧ fnames (.tup fs) = fN.take ji ∧ fs.length = ji := fields_ok M.f1 M.f2 M.fs_
theorem MF.hl : handsV (fN.take ji) (.tup hs) = some true ∧ hs.length ≤ 3 ∧ 1 ≤ hs.length := by
  obtain ⟨i, h1, h2, t⟩ := M.hs_
  obtain ⟨a, b⟩ := hands_ok h1 h2 t
  exact ⟨a, by omega, by omega⟩
theorem MF.kOf {z : D} : kindV (.tup [z, .tup fs, .tup hs]) = some true := by
  show (if fieldsB (.tup fs) = true then handsV (fnames (.tup fs)) (.tup hs) else some false) = some true
  rw [if_pos M.fl.1, M.fl.2.1]; exact M.hl.1
omit M in
theorem kF {z F H : D} (h : fieldsB F = false) : kindV (.tup [z, F, H]) = some false := by
  show (if fieldsB F = true then handsV (fnames F) H else some false) = some false
  rw [if_neg (by rw [h]; exact Bool.false_ne_true)]
theorem MF.kH {z H : D} (h : handsV (fN.take ji) H = some false) : kindV (.tup [z, .tup fs, H]) = some false := by
  show (if fieldsB (.tup fs) = true then handsV (fnames (.tup fs)) H else some false) = some false
  rw [if_pos M.fl.1, M.fl.2.1]; exact h
omit M in
theorem f1bad {x : D} (h : fieldB x = false) : fieldsB (.tup [x]) = false := by
  unfold fieldsB
  show (tupB (.tup [x]) 1 4 && ([x].all fieldB && diffB ([x].map hdD))) = false
  have : [x].all fieldB = false := by rw [List.all_cons, h]; rfl
  rw [this, Bool.false_and, Bool.and_false]
omit M in
theorem h1bad {names : List Str} {P : D} (h : progR names P = some false) : handsV names (.tup [.tup [.str "go", P]]) = some false := by
  unfold handsV
  rw [tupB_at (by show (0 : Int) ≤ (1 : Nat); omega) (by show ((1 : Nat) : Int) ≤ 4; omega), if_pos rfl]
  show (match allV (handV names) [.tup [.str "go", P]] with
    | some true => _
    | x => x) = _
  unfold allV
  rw [show handV names (.tup [.str "go", P]) = progR names P from rfl, h]
theorem MF.ji3 {P : Nat → Prop} (h1 : P 1) (h2 : P 2) (h3 : P 3) : P ji := by
  have a := M.f1
  have b := M.f2
  have : ji = 1 ∨ ji = 2 ∨ ji = 3 := by omega
  rcases this with rfl | rfl | rfl
  · exact h1
  · exact h2
  · exact h3
theorem MF.ff : fieldsB (.tup (fs ++ fs)) = false := by
  have hh : fs.map hdD = (fN.take ji).map D.str := M.fs_.hd fun d y ⟨one, lo, hi, e1, e2, _⟩ => by rw [e1, e2]; rfl
  have hd : diffB ((fs ++ fs).map hdD) = false := by
    rw [List.map_append, hh]
    exact M.ji3 (P := fun ji => diffB ((fN.take ji).map D.str ++ (fN.take ji).map D.str) = false) (by decide +kernel) (by decide +kernel) (by decide +kernel)
  unfold fieldsB
  show (tupB (.tup (fs ++ fs)) 1 4 && ((fs ++ fs).all fieldB && diffB ((fs ++ fs).map hdD))) = false
  rw [hd, Bool.and_false, Bool.and_false]
theorem MF.hh : handsV (fN.take ji) (.tup (hs ++ hs.take 1)) = some false := by
  obtain ⟨i, h1, h2, t⟩ := M.hs_
  have hl : hs.length = i := by rw [t.len, two_hlen h2]
  have hh : hs.map hdD = (hN.take i).map D.str := t.hd fun d y ⟨p, e, _⟩ => by rw [e]; rfl
  have ha : ∀ y ∈ hs, handV (fN.take ji) y = some true := t.all (Q := fun y => handV (fN.take ji) y = some true) fun d y ⟨p, e, pp⟩ => by rw [e]; exact pp.1
  have hd : diffB ((hs ++ hs.take 1).map hdD) = false := by
    rw [List.map_append, List.map_take, hh]
    have : i = 1 ∨ i = 2 ∨ i = 3 := by omega
    rcases this with rfl | rfl | rfl <;> decide +kernel
  unfold handsV
  rw [tupB_at (by omega) (by rw [List.length_append, List.length_take]; omega), if_pos rfl]
  show (match allV (handV (fN.take ji)) (hs ++ hs.take 1) with
    | some true => some (diffB ((hs ++ hs.take 1).map hdD))
    | x => x) = _
  rw [allV_all (all_app ha fun y hy => ha y (List.mem_of_mem_take hy))]
  show some (diffB ((hs ++ hs.take 1).map hdD)) = _
  rw [hd]
theorem MF.kk : kindsV (.tup (ks ++ ks.take 1)) = some false := by
  obtain ⟨a, b, _⟩ := kn_hd M.j1 M.j2 M.t
  have j1 := M.j1
  have j2 := M.j2
  have hd : diffB ((ks ++ ks.take 1).map hdD) = false := by
    rw [List.map_append, List.map_take, a]
    have : j = 1 ∨ j = 2 := by omega
    rcases this with rfl | rfl <;> decide +kernel
  unfold kindsV
  rw [tupB_at (by rw [List.length_append]; omega) (by rw [List.length_append, List.length_take]; omega), if_pos rfl]
  show (match allV kindV (ks ++ ks.take 1) with
    | some true => some (diffB ((ks ++ ks.take 1).map hdD))
    | x => x) = _
  rw [allV_all (all_app M.kl.2 fun y hy => M.kl.2 y (List.mem_of_mem_take hy))]
  show some (diffB ((ks ++ ks.take 1).map hdD)) = _
  rw [hd]
theorem MF.oz : objsV (fnames (.tup ks)) (.tup (os ++ [.str "zz"])) = some false := by
  obtain ⟨_, b⟩ := kinds_ok M.j1 M.j2 M.t
  have j1 := M.j1
  have j2 := M.j2
  have key : ∀ l : List D, (∀ o ∈ l, ObP j o) → allV (inN (bN.take j)) (l ++ [.str "zz"]) = some false := by
    intro l
    induction l with
    | nil =>
      intro _
      have : j = 1 ∨ j = 2 := by omega
      rcases this with rfl | rfl <;> decide +kernel
    | cons o l ih =>
      intro h
      obtain ⟨z, hz, rfl⟩ := h o List.mem_cons_self
      rw [List.cons_append]
      unfold allV
      have : inN (bN.take j) (.str z) = some true := by
        show some ((bN.take j).any (· == z)) = some true
        rw [List.any_eq_true.mpr ⟨z, hz, by simp⟩]
      rw [this]
      exact ih fun x hx => h x (List.mem_cons_of_mem _ hx)
  rw [b]
  unfold objsV
  cases tupB (.tup (os ++ [.str "zz"])) 1 8 with
  | false => rfl
  | true =>
    rw [if_pos rfl]
    exact key os M.ho
end
end Pr

set_option Elab.async false
set_option linter.all false
set_option maxRecDepth 100000
set_option maxHeartbeats 4000000
/-! the changed models -/
namespace Pr
open PySem PySem.Spec PyProof.Rows L2 Core
def ev0 (n : D) (a : D) : D := .tup [.int 0, .int 0, n, a]
section
variable (ks os st fs hs : List D) (e : Int) (one : D)
def mkM (K O S E : D) : D := .tup [K, O, S, E]
def C0 (R : Nat) : List D := [.tup [.tup ks, .tup os, .tup st], .ref R, mkM (.tup ks) (.tup os) (.tup st) (.int (-1)), mkM (.tup ks) (.tup os) (.tup st) (.int 1001)]
def C1 : List D := [mkM (.tup ks) (.tup os) (.tup st) (.bl true), mkM (.tup []) (.tup os) (.tup st) (.int e), mkM (.tup ks) (.tup []) (.tup st) (.int e), mkM (.tup ks) (.tup (os ++ [.str "zz"])) (.tup st) (.int e)]
def C2 : List D := [mkM (.tup ks) (.tup (List.replicate 9 boxD)) (.tup st) (.int e), mkM (.tup (ks ++ ks.take 1)) (.tup os) (.tup st) (.int e), mkM (.tup ks) (.tup os) (.tup (st ++ [.tup [.int 0, .int 0, .str "go"]])) (.int e)]
def C3 : List D := [mkM (.tup ks) (.tup os) (.tup (st ++ [.tup [.int (e + 1), .int 0, .str "go", .int 0]])) (.int e), mkM (.tup ks) (.tup os) (.tup (st ++ [.tup [.int 0, .int os.length, .str "go", .int 0]])) (.int e)]
def C4 : List D := [mkM (.tup ks) (.tup os) (.tup (st ++ [ev0 (.str "go") (.int 1000)])) (.int e), mkM (.tup ks) (.tup os) (.tup (st ++ [ev0 (.str "") (.int 0)])) (.int e)]
def C5 (R1 R2 : Nat) : List D := [mkM (.tup ks) (.tup os) (.tup (List.replicate 13 (ev0 (.str "go") (.int 0)))) (.int e), mkM (.tup ks) (.tup os) (.ref R1) (.int e), mkM (.tup ks) (.ref R2) (.tup st) (.int e)]
def D0 : List D := [.tup [.str "Box", .tup fs, .tup hs], .tup [boxD, .tup [], .tup hs], .tup [boxD, .tup [.tup [one, .int 5, .int 4]], .tup hs], .tup [boxD, .tup (fs ++ fs), .tup hs]]
def D1 (R : Nat) : List D := [.tup [boxD, .tup [.tup [one, .int 0, .int 1000001]], .tup hs], .tup [boxD, .tup fs, .tup (hs ++ hs.take 1)], .tup [boxD, .ref R, .tup hs]]
def D2 (d : D) : List D := [.tup [boxD, .tup fs, .tup [.tup [.str "go", .tup []]]], .tup [boxD, .tup fs, .tup [.tup [.str "go", .tup [d]]]], .tup [boxD, .tup fs, .tup [.tup [.str "go"]]]]
def longD : D := .str (repS "a" 13)
def D3 : List D := [.tup [boxD, .tup fs, .tup [.tup [.str "go", .tup (List.replicate 81 skipD)]]], .tup [boxD, .tup [.tup [one, .bl false, .int 1]], .tup hs], .tup [boxD, .tup fs], .tup [longD, .tup fs, .tup hs]]
def argD : D := .tup [.str "arg"]
def snd5 : D := .tup [.str "send", argD, argD, .str "go", argD]
def D4 : List D := [.tup [boxD, .tup fs, .tup [.tup [.str "go", .tup (List.replicate 5 snd5)]]]]
def putK (b : D) : D := mkM (.tup (b :: ks.drop 1)) (.tup os) (.tup st) (.int e)
end
section
variable {j ji : Nat} {ks os st fs hs : List D} {e : Int} {one : D}
def NoM (d : D) : Prop := modelV d = some false
theorem no_c0 (M : MF j ji ks os st e fs hs) (R : Nat) : ∀ d ∈ C0 ks os st R, NoM d := by
  refine all_cons rfl (all_cons rfl (all_cons (M.mv ?_) (all_cons (M.mv ?_) all_nil)))
  · show (tyI (.int (-1)) 0 1000 && startB (.tup st) (os.length : Int) (-1)) = false
    rw [show tyI (.int (-1)) 0 1000 = false by decide]; rfl
  · show (tyI (.int 1001) 0 1000 && startB (.tup st) (os.length : Int) 1001) = false
    rw [show tyI (.int 1001) 0 1000 = false by decide]; rfl
theorem no_c1 (M : MF j ji ks os st e fs hs) : ∀ d ∈ C1 ks os st e, NoM d :=
  all_cons (M.mv rfl) (all_cons (mv1 (by decide +kernel)) (all_cons (mv2 M.ok.1 (by show objsV (fnames (.tup ks)) (.tup []) = some false; unfold objsV; rw [show tupB (.tup []) 1 8 = false by decide]; rfl)) (all_cons (mv2 M.ok.1 M.oz) all_nil)))
theorem no_c2 (M : MF j ji ks os st e fs hs) : ∀ d ∈ C2 ks os st e, NoM d :=
  all_cons (mv2 M.ok.1 (by unfold objsV; rw [show tupB (.tup (List.replicate 9 boxD)) 1 8 = false by decide +kernel]; rfl)) (all_cons (mv1 M.kk) (all_cons (M.mv (M.start rfl)) all_nil))
theorem and_r {a b : Bool} (h : b = false) : (a && b) = false := by rw [h, Bool.and_false]
theorem and_l {a b : Bool} (h : a = false) : (a && b) = false := by rw [h, Bool.false_and]
theorem no_c3 (M : MF j ji ks os st e fs hs) : ∀ d ∈ C3 ks os st e, NoM d := by
  refine all_cons (M.mv (M.start ?_)) (all_cons (M.mv (M.start ?_)) all_nil)
  · refine and_l ?_
    show (decide ((0 : Int) ≤ e + 1) && decide (e + 1 ≤ e)) = false
    exact and_r (decide_eq_false (by omega))
  · refine and_r (and_l ?_)
    show (decide ((0 : Int) ≤ os.length) && decide ((os.length : Int) ≤ os.length - 1)) = false
    exact and_r (decide_eq_false (by omega))
theorem no_c4 (M : MF j ji ks os st e fs hs) : ∀ d ∈ C4 ks os st e, NoM d := by
  refine all_cons (M.mv (M.start ?_)) (all_cons (M.mv (M.start ?_)) all_nil)
  · show (tyI (.int 0) 0 e && (tyI (.int 0) 0 (os.length - 1) && (nameB (.str "go") && tyI (.int 1000) (-999) 999))) = false
    exact and_r (and_r (and_r (by decide)))
  · show (tyI (.int 0) 0 e && (tyI (.int 0) 0 (os.length - 1) && (nameB (.str "") && tyI (.int 0) (-999) 999))) = false
    exact and_r (and_r (and_l (by decide +kernel)))
theorem no_c5 (M : MF j ji ks os st e fs hs) (R1 R2 : Nat) : ∀ d ∈ C5 ks os st e R1 R2, NoM d := by
  refine all_cons (M.mv ?_) (all_cons (M.mv ?_) (all_cons (mv2 M.ok.1 rfl) all_nil))
  · show (tyI (.int e) 0 1000 && startB (.tup (List.replicate 13 (ev0 (.str "go") (.int 0)))) (os.length : Int) e) = false
    refine and_r ?_
    unfold startB
    rw [show tupB (.tup (List.replicate 13 (ev0 (.str "go") (.int 0)))) 0 12 = false by decide +kernel]; rfl
  · show (tyI (.int e) 0 1000 && startB (.ref R1) (os.length : Int) e) = false
    exact and_r rfl
theorem no_d0 (M : MF j ji ks os st e fs hs) : ∀ b ∈ D0 fs hs one, NoM (putK ks os st e b) :=
  all_cons (M.kb2 M.kOf (show nameB (.str "Box") = false by decide +kernel)) (all_cons (M.kb1 (kF (by decide +kernel))) (all_cons (M.kb1 (kF (f1bad (by show (tyI (.int 5) (-1000000) 1000000 && tyI (.int 4) 5 1000000) = false; decide)))) (all_cons (M.kb1 (kF M.ff)) all_nil)))
theorem no_d1 (M : MF j ji ks os st e fs hs) (R : Nat) : ∀ b ∈ D1 fs hs one R, NoM (putK ks os st e b) :=
  all_cons (M.kb1 (kF (f1bad (by show (tyI (.int 0) (-1000000) 1000000 && tyI (.int 1000001) 0 1000000) = false; decide)))) (all_cons (M.kb1 (M.kH M.hh)) (all_cons (M.kb1 (kF rfl)) all_nil))
theorem no_d2 (M : MF j ji ks os st e fs hs) {d : D} (hd : BadS d) : ∀ b ∈ D2 fs d, NoM (putK ks os st e b) :=
  all_cons (M.kb1 (M.kH (h1bad rfl))) (all_cons (M.kb1 (M.kH (h1bad (M.ji3 (P := fun ji => progR (fN.take ji) (.tup [d]) = some false) hd.1 hd.2.1 hd.2.2)))) (all_cons (M.kb1 (M.kH (by
    unfold handsV
    rw [tupB_at (by show (0 : Int) ≤ (1 : Nat); omega) (by show ((1 : Nat) : Int) ≤ 4; omega), if_pos rfl]; rfl))) all_nil))
theorem skip81 : progR (fN.take 1) (.tup (List.replicate 81 skipD)) = some false ∧ progR (fN.take 2) (.tup (List.replicate 81 skipD)) = some false ∧ progR (fN.take 3) (.tup (List.replicate 81 skipD)) = some false := ⟨by kernel_rfl, by kernel_rfl, by kernel_rfl⟩
theorem send5 : progR (fN.take 1) (.tup (List.replicate 5 snd5)) = some false ∧ progR (fN.take 2) (.tup (List.replicate 5 snd5)) = some false ∧ progR (fN.take 3) (.tup (List.replicate 5 snd5)) = some false := ⟨by kernel_rfl, by kernel_rfl, by kernel_rfl⟩
theorem no_d3 (M : MF j ji ks os st e fs hs) : ∀ b ∈ D3 fs hs one, NoM (putK ks os st e b) :=
  all_cons (M.kb1 (M.kH (h1bad (M.ji3 (P := fun ji => progR (fN.take ji) (.tup (List.replicate 81 skipD)) = some false) skip81.1 skip81.2.1 skip81.2.2)))) (all_cons (M.kb1 (kF (f1bad rfl))) (all_cons (M.kb1 rfl) (all_cons (M.kb2 M.kOf (show nameB longD = false by decide +kernel)) all_nil)))
theorem no_d4 (M : MF j ji ks os st e fs hs) : ∀ b ∈ D4 fs, NoM (putK ks os st e b) :=
  all_cons (M.kb1 (M.kH (h1bad (M.ji3 (P := fun ji => progR (fN.take ji) (.tup (List.replicate 5 snd5)) = some false) send5.1 send5.2.1 send5.2.2)))) all_nil
end
end Pr

set_option Elab.async false
set_option linter.all false
set_option maxRecDepth 100000
set_option maxHeartbeats 4000000
/-! the drawn changed model -/
namespace Pr
open PySem PySem.Spec PyProof.Rows L2 Core
abbrev AI (k : Nat) : AM := (mCons (mTup (mCons (mVar 3) (mCons (mVar 4) (mCons (mVar 5) mNil)))) (mCons (mLst (mCons (mVar 3) (mCons (mVar 4) (mCons (mVar 5) (mCons (mVar 6) mNil))))) (mCons (mTup (mCons (mVar 3) (mCons (mVar 4) (mCons (mVar 5) (mCons (mUn gNeg (mC (.int 1))) mNil))))) (mCons (mTup (mCons (mVar 3) (mCons (mVar 4) (mCons (mVar 5) (mCons (mC (.int 1001)) mNil))))) mNil))))
abbrev BI (k : Nat) : AM := (mCons (mTup (mCons (mC (.str "Box")) (mCons (mOp gIx (mVar 7) (mC (.int 1))) (mCons (mOp gIx (mVar 7) (mC (.int 2))) mNil)))) (mCons (mTup (mCons (mC (.str "box")) (mCons (mTup mNil) (mCons (mOp gIx (mVar 7) (mC (.int 2))) mNil)))) (mCons (mTup (mCons (mC (.str "box")) (mCons (mTup (mCons (mTup (mCons (mOp gIx (mVar 8) (mC (.int 0))) (mCons (mC (.int 5)) (mCons (mC (.int 4)) mNil)))) mNil)) (mCons (mOp gIx (mVar 7) (mC (.int 2))) mNil)))) (mCons (mTup (mCons (mC (.str "box")) (mCons (mOp Core.gAdd (mOp gIx (mVar 7) (mC (.int 1))) (mOp gIx (mVar 7) (mC (.int 1)))) (mCons (mOp gIx (mVar 7) (mC (.int 2))) mNil)))) mNil))))
abbrev AC1 (k : Nat) : AM := (mCons (mTup (mCons (mVar 3) (mCons (mVar 4) (mCons (mVar 5) (mCons (mC (.bl true)) mNil))))) (mCons (mTup (mCons (mTup mNil) (mCons (mVar 4) (mCons (mVar 5) (mCons (mVar 6) mNil))))) (mCons (mTup (mCons (mVar 3) (mCons (mTup mNil) (mCons (mVar 5) (mCons (mVar 6) mNil))))) (mCons (mTup (mCons (mVar 3) (mCons (mOp Core.gAdd (mVar 4) (mTup (mCons (mC (.str "zz")) mNil))) (mCons (mVar 5) (mCons (mVar 6) mNil))))) mNil))))
abbrev AC2 (k : Nat) : AM := (mCons (mTup (mCons (mVar 3) (mCons (mOp gMulA (mTup (mCons (mC (.str "box")) mNil)) (mC (.int 9))) (mCons (mVar 5) (mCons (mVar 6) mNil))))) (mCons (mTup (mCons (mOp Core.gAdd (mVar 3) (mSl (mVar 3) oNone (oSome (mC (.int 1))))) (mCons (mVar 4) (mCons (mVar 5) (mCons (mVar 6) mNil))))) (mCons (mTup (mCons (mVar 3) (mCons (mVar 4) (mCons (mOp Core.gAdd (mVar 5) (mTup (mCons (mTup (mCons (mC (.int 0)) (mCons (mC (.int 0)) (mCons (mC (.str "go")) mNil)))) mNil))) (mCons (mVar 6) mNil))))) mNil)))
abbrev AC3 (k : Nat) : AM := (mCons (mTup (mCons (mVar 3) (mCons (mVar 4) (mCons (mOp Core.gAdd (mVar 5) (mTup (mCons (mTup (mCons (mOp Core.gAdd (mVar 6) (mC (.int 1))) (mCons (mC (.int 0)) (mCons (mC (.str "go")) (mCons (mC (.int 0)) mNil))))) mNil))) (mCons (mVar 6) mNil))))) (mCons (mTup (mCons (mVar 3) (mCons (mVar 4) (mCons (mOp Core.gAdd (mVar 5) (mTup (mCons (mTup (mCons (mC (.int 0)) (mCons (mApp gLen (mCons (mVar 4) mNil)) (mCons (mC (.str "go")) (mCons (mC (.int 0)) mNil))))) mNil))) (mCons (mVar 6) mNil))))) mNil))
abbrev AC4 (k : Nat) : AM := (mCons (mTup (mCons (mVar 3) (mCons (mVar 4) (mCons (mOp Core.gAdd (mVar 5) (mTup (mCons (mTup (mCons (mC (.int 0)) (mCons (mC (.int 0)) (mCons (mC (.str "go")) (mCons (mC (.int 1000)) mNil))))) mNil))) (mCons (mVar 6) mNil))))) (mCons (mTup (mCons (mVar 3) (mCons (mVar 4) (mCons (mOp Core.gAdd (mVar 5) (mTup (mCons (mTup (mCons (mC (.int 0)) (mCons (mC (.int 0)) (mCons (mC (.str "")) (mCons (mC (.int 0)) mNil))))) mNil))) (mCons (mVar 6) mNil))))) mNil))
abbrev AC5 (k : Nat) : AM := (mCons (mTup (mCons (mVar 3) (mCons (mVar 4) (mCons (mOp gMulA (mTup (mCons (mTup (mCons (mC (.int 0)) (mCons (mC (.int 0)) (mCons (mC (.str "go")) (mCons (mC (.int 0)) mNil))))) mNil)) (mC (.int 13))) (mCons (mVar 6) mNil))))) (mCons (mTup (mCons (mVar 3) (mCons (mVar 4) (mCons (mLst mNil) (mCons (mVar 6) mNil))))) (mCons (mTup (mCons (mVar 3) (mCons (mApp gList (mCons (mVar 4) mNil)) (mCons (mVar 5) (mCons (mVar 6) mNil))))) mNil)))
abbrev BC1 (k : Nat) : AM := (mCons (mTup (mCons (mC (.str "box")) (mCons (mTup (mCons (mTup (mCons (mOp gIx (mVar 8) (mC (.int 0))) (mCons (mC (.int 0)) (mCons (mC (.int 1000001)) mNil)))) mNil)) (mCons (mOp gIx (mVar 7) (mC (.int 2))) mNil)))) (mCons (mTup (mCons (mC (.str "box")) (mCons (mOp gIx (mVar 7) (mC (.int 1))) (mCons (mOp Core.gAdd (mOp gIx (mVar 7) (mC (.int 2))) (mSl (mOp gIx (mVar 7) (mC (.int 2))) oNone (oSome (mC (.int 1))))) mNil)))) (mCons (mTup (mCons (mC (.str "box")) (mCons (mApp gList (mCons (mOp gIx (mVar 7) (mC (.int 1))) mNil)) (mCons (mOp gIx (mVar 7) (mC (.int 2))) mNil)))) mNil)))
abbrev BC2 (k : Nat) : AM := (mCons (mTup (mCons (mC (.str "box")) (mCons (mOp gIx (mVar 7) (mC (.int 1))) (mCons (mTup (mCons (mTup (mCons (mC (.str "go")) (mCons (mTup mNil) mNil))) mNil)) mNil)))) (mCons (mTup (mCons (mC (.str "box")) (mCons (mOp gIx (mVar 7) (mC (.int 1))) (mCons (mTup (mCons (mTup (mCons (mC (.str "go")) (mCons (mTup (mCons (mCall 2 (call (k + 2) .law_statement) (mCons (mVar 1) (mCons (mVar 2) mNil))) mNil)) mNil))) mNil)) mNil)))) (mCons (mTup (mCons (mC (.str "box")) (mCons (mOp gIx (mVar 7) (mC (.int 1))) (mCons (mTup (mCons (mTup (mCons (mC (.str "go")) mNil)) mNil)) mNil)))) mNil)))
abbrev BC3 (k : Nat) : AM := (mCons (mTup (mCons (mC (.str "box")) (mCons (mOp gIx (mVar 7) (mC (.int 1))) (mCons (mTup (mCons (mTup (mCons (mC (.str "go")) (mCons (mOp gMulA (mTup (mCons (mTup (mCons (mC (.str "skip")) mNil)) mNil)) (mC (.int 81))) mNil))) mNil)) mNil)))) (mCons (mTup (mCons (mC (.str "box")) (mCons (mTup (mCons (mTup (mCons (mOp gIx (mVar 8) (mC (.int 0))) (mCons (mC (.bl false)) (mCons (mC (.int 1)) mNil)))) mNil)) (mCons (mOp gIx (mVar 7) (mC (.int 2))) mNil)))) (mCons (mTup (mCons (mC (.str "box")) (mCons (mOp gIx (mVar 7) (mC (.int 1))) mNil))) (mCons (mTup (mCons (mOp gMulA (mC (.str "a")) (mC (.int 13))) (mCons (mOp gIx (mVar 7) (mC (.int 1))) (mCons (mOp gIx (mVar 7) (mC (.int 2))) mNil)))) mNil))))
abbrev BC4 (k : Nat) : AM := (mCons (mTup (mCons (mC (.str "box")) (mCons (mOp gIx (mVar 7) (mC (.int 1))) (mCons (mTup (mCons (mTup (mCons (mC (.str "go")) (mCons (mOp gMulA (mTup (mCons (mTup (mCons (mC (.str "send")) (mCons (mTup (mCons (mC (.str "arg")) mNil)) (mCons (mTup (mCons (mC (.str "arg")) mNil)) (mCons (mC (.str "go")) (mCons (mTup (mCons (mC (.str "arg")) mNil)) mNil)))))) mNil)) (mC (.int 5))) mNil))) mNil)) mNil)))) mNil)

section
variable {s : Mem} {k dr at_ : Nat}
theorem add_abs {i : Nat} {mA : AM} {l : Core.Loc} {s sA : Mem} {ys xs : List D} {r : Nat} (hA : mA l s = .ok ys sA) (tA : Gt at_ s sA) (gA : Gs dr at_ sA) (h3 : l[i]? = some (some (.ref r))) (hr : s[r]? = some (.lst xs)) (rn : r ≠ at_) (hl : xs.length + ys.length ≤ 100000) :
    ∃ r' s', mSet i (mOp Core.gAdd (mVar i) (mLst mA)) l s = .nx (l.set i (some (.ref r'))) s' ∧ s'[r']? = some (.lst (xs ++ ys)) ∧ Gs dr at_ s' ∧ Gt at_ sA s' ∧ r' ≠ at_ := by
  have q := add_step (sA := s) (s := sA) hA h3 (tA.old r _ rn hr) hl
  have e : sA.length + 1 = (sA ++ [Ob.lst ys]).length := by simp
  exact ⟨sA.length + 1, _, q, by rw [e]; exact last_at, gA.app.app, Gt.app.trans Gt.app, by have := gA.lt; omega⟩
theorem sl1 {xs : List D} (h : 1 ≤ xs.length) : gSl none (some 1) (.tup xs) s = .ok (.tup (xs.take 1)) s := by
  unfold gSl
  have e : Core.cutD xs none (some 1) = xs.take 1 := by
    unfold Core.cutD
    rw [HT.sIx_none, show (some (1 : Int)) = some ((1 : Nat) : Int) from rfl, HT.sIx_nat, Nat.sub_zero, List.drop_zero, Nat.min_eq_left h]
  dsimp only
  rw [e]
theorem sl2 {xs : List D} (h : 1 ≤ xs.length) : gSl (some 1) none (.tup xs) s = .ok (.tup (xs.drop 1)) s := by
  unfold gSl
  have e : Core.cutD xs (some 1) none = xs.drop 1 := by
    unfold Core.cutD
    rw [HT.sIx_none, show (some (1 : Int)) = some ((1 : Nat) : Int) from rfl, HT.sIx_nat, Nat.min_eq_left h, List.take_of_length_le (by rw [List.length_drop]; omega)]
  dsimp only
  rw [e]
theorem mul9 : gMulA (.tup [.str "box"]) (.int 9) s = .ok (.tup (List.replicate 9 (.str "box"))) s := by rfl
theorem mul13 {x : D} : gMulA (.tup [x]) (.int 13) s = .ok (.tup (List.replicate 13 x)) s := by rfl
theorem mul81 {x : D} : gMulA (.tup [x]) (.int 81) s = .ok (.tup (List.replicate 81 x)) s := by rfl
theorem mul5 {x : D} : gMulA (.tup [x]) (.int 5) s = .ok (.tup (List.replicate 5 x)) s := by rfl
theorem mulA : gMulA (.str "a") (.int 13) s = .ok (.str (repS "a" 13)) s := by rfl
theorem lst_tup {xs : List D} : gList [.tup xs] s = .ok (.ref s.length) (s ++ [.lst xs]) := by rfl
theorem liv_gt {s s' : Mem} {d : D} (t : Gt at_ s s') (g : Gs dr at_ s') (h : liv s d = true) : liv s' d = true := by
  refine liv_ext (fun n xs e => ?_) h
  by_cases hn : n = at_
  · obtain ⟨i, hi⟩ := g.ha
    exact ⟨_, by rw [hn]; exact hi⟩
  · exact ⟨xs, t.old n _ hn e⟩
theorem tl {xs : List D} (h : ∀ x ∈ xs, liv s x = true) : liv s (.tup xs) = true := livs_all h
theorem liv_m {K O S E : D} (h1 : liv s K = true) (h2 : liv s O = true) (h3 : liv s S = true) (h4 : liv s E = true) : liv s (mkM K O S E) = true := tl (all_cons h1 (all_cons h2 (all_cons h3 (all_cons h4 all_nil))))
theorem liv_3 {a b c : D} (h1 : liv s a = true) (h2 : liv s b = true) (h3 : liv s c = true) : liv s (.tup [a, b, c]) = true := tl (all_cons h1 (all_cons h2 (all_cons h3 all_nil)))
theorem liv_2 {a b : D} (h1 : liv s a = true) (h2 : liv s b = true) : liv s (.tup [a, b]) = true := tl (all_cons h1 (all_cons h2 all_nil))
theorem liv_1 {a : D} (h1 : liv s a = true) : liv s (.tup [a]) = true := tl (all_cons h1 all_nil)
theorem lref {n : Nat} {xs : List D} (h : s[n]? = some (.lst xs)) : liv s (.ref n) = true := by unfold liv; rw [h]
theorem lpl {n : Nat} {d : D} (h : pl n d = true) : liv s d = true := pl_liv h
theorem take_all {P : D → Prop} {xs : List D} {n : Nat} (h : ∀ x ∈ xs, P x) : ∀ x ∈ xs.take n, P x := fun x hx => h x (List.mem_of_mem_take hx)
theorem drop_all {P : D → Prop} {xs : List D} {n : Nat} (h : ∀ x ∈ xs, P x) : ∀ x ∈ xs.drop n, P x := fun x hx => h x (List.mem_of_mem_drop hx)
abbrev LC (M : D) (dr at_ : Nat) (ks os st : List D) (e : Int) (K f0 : D) (r9 r10 : Option D) : Core.Loc := [some M, some (.ref dr), some (.ref at_), some (.tup ks), some (.tup os), some (.tup st), some (.int e), some K, some f0, r9, r10, none]
def ChgP (d : D) (s : Mem) : Prop := modelV d = some false ∧ liv s d = true
theorem c_law_changed {m : D} (hm : ModelP m) (g : Gs dr at_ s) : ∃ d s', call (k + 3) .law_changed [m, .ref dr, .ref at_] s = .ok d s' ∧ ChgP d s' ∧ Gs dr at_ s' ∧ Gt at_ s s' := by
  have mpl := model_pl hm
  obtain ⟨j, ji, ks, os, st, e, fs, hs, rfl, M⟩ := mf_of hm
  obtain ⟨kr, hk⟩ := M.fst
  obtain ⟨one, lo, hi, fr, hf⟩ : ∃ one lo hi fr, fs = .tup [.str one, .int lo, .int hi] :: fr := by
    have l := M.fl.2.2
    have f1 := M.f1
    cases fs with
    | nil => rw [List.length_nil] at l; omega
    | cons f fr =>
      obtain ⟨d, _, one, lo, hi, _, e2, _⟩ := two_mem M.fs_ f List.mem_cons_self
      exact ⟨one, lo, hi, fr, by rw [e2]⟩
  have kl : 1 ≤ ks.length := by rw [M.kl.1]; exact M.j1
  have hl1 := M.hl.2.2
  let MD : D := .tup [.tup ks, .tup os, .tup st, .int e]
  let KD : D := .tup [boxD, .tup fs, .tup hs]
  let f0 : D := .tup [.str one, .int lo, .int hi]
  show ∃ d s', Core.fin (m_law_changed (call (k + 2)) [some MD, some (.ref dr), some (.ref at_), none, none, none, none, none, none, none, none, none] s) = .ok d s' ∧ _
  have al := g.lt
  have a7 : gIx (.tup ks) (.int 0) s = .ok KD s := by rw [hk]; exact ix0
  have a8 : gIx (.tup fs) (.int 0) s = .ok f0 s := by rw [hf]; exact ix0
  have lO := M.o2
  have lS := M.s8
  unfold m_law_changed
  rw [seq_nx (l1 := [some MD, some (.ref dr), some (.ref at_), some (.tup ks), some (.tup os), some (.tup st), some (.int e), none, none, none, none, none]) (s1 := s) (by rfl),
    seq_nx (l1 := [some MD, some (.ref dr), some (.ref at_), some (.tup ks), some (.tup os), some (.tup st), some (.int e), some KD, none, none, none, none]) (s1 := s) (by simp only [mSeq, mExpr, mRet, mRetN, mIfS, mSet, mAug, mCall, mCons, mNil, mVar, mC, mOp, mUn, mApp, mTup, mLst, mNx, mRaise, mAnd, mOr, mNot, mIf, tstB, tstAnd, tstOr, tstNot, mChain, bind_ok, bind_err, bind_no, toS_ok, toS_err, nox_ok, fin_nx, fin_rt, fin_err, startL, List.map_cons, List.map_nil, List.length_cons, List.length_nil, List.cons_append, List.nil_append, List.getElem?_cons_zero, List.getElem?_cons_succ, List.set_cons_zero, List.set_cons_succ, List.replicate_succ, List.replicate_zero, Nat.zero_add, Nat.reduceAdd, Nat.reduceSub, Nat.add_one_sub_one, Nat.sub_self, if_true, if_false, ite_true, ite_false, Bool.false_eq_true, reduceCtorEq, if_pos, Nat.reduceEqDiff, Nat.reduceLeDiff, decide_true, decide_false, Bool.not_true, Bool.not_false, a7]),
    seq_nx (l1 := LC MD dr at_ ks os st e KD f0 none none) (s1 := s) (by simp only [mSeq, mExpr, mRet, mRetN, mIfS, mSet, mAug, mCall, mCons, mNil, mVar, mC, mOp, mUn, mApp, mTup, mLst, mNx, mRaise, mAnd, mOr, mNot, mIf, tstB, tstAnd, tstOr, tstNot, mChain, bind_ok, bind_err, bind_no, toS_ok, toS_err, nox_ok, fin_nx, fin_rt, fin_err, startL, List.map_cons, List.map_nil, List.length_cons, List.length_nil, List.cons_append, List.nil_append, List.getElem?_cons_zero, List.getElem?_cons_succ, List.set_cons_zero, List.set_cons_succ, List.replicate_succ, List.replicate_zero, Nat.zero_add, Nat.reduceAdd, Nat.reduceSub, Nat.add_one_sub_one, Nat.sub_self, if_true, if_false, ite_true, ite_false, Bool.false_eq_true, reduceCtorEq, if_pos, Nat.reduceEqDiff, Nat.reduceLeDiff, decide_true, decide_false, Bool.not_true, Bool.not_false, show gIx KD (.int 1) s = .ok (.tup fs) s from ix1, a8])]
  -- rows 0
  rw [seq_nx (l1 := LC MD dr at_ ks os st e KD f0 (some (.ref (s ++ [Ob.lst [.tup ks, .tup os, .tup st, .int e]]).length)) none) (s1 := s ++ [Ob.lst [.tup ks, .tup os, .tup st, .int e]] ++ [Ob.lst (C0 ks os st s.length)]) (by simp only [mSeq, mExpr, mRet, mRetN, mIfS, mSet, mAug, mCall, mCons, mNil, mVar, mC, mOp, mUn, mApp, mTup, mLst, mNx, mRaise, mAnd, mOr, mNot, mIf, tstB, tstAnd, tstOr, tstNot, mChain, bind_ok, bind_err, bind_no, toS_ok, toS_err, nox_ok, fin_nx, fin_rt, fin_err, startL, List.map_cons, List.map_nil, List.length_cons, List.length_nil, List.cons_append, List.nil_append, List.getElem?_cons_zero, List.getElem?_cons_succ, List.set_cons_zero, List.set_cons_succ, List.replicate_succ, List.replicate_zero, Nat.zero_add, Nat.reduceAdd, Nat.reduceSub, Nat.add_one_sub_one, Nat.sub_self, if_true, if_false, ite_true, ite_false, Bool.false_eq_true, reduceCtorEq, if_pos, Nat.reduceEqDiff, Nat.reduceLeDiff, decide_true, decide_false, Bool.not_true, Bool.not_false, gNeg]; rfl)]
  have g0 : Gs dr at_ (s ++ [Ob.lst [.tup ks, .tup os, .tup st, .int e]] ++ [Ob.lst (C0 ks os st s.length)]) := g.app.app
  have t0 : Gt at_ s (s ++ [Ob.lst [.tup ks, .tup os, .tup st, .int e]] ++ [Ob.lst (C0 ks os st s.length)]) := Gt.app.trans Gt.app
  have x0 : (s ++ [Ob.lst [.tup ks, .tup os, .tup st, .int e]] ++ [Ob.lst (C0 ks os st s.length)])[(s ++ [Ob.lst [.tup ks, .tup os, .tup st, .int e]]).length]? = some (.lst (C0 ks os st s.length)) := last_at
  have q0 : (s ++ [Ob.lst [.tup ks, .tup os, .tup st, .int e]] ++ [Ob.lst (C0 ks os st s.length)])[s.length]? = some (.lst [.tup ks, .tup os, .tup st, .int e]) := app_keep last_at
  have n0 : (s ++ [Ob.lst [.tup ks, .tup os, .tup st, .int e]]).length ≠ at_ := by simp; omega
  revert x0 q0 g0 t0 n0
  generalize s ++ [Ob.lst [.tup ks, .tup os, .tup st, .int e]] ++ [Ob.lst (C0 ks os st s.length)] = s0
  generalize (s ++ [Ob.lst [.tup ks, .tup os, .tup st, .int e]]).length = r0
  intro g0 t0 x0 q0 n0
  -- rows 1
  obtain ⟨r1, s1, e1, x1, g1, t1, n1⟩ := add_abs (i := 9) (mA := AC1 k) (l := LC MD dr at_ ks os st e KD f0 (some (.ref r0)) none) (sA := s0) (ys := C1 ks os st e) (by simp only [mSeq, mExpr, mRet, mRetN, mIfS, mSet, mAug, mCall, mCons, mNil, mVar, mC, mOp, mUn, mApp, mTup, mLst, mNx, mRaise, mAnd, mOr, mNot, mIf, tstB, tstAnd, tstOr, tstNot, mChain, bind_ok, bind_err, bind_no, toS_ok, toS_err, nox_ok, fin_nx, fin_rt, fin_err, startL, List.map_cons, List.map_nil, List.length_cons, List.length_nil, List.cons_append, List.nil_append, List.getElem?_cons_zero, List.getElem?_cons_succ, List.set_cons_zero, List.set_cons_succ, List.replicate_succ, List.replicate_zero, Nat.zero_add, Nat.reduceAdd, Nat.reduceSub, Nat.add_one_sub_one, Nat.sub_self, if_true, if_false, ite_true, ite_false, Bool.false_eq_true, reduceCtorEq, if_pos, Nat.reduceEqDiff, Nat.reduceLeDiff, decide_true, decide_false, Bool.not_true, Bool.not_false, show Core.gAdd (.tup os) (.tup [.str "zz"]) s0 = .ok (.tup (os ++ [.str "zz"])) s0 from add_tup (by show os.length + 1 ≤ 100000; omega)]; rfl) .refl g0 rfl x0 n0 (by show 4 + 4 ≤ 100000; omega)
  rw [seq_nx e1]
  -- rows 2
  obtain ⟨r2, s2, e2, x2, g2, t2, n2⟩ := add_abs (i := 9) (mA := AC2 k) (l := LC MD dr at_ ks os st e KD f0 (some (.ref r1)) none) (sA := s1) (ys := C2 ks os st e) (by simp only [mSeq, mExpr, mRet, mRetN, mIfS, mSet, mAug, mCall, mCons, mNil, mVar, mC, mOp, mUn, mApp, mTup, mLst, mNx, mRaise, mAnd, mOr, mNot, mIf, tstB, tstAnd, tstOr, tstNot, mChain, bind_ok, bind_err, bind_no, toS_ok, toS_err, nox_ok, fin_nx, fin_rt, fin_err, startL, List.map_cons, List.map_nil, List.length_cons, List.length_nil, List.cons_append, List.nil_append, List.getElem?_cons_zero, List.getElem?_cons_succ, List.set_cons_zero, List.set_cons_succ, List.replicate_succ, List.replicate_zero, Nat.zero_add, Nat.reduceAdd, Nat.reduceSub, Nat.add_one_sub_one, Nat.sub_self, if_true, if_false, ite_true, ite_false, Bool.false_eq_true, reduceCtorEq, if_pos, Nat.reduceEqDiff, Nat.reduceLeDiff, decide_true, decide_false, Bool.not_true, Bool.not_false, mul9, mSl, oNone, oSome, sl1 kl, show Core.gAdd (.tup ks) (.tup (ks.take 1)) s1 = .ok (.tup (ks ++ ks.take 1)) s1 from add_tup (by rw [List.length_take, M.kl.1]; have := M.j2; omega), show Core.gAdd (.tup st) (.tup [.tup [.int 0, .int 0, .str "go"]]) s1 = .ok (.tup (st ++ [.tup [.int 0, .int 0, .str "go"]])) s1 from add_tup (by show st.length + 1 ≤ 100000; omega)]; rfl) .refl g1 rfl x1 n1 (by show 4 + 4 + 3 ≤ 100000; omega)
  rw [show (LC MD dr at_ ks os st e KD f0 (some (.ref r0)) none).set 9 (some (.ref r1)) = LC MD dr at_ ks os st e KD f0 (some (.ref r1)) none from rfl, seq_nx e2]
  -- rows 3
  obtain ⟨r3, s3, e3, x3, g3, t3, n3⟩ := add_abs (i := 9) (mA := AC3 k) (l := LC MD dr at_ ks os st e KD f0 (some (.ref r2)) none) (sA := s2) (ys := C3 ks os st e) (by simp only [mSeq, mExpr, mRet, mRetN, mIfS, mSet, mAug, mCall, mCons, mNil, mVar, mC, mOp, mUn, mApp, mTup, mLst, mNx, mRaise, mAnd, mOr, mNot, mIf, tstB, tstAnd, tstOr, tstNot, mChain, bind_ok, bind_err, bind_no, toS_ok, toS_err, nox_ok, fin_nx, fin_rt, fin_err, startL, List.map_cons, List.map_nil, List.length_cons, List.length_nil, List.cons_append, List.nil_append, List.getElem?_cons_zero, List.getElem?_cons_succ, List.set_cons_zero, List.set_cons_succ, List.replicate_succ, List.replicate_zero, Nat.zero_add, Nat.reduceAdd, Nat.reduceSub, Nat.add_one_sub_one, Nat.sub_self, if_true, if_false, ite_true, ite_false, Bool.false_eq_true, reduceCtorEq, if_pos, Nat.reduceEqDiff, Nat.reduceLeDiff, decide_true, decide_false, Bool.not_true, Bool.not_false, gLen, seqD, show Core.gAdd (.int e) (.int 1) s2 = .ok (.int (e + 1)) s2 from rfl, show Core.gAdd (.tup st) (.tup [.tup [.int (e + 1), .int 0, .str "go", .int 0]]) s2 = .ok (.tup (st ++ [.tup [.int (e + 1), .int 0, .str "go", .int 0]])) s2 from add_tup (by show st.length + 1 ≤ 100000; omega), show Core.gAdd (.tup st) (.tup [.tup [.int 0, .int os.length, .str "go", .int 0]]) s2 = .ok (.tup (st ++ [.tup [.int 0, .int os.length, .str "go", .int 0]])) s2 from add_tup (by show st.length + 1 ≤ 100000; omega)]; rfl) .refl g2 rfl x2 n2 (by show 4 + 4 + 3 + 2 ≤ 100000; omega)
  rw [show (LC MD dr at_ ks os st e KD f0 (some (.ref r1)) none).set 9 (some (.ref r2)) = LC MD dr at_ ks os st e KD f0 (some (.ref r2)) none from rfl, seq_nx e3]
  -- rows 4
  obtain ⟨r4, s4, e4, x4, g4, t4, n4⟩ := add_abs (i := 9) (mA := AC4 k) (l := LC MD dr at_ ks os st e KD f0 (some (.ref r3)) none) (sA := s3) (ys := C4 ks os st e) (by simp only [mSeq, mExpr, mRet, mRetN, mIfS, mSet, mAug, mCall, mCons, mNil, mVar, mC, mOp, mUn, mApp, mTup, mLst, mNx, mRaise, mAnd, mOr, mNot, mIf, tstB, tstAnd, tstOr, tstNot, mChain, bind_ok, bind_err, bind_no, toS_ok, toS_err, nox_ok, fin_nx, fin_rt, fin_err, startL, List.map_cons, List.map_nil, List.length_cons, List.length_nil, List.cons_append, List.nil_append, List.getElem?_cons_zero, List.getElem?_cons_succ, List.set_cons_zero, List.set_cons_succ, List.replicate_succ, List.replicate_zero, Nat.zero_add, Nat.reduceAdd, Nat.reduceSub, Nat.add_one_sub_one, Nat.sub_self, if_true, if_false, ite_true, ite_false, Bool.false_eq_true, reduceCtorEq, if_pos, Nat.reduceEqDiff, Nat.reduceLeDiff, decide_true, decide_false, Bool.not_true, Bool.not_false, show Core.gAdd (.tup st) (.tup [.tup [.int 0, .int 0, .str "go", .int 1000]]) s3 = .ok (.tup (st ++ [.tup [.int 0, .int 0, .str "go", .int 1000]])) s3 from add_tup (by show st.length + 1 ≤ 100000; omega), show Core.gAdd (.tup st) (.tup [.tup [.int 0, .int 0, .str "", .int 0]]) s3 = .ok (.tup (st ++ [.tup [.int 0, .int 0, .str "", .int 0]])) s3 from add_tup (by show st.length + 1 ≤ 100000; omega)]; rfl) .refl g3 rfl x3 n3 (by show 4 + 4 + 3 + 2 + 2 ≤ 100000; omega)
  rw [show (LC MD dr at_ ks os st e KD f0 (some (.ref r2)) none).set 9 (some (.ref r3)) = LC MD dr at_ ks os st e KD f0 (some (.ref r3)) none from rfl, seq_nx e4]
  -- rows 5
  obtain ⟨r5, s5, e5, x5, g5, t5, n5⟩ := add_abs (i := 9) (mA := AC5 k) (l := LC MD dr at_ ks os st e KD f0 (some (.ref r4)) none) (s := s4) (sA := s4 ++ [Ob.lst []] ++ [Ob.lst os]) (ys := C5 ks os st e s4.length (s4 ++ [Ob.lst []]).length) (by simp only [mSeq, mExpr, mRet, mRetN, mIfS, mSet, mAug, mCall, mCons, mNil, mVar, mC, mOp, mUn, mApp, mTup, mLst, mNx, mRaise, mAnd, mOr, mNot, mIf, tstB, tstAnd, tstOr, tstNot, mChain, bind_ok, bind_err, bind_no, toS_ok, toS_err, nox_ok, fin_nx, fin_rt, fin_err, startL, List.map_cons, List.map_nil, List.length_cons, List.length_nil, List.cons_append, List.nil_append, List.getElem?_cons_zero, List.getElem?_cons_succ, List.set_cons_zero, List.set_cons_succ, List.replicate_succ, List.replicate_zero, Nat.zero_add, Nat.reduceAdd, Nat.reduceSub, Nat.add_one_sub_one, Nat.sub_self, if_true, if_false, ite_true, ite_false, Bool.false_eq_true, reduceCtorEq, if_pos, Nat.reduceEqDiff, Nat.reduceLeDiff, decide_true, decide_false, Bool.not_true, Bool.not_false, mul13, lst_tup]; rfl) (Gt.app.trans Gt.app) g4.app.app rfl x4 n4 (by show 4 + 4 + 3 + 2 + 2 + 3 ≤ 100000; omega)
  rw [show (LC MD dr at_ ks os st e KD f0 (some (.ref r3)) none).set 9 (some (.ref r4)) = LC MD dr at_ ks os st e KD f0 (some (.ref r4)) none from rfl, seq_nx e5]
  have v51 : s5[s4.length]? = some (.lst []) := t5.old _ _ (by have := g4.lt; omega) (app_keep last_at)
  have v52 : s5[(s4 ++ [Ob.lst []]).length]? = some (.lst os) := t5.old _ _ (by have := g4.lt; simp; omega) last_at
  have t05 : Gt at_ s0 s5 := t1.trans (t2.trans (t3.trans (t4.trans ((Gt.app.trans Gt.app).trans t5))))
  have h05 := t05.old _ _ (Nat.ne_of_gt al) q0
  -- bad kinds 0
  have k1 : ∀ s : Mem, gIx KD (.int 1) s = .ok (.tup fs) s := fun s => ix1
  have k2 : ∀ s : Mem, gIx KD (.int 2) s = .ok (.tup hs) s := fun s => ix2
  have k3 : ∀ s : Mem, gIx f0 (.int 0) s = .ok (.str one) s := fun s => ix0
  have lF := M.fl.2.2
  have f2 := M.f2
  have lH := M.hl.2.1
  rw [show (LC MD dr at_ ks os st e KD f0 (some (.ref r4)) none).set 9 (some (.ref r5)) = LC MD dr at_ ks os st e KD f0 (some (.ref r5)) none from rfl,
    seq_nx (l1 := LC MD dr at_ ks os st e KD f0 (some (.ref r5)) (some (.ref s5.length))) (s1 := s5 ++ [Ob.lst (D0 fs hs (.str one))]) (by simp only [mSeq, mExpr, mRet, mRetN, mIfS, mSet, mAug, mCall, mCons, mNil, mVar, mC, mOp, mUn, mApp, mTup, mLst, mNx, mRaise, mAnd, mOr, mNot, mIf, tstB, tstAnd, tstOr, tstNot, mChain, bind_ok, bind_err, bind_no, toS_ok, toS_err, nox_ok, fin_nx, fin_rt, fin_err, startL, List.map_cons, List.map_nil, List.length_cons, List.length_nil, List.cons_append, List.nil_append, List.getElem?_cons_zero, List.getElem?_cons_succ, List.set_cons_zero, List.set_cons_succ, List.replicate_succ, List.replicate_zero, Nat.zero_add, Nat.reduceAdd, Nat.reduceSub, Nat.add_one_sub_one, Nat.sub_self, if_true, if_false, ite_true, ite_false, Bool.false_eq_true, reduceCtorEq, if_pos, Nat.reduceEqDiff, Nat.reduceLeDiff, decide_true, decide_false, Bool.not_true, Bool.not_false, k1, k2, k3, show Core.gAdd (.tup fs) (.tup fs) s5 = .ok (.tup (fs ++ fs)) s5 from add_tup (by omega)]; rfl)]
  have g6 : Gs dr at_ (s5 ++ [Ob.lst (D0 fs hs (.str one))]) := g5.app
  -- bad kinds 1
  obtain ⟨b1, s7, e7, x7, g7, t7, n7⟩ := add_abs (i := 10) (mA := BC1 k) (l := LC MD dr at_ ks os st e KD f0 (some (.ref r5)) (some (.ref s5.length))) (s := s5 ++ [Ob.lst (D0 fs hs (.str one))]) (sA := s5 ++ [Ob.lst (D0 fs hs (.str one))] ++ [Ob.lst fs]) (ys := D1 fs hs (.str one) (s5 ++ [Ob.lst (D0 fs hs (.str one))]).length) (by simp only [mSeq, mExpr, mRet, mRetN, mIfS, mSet, mAug, mCall, mCons, mNil, mVar, mC, mOp, mUn, mApp, mTup, mLst, mNx, mRaise, mAnd, mOr, mNot, mIf, tstB, tstAnd, tstOr, tstNot, mChain, bind_ok, bind_err, bind_no, toS_ok, toS_err, nox_ok, fin_nx, fin_rt, fin_err, startL, List.map_cons, List.map_nil, List.length_cons, List.length_nil, List.cons_append, List.nil_append, List.getElem?_cons_zero, List.getElem?_cons_succ, List.set_cons_zero, List.set_cons_succ, List.replicate_succ, List.replicate_zero, Nat.zero_add, Nat.reduceAdd, Nat.reduceSub, Nat.add_one_sub_one, Nat.sub_self, if_true, if_false, ite_true, ite_false, Bool.false_eq_true, reduceCtorEq, if_pos, Nat.reduceEqDiff, Nat.reduceLeDiff, decide_true, decide_false, Bool.not_true, Bool.not_false, k1, k2, k3, mSl, oNone, oSome, sl1 hl1, lst_tup, show ∀ s : Mem, Core.gAdd (.tup hs) (.tup (hs.take 1)) s = .ok (.tup (hs ++ hs.take 1)) s from fun s => add_tup (by rw [List.length_take]; omega)]; rfl) Gt.app g6.app rfl last_at (by have := g5.lt; omega) (by show 4 + 3 ≤ 100000; omega)
  rw [seq_nx e7]
  have v7 : s7[(s5 ++ [Ob.lst (D0 fs hs (.str one))]).length]? = some (.lst fs) := t7.old _ _ (by have := g5.lt; simp; omega) last_at
  -- bad kinds 2
  obtain ⟨sd, s8, e8, ⟨bd8, lv8⟩, g8, t8⟩ := c_law_statement (k := k) g7
  obtain ⟨b2, s9, e9, x9, g9, t9, n9⟩ := add_abs (i := 10) (mA := BC2 k) (l := LC MD dr at_ ks os st e KD f0 (some (.ref r5)) (some (.ref b1))) (s := s7) (sA := s8) (ys := D2 fs sd) (by simp only [mSeq, mExpr, mRet, mRetN, mIfS, mSet, mAug, mCall, mCons, mNil, mVar, mC, mOp, mUn, mApp, mTup, mLst, mNx, mRaise, mAnd, mOr, mNot, mIf, tstB, tstAnd, tstOr, tstNot, mChain, bind_ok, bind_err, bind_no, toS_ok, toS_err, nox_ok, fin_nx, fin_rt, fin_err, startL, List.map_cons, List.map_nil, List.length_cons, List.length_nil, List.cons_append, List.nil_append, List.getElem?_cons_zero, List.getElem?_cons_succ, List.set_cons_zero, List.set_cons_succ, List.replicate_succ, List.replicate_zero, Nat.zero_add, Nat.reduceAdd, Nat.reduceSub, Nat.add_one_sub_one, Nat.sub_self, if_true, if_false, ite_true, ite_false, Bool.false_eq_true, reduceCtorEq, if_pos, Nat.reduceEqDiff, Nat.reduceLeDiff, decide_true, decide_false, Bool.not_true, Bool.not_false, k1, e8]; rfl) t8 g8 rfl x7 n7 (by show 4 + 3 + 3 ≤ 100000; omega)
  rw [show (LC MD dr at_ ks os st e KD f0 (some (.ref r5)) (some (.ref s5.length))).set 10 (some (.ref b1)) = LC MD dr at_ ks os st e KD f0 (some (.ref r5)) (some (.ref b1)) from rfl, seq_nx e9]
  -- bad kinds 3
  obtain ⟨b3, sa, ea, xa, ga, ta, na⟩ := add_abs (i := 10) (mA := BC3 k) (l := LC MD dr at_ ks os st e KD f0 (some (.ref r5)) (some (.ref b2))) (sA := s9) (ys := D3 fs hs (.str one)) (by simp only [mSeq, mExpr, mRet, mRetN, mIfS, mSet, mAug, mCall, mCons, mNil, mVar, mC, mOp, mUn, mApp, mTup, mLst, mNx, mRaise, mAnd, mOr, mNot, mIf, tstB, tstAnd, tstOr, tstNot, mChain, bind_ok, bind_err, bind_no, toS_ok, toS_err, nox_ok, fin_nx, fin_rt, fin_err, startL, List.map_cons, List.map_nil, List.length_cons, List.length_nil, List.cons_append, List.nil_append, List.getElem?_cons_zero, List.getElem?_cons_succ, List.set_cons_zero, List.set_cons_succ, List.replicate_succ, List.replicate_zero, Nat.zero_add, Nat.reduceAdd, Nat.reduceSub, Nat.add_one_sub_one, Nat.sub_self, if_true, if_false, ite_true, ite_false, Bool.false_eq_true, reduceCtorEq, if_pos, Nat.reduceEqDiff, Nat.reduceLeDiff, decide_true, decide_false, Bool.not_true, Bool.not_false, k1, k2, k3, mul81, mulA]; rfl) .refl g9 rfl x9 n9 (by show 4 + 3 + 3 + 4 ≤ 100000; omega)
  rw [show (LC MD dr at_ ks os st e KD f0 (some (.ref r5)) (some (.ref b1))).set 10 (some (.ref b2)) = LC MD dr at_ ks os st e KD f0 (some (.ref r5)) (some (.ref b2)) from rfl, seq_nx ea]
  -- bad kinds 4
  obtain ⟨b4, sb, eb, xb, gb, tb, nb⟩ := add_abs (i := 10) (mA := BC4 k) (l := LC MD dr at_ ks os st e KD f0 (some (.ref r5)) (some (.ref b3))) (sA := sa) (ys := D4 fs) (by simp only [mSeq, mExpr, mRet, mRetN, mIfS, mSet, mAug, mCall, mCons, mNil, mVar, mC, mOp, mUn, mApp, mTup, mLst, mNx, mRaise, mAnd, mOr, mNot, mIf, tstB, tstAnd, tstOr, tstNot, mChain, bind_ok, bind_err, bind_no, toS_ok, toS_err, nox_ok, fin_nx, fin_rt, fin_err, startL, List.map_cons, List.map_nil, List.length_cons, List.length_nil, List.cons_append, List.nil_append, List.getElem?_cons_zero, List.getElem?_cons_succ, List.set_cons_zero, List.set_cons_succ, List.replicate_succ, List.replicate_zero, Nat.zero_add, Nat.reduceAdd, Nat.reduceSub, Nat.add_one_sub_one, Nat.sub_self, if_true, if_false, ite_true, ite_false, Bool.false_eq_true, reduceCtorEq, if_pos, Nat.reduceEqDiff, Nat.reduceLeDiff, decide_true, decide_false, Bool.not_true, Bool.not_false, k1, mul5]; rfl) .refl ga rfl xa na (by show 4 + 3 + 3 + 4 + 1 ≤ 100000; omega)
  rw [show (LC MD dr at_ ks os st e KD f0 (some (.ref r5)) (some (.ref b2))).set 10 (some (.ref b3)) = LC MD dr at_ ks os st e KD f0 (some (.ref r5)) (some (.ref b3)) from rfl, seq_nx eb]
  -- the models with bad kinds
  obtain ⟨BS, hBS⟩ : ∃ B, B = D0 fs hs (.str one) ++ D1 fs hs (.str one) (s5 ++ [Ob.lst (D0 fs hs (.str one))]).length ++ D2 fs sd ++ D3 fs hs (.str one) ++ D4 fs := ⟨_, rfl⟩
  rw [← hBS] at xb
  have lBS : BS.length = 15 := by rw [hBS]; rfl
  obtain ⟨RS_, hRS⟩ : ∃ B, B = C0 ks os st s.length ++ C1 ks os st e ++ C2 ks os st e ++ C3 ks os st e ++ C4 ks os st e ++ C5 ks os st e s4.length (s4 ++ [Ob.lst []]).length := ⟨_, rfl⟩
  rw [← hRS] at x5
  have lRS : RS_.length = 18 := by rw [hRS]; rfl
  have t5b : Gt at_ s5 sb := Gt.app.trans ((Gt.app.trans t7).trans (t8.trans (t9.trans (ta.trans tb))))
  have x5b := t5b.old _ _ n5 x5
  have lc := lc_map (s := sb) (ok := okL b4 BS) (g := gmName 11) (vs := [11]) (l := LC MD dr at_ ks os st e KD f0 (some (.ref r5)) (some (.ref b4))) (me := mTup (mCons (mOp Core.gAdd (mTup (mCons (mVar 11) mNil)) (mSl (mVar 3) (oSome (mC (.int 1))) oNone)) (mCons (mVar 4) (mCons (mVar 5) (mCons (mVar 6) mNil))))) (F := putK ks os st e) BS [] (fun u => okL_of (rd_lst (app_keep xb))) (fun d hd => ⟨[some MD, some (.ref dr), some (.ref at_), some (.tup ks), some (.tup os), some (.tup st), some (.int e), some KD, some f0, some (.ref r5), some (.ref b4), some d], rfl, fun u => by
    simp only [mSeq, mExpr, mRet, mRetN, mIfS, mSet, mAug, mCall, mCons, mNil, mVar, mC, mOp, mUn, mApp, mTup, mLst, mNx, mRaise, mAnd, mOr, mNot, mIf, tstB, tstAnd, tstOr, tstNot, mChain, bind_ok, bind_err, bind_no, toS_ok, toS_err, nox_ok, fin_nx, fin_rt, fin_err, startL, List.map_cons, List.map_nil, List.length_cons, List.length_nil, List.cons_append, List.nil_append, List.getElem?_cons_zero, List.getElem?_cons_succ, List.set_cons_zero, List.set_cons_succ, List.replicate_succ, List.replicate_zero, Nat.zero_add, Nat.reduceAdd, Nat.reduceSub, Nat.add_one_sub_one, Nat.sub_self, if_true, if_false, ite_true, ite_false, Bool.false_eq_true, reduceCtorEq, if_pos, Nat.reduceEqDiff, Nat.reduceLeDiff, decide_true, decide_false, Bool.not_true, Bool.not_false, mSl, oNone, oSome, sl2 kl, show ∀ s : Mem, Core.gAdd (.tup [d]) (.tup (ks.drop 1)) s = .ok (.tup ([d] ++ ks.drop 1)) s from fun s => add_tup (by rw [List.length_drop, M.kl.1, List.length_singleton]; have := M.j2; omega)]; rfl⟩) (by rw [List.length_nil]; omega)
  rw [List.nil_append] at lc
  have lcE : mLc (iSeq (mVar 10)) (gmName 11) [11] tYes' (mTup (mCons (mOp Core.gAdd (mTup (mCons (mVar 11) mNil)) (mSl (mVar 3) (oSome (mC (.int 1))) oNone)) (mCons (mVar 4) (mCons (mVar 5) (mCons (mVar 6) mNil))))) (LC MD dr at_ ks os st e KD f0 (some (.ref r5)) (some (.ref b4))) sb = .ok (.ref sb.length) (sb ++ [Ob.lst (BS.map (putK ks os st e))]) := by
    unfold mLc iSeq
    simp only [mSeq, mExpr, mRet, mRetN, mIfS, mSet, mAug, mCall, mCons, mNil, mVar, mC, mOp, mUn, mApp, mTup, mLst, mNx, mRaise, mAnd, mOr, mNot, mIf, tstB, tstAnd, tstOr, tstNot, mChain, bind_ok, bind_err, bind_no, toS_ok, toS_err, nox_ok, fin_nx, fin_rt, fin_err, startL, List.map_cons, List.map_nil, List.length_cons, List.length_nil, List.cons_append, List.nil_append, List.getElem?_cons_zero, List.getElem?_cons_succ, List.set_cons_zero, List.set_cons_succ, List.replicate_succ, List.replicate_zero, Nat.zero_add, Nat.reduceAdd, Nat.reduceSub, Nat.add_one_sub_one, Nat.sub_self, if_true, if_false, ite_true, ite_false, Bool.false_eq_true, reduceCtorEq, if_pos, Nat.reduceEqDiff, Nat.reduceLeDiff, decide_true, decide_false, Bool.not_true, Bool.not_false, rd_lst xb]
    exact lc
  have ad := add_lst (s := sb ++ [Ob.lst (BS.map (putK ks os st e))]) (app_keep x5b) last_at (by rw [List.length_map]; omega)
  obtain ⟨AL, hAL⟩ : ∃ A, A = RS_ ++ BS.map (putK ks os st e) := ⟨_, rfl⟩
  rw [← hAL] at ad
  have lAL : AL.length = 33 := by rw [hAL, List.length_append, List.length_map]; omega
  have gc : Gs dr at_ (sb ++ [Ob.lst (BS.map (putK ks os st e))] ++ [Ob.lst AL]) := gb.app.app
  obtain ⟨RC, hRC⟩ : ∃ R, R = (sb ++ [Ob.lst (BS.map (putK ks os st e))]).length := ⟨_, rfl⟩
  have xc : (sb ++ [Ob.lst (BS.map (putK ks os st e))] ++ [Ob.lst AL])[RC]? = some (.lst AL) := by rw [hRC]; exact last_at
  have nc : RC ≠ at_ := by have := gb.lt; rw [hRC]; simp; omega
  rw [show (LC MD dr at_ ks os st e KD f0 (some (.ref r5)) (some (.ref b3))).set 10 (some (.ref b4)) = LC MD dr at_ ks os st e KD f0 (some (.ref r5)) (some (.ref b4)) from rfl, seq_nx (l1 := LC MD dr at_ ks os st e KD f0 (some (.ref RC)) (some (.ref b4))) (s1 := sb ++ [Ob.lst (BS.map (putK ks os st e))] ++ [Ob.lst AL]) (by simp only [mSeq, mExpr, mRet, mRetN, mIfS, mSet, mAug, mCall, mCons, mNil, mVar, mC, mOp, mUn, mApp, mTup, mLst, mNx, mRaise, mAnd, mOr, mNot, mIf, tstB, tstAnd, tstOr, tstNot, mChain, bind_ok, bind_err, bind_no, toS_ok, toS_err, nox_ok, fin_nx, fin_rt, fin_err, startL, List.map_cons, List.map_nil, List.length_cons, List.length_nil, List.cons_append, List.nil_append, List.getElem?_cons_zero, List.getElem?_cons_succ, List.set_cons_zero, List.set_cons_succ, List.replicate_succ, List.replicate_zero, Nat.zero_add, Nat.reduceAdd, Nat.reduceSub, Nat.add_one_sub_one, Nat.sub_self, if_true, if_false, ite_true, ite_false, Bool.false_eq_true, reduceCtorEq, if_pos, Nat.reduceEqDiff, Nat.reduceLeDiff, decide_true, decide_false, Bool.not_true, Bool.not_false, lcE, ad, hRC])]
  -- all of them are refused, and stand
  have no : ∀ d ∈ AL, modelV d = some false := by
    rw [hAL]
    refine all_app ?_ fun d hd => ?_
    · rw [hRS]; exact all_app (all_app (all_app (all_app (all_app (no_c0 M _) (no_c1 M)) (no_c2 M)) (no_c3 M)) (no_c4 M)) (no_c5 M _ _)
    · obtain ⟨b, hb, rfl⟩ := List.mem_map.mp hd
      rw [hBS] at hb
      exact all_app (P := fun b => NoM (putK ks os st e b)) (all_app (all_app (all_app (no_d0 M) (no_d1 M _)) (no_d2 M bd8)) (no_d3 M)) (no_d4 M) b hb
  have t0c : Gt at_ s (sb ++ [Ob.lst (BS.map (putK ks os st e))] ++ [Ob.lst AL]) := t0.trans (t05.trans (t5b.trans (Gt.app.trans Gt.app)))
  have lv : ∀ d ∈ AL, liv (sb ++ [Ob.lst (BS.map (putK ks os st e))] ++ [Ob.lst AL]) d = true := by
    have tZ5 : Gt at_ s5 (sb ++ [Ob.lst (BS.map (putK ks os st e))] ++ [Ob.lst AL]) := t5b.trans (Gt.app.trans Gt.app)
    have tZ7 : Gt at_ s7 (sb ++ [Ob.lst (BS.map (putK ks os st e))] ++ [Ob.lst AL]) := t8.trans (t9.trans (ta.trans (tb.trans (Gt.app.trans Gt.app))))
    have tZ8 : Gt at_ s8 (sb ++ [Ob.lst (BS.map (putK ks os st e))] ++ [Ob.lst AL]) := t9.trans (ta.trans (tb.trans (Gt.app.trans Gt.app)))
    have a4 := g4.lt
    have a5 := g5.lt
    have vA := lref (tZ5.old _ _ (Nat.ne_of_gt al) h05)
    have vB := lref (tZ5.old _ _ (Nat.ne_of_gt a4) v51)
    have vC := lref (tZ5.old _ _ (by simp; omega) v52)
    have vD := lref (tZ7.old _ _ (by simp; omega) v7)
    have vE := liv_gt tZ8 gc lv8
    revert vA vB vC vD vE
    generalize sb ++ [Ob.lst (BS.map (putK ks os st e))] ++ [Ob.lst AL] = Z
    intro vA vB vC vD vE
    have mp : (pl 13 (.tup ks) && (pl 13 (.tup os) && (pl 13 (.tup st) && (pl 13 (.int e) && true)))) = true := mpl
    simp only [Bool.and_eq_true] at mp
    obtain ⟨mk, mo, ms, _⟩ := mp
    have PK : ∀ x ∈ ks, pl 12 x = true := List.all_eq_true.mp mk
    have LK : ∀ x ∈ ks, liv Z x = true := fun x hx => lpl (PK x hx)
    have LO : ∀ x ∈ os, liv Z x = true := fun x hx => lpl (n := 12) (List.all_eq_true.mp mo x hx)
    have LS : ∀ x ∈ st, liv Z x = true := fun x hx => lpl (n := 12) (List.all_eq_true.mp ms x hx)
    have pkd : (pl 11 boxD && (pl 11 (.tup fs) && (pl 11 (.tup hs) && true))) = true := PK KD (by rw [hk]; exact List.mem_cons_self)
    simp only [Bool.and_eq_true] at pkd
    obtain ⟨_, pf, ph, _⟩ := pkd
    have PF : ∀ x ∈ fs, pl 10 x = true := List.all_eq_true.mp pf
    have LF : ∀ x ∈ fs, liv Z x = true := fun x hx => lpl (PF x hx)
    have LH : ∀ x ∈ hs, liv Z x = true := fun x hx => lpl (n := 10) (List.all_eq_true.mp ph x hx)
    have pone : (pl 9 (.str one) && (pl 9 (.int lo) && (pl 9 (.int hi) && true))) = true := PF f0 (by rw [hf]; exact List.mem_cons_self)
    simp only [Bool.and_eq_true] at pone
    have L1 : liv Z (.str one) = true := lpl pone.1
    have li : ∀ i : Int, liv Z (.int i) = true := fun _ => rfl
    have lb : ∀ b : Bool, liv Z (.bl b) = true := fun _ => rfl
    have w : ∀ z ∈ (["go", "zz", "box", "", "Box"] : List Str), liv Z (.str z) = true := fun z hz => lpl (n := 1) ((show ∀ z ∈ (["go", "zz", "box", "", "Box"] : List Str), pl 1 (.str z) = true by decide +kernel) z hz)
    have wgo := w "go" (by decide +kernel)
    have wbox := w "box" (by decide +kernel)
    have K := tl LK
    have O := tl LO
    have S := tl LS
    have E := li e
    have F := tl LF
    have H := tl LH
    have rep : ∀ (n : Nat) (x : D), liv Z x = true → liv Z (.tup (List.replicate n x)) = true := fun n x hx => tl fun y hy => by rw [(List.mem_replicate.mp hy).2]; exact hx
    have nil : liv Z (.tup []) = true := rfl
    have lst : ∀ {x : D}, liv Z x = true → liv Z (.tup (st ++ [x])) = true := fun hx => tl (all_app LS (all_cons hx all_nil))
    have l4 : ∀ {a b c d : D}, liv Z a = true → liv Z b = true → liv Z c = true → liv Z d = true → liv Z (.tup [a, b, c, d]) = true := fun h1 h2 h3 h4 => tl (all_cons h1 (all_cons h2 (all_cons h3 (all_cons h4 all_nil))))
    have pk : ∀ b, liv Z b = true → liv Z (putK ks os st e b) = true := fun b hb => liv_m (tl (all_cons hb (drop_all LK))) O S E
    rw [hAL]
    refine all_app ?_ fun d hd => ?_
    · rw [hRS]
      refine all_app (all_app (all_app (all_app (all_app ?_ ?_) ?_) ?_) ?_) ?_
      · exact all_cons (liv_3 K O S) (all_cons vA (all_cons (liv_m K O S (li _)) (all_cons (liv_m K O S (li _)) all_nil)))
      · exact all_cons (liv_m K O S (lb _)) (all_cons (liv_m nil O S E) (all_cons (liv_m K nil S E) (all_cons (liv_m K (tl (all_app LO (all_cons (w "zz" (by decide +kernel)) all_nil))) S E) all_nil)))
      · exact all_cons (liv_m K (rep 9 _ wbox) S E) (all_cons (liv_m (tl (all_app LK (take_all LK))) O S E) (all_cons (liv_m K O (lst (liv_3 (li _) (li _) wgo)) E) all_nil))
      · exact all_cons (liv_m K O (lst (l4 (li _) (li _) wgo (li _))) E) (all_cons (liv_m K O (lst (l4 (li _) (li _) wgo (li _))) E) all_nil)
      · exact all_cons (liv_m K O (lst (l4 (li _) (li _) wgo (li _))) E) (all_cons (liv_m K O (lst (l4 (li _) (li _) (w "" (by decide +kernel)) (li _))) E) all_nil)
      · exact all_cons (liv_m K O (rep 13 _ (l4 (li _) (li _) wgo (li _))) E) (all_cons (liv_m K O vB E) (all_cons (liv_m K vC S E) all_nil))
    · obtain ⟨b, hb, rfl⟩ := List.mem_map.mp hd
      refine pk b ?_
      rw [hBS] at hb
      refine all_app (P := fun b => liv Z b = true) (all_app (all_app (all_app ?_ ?_) ?_) ?_) ?_ b hb
      · exact all_cons (liv_3 (w "Box" (by decide +kernel)) F H) (all_cons (liv_3 wbox nil H) (all_cons (liv_3 wbox (liv_1 (liv_3 L1 (li _) (li _))) H) (all_cons (liv_3 wbox (tl (all_app LF LF)) H) all_nil)))
      · exact all_cons (liv_3 wbox (liv_1 (liv_3 L1 (li _) (li _))) H) (all_cons (liv_3 wbox F (tl (all_app LH (take_all LH)))) (all_cons (liv_3 wbox vD H) all_nil))
      · exact all_cons (liv_3 wbox F (liv_1 (liv_2 wgo nil))) (all_cons (liv_3 wbox F (liv_1 (liv_2 wgo (liv_1 vE)))) (all_cons (liv_3 wbox F (liv_1 (liv_1 wgo))) all_nil))
      · exact all_cons (liv_3 wbox F (liv_1 (liv_2 wgo (rep 81 _ (lpl (n := 2) skip_pl))))) (all_cons (liv_3 wbox (liv_1 (liv_3 L1 (lb _) (li _))) H) (all_cons (liv_2 wbox F) (all_cons (liv_3 (lpl (n := 1) (show pl 1 longD = true by decide +kernel)) F H) all_nil)))
      · exact all_cons (liv_3 wbox F (liv_1 (liv_2 wgo (rep 5 _ (lpl (n := 14) (show pl 14 snd5 = true by decide +kernel)))))) all_nil
  generalize sb ++ [Ob.lst (BS.map (putK ks os st e))] ++ [Ob.lst AL] = sc at *
  obtain ⟨_, sf, qf, ⟨vf, rfl, af, bf⟩, gf, tf⟩ := c_law_next (k := k + 1) gc (many := 3) (by omega)
  have xf := tf.old _ _ nc xc
  by_cases h1 : vf = 1
  · subst h1
    have p : gIx (.ref RC) (.int ((26 : Nat) : Int)) sf = .ok AL[26] sf := ix_lst xf (List.getElem?_eq_getElem (by omega))
    have p : gIx (.ref RC) (.int 26) sf = .ok AL[26] sf := p
    have ln : gLen [.ref RC] sf = .ok (.int 33) sf := by unfold gLen; dsimp only; rw [sq_lst xf]; dsimp only; rw [lAL]; rfl
    rw [seq_rt (d := AL[26]) (s1 := sf) (by simp only [mSeq, mExpr, mRet, mRetN, mIfS, mSet, mAug, mCall, mCons, mNil, mVar, mC, mOp, mUn, mApp, mTup, mLst, mNx, mRaise, mAnd, mOr, mNot, mIf, tstB, tstAnd, tstOr, tstNot, mChain, bind_ok, bind_err, bind_no, toS_ok, toS_err, nox_ok, fin_nx, fin_rt, fin_err, startL, List.map_cons, List.map_nil, List.length_cons, List.length_nil, List.cons_append, List.nil_append, List.getElem?_cons_zero, List.getElem?_cons_succ, List.set_cons_zero, List.set_cons_succ, List.replicate_succ, List.replicate_zero, Nat.zero_add, Nat.reduceAdd, Nat.reduceSub, Nat.add_one_sub_one, Nat.sub_self, if_true, if_false, ite_true, ite_false, Bool.false_eq_true, reduceCtorEq, if_pos, Nat.reduceEqDiff, Nat.reduceLeDiff, decide_true, decide_false, Bool.not_true, Bool.not_false, qf, gEq, gEqB, show ((1 : Int) == 1) = true from rfl, ln, Core.gSub, gI2]; rw [show ((33 : Int) - 7) = 26 from rfl, p]; rfl)]
    exact ⟨_, sf, rfl, ⟨no _ (List.getElem_mem _), liv_gt tf gf (lv _ (List.getElem_mem _))⟩, gf, t0c.trans tf⟩
  · have hb : (vf == 1) = false := beq_eq_false_iff_ne.mpr h1
    rw [seq_nx (l1 := LC MD dr at_ ks os st e KD f0 (some (.ref RC)) (some (.ref b4))) (s1 := sf) (by simp only [mSeq, mExpr, mRet, mRetN, mIfS, mSet, mAug, mCall, mCons, mNil, mVar, mC, mOp, mUn, mApp, mTup, mLst, mNx, mRaise, mAnd, mOr, mNot, mIf, tstB, tstAnd, tstOr, tstNot, mChain, bind_ok, bind_err, bind_no, toS_ok, toS_err, nox_ok, fin_nx, fin_rt, fin_err, startL, List.map_cons, List.map_nil, List.length_cons, List.length_nil, List.cons_append, List.nil_append, List.getElem?_cons_zero, List.getElem?_cons_succ, List.set_cons_zero, List.set_cons_succ, List.replicate_succ, List.replicate_zero, Nat.zero_add, Nat.reduceAdd, Nat.reduceSub, Nat.add_one_sub_one, Nat.sub_self, if_true, if_false, ite_true, ite_false, Bool.false_eq_true, reduceCtorEq, if_pos, Nat.reduceEqDiff, Nat.reduceLeDiff, decide_true, decide_false, Bool.not_true, Bool.not_false, qf, gEq, gEqB, hb])]
    obtain ⟨_, sg, qg, ⟨vg, rfl, ag, bg⟩, gg, tg⟩ := c_law_next (k := k + 1) gf (many := 33) (by omega)
    have xg := tg.old _ _ nc xf
    obtain ⟨i, hi, rfl, pg⟩ := pickL xg ag (by rw [lAL]; exact bg)
    have ln : gLen [.ref RC] sf = .ok (.int 33) sf := by unfold gLen; dsimp only; rw [sq_lst xf]; dsimp only; rw [lAL]; rfl
    refine ⟨_, sg, ?_, ⟨no _ (List.getElem_mem hi), liv_gt (tf.trans tg) gg (lv _ (List.getElem_mem hi))⟩, gg, t0c.trans (tf.trans tg)⟩
    simp only [mSeq, mExpr, mRet, mRetN, mIfS, mSet, mAug, mCall, mCons, mNil, mVar, mC, mOp, mUn, mApp, mTup, mLst, mNx, mRaise, mAnd, mOr, mNot, mIf, tstB, tstAnd, tstOr, tstNot, mChain, bind_ok, bind_err, bind_no, toS_ok, toS_err, nox_ok, fin_nx, fin_rt, fin_err, startL, List.map_cons, List.map_nil, List.length_cons, List.length_nil, List.cons_append, List.nil_append, List.getElem?_cons_zero, List.getElem?_cons_succ, List.set_cons_zero, List.set_cons_succ, List.replicate_succ, List.replicate_zero, Nat.zero_add, Nat.reduceAdd, Nat.reduceSub, Nat.add_one_sub_one, Nat.sub_self, if_true, if_false, ite_true, ite_false, Bool.false_eq_true, reduceCtorEq, if_pos, Nat.reduceEqDiff, Nat.reduceLeDiff, decide_true, decide_false, Bool.not_true, Bool.not_false, ln, qg, pg]
end
end Pr

set_option Elab.async false
set_option linter.all false
set_option maxRecDepth 100000
set_option maxHeartbeats 4000000
/-! the draws -/
namespace Pr
open PySem PySem.Spec PyProof.Rows L2 Core
theorem loop_inv {i : Nat} {body : SM} {I : Nat → Core.Loc → Mem → Prop} : ∀ (ds : List D) (n T : Nat) (l : Core.Loc) (s : Mem), n + ds.length ≤ T → (∀ n l s d, n < T → d ∈ ds → I n l s → ∃ l' s', body (l.set i (some d)) s = .nx l' s' ∧ I (n + 1) l' s') → I n l s →
    ∃ l' s', loopS (fun _ => true) (gmName i) body ds l s = .nx l' s' ∧ I (n + ds.length) l' s'
  | [], n, T, l, s, hT, hb, h => ⟨l, s, rfl, h⟩
  | d :: ds, n, T, l, s, hT, hb, h => by
    rw [List.length_cons] at hT
    obtain ⟨l1, s1, e1, h1⟩ := hb n l s d (by omega) List.mem_cons_self h
    obtain ⟨l2, s2, e2, h2⟩ := loop_inv ds (n + 1) T l1 s1 (by omega) (fun n l s d hn hd => hb n l s d hn (List.mem_cons_of_mem _ hd)) h1
    refine ⟨l2, s2, ?_, by rw [List.length_cons, show n + (ds.length + 1) = n + 1 + ds.length by omega]; exact h2⟩
    unfold loopS
    rw [if_pos rfl]
    dsimp only [gmName]
    rw [e1]
    exact e2
section
variable {k sc R : Nat} {ns : List Int}
/-- the list of draws at R; the script at sc -/
def Dw (sc R : Nat) (ns : List Int) (b : Nat) (s : Mem) : Prop := ∃ is : List Int, s[R]? = some (.lst (is.map D.int)) ∧ is.length ≤ b ∧ rdL s sc = some (ns.map D.int)
theorem Dw.put (h : Dw sc R ns b s) (hn : R ≠ sc) (hb : b < 100000) (v : Int) : ∃ s', gAppend (.ref R) [.int v] s = .ok .non s' ∧ Dw sc R ns (b + 1) s' := by
  obtain ⟨is, h1, h2, h3⟩ := h
  refine ⟨s.set R (.lst (is.map D.int ++ [.int v])), app_at h1 (by rw [List.length_map]; omega), is ++ [v], ?_, by rw [List.length_append, List.length_singleton]; omega, ?_⟩
  · rw [set_at h1, List.map_append]; rfl
  · unfold rdL at h3 ⊢
    rw [List.getElem?_set_ne hn]; exact h3
theorem Dw.is (h : Dw sc R ns b s) : ∃ xs, s[R]? = some (.lst xs) := let ⟨is, h1, _⟩ := h; ⟨_, h1⟩
theorem ix_rd {n i : Nat} {xs : List D} {x : D} (h : rdL s n = some xs) (hx : xs[i]? = some x) : gIx (.ref n) (.int i) s = .ok x s := by
  unfold gIx
  dsimp only
  rw [show seqD s (.ref n) = some xs from h]
  dsimp only
  rw [at_nat hx]
theorem mulR {i j : Int} {s : Mem} (h : -(2 ^ 64) < j ∧ j < 2 ^ 64) : gMulA (.int i) (.int j) s = .ok (.int (i * j)) s := by
  show (if (-(2 ^ 64) < i ∧ i < 2 ^ 64) ∨ (-(2 ^ 64) < j ∧ j < 2 ^ 64) then Core.R.ok (D.int (i * j)) s else .no) = _
  rw [if_pos (.inr h)]
theorem mulL {i j : Int} {s : Mem} (h : -(2 ^ 64) < i ∧ i < 2 ^ 64) : gMulA (.int i) (.int j) s = .ok (.int (i * j)) s := by
  show (if (-(2 ^ 64) < i ∧ i < 2 ^ 64) ∨ (-(2 ^ 64) < j ∧ j < 2 ^ 64) then Core.R.ok (D.int (i * j)) s else .no) = _
  rw [if_pos (.inl h)]
theorem c_law_draws {s : Mem} (hr : rdL s sc = some (ns.map D.int)) (hn : ns.length ≤ 63) : ∃ (is : List Int) (s' : Mem), call (k + 1) .law_draws [.ref sc] s = .ok (.ref s.length) s' ∧ s'[s.length]? = some (.lst (is.map D.int)) ∧ s.length < s'.length := by
  show ∃ is s', Core.fin (m_law_draws (call k) [some (.ref sc), none, none, none, none, none] s) = _ ∧ _
  have scl : sc < s.length := by
    unfold rdL at hr
    cases q : s[sc]? with
    | none => rw [q] at hr; cases hr
    | some o => exact (List.getElem?_eq_some_iff.mp q).1
  have R_ne : s.length ≠ sc := Nat.ne_of_gt scl
  have d0 : Dw sc s.length ns (40 * 0) (s ++ [Ob.lst []]) := ⟨[], last_at, Nat.le_refl _, by unfold rdL at hr ⊢; rw [List.getElem?_append_left scl]; exact hr⟩
  have ln : gLen [.ref sc] (s ++ [Ob.lst []]) = .ok (.int ns.length) (s ++ [Ob.lst []]) := by
    obtain ⟨_, _, _, h⟩ := d0
    unfold gLen
    dsimp only
    rw [show seqD (s ++ [Ob.lst []]) (.ref sc) = some (ns.map D.int) from h]
    dsimp only
    rw [List.length_map]
  obtain ⟨l9, s9, e9, ⟨o2, o3, o4, o5, rfl⟩, _, is, h9, _, _⟩ := loop_inv (i := 2) (body := (mSeq (mSet 3 (mApp gAbs (mCons (mOp gIx (mVar 0) (mVar 2)) mNil)))
    (mIfS (tstB (mOp gGe (mVar 3) (mOp gPow (mC (.int 10)) (mC (.int 18)))))
      (mFor (iRange1 (mCons (mC (.int 40)) mNil)) (gmName 4)
        (mSeq (mExpr (mLm gAppend (mVar 1) (mCons (mOp gMod (mApp gInt1 (mCons (mVar 3) mNil)) (mC (.int 1000))) mNil)))
        (mSet 3 (mOp gFdiv (mVar 3) (mC (.int 1000))))))
      (mSeq (mSet 5 (mOp Core.gAdd (mVar 3) (mC (.int 1))))
      (mFor (iRange1 (mCons (mC (.int 8)) mNil)) (gmName 4)
        (mSeq (mSet 5 (mOp gMod (mApp gInt1 (mCons (mOp Core.gAdd (mOp Core.gAdd (mOp gMulA (mVar 5) (mC (.int 48271))) (mOp gMulA (mC (.int 7919)) (mOp Core.gAdd (mVar 2) (mVar 4)))) (mC (.int 11))) mNil)) (mC (.int 2147483647))))
        (mSeq (mSet 5 (mOp gMod (mApp gInt1 (mCons (mOp Core.gAdd (mOp gMulA (mVar 5) (mC (.int 69621))) (mC (.int 13))) mNil)) (mC (.int 2147483629))))
        (mExpr (mLm gAppend (mVar 1) (mCons (mOp gMod (mApp gInt1 (mCons (mOp gFdiv (mVar 5) (mC (.int 5))) mNil)) (mC (.int 1000))) mNil)))))))))) (I := fun n l s' => (∃ o2 o3 o4 o5, l = [some (.ref sc), some (.ref s.length), o2, o3, o4, o5]) ∧ (s.length < s'.length) ∧ Dw sc s.length ns (40 * n) s')
    ((List.range (ns.length : Int).toNat).map fun (i : Nat) => D.int (0 + (i : Int))) 0 63 [some (.ref sc), some (.ref s.length), none, none, none, none] (s ++ [Ob.lst []]) (by rw [rng_len]; omega) (fun n l s1 d hn63 hd ⟨⟨o2, o3, o4, o5, hl⟩, hlen, hD⟩ => by
      subst hl
      obtain ⟨i, hi, rfl⟩ := List.mem_map.mp hd
      have hi := List.mem_range.mp hi
      have hi' : i < ns.length := by omega
      have ix : gIx (.ref sc) (.int (0 + (i : Int))) s1 = .ok (.int ns[i]) s1 := by
        obtain ⟨_, _, _, h⟩ := hD
        rw [Int.zero_add]
        exact ix_rd h (by rw [List.getElem?_map, List.getElem?_eq_getElem hi']; rfl)
      obtain ⟨cell, hc⟩ : ∃ c : Int, c = (if ns[i] < 0 then -ns[i] else ns[i]) := ⟨_, rfl⟩
      have pw : gPow (.int 10) (.int 18) s1 = .ok (.int (10 ^ 18)) s1 := by rfl
      rw [seq_nx (l1 := [some (.ref sc), some (.ref s.length), some (.int (0 + (i : Int))), some (.int cell), o4, o5]) (s1 := s1) (by simp only [mSeq, mExpr, mRet, mRetN, mIfS, mSet, mAug, mCall, mCons, mNil, mVar, mC, mOp, mUn, mApp, mTup, mLst, mNx, mRaise, mAnd, mOr, mNot, mIf, tstB, tstAnd, tstOr, tstNot, mChain, bind_ok, bind_err, bind_no, toS_ok, toS_err, nox_ok, fin_nx, fin_rt, fin_err, startL, List.map_cons, List.map_nil, List.length_cons, List.length_nil, List.cons_append, List.nil_append, List.getElem?_cons_zero, List.getElem?_cons_succ, List.set_cons_zero, List.set_cons_succ, List.replicate_succ, List.replicate_zero, Nat.zero_add, Nat.reduceAdd, Nat.reduceSub, Nat.add_one_sub_one, Nat.sub_self, if_true, if_false, ite_true, ite_false, Bool.false_eq_true, reduceCtorEq, if_pos, Nat.reduceEqDiff, Nat.reduceLeDiff, decide_true, decide_false, Bool.not_true, Bool.not_false, ix, gAbs, hc])]
      by_cases hbig : (10 ^ 18 : Int) ≤ cell
      · obtain ⟨l2, s2, e2, ⟨c3, c4, rfl⟩, hl2, hD2⟩ := loop_inv (i := 4) (body := (mSeq (mExpr (mLm gAppend (mVar 1) (mCons (mOp gMod (mApp gInt1 (mCons (mVar 3) mNil)) (mC (.int 1000))) mNil)))
        (mSet 3 (mOp gFdiv (mVar 3) (mC (.int 1000)))))) (I := fun m l s' => (∃ c o4, l = [some (.ref sc), some (.ref s.length), some (.int (0 + (i : Int))), some (.int c), o4, o5]) ∧ s.length < s'.length ∧ Dw sc s.length ns (40 * n + m) s')
          ((List.range (40 : Int).toNat).map fun (i : Nat) => D.int (0 + (i : Int))) 0 40 [some (.ref sc), some (.ref s.length), some (.int (0 + (i : Int))), some (.int cell), o4, o5] s1 (by rw [rng_len]; omega) (fun m l s2 d hm hd ⟨⟨c, o4', hl⟩, hl2, hD2⟩ => by
            subst hl
            obtain ⟨xs, hx⟩ := hD2.is
            obtain ⟨s3, e3, hD3⟩ := hD2.put R_ne (by omega) (c % 1000)
            have hl3 : s.length < s3.length := let ⟨_, h, _⟩ := hD3; (List.getElem?_eq_some_iff.mp h).1
            refine ⟨[some (.ref sc), some (.ref s.length), some (.int (0 + (i : Int))), some (.int (c / 1000)), some d, o5], s3, ?_, ⟨_, _, rfl⟩, hl3, hD3⟩
            simp only [mSeq, mExpr, mRet, mRetN, mIfS, mSet, mAug, mCall, mCons, mNil, mVar, mC, mOp, mUn, mApp, mTup, mLst, mNx, mRaise, mAnd, mOr, mNot, mIf, tstB, tstAnd, tstOr, tstNot, mChain, bind_ok, bind_err, bind_no, toS_ok, toS_err, nox_ok, fin_nx, fin_rt, fin_err, startL, List.map_cons, List.map_nil, List.length_cons, List.length_nil, List.cons_append, List.nil_append, List.getElem?_cons_zero, List.getElem?_cons_succ, List.set_cons_zero, List.set_cons_succ, List.replicate_succ, List.replicate_zero, Nat.zero_add, Nat.reduceAdd, Nat.reduceSub, Nat.add_one_sub_one, Nat.sub_self, if_true, if_false, ite_true, ite_false, Bool.false_eq_true, reduceCtorEq, if_pos, Nat.reduceEqDiff, Nat.reduceLeDiff, decide_true, decide_false, Bool.not_true, Bool.not_false, mLm, hx, gInt1, gMod, gI2C, show decide ((0 : Int) < 1000) = true from rfl, e3, gFdiv, show decide ((0 : Int) < 1000 ∧ (1000 : Int) < 1073741824) = true from rfl]) ⟨⟨_, _, rfl⟩, hlen, hD⟩
        rw [rng_len, Nat.zero_add] at hD2
        refine ⟨[some (.ref sc), some (.ref s.length), some (.int (0 + (i : Int))), some (.int c3), c4, o5], s2, ?_, ⟨_, _, _, _, rfl⟩, hl2, by rw [show 40 * (n + 1) = 40 * n + (40 : Int).toNat from rfl]; exact hD2⟩
        unfold mIfS
        rw [show (tstB (mOp gGe (mVar 3) (mOp gPow (mC (.int 10)) (mC (.int 18))))) [some (.ref sc), some (.ref s.length), some (.int (0 + (i : Int))), some (.int cell), o4, o5] s1 = .ok true s1 by simp only [mSeq, mExpr, mRet, mRetN, mIfS, mSet, mAug, mCall, mCons, mNil, mVar, mC, mOp, mUn, mApp, mTup, mLst, mNx, mRaise, mAnd, mOr, mNot, mIf, tstB, tstAnd, tstOr, tstNot, mChain, bind_ok, bind_err, bind_no, toS_ok, toS_err, nox_ok, fin_nx, fin_rt, fin_err, startL, List.map_cons, List.map_nil, List.length_cons, List.length_nil, List.cons_append, List.nil_append, List.getElem?_cons_zero, List.getElem?_cons_succ, List.set_cons_zero, List.set_cons_succ, List.replicate_succ, List.replicate_zero, Nat.zero_add, Nat.reduceAdd, Nat.reduceSub, Nat.add_one_sub_one, Nat.sub_self, if_true, if_false, ite_true, ite_false, Bool.false_eq_true, reduceCtorEq, if_pos, Nat.reduceEqDiff, Nat.reduceLeDiff, decide_true, decide_false, Bool.not_true, Bool.not_false, pw, gOrd, decide_eq_true hbig], toS_ok, if_pos rfl]
        exact (rng1 (s1 := s1) (j := 40) (by simp only [mSeq, mExpr, mRet, mRetN, mIfS, mSet, mAug, mCall, mCons, mNil, mVar, mC, mOp, mUn, mApp, mTup, mLst, mNx, mRaise, mAnd, mOr, mNot, mIf, tstB, tstAnd, tstOr, tstNot, mChain, bind_ok, bind_err, bind_no, toS_ok, toS_err, nox_ok, fin_nx, fin_rt, fin_err, startL, List.map_cons, List.map_nil, List.length_cons, List.length_nil, List.cons_append, List.nil_append, List.getElem?_cons_zero, List.getElem?_cons_succ, List.set_cons_zero, List.set_cons_succ, List.replicate_succ, List.replicate_zero, Nat.zero_add, Nat.reduceAdd, Nat.reduceSub, Nat.add_one_sub_one, Nat.sub_self, if_true, if_false, ite_true, ite_false, Bool.false_eq_true, reduceCtorEq, if_pos, Nat.reduceEqDiff, Nat.reduceLeDiff, decide_true, decide_false, Bool.not_true, Bool.not_false]) (by omega) (by omega)).trans e2
      · obtain ⟨l2, s2, e2, ⟨c4, c5, rfl⟩, hl2, hD2⟩ := loop_inv (i := 4) (body := (mSeq (mSet 5 (mOp gMod (mApp gInt1 (mCons (mOp Core.gAdd (mOp Core.gAdd (mOp gMulA (mVar 5) (mC (.int 48271))) (mOp gMulA (mC (.int 7919)) (mOp Core.gAdd (mVar 2) (mVar 4)))) (mC (.int 11))) mNil)) (mC (.int 2147483647))))
        (mSeq (mSet 5 (mOp gMod (mApp gInt1 (mCons (mOp Core.gAdd (mOp gMulA (mVar 5) (mC (.int 69621))) (mC (.int 13))) mNil)) (mC (.int 2147483629))))
        (mExpr (mLm gAppend (mVar 1) (mCons (mOp gMod (mApp gInt1 (mCons (mOp gFdiv (mVar 5) (mC (.int 5))) mNil)) (mC (.int 1000))) mNil)))))) (I := fun m l s' => (∃ o4 c, l = [some (.ref sc), some (.ref s.length), some (.int (0 + (i : Int))), some (.int cell), o4, some (.int c)]) ∧ s.length < s'.length ∧ Dw sc s.length ns (40 * n + m) s')
          ((List.range (8 : Int).toNat).map fun (i : Nat) => D.int (0 + (i : Int))) 0 8 [some (.ref sc), some (.ref s.length), some (.int (0 + (i : Int))), some (.int cell), o4, some (.int (cell + 1))] s1 (by rw [rng_len]; omega) (fun m l s2 d hm hd ⟨⟨o4', c, hl⟩, hl2, hD2⟩ => by
            subst hl
            obtain ⟨st, _, rfl⟩ := List.mem_map.mp hd
            obtain ⟨xs, hx⟩ := hD2.is
            obtain ⟨m1, hm1⟩ : ∃ m1 : Int, m1 = (c * 48271 + 7919 * (0 + (i : Int) + (0 + (st : Int))) + 11) % 2147483647 := ⟨_, rfl⟩
            obtain ⟨m2, hm2⟩ : ∃ m2 : Int, m2 = (m1 * 69621 + 13) % 2147483629 := ⟨_, rfl⟩
            obtain ⟨s3, e3, hD3⟩ := hD2.put R_ne (by omega) (m2 / 5 % 1000)
            have hl3 : s.length < s3.length := let ⟨_, h, _⟩ := hD3; (List.getElem?_eq_some_iff.mp h).1
            refine ⟨[some (.ref sc), some (.ref s.length), some (.int (0 + (i : Int))), some (.int cell), some (.int (0 + (st : Int))), some (.int m2)], s3, ?_, ⟨_, _, rfl⟩, hl3, hD3⟩
            simp only [mSeq, mExpr, mRet, mRetN, mIfS, mSet, mAug, mCall, mCons, mNil, mVar, mC, mOp, mUn, mApp, mTup, mLst, mNx, mRaise, mAnd, mOr, mNot, mIf, tstB, tstAnd, tstOr, tstNot, mChain, bind_ok, bind_err, bind_no, toS_ok, toS_err, nox_ok, fin_nx, fin_rt, fin_err, startL, List.map_cons, List.map_nil, List.length_cons, List.length_nil, List.cons_append, List.nil_append, List.getElem?_cons_zero, List.getElem?_cons_succ, List.set_cons_zero, List.set_cons_succ, List.replicate_succ, List.replicate_zero, Nat.zero_add, Nat.reduceAdd, Nat.reduceSub, Nat.add_one_sub_one, Nat.sub_self, if_true, if_false, ite_true, ite_false, Bool.false_eq_true, reduceCtorEq, if_pos, Nat.reduceEqDiff, Nat.reduceLeDiff, decide_true, decide_false, Bool.not_true, Bool.not_false, mulR (i := c) (j := 48271) (s := s2) (by omega), Core.gAdd, mulL (i := 7919) (j := 0 + (i : Int) + (0 + (st : Int))) (s := s2) (by omega), gInt1, gMod, gI2C, show decide ((0 : Int) < 2147483647) = true from rfl, ← hm1, mulR (i := m1) (j := 69621) (s := s2) (by omega), show decide ((0 : Int) < 2147483629) = true from rfl, ← hm2, mLm, hx, gFdiv, show decide ((0 : Int) < 5 ∧ (5 : Int) < 1073741824) = true from rfl, show decide ((0 : Int) < 1000) = true from rfl, e3]) ⟨⟨_, _, rfl⟩, hlen, hD⟩
        rw [rng_len, Nat.zero_add] at hD2
        refine ⟨[some (.ref sc), some (.ref s.length), some (.int (0 + (i : Int))), some (.int cell), c4, some (.int c5)], s2, ?_, ⟨_, _, _, _, rfl⟩, hl2, by obtain ⟨is, h1, h2, h3⟩ := hD2; exact ⟨is, h1, by have : (8 : Int).toNat = 8 := rfl; omega, h3⟩⟩
        unfold mIfS
        rw [show (tstB (mOp gGe (mVar 3) (mOp gPow (mC (.int 10)) (mC (.int 18))))) [some (.ref sc), some (.ref s.length), some (.int (0 + (i : Int))), some (.int cell), o4, o5] s1 = .ok false s1 by simp only [mSeq, mExpr, mRet, mRetN, mIfS, mSet, mAug, mCall, mCons, mNil, mVar, mC, mOp, mUn, mApp, mTup, mLst, mNx, mRaise, mAnd, mOr, mNot, mIf, tstB, tstAnd, tstOr, tstNot, mChain, bind_ok, bind_err, bind_no, toS_ok, toS_err, nox_ok, fin_nx, fin_rt, fin_err, startL, List.map_cons, List.map_nil, List.length_cons, List.length_nil, List.cons_append, List.nil_append, List.getElem?_cons_zero, List.getElem?_cons_succ, List.set_cons_zero, List.set_cons_succ, List.replicate_succ, List.replicate_zero, Nat.zero_add, Nat.reduceAdd, Nat.reduceSub, Nat.add_one_sub_one, Nat.sub_self, if_true, if_false, ite_true, ite_false, Bool.false_eq_true, reduceCtorEq, if_pos, Nat.reduceEqDiff, Nat.reduceLeDiff, decide_true, decide_false, Bool.not_true, Bool.not_false, pw, gOrd, decide_eq_false hbig], toS_ok, if_neg Bool.false_ne_true]
        rw [seq_nx (l1 := [some (.ref sc), some (.ref s.length), some (.int (0 + (i : Int))), some (.int cell), o4, some (.int (cell + 1))]) (s1 := s1) (by simp only [mSeq, mExpr, mRet, mRetN, mIfS, mSet, mAug, mCall, mCons, mNil, mVar, mC, mOp, mUn, mApp, mTup, mLst, mNx, mRaise, mAnd, mOr, mNot, mIf, tstB, tstAnd, tstOr, tstNot, mChain, bind_ok, bind_err, bind_no, toS_ok, toS_err, nox_ok, fin_nx, fin_rt, fin_err, startL, List.map_cons, List.map_nil, List.length_cons, List.length_nil, List.cons_append, List.nil_append, List.getElem?_cons_zero, List.getElem?_cons_succ, List.set_cons_zero, List.set_cons_succ, List.replicate_succ, List.replicate_zero, Nat.zero_add, Nat.reduceAdd, Nat.reduceSub, Nat.add_one_sub_one, Nat.sub_self, if_true, if_false, ite_true, ite_false, Bool.false_eq_true, reduceCtorEq, if_pos, Nat.reduceEqDiff, Nat.reduceLeDiff, decide_true, decide_false, Bool.not_true, Bool.not_false, Core.gAdd])]
        exact (rng1 (s1 := s1) (j := 8) (by simp only [mSeq, mExpr, mRet, mRetN, mIfS, mSet, mAug, mCall, mCons, mNil, mVar, mC, mOp, mUn, mApp, mTup, mLst, mNx, mRaise, mAnd, mOr, mNot, mIf, tstB, tstAnd, tstOr, tstNot, mChain, bind_ok, bind_err, bind_no, toS_ok, toS_err, nox_ok, fin_nx, fin_rt, fin_err, startL, List.map_cons, List.map_nil, List.length_cons, List.length_nil, List.cons_append, List.nil_append, List.getElem?_cons_zero, List.getElem?_cons_succ, List.set_cons_zero, List.set_cons_succ, List.replicate_succ, List.replicate_zero, Nat.zero_add, Nat.reduceAdd, Nat.reduceSub, Nat.add_one_sub_one, Nat.sub_self, if_true, if_false, ite_true, ite_false, Bool.false_eq_true, reduceCtorEq, if_pos, Nat.reduceEqDiff, Nat.reduceLeDiff, decide_true, decide_false, Bool.not_true, Bool.not_false]) (by omega) (by omega)).trans e2) ⟨⟨_, _, _, _, rfl⟩, by simp, d0⟩
  refine ⟨is, s9, ?_, h9, (List.getElem?_eq_some_iff.mp h9).1⟩
  unfold m_law_draws
  rw [seq_nx (l1 := [some (.ref sc), some (.ref s.length), none, none, none, none]) (s1 := s ++ [Ob.lst []]) (by simp only [mSeq, mExpr, mRet, mRetN, mIfS, mSet, mAug, mCall, mCons, mNil, mVar, mC, mOp, mUn, mApp, mTup, mLst, mNx, mRaise, mAnd, mOr, mNot, mIf, tstB, tstAnd, tstOr, tstNot, mChain, bind_ok, bind_err, bind_no, toS_ok, toS_err, nox_ok, fin_nx, fin_rt, fin_err, startL, List.map_cons, List.map_nil, List.length_cons, List.length_nil, List.cons_append, List.nil_append, List.getElem?_cons_zero, List.getElem?_cons_succ, List.set_cons_zero, List.set_cons_succ, List.replicate_succ, List.replicate_zero, Nat.zero_add, Nat.reduceAdd, Nat.reduceSub, Nat.add_one_sub_one, Nat.sub_self, if_true, if_false, ite_true, ite_false, Bool.false_eq_true, reduceCtorEq, if_pos, Nat.reduceEqDiff, Nat.reduceLeDiff, decide_true, decide_false, Bool.not_true, Bool.not_false]),
    seq_nx ((rng1 (s1 := s ++ [Ob.lst []]) (j := (ns.length : Int)) (by simp only [mSeq, mExpr, mRet, mRetN, mIfS, mSet, mAug, mCall, mCons, mNil, mVar, mC, mOp, mUn, mApp, mTup, mLst, mNx, mRaise, mAnd, mOr, mNot, mIf, tstB, tstAnd, tstOr, tstNot, mChain, bind_ok, bind_err, bind_no, toS_ok, toS_err, nox_ok, fin_nx, fin_rt, fin_err, startL, List.map_cons, List.map_nil, List.length_cons, List.length_nil, List.cons_append, List.nil_append, List.getElem?_cons_zero, List.getElem?_cons_succ, List.set_cons_zero, List.set_cons_succ, List.replicate_succ, List.replicate_zero, Nat.zero_add, Nat.reduceAdd, Nat.reduceSub, Nat.add_one_sub_one, Nat.sub_self, if_true, if_false, ite_true, ite_false, Bool.false_eq_true, reduceCtorEq, if_pos, Nat.reduceEqDiff, Nat.reduceLeDiff, decide_true, decide_false, Bool.not_true, Bool.not_false, ln]) (by omega) (by omega)).trans e9)]
  simp only [mSeq, mExpr, mRet, mRetN, mIfS, mSet, mAug, mCall, mCons, mNil, mVar, mC, mOp, mUn, mApp, mTup, mLst, mNx, mRaise, mAnd, mOr, mNot, mIf, tstB, tstAnd, tstOr, tstNot, mChain, bind_ok, bind_err, bind_no, toS_ok, toS_err, nox_ok, fin_nx, fin_rt, fin_err, startL, List.map_cons, List.map_nil, List.length_cons, List.length_nil, List.cons_append, List.nil_append, List.getElem?_cons_zero, List.getElem?_cons_succ, List.set_cons_zero, List.set_cons_succ, List.replicate_succ, List.replicate_zero, Nat.zero_add, Nat.reduceAdd, Nat.reduceSub, Nat.add_one_sub_one, Nat.sub_self, if_true, if_false, ite_true, ite_false, Bool.false_eq_true, reduceCtorEq, if_pos, Nat.reduceEqDiff, Nat.reduceLeDiff, decide_true, decide_false, Bool.not_true, Bool.not_false]
end
end Pr

set_option Elab.async false
set_option linter.all false
set_option maxRecDepth 100000
set_option maxHeartbeats 4000000
/-! the law: its loops -/
namespace Pr
open PySem PySem.Spec PyProof.Rows L2 Core
theorem loop_inv2 {ok : Mem → Bool} {i : Nat} {body : SM} {I : Core.Loc → Mem → Prop} (hok : ∀ l s, I l s → ok s = true) : ∀ (ds : List D) (l : Core.Loc) (s : Mem), (∀ l s d, d ∈ ds → I l s → ∃ l' s', body (l.set i (some d)) s = .nx l' s' ∧ I l' s') → I l s →
    ∃ l' s', loopS ok (gmName i) body ds l s = .nx l' s' ∧ I l' s'
  | [], l, s, hb, h => ⟨l, s, by unfold loopS; rw [if_pos (hok l s h)], h⟩
  | d :: ds, l, s, hb, h => by
    obtain ⟨l1, s1, e1, h1⟩ := hb l s d List.mem_cons_self h
    obtain ⟨l2, s2, e2, h2⟩ := loop_inv2 hok ds l1 s1 (fun l s d hd => hb l s d (List.mem_cons_of_mem _ hd)) h1
    refine ⟨l2, s2, ?_, h2⟩
    unfold loopS
    rw [if_pos (hok l s h)]
    dsimp only [gmName]
    rw [e1]
    exact e2
theorem ne_refs {s : Mem} {a b n : Nat} {xs : List D} (h : s[a]? = some (.lst xs)) (h' : s[b]? = some (.lst xs)) (hp : ∀ x ∈ xs, pl n x = true) (hn : n ≤ 39) : gNe (.ref a) (.ref b) s = .ok (.bl false) s := by
  obtain ⟨ps, e, hps⟩ := mapM_some (s := s) (n := 39) fun x hx => py_pl (s := s) 39 x (pl_up hn (hp x hx))
  have e1 : ∀ r, s[r]? = some (.lst xs) → py s pyL (.ref r) = some (.list ps) := fun r hr => by
    show (match rdL s r with
      | some xs => (xs.mapM (py s 39)).map PyData.list
      | none => none) = _
    rw [rd_lst hr]
    dsimp only
    rw [e]; rfl
  have e2 : gEqB s (.ref a) (.ref b) = some (PyData.eqv (.list ps) (.list ps)) := by
    show (match py s pyL (.ref a), py s pyL (.ref b) with
      | some p, some q => some (PyData.eqv p q)
      | _, _ => none) = _
    rw [e1 a h, e1 b h']
  unfold gNe
  rw [e2, PySem.SeqAt.eqv_refl_plain (.list ps) (by simpa [PyData.plain] using hps)]
  rfl
section
variable {dr at_ : Nat} {s : Mem}
abbrev LL (dr at_ : Nat) (a3 a4 a5 a6 a7 a8 a9 a10 : Option D) : Core.Loc := [some (.ref 0), some (.ref dr), some (.ref at_), a3, a4, a5, a6, a7, a8, a9, a10, none, none]
/-- .. is refused, value by value -/
theorem vals_ok (g : Gs dr at_ s) {m : D} (hm : ModelP m) {a3 a5 a6 a7 a8 a9 a10 : Option D} : ∃ a5' s', (mFor (iSeq (mLst (mCons (mC .non) (mCons (mC (.int 7)) (mCons (mTup mNil) (mCons (mC (.str "model")) (mCons (mLst (mCons (mVar 4) mNil)) mNil))))))) (gmName 5)
      (mIfS (tstNot (tstB (mCall 1 (call 40 .law_refused) (mCons (mVar 5) mNil))))
        (mRet (mC (.bl false)))
        mNx)) (LL dr at_ a3 (some m) a5 a6 a7 a8 a9 a10) s = .nx (LL dr at_ a3 (some m) a5' a6 a7 a8 a9 a10) s' ∧ Gs dr at_ s' := by
  obtain ⟨VS, hVS⟩ : ∃ V : List D, V = [.non, .int 7, .tup [], .str "model", .ref s.length] := ⟨_, rfl⟩
  have g1 : Gs dr at_ (s ++ [Ob.lst [m]] ++ [Ob.lst VS]) := g.app.app
  have v0 : (s ++ [Ob.lst [m]] ++ [Ob.lst VS])[s.length]? = some (.lst [m]) := app_keep last_at
  have v1 : (s ++ [Ob.lst [m]] ++ [Ob.lst VS])[(s ++ [Ob.lst [m]]).length]? = some (.lst VS) := last_at
  obtain ⟨l', s', e, ⟨a5', rfl⟩, gs, _⟩ := loop_inv2 (ok := okL (s ++ [Ob.lst [m]]).length VS) (i := 5) (body := mIfS (tstNot (tstB (mCall 1 (call 40 .law_refused) (mCons (mVar 5) mNil)))) (mRet (mC (.bl false))) mNx) (I := fun l s' => (∃ a5', l = LL dr at_ a3 (some m) a5' a6 a7 a8 a9 a10) ∧ Gs dr at_ s' ∧ s'[s.length]? = some (.lst [m]) ∧ s'[(s ++ [Ob.lst [m]]).length]? = some (.lst VS))
    (fun l s h => okL_of (rd_lst h.2.2.2)) VS (LL dr at_ a3 (some m) a5 a6 a7 a8 a9 a10) (s ++ [Ob.lst [m]] ++ [Ob.lst VS]) (fun l s1 d hd ⟨⟨a5', hl⟩, gs, w0, w1⟩ => by
      subst hl
      have key : modelV d = some false ∧ liv s1 d = true := by
        rw [hVS] at hd
        refine all_cons (P := fun d => modelV d = some false ∧ liv s1 d = true) ⟨rfl, rfl⟩ (all_cons ⟨rfl, rfl⟩ (all_cons ⟨rfl, rfl⟩ (all_cons ⟨rfl, lpl (n := 1) (by decide +kernel)⟩ (all_cons ⟨rfl, lref w0⟩ all_nil)))) d hd
      obtain ⟨t, cr⟩ := c_law_refused (k := 7) key.2 key.1
      have cr : call 40 .law_refused [d] s1 = .ok (.bl true) (s1 ++ t) := cr
      refine ⟨LL dr at_ a3 (some m) (some d) a6 a7 a8 a9 a10, s1 ++ t, ?_, ⟨_, rfl⟩, gs.app, app_keep w0, app_keep w1⟩
      simp only [mSeq, mExpr, mRet, mRetN, mIfS, mSet, mAug, mCall, mCons, mNil, mVar, mC, mOp, mUn, mApp, mTup, mLst, mNx, mRaise, mAnd, mOr, mNot, mIf, tstB, tstAnd, tstOr, tstNot, mChain, bind_ok, bind_err, bind_no, toS_ok, toS_err, nox_ok, fin_nx, fin_rt, fin_err, startL, List.map_cons, List.map_nil, List.length_cons, List.length_nil, List.cons_append, List.nil_append, List.getElem?_cons_zero, List.getElem?_cons_succ, List.set_cons_zero, List.set_cons_succ, List.replicate_succ, List.replicate_zero, Nat.zero_add, Nat.reduceAdd, Nat.reduceSub, Nat.add_one_sub_one, Nat.sub_self, if_true, if_false, ite_true, ite_false, Bool.false_eq_true, reduceCtorEq, if_pos, Nat.reduceEqDiff, Nat.reduceLeDiff, decide_true, decide_false, Bool.not_true, Bool.not_false, cr]) ⟨⟨_, rfl⟩, g1, v0, v1⟩
  refine ⟨a5', s', ?_, gs⟩
  refine (for_ref (s1 := s ++ [Ob.lst [m]] ++ [Ob.lst VS]) (m := (s ++ [Ob.lst [m]]).length) (ds := VS) (by simp only [mSeq, mExpr, mRet, mRetN, mIfS, mSet, mAug, mCall, mCons, mNil, mVar, mC, mOp, mUn, mApp, mTup, mLst, mNx, mRaise, mAnd, mOr, mNot, mIf, tstB, tstAnd, tstOr, tstNot, mChain, bind_ok, bind_err, bind_no, toS_ok, toS_err, nox_ok, fin_nx, fin_rt, fin_err, startL, List.map_cons, List.map_nil, List.length_cons, List.length_nil, List.cons_append, List.nil_append, List.getElem?_cons_zero, List.getElem?_cons_succ, List.set_cons_zero, List.set_cons_succ, List.replicate_succ, List.replicate_zero, Nat.zero_add, Nat.reduceAdd, Nat.reduceSub, Nat.add_one_sub_one, Nat.sub_self, if_true, if_false, ite_true, ite_false, Bool.false_eq_true, reduceCtorEq, if_pos, Nat.reduceEqDiff, Nat.reduceLeDiff, decide_true, decide_false, Bool.not_true, Bool.not_false, hVS]) (rd_lst v1)).trans e
end
end Pr

set_option Elab.async false
set_option linter.all false
set_option maxRecDepth 100000
set_option maxHeartbeats 4000000
/-! the law: first states -/
namespace Pr
open PySem PySem.Spec PyProof.Rows L2 Core
def due2F : D → D
  | .tup [_, .int lo, .int hi] => .int (if (if hi < 0 then hi else 0) > lo then (if hi < 0 then hi else 0) else lo)
  | _ => .non
theorem due_eq {lo hi : Int} {a : D} : due2F (.tup [a, .int lo, .int hi]) = dueF (.tup [a, .int lo, .int hi]) := by
  have : (if hi < 0 then hi else 0) = (if (0 : Int) < hi then 0 else hi) := by
    by_cases h : hi < 0
    · rw [if_pos h, if_neg (by omega)]
    · by_cases h2 : (0 : Int) < hi
      · rw [if_neg h, if_pos h2]
      · rw [if_neg h, if_neg h2]; omega
  show D.int _ = D.int _
  rw [this]
section
variable {dr at_ : Nat} {s : Mem}
abbrev bNum : SM := (mSeq (mSet 7 (mOp gIx (mLc (iSeq (mOp gIx (mVar 4) (mC (.int 0)))) (gmName 7) [7] (tstB (mOp gEq (mOp gIx (mVar 7) (mC (.int 0))) (mOp gIx (mOp gIx (mVar 4) (mC (.int 1))) (mVar 6)))) (mVar 7)) (mC (.int 0))))
      (mSeq (mSet 8 (mApp gTuple (mCons (mLc (iSeq (mOp gIx (mVar 7) (mC (.int 1)))) (gmName 11) [11] tYes' (mApp (gM2 fun i j => if j > i then j else i) (mCons (mOp gIx (mVar 11) (mC (.int 1))) (mCons (mApp (gM2 fun i j => if j < i then j else i) (mCons (mC (.int 0)) (mCons (mOp gIx (mVar 11) (mC (.int 2))) mNil))) mNil)))) mNil)))
      (mIfS (tstB (mOp gNe (mCall 2 (call 40 .first_state) (mCons (mVar 4) (mCons (mVar 6) mNil))) (mVar 8)))
        (mRet (mC (.bl false)))
        mNx)))
theorem num_ok {m : D} (hm : ModelP m) {n : Nat} (hn : ∀ ks os st e, m = .tup [ks, .tup os, st, e] → n < os.length) {a3 a5 a7 a8 a9 a10 : Option D} : ∃ a7' a8' t, bNum (LL dr at_ a3 (some m) a5 (some (.int n)) a7 a8 a9 a10) s = .nx (LL dr at_ a3 (some m) a5 (some (.int n)) a7' a8' a9 a10) (s ++ t) := by
  obtain ⟨j, ks, os, st, e, rfl, h1, h2, t, h3, h4, ho, h5, he, h6, h7⟩ := hm
  have hn := hn _ _ _ _ rfl
  obtain ⟨z, y, K⟩ := kof_of h1 h2 t ho hn
  have hk := ks_hd h1 h2 t
  have kl : ks.length ≤ 4 := by rw [(kn_hd h1 h2 t).2.1]; omega
  obtain ⟨zz, hz⟩ := K.kind
  obtain ⟨fs, hs, rfl, lf, hfs⟩ := kind_fs hz
  let MD : D := .tup [.tup ks, .tup os, .tup st, .int e]
  have lc := lc_filt (s := s) (ok := fun _ => true) (g := gmName 7) (vs := [7]) (l := LL dr at_ a3 (some MD) a5 (some (.int n)) a7 a8 a9 a10) (tt := tstB (mOp gEq (mOp gIx (mVar 7) (mC (.int 0))) (mOp gIx (mOp gIx (mVar 4) (mC (.int 1))) (mVar 6)))) (me := mVar 7) (T := isK z) (F := id) ks [] (fun _ => rfl) (fun d hd => by
    obtain ⟨x, b, c, rfl⟩ := hk d hd
    exact ⟨LL dr at_ a3 (some MD) a5 (some (.int n)) (some (.tup [.str x, b, c])) a8 a9 a10, rfl, fun u => by simp only [mSeq, mExpr, mRet, mRetN, mIfS, mSet, mAug, mCall, mCons, mNil, mVar, mC, mOp, mUn, mApp, mTup, mLst, mNx, mRaise, mAnd, mOr, mNot, mIf, tstB, tstAnd, tstOr, tstNot, mChain, bind_ok, bind_err, bind_no, toS_ok, toS_err, nox_ok, fin_nx, fin_rt, fin_err, startL, List.map_cons, List.map_nil, List.length_cons, List.length_nil, List.cons_append, List.nil_append, List.getElem?_cons_zero, List.getElem?_cons_succ, List.set_cons_zero, List.set_cons_succ, List.replicate_succ, List.replicate_zero, Nat.zero_add, Nat.reduceAdd, Nat.reduceSub, Nat.add_one_sub_one, Nat.sub_self, if_true, if_false, ite_true, ite_false, Bool.false_eq_true, reduceCtorEq, if_pos, Nat.reduceEqDiff, Nat.reduceLeDiff, decide_true, decide_false, Bool.not_true, Bool.not_false, ix0, ix1, ix_nat K.at_, gEq, gEqB, MD]; rfl, fun u => rfl⟩) (by rw [List.length_nil]; omega)
  rw [List.nil_append, List.map_id] at lc
  have e1 : mLc (iSeq (mOp gIx (mVar 4) (mC (.int 0)))) (gmName 7) [7] (tstB (mOp gEq (mOp gIx (mVar 7) (mC (.int 0))) (mOp gIx (mOp gIx (mVar 4) (mC (.int 1))) (mVar 6)))) (mVar 7) (LL dr at_ a3 (some MD) a5 (some (.int n)) a7 a8 a9 a10) s = .ok (.ref s.length) (s ++ [Ob.lst (ks.filter (isK z))]) := (lc_tup (s1 := s) (by simp only [mSeq, mExpr, mRet, mRetN, mIfS, mSet, mAug, mCall, mCons, mNil, mVar, mC, mOp, mUn, mApp, mTup, mLst, mNx, mRaise, mAnd, mOr, mNot, mIf, tstB, tstAnd, tstOr, tstNot, mChain, bind_ok, bind_err, bind_no, toS_ok, toS_err, nox_ok, fin_nx, fin_rt, fin_err, startL, List.map_cons, List.map_nil, List.length_cons, List.length_nil, List.cons_append, List.nil_append, List.getElem?_cons_zero, List.getElem?_cons_succ, List.set_cons_zero, List.set_cons_succ, List.replicate_succ, List.replicate_zero, Nat.zero_add, Nat.reduceAdd, Nat.reduceSub, Nat.add_one_sub_one, Nat.sub_self, if_true, if_false, ite_true, ite_false, Bool.false_eq_true, reduceCtorEq, if_pos, Nat.reduceEqDiff, Nat.reduceLeDiff, decide_true, decide_false, Bool.not_true, Bool.not_false, ix0, MD])).trans lc
  obtain ⟨r, hr⟩ := K.fst
  have p : gIx (.ref s.length) (.int ((0 : Nat) : Int)) (s ++ [Ob.lst (ks.filter (isK z))]) = .ok (.tup [zz, .tup fs, .tup hs]) _ := ix_lst last_at (by rw [hr]; rfl)
  have p : gIx (.ref s.length) (.int 0) (s ++ [Ob.lst (ks.filter (isK z))]) = .ok (.tup [zz, .tup fs, .tup hs]) (s ++ [Ob.lst (ks.filter (isK z))]) := p
  have ef : fs.map due2F = fs.map dueF := List.map_congr_left fun f hf => by
    obtain ⟨one, lo, hi, rfl⟩ := hfs f hf
    exact due_eq
  have lc2 := lc_map (s := s ++ [Ob.lst (ks.filter (isK z))]) (ok := fun _ => true) (g := gmName 11) (vs := [11]) (l := LL dr at_ a3 (some MD) a5 (some (.int n)) (some (.tup [zz, .tup fs, .tup hs])) a8 a9 a10) (me := mApp (gM2 fun i j => if j > i then j else i) (mCons (mOp gIx (mVar 11) (mC (.int 1))) (mCons (mApp (gM2 fun i j => if j < i then j else i) (mCons (mC (.int 0)) (mCons (mOp gIx (mVar 11) (mC (.int 2))) mNil))) mNil))) (F := due2F) fs [] (fun _ => rfl) (fun d hd => by
    obtain ⟨one, lo, hi, rfl⟩ := hfs d hd
    exact ⟨[some (.ref 0), some (.ref dr), some (.ref at_), a3, some MD, a5, some (.int n), some (.tup [zz, .tup fs, .tup hs]), a8, a9, a10, some (.tup [.str one, .int lo, .int hi]), none], rfl, fun u => by simp only [mSeq, mExpr, mRet, mRetN, mIfS, mSet, mAug, mCall, mCons, mNil, mVar, mC, mOp, mUn, mApp, mTup, mLst, mNx, mRaise, mAnd, mOr, mNot, mIf, tstB, tstAnd, tstOr, tstNot, mChain, bind_ok, bind_err, bind_no, toS_ok, toS_err, nox_ok, fin_nx, fin_rt, fin_err, startL, List.map_cons, List.map_nil, List.length_cons, List.length_nil, List.cons_append, List.nil_append, List.getElem?_cons_zero, List.getElem?_cons_succ, List.set_cons_zero, List.set_cons_succ, List.replicate_succ, List.replicate_zero, Nat.zero_add, Nat.reduceAdd, Nat.reduceSub, Nat.add_one_sub_one, Nat.sub_self, if_true, if_false, ite_true, ite_false, Bool.false_eq_true, reduceCtorEq, if_pos, Nat.reduceEqDiff, Nat.reduceLeDiff, decide_true, decide_false, Bool.not_true, Bool.not_false, ix1, ix2, gM2]; rfl⟩) (by rw [List.length_nil]; omega)
  rw [List.nil_append, ef] at lc2
  have e2 : mLc (iSeq (mOp gIx (mVar 7) (mC (.int 1)))) (gmName 11) [11] tYes' (mApp (gM2 fun i j => if j > i then j else i) (mCons (mOp gIx (mVar 11) (mC (.int 1))) (mCons (mApp (gM2 fun i j => if j < i then j else i) (mCons (mC (.int 0)) (mCons (mOp gIx (mVar 11) (mC (.int 2))) mNil))) mNil))) (LL dr at_ a3 (some MD) a5 (some (.int n)) (some (.tup [zz, .tup fs, .tup hs])) a8 a9 a10) (s ++ [Ob.lst (ks.filter (isK z))]) = .ok (.ref (s ++ [Ob.lst (ks.filter (isK z))]).length) (s ++ [Ob.lst (ks.filter (isK z))] ++ [Ob.lst (fs.map dueF)]) := (lc_tup (s1 := s ++ [Ob.lst (ks.filter (isK z))]) (by simp only [mSeq, mExpr, mRet, mRetN, mIfS, mSet, mAug, mCall, mCons, mNil, mVar, mC, mOp, mUn, mApp, mTup, mLst, mNx, mRaise, mAnd, mOr, mNot, mIf, tstB, tstAnd, tstOr, tstNot, mChain, bind_ok, bind_err, bind_no, toS_ok, toS_err, nox_ok, fin_nx, fin_rt, fin_err, startL, List.map_cons, List.map_nil, List.length_cons, List.length_nil, List.cons_append, List.nil_append, List.getElem?_cons_zero, List.getElem?_cons_succ, List.set_cons_zero, List.set_cons_succ, List.replicate_succ, List.replicate_zero, Nat.zero_add, Nat.reduceAdd, Nat.reduceSub, Nat.add_one_sub_one, Nat.sub_self, if_true, if_false, ite_true, ite_false, Bool.false_eq_true, reduceCtorEq, if_pos, Nat.reduceEqDiff, Nat.reduceLeDiff, decide_true, decide_false, Bool.not_true, Bool.not_false, ix1])).trans lc2
  obtain ⟨t3, cf⟩ := c_first_state (s := s ++ [Ob.lst (ks.filter (isK z))] ++ [Ob.lst (fs.map dueF)]) (k := 38) (st := .tup st) (e := .int e) K hk kl lf hfs
  have cf : call 40 .first_state [MD, .int n] (s ++ [Ob.lst (ks.filter (isK z))] ++ [Ob.lst (fs.map dueF)]) = _ := cf
  have pd : pl 2 (.tup (fs.map dueF)) = true := pl_tup fun x hx => by
    obtain ⟨f, hf, rfl⟩ := List.mem_map.mp hx
    obtain ⟨one, lo, hi, rfl⟩ := hfs f hf
    rfl
  refine ⟨some (.tup [zz, .tup fs, .tup hs]), some (.tup (fs.map dueF)), [Ob.lst (ks.filter (isK z))] ++ ([Ob.lst (fs.map dueF)] ++ t3), ?_⟩
  show bNum (LL dr at_ a3 (some MD) a5 (some (.int n)) a7 a8 a9 a10) s = _
  unfold bNum
  rw [seq_nx (l1 := LL dr at_ a3 (some MD) a5 (some (.int n)) (some (.tup [zz, .tup fs, .tup hs])) a8 a9 a10) (s1 := s ++ [Ob.lst (ks.filter (isK z))]) (by simp only [mSeq, mExpr, mRet, mRetN, mIfS, mSet, mAug, mCall, mCons, mNil, mVar, mC, mOp, mUn, mApp, mTup, mLst, mNx, mRaise, mAnd, mOr, mNot, mIf, tstB, tstAnd, tstOr, tstNot, mChain, bind_ok, bind_err, bind_no, toS_ok, toS_err, nox_ok, fin_nx, fin_rt, fin_err, startL, List.map_cons, List.map_nil, List.length_cons, List.length_nil, List.cons_append, List.nil_append, List.getElem?_cons_zero, List.getElem?_cons_succ, List.set_cons_zero, List.set_cons_succ, List.replicate_succ, List.replicate_zero, Nat.zero_add, Nat.reduceAdd, Nat.reduceSub, Nat.add_one_sub_one, Nat.sub_self, if_true, if_false, ite_true, ite_false, Bool.false_eq_true, reduceCtorEq, if_pos, Nat.reduceEqDiff, Nat.reduceLeDiff, decide_true, decide_false, Bool.not_true, Bool.not_false, e1, p]),
    seq_nx (l1 := LL dr at_ a3 (some MD) a5 (some (.int n)) (some (.tup [zz, .tup fs, .tup hs])) (some (.tup (fs.map dueF))) a9 a10) (s1 := s ++ [Ob.lst (ks.filter (isK z))] ++ [Ob.lst (fs.map dueF)]) (by simp only [mSeq, mExpr, mRet, mRetN, mIfS, mSet, mAug, mCall, mCons, mNil, mVar, mC, mOp, mUn, mApp, mTup, mLst, mNx, mRaise, mAnd, mOr, mNot, mIf, tstB, tstAnd, tstOr, tstNot, mChain, bind_ok, bind_err, bind_no, toS_ok, toS_err, nox_ok, fin_nx, fin_rt, fin_err, startL, List.map_cons, List.map_nil, List.length_cons, List.length_nil, List.cons_append, List.nil_append, List.getElem?_cons_zero, List.getElem?_cons_succ, List.set_cons_zero, List.set_cons_succ, List.replicate_succ, List.replicate_zero, Nat.zero_add, Nat.reduceAdd, Nat.reduceSub, Nat.add_one_sub_one, Nat.sub_self, if_true, if_false, ite_true, ite_false, Bool.false_eq_true, reduceCtorEq, if_pos, Nat.reduceEqDiff, Nat.reduceLeDiff, decide_true, decide_false, Bool.not_true, Bool.not_false, e2, tup_lst last_at])]
  simp only [mSeq, mExpr, mRet, mRetN, mIfS, mSet, mAug, mCall, mCons, mNil, mVar, mC, mOp, mUn, mApp, mTup, mLst, mNx, mRaise, mAnd, mOr, mNot, mIf, tstB, tstAnd, tstOr, tstNot, mChain, bind_ok, bind_err, bind_no, toS_ok, toS_err, nox_ok, fin_nx, fin_rt, fin_err, startL, List.map_cons, List.map_nil, List.length_cons, List.length_nil, List.cons_append, List.nil_append, List.getElem?_cons_zero, List.getElem?_cons_succ, List.set_cons_zero, List.set_cons_succ, List.replicate_succ, List.replicate_zero, Nat.zero_add, Nat.reduceAdd, Nat.reduceSub, Nat.add_one_sub_one, Nat.sub_self, if_true, if_false, ite_true, ite_false, Bool.false_eq_true, reduceCtorEq, if_pos, Nat.reduceEqDiff, Nat.reduceLeDiff, decide_true, decide_false, Bool.not_true, Bool.not_false, cf, ne_self pd (by omega)]
  simp only [List.append_assoc, MD]
  rfl
theorem nums_ok (g : Gs dr at_ s) {m : D} (hm : ModelP m) {a3 a5 a6 a7 a8 a9 a10 : Option D} : ∃ a6' a7' a8' s', (mFor (iRange1 (mCons (mApp gLen (mCons (mOp gIx (mVar 4) (mC (.int 1))) mNil)) mNil)) (gmName 6) bNum) (LL dr at_ a3 (some m) a5 a6 a7 a8 a9 a10) s = .nx (LL dr at_ a3 (some m) a5 a6' a7' a8' a9 a10) s' ∧ Gs dr at_ s' := by
  have hm0 := hm
  obtain ⟨j, ks, os, st, e, rfl, h1, h2, t, h3, h4, ho, h5, he, h6, h7⟩ := hm
  obtain ⟨l', s', e', ⟨a6', a7', a8', rfl⟩, gs⟩ := loop_inv2 (ok := fun _ => true) (i := 6) (body := bNum) (I := fun l s' => (∃ a6 a7 a8, l = LL dr at_ a3 (some (.tup [.tup ks, .tup os, .tup st, .int e])) a5 a6 a7 a8 a9 a10) ∧ Gs dr at_ s') (fun _ _ _ => rfl) ((List.range (os.length : Int).toNat).map fun (i : Nat) => D.int (0 + (i : Int))) (LL dr at_ a3 (some (.tup [.tup ks, .tup os, .tup st, .int e])) a5 a6 a7 a8 a9 a10) s (fun l s1 d hd ⟨⟨b6, b7, b8, hl⟩, gs⟩ => by
    subst hl
    obtain ⟨i, hi, rfl⟩ := List.mem_map.mp hd
    have hi := List.mem_range.mp hi
    obtain ⟨c7, c8, t, q⟩ := num_ok (dr := dr) (at_ := at_) (s := s1) (n := i) (a3 := a3) (a5 := a5) (a7 := b7) (a8 := b8) (a9 := a9) (a10 := a10) hm0 (fun ks' os' st' e' h => by cases h; omega)
    refine ⟨_, s1 ++ t, ?_, ⟨some (.int i), c7, c8, rfl⟩, gs.app⟩
    rw [Int.zero_add]
    exact q) ⟨⟨_, _, _, rfl⟩, g⟩
  exact ⟨a6', a7', a8', s', (rng1 (s1 := s) (j := (os.length : Int)) (by simp only [mSeq, mExpr, mRet, mRetN, mIfS, mSet, mAug, mCall, mCons, mNil, mVar, mC, mOp, mUn, mApp, mTup, mLst, mNx, mRaise, mAnd, mOr, mNot, mIf, tstB, tstAnd, tstOr, tstNot, mChain, bind_ok, bind_err, bind_no, toS_ok, toS_err, nox_ok, fin_nx, fin_rt, fin_err, startL, List.map_cons, List.map_nil, List.length_cons, List.length_nil, List.cons_append, List.nil_append, List.getElem?_cons_zero, List.getElem?_cons_succ, List.set_cons_zero, List.set_cons_succ, List.replicate_succ, List.replicate_zero, Nat.zero_add, Nat.reduceAdd, Nat.reduceSub, Nat.add_one_sub_one, Nat.sub_self, if_true, if_false, ite_true, ite_false, Bool.false_eq_true, reduceCtorEq, if_pos, Nat.reduceEqDiff, Nat.reduceLeDiff, decide_true, decide_false, Bool.not_true, Bool.not_false, ix1, gLen, seqD]) (by omega) (by omega)).trans e', gs⟩
end
end Pr

set_option Elab.async false
set_option linter.all false
set_option maxRecDepth 100000
set_option maxHeartbeats 4000000
/-! the law: placings -/
namespace Pr
open PySem PySem.Spec PyProof.Rows L2 Core
section
variable {dr at_ : Nat} {s : Mem}
theorem placeB_len {n : Nat} {xs : List D} (h : xs.length ≠ n) : placeB n (.tup xs) = false := by
  unfold placeB
  have : tupB (.tup xs) n n = false := by
    show (decide ((n : Int) ≤ (xs.length : Int)) && decide ((xs.length : Int) ≤ n)) = false
    by_cases q : (n : Int) ≤ (xs.length : Int)
    · exact and_r (decide_eq_false (by omega))
    · exact and_l (decide_eq_false q)
  rw [this]; rfl
theorem placeB_bad {n : Nat} {xs : List D} {x : D} (h : tyI x 0 7 = false) : placeB n (.tup (xs ++ [x])) = false := by
  unfold placeB
  refine and_r ?_
  show ((xs ++ [x]).all fun x => tyI x 0 7) = false
  rw [List.all_append, List.all_cons, h]; simp
theorem sl_neg {xs : List D} (h : 1 ≤ xs.length) : gSl none (some (-1)) (.tup xs) s = .ok (.tup (xs.take (xs.length - 1))) s := by
  unfold gSl
  have e : Core.cutD xs none (some (-1)) = xs.take (xs.length - 1) := by
    unfold Core.cutD
    have e1 : HT.sIx xs.length xs.length (some (-1)) = xs.length - 1 := by
      show (if (-1 : Int) < 0 then (-1 + (xs.length : Int)).toNat else min (-1 : Int).toNat xs.length) = _
      rw [if_pos (by omega)]; omega
    rw [HT.sIx_none, e1, Nat.sub_zero, List.drop_zero]
  dsimp only
  rw [e]
abbrev bWrong : SM := mIfS (tstB (mOp gNotN (mCall 2 (call 40 .law_placed) (mCons (mVar 4) (mCons (mVar 10) mNil))) (mC .non)))
        (mRet (mC (.bl false)))
        mNx
abbrev aWrong : AM := (mCons (mApp gList (mCons (mVar 9) mNil)) (mCons (mOp Core.gAdd (mVar 9) (mTup (mCons (mC (.int 0)) mNil))) (mCons (mSl (mVar 9) oNone (oSome (mUn gNeg (mC (.int 1))))) (mCons (mOp Core.gAdd (mSl (mVar 9) oNone (oSome (mUn gNeg (mC (.int 1))))) (mTup (mCons (mC (.int 8)) mNil))) (mCons (mOp Core.gAdd (mSl (mVar 9) oNone (oSome (mUn gNeg (mC (.int 1))))) (mTup (mCons (mUn gNeg (mC (.int 1))) mNil))) (mCons (mOp Core.gAdd (mSl (mVar 9) oNone (oSome (mUn gNeg (mC (.int 1))))) (mTup (mCons (mC (.bl true)) mNil))) (mCons (mC .non) mNil)))))))
theorem wrong_ok (g : Gs dr at_ s) {m a c e : D} {os ys : List D} (hm : m = .tup [a, .tup os, c, e]) (h1 : 1 ≤ os.length) (h8 : os.length ≤ 8) (hy : ys.length = os.length) (yi : ∀ y ∈ ys, ∃ v, y = .int v) {a3 a5 a6 a7 a8 a10 : Option D} :
    ∃ a10' s', (mFor (iSeq (mLst aWrong)) (gmName 10) bWrong) (LL dr at_ a3 (some m) a5 a6 a7 a8 (some (.tup ys)) a10) s = .nx (LL dr at_ a3 (some m) a5 a6 a7 a8 (some (.tup ys)) a10') s' ∧ Gs dr at_ s' := by
  obtain ⟨P, hP⟩ : ∃ P, P = ys.take (ys.length - 1) := ⟨_, rfl⟩
  have lP : P.length = os.length - 1 := by rw [hP, List.length_take]; omega
  obtain ⟨VS, hVS⟩ : ∃ V : List D, V = [.ref s.length, .tup (ys ++ [.int 0]), .tup P, .tup (P ++ [.int 8]), .tup (P ++ [.int (-1)]), .tup (P ++ [.bl true]), .non] := ⟨_, rfl⟩
  have g1 : Gs dr at_ (s ++ [Ob.lst ys] ++ [Ob.lst VS]) := g.app.app
  have v0 : (s ++ [Ob.lst ys] ++ [Ob.lst VS])[s.length]? = some (.lst ys) := app_keep last_at
  have v1 : (s ++ [Ob.lst ys] ++ [Ob.lst VS])[(s ++ [Ob.lst ys]).length]? = some (.lst VS) := last_at
  have ly : ∀ {Z : Mem}, ∀ y ∈ ys, liv Z y = true := fun y h => by obtain ⟨v, rfl⟩ := yi y h; rfl
  have lp : ∀ {Z : Mem}, ∀ y ∈ P, liv Z y = true := fun y h => by rw [hP] at h; exact ly y (List.mem_of_mem_take h)
  obtain ⟨l', s', e', ⟨a10', rfl⟩, gs, _⟩ := loop_inv2 (ok := okL (s ++ [Ob.lst ys]).length VS) (i := 10) (body := bWrong) (I := fun l s' => (∃ a10', l = LL dr at_ a3 (some m) a5 a6 a7 a8 (some (.tup ys)) a10') ∧ Gs dr at_ s' ∧ s'[s.length]? = some (.lst ys) ∧ s'[(s ++ [Ob.lst ys]).length]? = some (.lst VS))
    (fun l s h => okL_of (rd_lst h.2.2.2)) VS (LL dr at_ a3 (some m) a5 a6 a7 a8 (some (.tup ys)) a10) (s ++ [Ob.lst ys] ++ [Ob.lst VS]) (fun l s1 d hd ⟨⟨b10, hl⟩, gs, w0, w1⟩ => by
      subst hl
      have key : placeB os.length d = false ∧ liv s1 d = true := by
        rw [hVS] at hd
        refine all_cons (P := fun d => placeB os.length d = false ∧ liv s1 d = true) ⟨rfl, lref w0⟩ (all_cons ⟨placeB_len (by rw [List.length_append, List.length_singleton]; omega), tl (all_app ly (all_cons rfl all_nil))⟩ (all_cons ⟨placeB_len (by omega), tl lp⟩ (all_cons ⟨placeB_bad (by decide), tl (all_app lp (all_cons rfl all_nil))⟩ (all_cons ⟨placeB_bad (by decide), tl (all_app lp (all_cons rfl all_nil))⟩ (all_cons ⟨placeB_bad rfl, tl (all_app lp (all_cons rfl all_nil))⟩ (all_cons ⟨rfl, rfl⟩ all_nil)))))) d hd
      obtain ⟨t, cr⟩ := c_law_placed (k := 36) (s := s1) hm key.2 h1
      have cr : call 40 .law_placed [m, d] s1 = .ok (if placeB os.length d = true then .int (maxD d + 1) else .non) (s1 ++ t) := cr
      rw [if_neg (by rw [key.1]; exact Bool.false_ne_true)] at cr
      refine ⟨LL dr at_ a3 (some m) a5 a6 a7 a8 (some (.tup ys)) (some d), s1 ++ t, ?_, ⟨_, rfl⟩, gs.app, app_keep w0, app_keep w1⟩
      simp only [mSeq, mExpr, mRet, mRetN, mIfS, mSet, mAug, mCall, mCons, mNil, mVar, mC, mOp, mUn, mApp, mTup, mLst, mNx, mRaise, mAnd, mOr, mNot, mIf, tstB, tstAnd, tstOr, tstNot, mChain, bind_ok, bind_err, bind_no, toS_ok, toS_err, nox_ok, fin_nx, fin_rt, fin_err, startL, List.map_cons, List.map_nil, List.length_cons, List.length_nil, List.cons_append, List.nil_append, List.getElem?_cons_zero, List.getElem?_cons_succ, List.set_cons_zero, List.set_cons_succ, List.replicate_succ, List.replicate_zero, Nat.zero_add, Nat.reduceAdd, Nat.reduceSub, Nat.add_one_sub_one, Nat.sub_self, if_true, if_false, ite_true, ite_false, Bool.false_eq_true, reduceCtorEq, if_pos, Nat.reduceEqDiff, Nat.reduceLeDiff, decide_true, decide_false, Bool.not_true, Bool.not_false, cr, gNotN]) ⟨⟨_, rfl⟩, g1, v0, v1⟩
  refine ⟨a10', s', ?_, gs⟩
  have ey : 1 ≤ ys.length := by omega
  have ad : ∀ (Z : Mem) (x : D), Core.gAdd (.tup P) (.tup [x]) Z = .ok (.tup (P ++ [x])) Z := fun Z x => add_tup (by rw [List.length_singleton]; omega)
  have ad0 : ∀ (Z : Mem) (x : D), Core.gAdd (.tup ys) (.tup [x]) Z = .ok (.tup (ys ++ [x])) Z := fun Z x => add_tup (by rw [List.length_singleton]; omega)
  have sn : ∀ Z : Mem, gSl none (some (-1)) (.tup ys) Z = .ok (.tup P) Z := fun Z => by rw [hP]; exact sl_neg ey
  refine (for_ref (s1 := s ++ [Ob.lst ys] ++ [Ob.lst VS]) (m := (s ++ [Ob.lst ys]).length) (ds := VS) ?_ (rd_lst v1)).trans e'
  simp only [mSeq, mExpr, mRet, mRetN, mIfS, mSet, mAug, mCall, mCons, mNil, mVar, mC, mOp, mUn, mApp, mTup, mLst, mNx, mRaise, mAnd, mOr, mNot, mIf, tstB, tstAnd, tstOr, tstNot, mChain, bind_ok, bind_err, bind_no, toS_ok, toS_err, nox_ok, fin_nx, fin_rt, fin_err, startL, List.map_cons, List.map_nil, List.length_cons, List.length_nil, List.cons_append, List.nil_append, List.getElem?_cons_zero, List.getElem?_cons_succ, List.set_cons_zero, List.set_cons_succ, List.replicate_succ, List.replicate_zero, Nat.zero_add, Nat.reduceAdd, Nat.reduceSub, Nat.add_one_sub_one, Nat.sub_self, if_true, if_false, ite_true, ite_false, Bool.false_eq_true, reduceCtorEq, if_pos, Nat.reduceEqDiff, Nat.reduceLeDiff, decide_true, decide_false, Bool.not_true, Bool.not_false, lst_tup, mSl, oNone, oSome, gNeg, ad0, sn, ad, hVS]
theorem place_ok (g : Gs dr at_ s) {m a c e : D} {os : List D} (hm : m = .tup [a, .tup os, c, e]) (h1 : 1 ≤ os.length) (h8 : os.length ≤ 8) {a3 a5 a6 a7 a8 a9 a10 : Option D} :
    ∃ a9' a10' s', (mSeq (mSet 9 (mApp gTuple (mCons (mLc (iSeq (mOp gIx (mVar 4) (mC (.int 1)))) (gmName 12) [12] tYes' (mCall 3 (call 40 .law_next) (mCons (mVar 1) (mCons (mVar 2) (mCons (mC (.int 8)) mNil))))) mNil)))
    (mSeq (mIfS (tstB (mOp gNe (mCall 2 (call 40 .law_placed) (mCons (mVar 4) (mCons (mVar 9) mNil))) (mOp Core.gAdd (mApp gMaxI (mCons (mVar 9) mNil)) (mC (.int 1)))))
      (mRet (mC (.bl false)))
      mNx)
    (mFor (iSeq (mLst aWrong)) (gmName 10) bWrong))) (LL dr at_ a3 (some m) a5 a6 a7 a8 a9 a10) s = .nx (LL dr at_ a3 (some m) a5 a6 a7 a8 a9' a10') s' ∧ Gs dr at_ s' := by
  have im : ∀ s : Mem, gIx m (.int 1) s = .ok (.tup os) s := by subst hm; exact fun s => ix1
  have dl : dr < s.length := let ⟨_, h⟩ := g.hd; (List.getElem?_eq_some_iff.mp h).1
  obtain ⟨s1, ys, e1, x1, n1, p1, g1, t1⟩ := lc_draw (dr := dr) (at_ := at_) (r := s.length) (ok := fun _ => true) (g := gmName 12) (vs := [12]) (l := LL dr at_ a3 (some m) a5 a6 a7 a8 a9 a10) (me := mCall 3 (call 40 .law_next) (mCons (mVar 1) (mCons (mVar 2) (mCons (mC (.int 8)) mNil)))) (P := inR 0 8) (Kp := fun _ => True) (fun _ _ => rfl) (fun _ _ _ _ => trivial) (Nat.ne_of_gt dl) (Nat.ne_of_gt g.lt) os (s ++ [Ob.lst []]) []
    (fun d hd => ⟨[some (.ref 0), some (.ref dr), some (.ref at_), a3, some m, a5, a6, a7, a8, a9, a10, none, some d], rfl, fun s' gs _ => by
      obtain ⟨y, s2, h1, h2⟩ := c_law_next (k := 39) gs (many := 8) (by omega)
      have h1 : call 40 .law_next [.ref dr, .ref at_, .int 8] s' = .ok y s2 := h1
      exact ⟨y, s2, by simp only [mSeq, mExpr, mRet, mRetN, mIfS, mSet, mAug, mCall, mCons, mNil, mVar, mC, mOp, mUn, mApp, mTup, mLst, mNx, mRaise, mAnd, mOr, mNot, mIf, tstB, tstAnd, tstOr, tstNot, mChain, bind_ok, bind_err, bind_no, toS_ok, toS_err, nox_ok, fin_nx, fin_rt, fin_err, startL, List.map_cons, List.map_nil, List.length_cons, List.length_nil, List.cons_append, List.nil_append, List.getElem?_cons_zero, List.getElem?_cons_succ, List.set_cons_zero, List.set_cons_succ, List.replicate_succ, List.replicate_zero, Nat.zero_add, Nat.reduceAdd, Nat.reduceSub, Nat.add_one_sub_one, Nat.sub_self, if_true, if_false, ite_true, ite_false, Bool.false_eq_true, reduceCtorEq, if_pos, Nat.reduceEqDiff, Nat.reduceLeDiff, decide_true, decide_false, Bool.not_true, Bool.not_false, h1], h2⟩⟩) g.app trivial last_at (by rw [List.length_nil]; omega)
  rw [List.nil_append] at x1
  have lcE : mLc (iSeq (mOp gIx (mVar 4) (mC (.int 1)))) (gmName 12) [12] tYes' (mCall 3 (call 40 .law_next) (mCons (mVar 1) (mCons (mVar 2) (mCons (mC (.int 8)) mNil)))) (LL dr at_ a3 (some m) a5 a6 a7 a8 a9 a10) s = .ok (.ref s.length) s1 := (lc_tup (s1 := s) (by simp only [mSeq, mExpr, mRet, mRetN, mIfS, mSet, mAug, mCall, mCons, mNil, mVar, mC, mOp, mUn, mApp, mTup, mLst, mNx, mRaise, mAnd, mOr, mNot, mIf, tstB, tstAnd, tstOr, tstNot, mChain, bind_ok, bind_err, bind_no, toS_ok, toS_err, nox_ok, fin_nx, fin_rt, fin_err, startL, List.map_cons, List.map_nil, List.length_cons, List.length_nil, List.cons_append, List.nil_append, List.getElem?_cons_zero, List.getElem?_cons_succ, List.set_cons_zero, List.set_cons_succ, List.replicate_succ, List.replicate_zero, Nat.zero_add, Nat.reduceAdd, Nat.reduceSub, Nat.add_one_sub_one, Nat.sub_self, if_true, if_false, ite_true, ite_false, Bool.false_eq_true, reduceCtorEq, if_pos, Nat.reduceEqDiff, Nat.reduceLeDiff, decide_true, decide_false, Bool.not_true, Bool.not_false, im])).trans e1
  have yi : ∀ y ∈ ys, ∃ v, y = .int v := fun y hy => let ⟨v, h, _⟩ := p1 y hy; ⟨v, h⟩
  have pb : placeB os.length (.tup ys) = true := by
    unfold placeB
    rw [tupB_at (by omega) (by omega)]
    show (true && ys.all fun x => tyI x 0 7) = true
    rw [List.all_eq_true.mpr fun y hy => by obtain ⟨v, rfl, b1, b2⟩ := p1 y hy; exact tyI_at (by omega) (by omega)]; rfl
  have la : (ys.all fun x => tyI x 0 7) = true := List.all_eq_true.mpr fun y hy => by obtain ⟨v, rfl, b1, b2⟩ := p1 y hy; exact tyI_at (by omega) (by omega)
  have lv : liv s1 (.tup ys) = true := tl fun y hy => by obtain ⟨v, rfl⟩ := yi y hy; rfl
  obtain ⟨t, cr⟩ := c_law_placed (k := 36) (s := s1) (m := m) hm lv h1
  have cr : call 40 .law_placed [m, .tup ys] s1 = .ok (if placeB os.length (.tup ys) = true then .int (maxD (.tup ys) + 1) else .non) (s1 ++ t) := cr
  rw [if_pos pb] at cr
  obtain ⟨is, e3, e4⟩ := ints_all la
  have mx : gMaxI [.tup ys] (s1 ++ t) = .ok (.int (maxD (.tup ys))) (s1 ++ t) := by
    cases is with
    | nil => rw [List.length_nil] at e4; omega
    | cons z zs =>
      unfold gMaxI
      dsimp only [seqD]
      rw [e3]
      show _ = Core.R.ok (D.int (match intsD ys with | some (y :: ys) => maxI y ys | _ => 0)) _
      rw [e3]
  obtain ⟨a10', s', w, gw⟩ := wrong_ok (g1.app (t := t)) (m := m) (a := a) (c := c) (e := e) (os := os) (ys := ys) hm h1 h8 n1 yi (a3 := a3) (a5 := a5) (a6 := a6) (a7 := a7) (a8 := a8) (a10 := a10)
  refine ⟨some (.tup ys), a10', s', ?_, gw⟩
  rw [seq_nx (l1 := LL dr at_ a3 (some m) a5 a6 a7 a8 (some (.tup ys)) a10) (s1 := s1) (by simp only [mSeq, mExpr, mRet, mRetN, mIfS, mSet, mAug, mCall, mCons, mNil, mVar, mC, mOp, mUn, mApp, mTup, mLst, mNx, mRaise, mAnd, mOr, mNot, mIf, tstB, tstAnd, tstOr, tstNot, mChain, bind_ok, bind_err, bind_no, toS_ok, toS_err, nox_ok, fin_nx, fin_rt, fin_err, startL, List.map_cons, List.map_nil, List.length_cons, List.length_nil, List.cons_append, List.nil_append, List.getElem?_cons_zero, List.getElem?_cons_succ, List.set_cons_zero, List.set_cons_succ, List.replicate_succ, List.replicate_zero, Nat.zero_add, Nat.reduceAdd, Nat.reduceSub, Nat.add_one_sub_one, Nat.sub_self, if_true, if_false, ite_true, ite_false, Bool.false_eq_true, reduceCtorEq, if_pos, Nat.reduceEqDiff, Nat.reduceLeDiff, decide_true, decide_false, Bool.not_true, Bool.not_false, lcE, tup_lst x1]),
    seq_nx (l1 := LL dr at_ a3 (some m) a5 a6 a7 a8 (some (.tup ys)) a10) (s1 := s1 ++ t) (by simp only [mSeq, mExpr, mRet, mRetN, mIfS, mSet, mAug, mCall, mCons, mNil, mVar, mC, mOp, mUn, mApp, mTup, mLst, mNx, mRaise, mAnd, mOr, mNot, mIf, tstB, tstAnd, tstOr, tstNot, mChain, bind_ok, bind_err, bind_no, toS_ok, toS_err, nox_ok, fin_nx, fin_rt, fin_err, startL, List.map_cons, List.map_nil, List.length_cons, List.length_nil, List.cons_append, List.nil_append, List.getElem?_cons_zero, List.getElem?_cons_succ, List.set_cons_zero, List.set_cons_succ, List.replicate_succ, List.replicate_zero, Nat.zero_add, Nat.reduceAdd, Nat.reduceSub, Nat.add_one_sub_one, Nat.sub_self, if_true, if_false, ite_true, ite_false, Bool.false_eq_true, reduceCtorEq, if_pos, Nat.reduceEqDiff, Nat.reduceLeDiff, decide_true, decide_false, Bool.not_true, Bool.not_false, cr, mx, Core.gAdd, gNe, gEqB, beq_self_eq_true])]
  exact w
end
end Pr

set_option Elab.async false
set_option linter.all false
set_option maxRecDepth 100000
set_option maxHeartbeats 4000000
/-! the law k01 -/
namespace Pr
open PySem PySem.Spec PyProof.Rows L2 Core
theorem tiny_ok : modelV (.tup [.tup [.tup [.str "box", .tup [.tup [.str "n", .int 0, .int 9]], .tup []]], .tup [.str "box"], .tup [], .int 0]) = some true := by kernel_rfl
abbrev bTurn : SM := (mSeq (mSet 4 (mCall 2 (call 40 .law_model) (mCons (mVar 1) (mCons (mVar 2) mNil))))
    (mSeq (mIfS (tstOr (tstB (mOp gNe (mCall 1 (call 40 .check_model) (mCons (mVar 4) mNil)) (mVar 4))) (tstNot (tstB (mCall 1 (call 40 .law_refused) (mCons (mCall 3 (call 40 .law_changed) (mCons (mVar 4) (mCons (mVar 1) (mCons (mVar 2) mNil)))) mNil)))))
      (mRet (mC (.bl false)))
      mNx)
    (mSeq (mFor (iSeq (mLst (mCons (mC .non) (mCons (mC (.int 7)) (mCons (mTup mNil) (mCons (mC (.str "model")) (mCons (mLst (mCons (mVar 4) mNil)) mNil))))))) (gmName 5)
      (mIfS (tstNot (tstB (mCall 1 (call 40 .law_refused) (mCons (mVar 5) mNil))))
        (mRet (mC (.bl false)))
        mNx))
    (mSeq (mFor (iRange1 (mCons (mApp gLen (mCons (mOp gIx (mVar 4) (mC (.int 1))) mNil)) mNil)) (gmName 6) bNum)
    (mSeq (mSet 9 (mApp gTuple (mCons (mLc (iSeq (mOp gIx (mVar 4) (mC (.int 1)))) (gmName 12) [12] tYes' (mCall 3 (call 40 .law_next) (mCons (mVar 1) (mCons (mVar 2) (mCons (mC (.int 8)) mNil))))) mNil)))
    (mSeq (mIfS (tstB (mOp gNe (mCall 2 (call 40 .law_placed) (mCons (mVar 4) (mCons (mVar 9) mNil))) (mOp Core.gAdd (mApp gMaxI (mCons (mVar 9) mNil)) (mC (.int 1)))))
      (mRet (mC (.bl false)))
      mNx)
    (mFor (iSeq (mLst aWrong)) (gmName 10) bWrong)))))))
section
variable {dr at_ : Nat} {s : Mem}
theorem turn_ok (g : Gs dr at_ s) {a3 a4 a5 a6 a7 a8 a9 a10 : Option D} : ∃ b4 b5 b6 b7 b8 b9 b10 s', bTurn (LL dr at_ a3 a4 a5 a6 a7 a8 a9 a10) s = .nx (LL dr at_ a3 b4 b5 b6 b7 b8 b9 b10) s' ∧ Gs dr at_ s' := by
  obtain ⟨m, s1, e1, hm, g1, t1⟩ := c_law_model (k := 33) g
  have e1 : call 40 .law_model [.ref dr, .ref at_] s = .ok m s1 := e1
  have mp := model_pl hm
  obtain ⟨t2, c2⟩ := c_check_model (s := s1) (k := 8) (pl_liv mp) (model_ok hm)
  have c2 : call 40 .check_model [m] s1 = .ok m (s1 ++ t2) := c2
  have ne : gNe m m (s1 ++ t2) = .ok (.bl false) (s1 ++ t2) := by
    obtain ⟨j, ks, os, st, e, rfl, _⟩ := hm
    exact ne_self mp (by omega)
  obtain ⟨d, s3, e3, ⟨cd, cl⟩, g3, t3⟩ := c_law_changed (k := 37) hm (g1.app (t := t2))
  have e3 : call 40 .law_changed [m, .ref dr, .ref at_] (s1 ++ t2) = .ok d s3 := e3
  obtain ⟨t4, c4⟩ := c_law_refused (k := 7) cl cd
  have c4 : call 40 .law_refused [d] s3 = .ok (.bl true) (s3 ++ t4) := c4
  obtain ⟨b5, s5, e5, g5⟩ := vals_ok (g3.app (t := t4)) hm (a3 := a3) (a5 := a5) (a6 := a6) (a7 := a7) (a8 := a8) (a9 := a9) (a10 := a10)
  obtain ⟨b6, b7, b8, s6, e6, g6⟩ := nums_ok g5 hm (a3 := a3) (a5 := b5) (a6 := a6) (a7 := a7) (a8 := a8) (a9 := a9) (a10 := a10)
  obtain ⟨b9, b10, s7, e7, g7⟩ : ∃ b9 b10 s7, _ = Core.RS.nx (LL dr at_ a3 (some m) b5 b6 b7 b8 b9 b10) s7 ∧ Gs dr at_ s7 := by
    obtain ⟨j, ks, os, st, e, hme, _, _, _, h3, h4, _⟩ := hm
    exact place_ok g6 hme h3 h4 (a3 := a3) (a5 := b5) (a6 := b6) (a7 := b7) (a8 := b8) (a9 := a9) (a10 := a10)
  refine ⟨some m, b5, b6, b7, b8, b9, b10, s7, ?_, g7⟩
  unfold bTurn
  rw [seq_nx (l1 := LL dr at_ a3 (some m) a5 a6 a7 a8 a9 a10) (s1 := s1) (by simp only [mSeq, mExpr, mRet, mRetN, mIfS, mSet, mAug, mCall, mCons, mNil, mVar, mC, mOp, mUn, mApp, mTup, mLst, mNx, mRaise, mAnd, mOr, mNot, mIf, tstB, tstAnd, tstOr, tstNot, mChain, bind_ok, bind_err, bind_no, toS_ok, toS_err, nox_ok, fin_nx, fin_rt, fin_err, startL, List.map_cons, List.map_nil, List.length_cons, List.length_nil, List.cons_append, List.nil_append, List.getElem?_cons_zero, List.getElem?_cons_succ, List.set_cons_zero, List.set_cons_succ, List.replicate_succ, List.replicate_zero, Nat.zero_add, Nat.reduceAdd, Nat.reduceSub, Nat.add_one_sub_one, Nat.sub_self, if_true, if_false, ite_true, ite_false, Bool.false_eq_true, reduceCtorEq, if_pos, Nat.reduceEqDiff, Nat.reduceLeDiff, decide_true, decide_false, Bool.not_true, Bool.not_false, e1]),
    seq_nx (l1 := LL dr at_ a3 (some m) a5 a6 a7 a8 a9 a10) (s1 := s3 ++ t4) (by simp only [mSeq, mExpr, mRet, mRetN, mIfS, mSet, mAug, mCall, mCons, mNil, mVar, mC, mOp, mUn, mApp, mTup, mLst, mNx, mRaise, mAnd, mOr, mNot, mIf, tstB, tstAnd, tstOr, tstNot, mChain, bind_ok, bind_err, bind_no, toS_ok, toS_err, nox_ok, fin_nx, fin_rt, fin_err, startL, List.map_cons, List.map_nil, List.length_cons, List.length_nil, List.cons_append, List.nil_append, List.getElem?_cons_zero, List.getElem?_cons_succ, List.set_cons_zero, List.set_cons_succ, List.replicate_succ, List.replicate_zero, Nat.zero_add, Nat.reduceAdd, Nat.reduceSub, Nat.add_one_sub_one, Nat.sub_self, if_true, if_false, ite_true, ite_false, Bool.false_eq_true, reduceCtorEq, if_pos, Nat.reduceEqDiff, Nat.reduceLeDiff, decide_true, decide_false, Bool.not_true, Bool.not_false, c2, ne, e3, c4]),
    seq_nx e5, seq_nx e6]
  exact e7
end
theorem pureLaw : PureLaw 41 := by
  intro ns hn hb o ho
  have hr : rdL [o] 0 = some (ns.map D.int) := by rcases ho with rfl | rfl <;> rfl
  obtain ⟨is, s1, e1, x1, l1⟩ := c_law_draws (k := 39) hr hn
  have e1 : call 40 .law_draws [.ref 0] [o] = .ok (.ref 1) s1 := e1
  have x1 : s1[1]? = some (.lst (is.map D.int)) := x1
  have l1 : 1 < s1.length := l1
  have g2 : Gs 1 s1.length (s1 ++ [Ob.lst [.int 0]]) := ⟨⟨is, app_keep x1⟩, ⟨0, last_at⟩, Nat.ne_of_lt l1⟩
  obtain ⟨W, hW⟩ : ∃ W : List D, W = [.int 1000000000, .int 20, .int 80, .int 8, .int 4] := ⟨_, rfl⟩
  have pW : ∀ x ∈ W, pl 1 x = true := by rw [hW]; decide +kernel
  have g3 : Gs 1 s1.length (s1 ++ [Ob.lst [.int 0]] ++ [Ob.lst W] ++ [Ob.lst W]) := g2.app.app
  have ne := ne_refs (s := s1 ++ [Ob.lst [.int 0]] ++ [Ob.lst W] ++ [Ob.lst W]) (a := (s1 ++ [Ob.lst [.int 0]]).length) (b := (s1 ++ [Ob.lst [.int 0]] ++ [Ob.lst W]).length) (app_keep last_at) last_at pW (by omega)
  have pw : ∀ s : Mem, gPow (.int 10) (.int 9) s = .ok (.int 1000000000) s := fun s => by rfl
  obtain ⟨l4, s4, e4, ⟨c3, c4, c5, c6, c7, c8, c9, c10, rfl⟩, g4⟩ := loop_inv2 (ok := fun _ => true) (i := 3) (body := bTurn) (I := fun l s => (∃ c3 c4 c5 c6 c7 c8 c9 c10, l = LL 1 s1.length c3 c4 c5 c6 c7 c8 c9 c10) ∧ Gs 1 s1.length s) (fun _ _ _ => rfl) ((List.range (3 : Int).toNat).map fun (i : Nat) => D.int (0 + (i : Int))) (LL 1 s1.length none none none none none none none none) (s1 ++ [Ob.lst [.int 0]] ++ [Ob.lst W] ++ [Ob.lst W]) (fun l s d hd ⟨⟨c3, c4, c5, c6, c7, c8, c9, c10, hl⟩, gs⟩ => by
    subst hl
    obtain ⟨b4, b5, b6, b7, b8, b9, b10, s', e, g'⟩ := turn_ok gs (a3 := some d) (a4 := c4) (a5 := c5) (a6 := c6) (a7 := c7) (a8 := c8) (a9 := c9) (a10 := c10)
    exact ⟨_, s', e, ⟨_, _, _, _, _, _, _, _, rfl⟩, g'⟩) ⟨⟨_, _, _, _, _, _, _, _, rfl⟩, g3⟩
  obtain ⟨t5, c5'⟩ := c_check_model (s := s4) (k := 8) (d := .tup [.tup [.tup [.str "box", .tup [.tup [.str "n", .int 0, .int 9]], .tup []]], .tup [.str "box"], .tup [], .int 0]) (pl_liv (n := 14) (by decide +kernel)) tiny_ok
  have c5' : call 40 .check_model [.tup [.tup [.tup [.str "box", .tup [.tup [.str "n", .int 0, .int 9]], .tup []]], .tup [.str "box"], .tup [], .int 0]] s4 = .ok (.tup [.tup [.tup [.str "box", .tup [.tup [.str "n", .int 0, .int 9]], .tup []]], .tup [.str "box"], .tup [], .int 0]) (s4 ++ t5) := c5'
  refine ⟨s4 ++ t5, ?_⟩
  show Core.fin (m_law (call 40) [some (.ref 0), none, none, none, none, none, none, none, none, none, none, none, none] [o]) = _
  unfold m_law
  rw [seq_nx (l1 := [some (.ref 0), some (.ref 1), none, none, none, none, none, none, none, none, none, none, none]) (s1 := s1) (by simp only [mSeq, mExpr, mRet, mRetN, mIfS, mSet, mAug, mCall, mCons, mNil, mVar, mC, mOp, mUn, mApp, mTup, mLst, mNx, mRaise, mAnd, mOr, mNot, mIf, tstB, tstAnd, tstOr, tstNot, mChain, bind_ok, bind_err, bind_no, toS_ok, toS_err, nox_ok, fin_nx, fin_rt, fin_err, startL, List.map_cons, List.map_nil, List.length_cons, List.length_nil, List.cons_append, List.nil_append, List.getElem?_cons_zero, List.getElem?_cons_succ, List.set_cons_zero, List.set_cons_succ, List.replicate_succ, List.replicate_zero, Nat.zero_add, Nat.reduceAdd, Nat.reduceSub, Nat.add_one_sub_one, Nat.sub_self, if_true, if_false, ite_true, ite_false, Bool.false_eq_true, reduceCtorEq, if_pos, Nat.reduceEqDiff, Nat.reduceLeDiff, decide_true, decide_false, Bool.not_true, Bool.not_false, e1]),
    seq_nx (l1 := LL 1 s1.length none none none none none none none none) (s1 := s1 ++ [Ob.lst [.int 0]]) (by simp only [mSeq, mExpr, mRet, mRetN, mIfS, mSet, mAug, mCall, mCons, mNil, mVar, mC, mOp, mUn, mApp, mTup, mLst, mNx, mRaise, mAnd, mOr, mNot, mIf, tstB, tstAnd, tstOr, tstNot, mChain, bind_ok, bind_err, bind_no, toS_ok, toS_err, nox_ok, fin_nx, fin_rt, fin_err, startL, List.map_cons, List.map_nil, List.length_cons, List.length_nil, List.cons_append, List.nil_append, List.getElem?_cons_zero, List.getElem?_cons_succ, List.set_cons_zero, List.set_cons_succ, List.replicate_succ, List.replicate_zero, Nat.zero_add, Nat.reduceAdd, Nat.reduceSub, Nat.add_one_sub_one, Nat.sub_self, if_true, if_false, ite_true, ite_false, Bool.false_eq_true, reduceCtorEq, if_pos, Nat.reduceEqDiff, Nat.reduceLeDiff, decide_true, decide_false, Bool.not_true, Bool.not_false]),
    seq_nx (l1 := LL 1 s1.length none none none none none none none none) (s1 := s1 ++ [Ob.lst [.int 0]] ++ [Ob.lst W] ++ [Ob.lst W]) (by simp only [mSeq, mExpr, mRet, mRetN, mIfS, mSet, mAug, mCall, mCons, mNil, mVar, mC, mOp, mUn, mApp, mTup, mLst, mNx, mRaise, mAnd, mOr, mNot, mIf, tstB, tstAnd, tstOr, tstNot, mChain, bind_ok, bind_err, bind_no, toS_ok, toS_err, nox_ok, fin_nx, fin_rt, fin_err, startL, List.map_cons, List.map_nil, List.length_cons, List.length_nil, List.cons_append, List.nil_append, List.getElem?_cons_zero, List.getElem?_cons_succ, List.set_cons_zero, List.set_cons_succ, List.replicate_succ, List.replicate_zero, Nat.zero_add, Nat.reduceAdd, Nat.reduceSub, Nat.add_one_sub_one, Nat.sub_self, if_true, if_false, ite_true, ite_false, Bool.false_eq_true, reduceCtorEq, if_pos, Nat.reduceEqDiff, Nat.reduceLeDiff, decide_true, decide_false, Bool.not_true, Bool.not_false, pw]; rw [← hW]; simp only [mSeq, mExpr, mRet, mRetN, mIfS, mSet, mAug, mCall, mCons, mNil, mVar, mC, mOp, mUn, mApp, mTup, mLst, mNx, mRaise, mAnd, mOr, mNot, mIf, tstB, tstAnd, tstOr, tstNot, mChain, bind_ok, bind_err, bind_no, toS_ok, toS_err, nox_ok, fin_nx, fin_rt, fin_err, startL, List.map_cons, List.map_nil, List.length_cons, List.length_nil, List.cons_append, List.nil_append, List.getElem?_cons_zero, List.getElem?_cons_succ, List.set_cons_zero, List.set_cons_succ, List.replicate_succ, List.replicate_zero, Nat.zero_add, Nat.reduceAdd, Nat.reduceSub, Nat.add_one_sub_one, Nat.sub_self, if_true, if_false, ite_true, ite_false, Bool.false_eq_true, reduceCtorEq, if_pos, Nat.reduceEqDiff, Nat.reduceLeDiff, decide_true, decide_false, Bool.not_true, Bool.not_false, ne])]
  rw [seq_nx ((rng1 (s1 := s1 ++ [Ob.lst [.int 0]] ++ [Ob.lst W] ++ [Ob.lst W]) (j := 3) (by simp only [mSeq, mExpr, mRet, mRetN, mIfS, mSet, mAug, mCall, mCons, mNil, mVar, mC, mOp, mUn, mApp, mTup, mLst, mNx, mRaise, mAnd, mOr, mNot, mIf, tstB, tstAnd, tstOr, tstNot, mChain, bind_ok, bind_err, bind_no, toS_ok, toS_err, nox_ok, fin_nx, fin_rt, fin_err, startL, List.map_cons, List.map_nil, List.length_cons, List.length_nil, List.cons_append, List.nil_append, List.getElem?_cons_zero, List.getElem?_cons_succ, List.set_cons_zero, List.set_cons_succ, List.replicate_succ, List.replicate_zero, Nat.zero_add, Nat.reduceAdd, Nat.reduceSub, Nat.add_one_sub_one, Nat.sub_self, if_true, if_false, ite_true, ite_false, Bool.false_eq_true, reduceCtorEq, if_pos, Nat.reduceEqDiff, Nat.reduceLeDiff, decide_true, decide_false, Bool.not_true, Bool.not_false]) (by omega) (by omega)).trans e4)]
  simp only [mSeq, mExpr, mRet, mRetN, mIfS, mSet, mAug, mCall, mCons, mNil, mVar, mC, mOp, mUn, mApp, mTup, mLst, mNx, mRaise, mAnd, mOr, mNot, mIf, tstB, tstAnd, tstOr, tstNot, mChain, bind_ok, bind_err, bind_no, toS_ok, toS_err, nox_ok, fin_nx, fin_rt, fin_err, startL, List.map_cons, List.map_nil, List.length_cons, List.length_nil, List.cons_append, List.nil_append, List.getElem?_cons_zero, List.getElem?_cons_succ, List.set_cons_zero, List.set_cons_succ, List.replicate_succ, List.replicate_zero, Nat.zero_add, Nat.reduceAdd, Nat.reduceSub, Nat.add_one_sub_one, Nat.sub_self, if_true, if_false, ite_true, ite_false, Bool.false_eq_true, reduceCtorEq, if_pos, Nat.reduceEqDiff, Nat.reduceLeDiff, decide_true, decide_false, Bool.not_true, Bool.not_false, c5', gNotN]
end Pr
theorem PySem.Challenge.cw_vancourier_k01_models_holds : PySem.Challenge.rw_vancourier_k01_models.Holds :=
  Pr.holds (N := 40) ⟨rfl, by decide, by decide⟩ Pr.pureLaw
