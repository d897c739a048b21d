import PyProof.Rows.All
import Wide.All
import OpenK.AllK
import Wide.FinOn
import HandS.ForMost
import HandS.IsInst
import HandS.Zip
import HandS.Walk
import HandS.ExcInit
import PySem.Challenge.RW_partfirsts_k01_names_and_numbers
set_option Elab.async false
set_option linter.all false
set_option maxRecDepth 100000
set_option maxHeartbeats 4000000
/-! data without a heap: D; what bears it: Rep; a judgement that speaks of data alone: Ev, Do -/
namespace Pf
open PySem L2

/-- data -/
inductive D where
  | non | bl (b : Bool) | int (i : Int) | str (x : Str)
  | lst (ds : List D) | tup (ds : List D)
  | dic (kvs : List (Key × D))
  | ins (C : Addr) (fs : List (Str × D))
  | ty (n : String) | adr (a : Addr)
  | exc (C : Addr) (fs : List (Str × D))

/-- the heap without what is hidden -/
def hd (M : Addr → Bool) (H : Hp) : Hp := fun a => if M a = true then none else H a
theorem hd_of {M : Addr → Bool} {H : Hp} {a : Addr} {o : HO} (h : hd M H a = some o) : M a = false ∧ H a = some o := by
  unfold hd at h
  cases e : M a with
  | true => rw [e, if_pos rfl] at h; cases h
  | false => rw [e, if_neg Bool.false_ne_true] at h; exact ⟨rfl, h⟩
theorem hd_at {M : Addr → Bool} {H : Hp} {a : Addr} {o : HO} (m : M a = false) (h : H a = some o) : hd M H a = some o := by
  unfold hd
  rw [m, if_neg Bool.false_ne_true]
  exact h
theorem same_hd (M : Addr → Bool) (H : Hp) : Same (hd M H) H := fun _ _ h => (hd_of h).2
theorem same_hd_le {M N : Addr → Bool} {H : Hp} (h : ∀ a, M a = true → N a = true) : Same (hd N H) (hd M H) := fun a o e => by
  obtain ⟨h1, h2⟩ := hd_of e
  refine hd_at ?_ h2
  cases q : M a with
  | true => rw [h a q] at h1; cases h1
  | false => rfl
theorem same_tup {K : PySem.W.Frag} {H H' : Hp} {a : Addr} {xs : List V} (e : Same H H') (h : SqT K H a xs) : SqT K H' a xs := by
  rcases h with (h | ⟨o, h⟩) | h
  · exact .inl (.inl (e _ _ h))
  · exact .inl (.inr ⟨o, e _ _ h⟩)
  · exact .inr h
theorem same_new {H : Hp} {p : Addr} {o : HO} (h : H p = none) : Same H (upd H p o) := fun a u e => by
  rw [upd_ne (ne_of_none e h)]
  exact e

mutual
inductive Rep (K : PySem.W.Frag) (H : Hp) : V → D → Prop
  | non : Rep K H .non .non
  | bl (b : Bool) : Rep K H (.bl b) (.bl b)
  | int (i : Int) : Rep K H (.int i) (.int i)
  | str (x : Str) : Rep K H (.str x) (.str x)
  | lst {a : Addr} {xs : List V} {ds : List D} : H a = some (.lst xs) → RepL K H xs ds → Rep K H (.ref a) (.lst ds)
  | tup {a : Addr} {xs : List V} {ds : List D} : SqT K H a xs → RepL K H xs ds → Rep K H (.ref a) (.tup ds)
  | dic {a : Addr} {kvs : List (Key × V)} {ds : List (Key × D)} : H a = some (.dK kvs) → RepK K H kvs ds → Rep K H (.ref a) (.dic ds)
  | ins {a C dx : Addr} {fs : List (Str × V)} {ds : List (Str × D)} : H a = some (.ins C dx fs) → RepF K H fs ds → Rep K H (.ref a) (.ins C ds)
  | ty (n : String) : Rep K H (.ty n) (.ty n)
  | adr (a : Addr) : Rep K H (.ref a) (.adr a)
  | exc {a C dx : Addr} {fs : List (Str × V)} {ds : List (Str × D)} : H a = some (exo a C (some dx)) → H dx = some (exd dx fs) → RepF K H fs ds → Rep K H (.ref a) (.exc C ds)
inductive RepL (K : PySem.W.Frag) (H : Hp) : List V → List D → Prop
  | nil : RepL K H [] []
  | cons {v : V} {vs : List V} {d : D} {ds : List D} : Rep K H v d → RepL K H vs ds → RepL K H (v :: vs) (d :: ds)
inductive RepK (K : PySem.W.Frag) (H : Hp) : List (Key × V) → List (Key × D) → Prop
  | nil : RepK K H [] []
  | cons {k : Key} {v : V} {vs : List (Key × V)} {d : D} {ds : List (Key × D)} : Rep K H v d → RepK K H vs ds → RepK K H ((k, v) :: vs) ((k, d) :: ds)
inductive RepF (K : PySem.W.Frag) (H : Hp) : List (Str × V) → List (Str × D) → Prop
  | nil : RepF K H [] []
  | cons {k : Str} {v : V} {vs : List (Str × V)} {d : D} {ds : List (Str × D)} : Rep K H v d → RepF K H vs ds → RepF K H ((k, v) :: vs) ((k, d) :: ds)
end
section
variable {K : PySem.W.Frag} {H H' : Hp}
mutual
theorem Rep.mono (e : Same H H') : ∀ {v : V} {d : D}, Rep K H v d → Rep K H' v d
  | _, _, .non => .non
  | _, _, .bl b => .bl b
  | _, _, .int i => .int i
  | _, _, .str x => .str x
  | _, _, .lst h r => .lst (e _ _ h) (RepL.mono e r)
  | _, _, .tup h r => .tup (same_tup e h) (RepL.mono e r)
  | _, _, .dic h r => .dic (e _ _ h) (RepK.mono e r)
  | _, _, .ins h r => .ins (e _ _ h) (RepF.mono e r)
  | _, _, .ty n => .ty n
  | _, _, .adr a => .adr a
  | _, _, .exc h g r => .exc (e _ _ h) (e _ _ g) (RepF.mono e r)
theorem RepL.mono (e : Same H H') : ∀ {v : List V} {d : List D}, RepL K H v d → RepL K H' v d
  | _, _, .nil => .nil
  | _, _, .cons h r => .cons (Rep.mono e h) (RepL.mono e r)
theorem RepK.mono (e : Same H H') : ∀ {v : List (Key × V)} {d : List (Key × D)}, RepK K H v d → RepK K H' v d
  | _, _, .nil => .nil
  | _, _, .cons h r => .cons (Rep.mono e h) (RepK.mono e r)
theorem RepF.mono (e : Same H H') : ∀ {v : List (Str × V)} {d : List (Str × D)}, RepF K H v d → RepF K H' v d
  | _, _, .nil => .nil
  | _, _, .cons h r => .cons (Rep.mono e h) (RepF.mono e r)
end
theorem RepL.length : ∀ {vs : List V} {ds : List D}, RepL K H vs ds → vs.length = ds.length
  | _, _, .nil => rfl
  | _, _, .cons _ r => congrArg Nat.succ (RepL.length r)
theorem RepL.get : ∀ {vs : List V} {ds : List D} {i : Nat} {d : D}, RepL K H vs ds → ds[i]? = some d → ∃ v, vs[i]? = some v ∧ Rep K H v d
  | _, _, _, _, .nil, e => by simp at e
  | _, _, 0, _, .cons h _, e => by simp at e; subst e; exact ⟨_, rfl, h⟩
  | _, _, i + 1, d, .cons _ r, e => by
    obtain ⟨v, h1, h2⟩ := RepL.get (i := i) (d := d) r (by simpa using e)
    exact ⟨v, by simpa using h1, h2⟩
theorem RepL.getV : ∀ {vs : List V} {ds : List D} {i : Nat} {v : V}, RepL K H vs ds → vs[i]? = some v → ∃ d, ds[i]? = some d ∧ Rep K H v d
  | _, _, _, _, .nil, e => by simp at e
  | _, _, 0, _, .cons h _, e => by simp at e; subst e; exact ⟨_, rfl, h⟩
  | _, _, i + 1, d, .cons _ r, e => by
    obtain ⟨v, h1, h2⟩ := RepL.getV (i := i) (v := d) r (by simpa using e)
    exact ⟨v, by simpa using h1, h2⟩
theorem RepL.append : ∀ {vs ws : List V} {ds es : List D}, RepL K H vs ds → RepL K H ws es → RepL K H (vs ++ ws) (ds ++ es)
  | _, _, _, _, .nil, s => s
  | _, _, _, _, .cons h r, s => .cons h (RepL.append r s)
theorem RepL.one {v : V} {d : D} (h : Rep K H v d) : RepL K H [v] [d] := .cons h .nil
theorem RepL.drop : ∀ {vs : List V} {ds : List D} (n : Nat), RepL K H vs ds → RepL K H (vs.drop n) (ds.drop n)
  | _, _, 0, r => r
  | _, _, _ + 1, .nil => .nil
  | _, _, n + 1, .cons _ r => RepL.drop n r
theorem RepL.take : ∀ {vs : List V} {ds : List D} (n : Nat), RepL K H vs ds → RepL K H (vs.take n) (ds.take n)
  | _, _, 0, _ => .nil
  | _, _, _ + 1, .nil => .nil
  | _, _, n + 1, .cons h r => .cons h (RepL.take n r)
theorem RepK.look : ∀ {vs : List (Key × V)} {ds : List (Key × D)}, RepK K H vs ds → vs.map (·.1) = ds.map (·.1)
  | _, _, .nil => rfl
  | _, _, .cons _ r => by simp only [List.map_cons, RepK.look r]
theorem RepF.get : ∀ {vs : List (Str × V)} {ds : List (Str × D)} {f : Str} {d : D}, RepF K H vs ds → ds.lookup f = some d → ∃ v, vs.lookup f = some v ∧ Rep K H v d
  | _, _, _, _, .nil, e => by simp at e
  | _, _, f, d, .cons (k := k) h r, e => by
    rw [List.lookup_cons] at e ⊢
    cases q : f == k with
    | true =>
      rw [q] at e
      cases e
      exact ⟨_, rfl, h⟩
    | false =>
      rw [q] at e
      exact RepF.get r e
theorem RepF.none : ∀ {vs : List (Str × V)} {ds : List (Str × D)} {f : Str}, RepF K H vs ds → ds.lookup f = Option.none → vs.lookup f = Option.none
  | _, _, _, .nil, e => by simp
  | _, _, f, .cons (k := k) h r, e => by
    rw [List.lookup_cons] at e ⊢
    cases q : f == k with
    | true =>
      rw [q] at e
      cases e
    | false =>
      rw [q] at e
      exact RepF.none r e
end

/-! an object of one's own: a list, a dict, an instance -/
inductive OD where
  | lst (ds : List D) | dic (kvs : List (Key × D)) | ins (C : Addr) (fs : List (Str × D))
inductive RepO (K : PySem.W.Frag) (H : Hp) : HO → OD → Prop
  | lst {xs : List V} {ds : List D} : RepL K H xs ds → RepO K H (.lst xs) (.lst ds)
  | dic {kvs : List (Key × V)} {ds : List (Key × D)} : RepK K H kvs ds → RepO K H (.dK kvs) (.dic ds)
  | ins {C dx : Addr} {fs : List (Str × V)} {ds : List (Str × D)} : RepF K H fs ds → RepO K H (.ins C dx fs) (.ins C ds)
theorem RepO.mono {K : PySem.W.Frag} {H H' : Hp} (e : Same H H') {o : HO} {d : OD} (h : RepO K H o d) : RepO K H' o d := by
  cases h with
  | lst r => exact .lst (r.mono e)
  | dic r => exact .dic (r.mono e)
  | ins r => exact .ins (r.mono e)
/-- as data -/
def OD.d : OD → D
  | .lst ds => .lst ds | .dic kvs => .dic kvs | .ins C fs => .ins C fs
theorem RepO.rep {K : PySem.W.Frag} {H : Hp} {a : Addr} {o : HO} {d : OD} (h : RepO K H o d) (e : H a = some o) : Rep K H (.ref a) d.d := by
  cases h with
  | lst r => exact .lst e r
  | dic r => exact .dic e r
  | ins r => exact .ins e r

/-! ### the bag of the draws -/
def BagAt (H : Hp) (b c : Addr) : Prop := ∃ (ns : List Int) (i : Nat) (z s t : Int),
  H b = some (.lst [.ref c, .int (i : Int), .int z, .int s, .int t]) ∧ c ≠ b ∧ H c = some (.lst (ns.map V.int)) ∧ i ≤ ns.length ∧ ns.length ≤ 63 ∧ 0 ≤ z ∧ 0 ≤ s ∧ s < 2147483587 ∧ 0 ≤ t
theorem BagAt.mono {H H' : Hp} {b c : Addr} (e : Same H H') : BagAt H b c → BagAt H' b c := fun ⟨ns, i, z, s, t, h1, h2, h3, h4⟩ =>
  ⟨ns, i, z, s, t, e _ _ h1, h2, e _ _ h3, h4⟩
theorem BagAt.at {H : Hp} {b c : Addr} (h : BagAt H b c) : ∃ o, H b = some o := by
  obtain ⟨ns, i, z, s, t, h1, _⟩ := h
  exact ⟨_, h1⟩

/-! ### the frame of a def -/
structure Fm where
  K : PySem.W.Frag
  B : Option Addr
  M0 : Addr → Bool
  H0 : Hp
  E : XK
  C0 : Addr
  T : List Addr
/-- what may change: the bag, the tables of code objects -/
def Fm.mv (F : Fm) (a : Addr) : Prop := F.B = some a ∨ a ∈ F.T
theorem mv_none {F : Fm} (hB : F.B = none) (hT : F.T = []) (a : Addr) : ¬ F.mv a := fun z => by
  rcases z with z | z
  · rw [hB] at z; cases z
  · rw [hT] at z; cases z
theorem mv_bag {F : Fm} {b : Addr} (hB : F.B = some b) (hT : F.T = []) {a : Addr} (h : a ≠ b) : ¬ F.mv a := fun z => by
  rcases z with z | z
  · rw [hB] at z; exact h (Option.some.inj z).symm
  · rw [hT] at z; cases z
/-- all but the bag is kept -/
def StepB (P : Addr → Prop) (H H' : Hp) : Prop := ∀ a o, ¬ P a → H a = some o → H' a = some o
theorem StepB.refl (B : Addr → Prop) (H : Hp) : StepB B H H := fun _ _ _ h => h
theorem StepB.trans {B : Addr → Prop} {H H1 H2 : Hp} (a : StepB B H H1) (b : StepB B H1 H2) : StepB B H H2 := fun c o n h => b c o n (a c o n h)
theorem StepB.of {B : Addr → Prop} {H H' : Hp} (e : Same H H') : StepB B H H' := fun a o _ h => e a o h
/-- what a slot bears -/
inductive SD where
  | un | dat (d : D) | own (p : Addr) (ds : OD) | bag | sq (ds : List D) | sl (ds : List D)
def SlotOk (F : Fm) (M : Addr → Bool) (H : Hp) (s : Option V) : SD → Prop
  | .un => True
  | .dat d => ∃ v, s = some v ∧ Rep F.K (hd M H) v d
  | .own p ds => s = some (.ref p) ∧ M p = true ∧ ∃ vs, H p = some vs ∧ RepO F.K (hd M H) vs ds
  | .bag => ∃ b, F.B = some b ∧ s = some (.ref b)
  | .sq ds => ∃ p vs, s = some (.ref p) ∧ ¬ F.mv p ∧ (SqL F.K F.H0 p vs ∨ SqT F.K F.H0 p vs) ∧ RepL F.K (hd M H) vs ds
  | .sl ds => ∃ p vs, s = some (.ref p) ∧ ¬ F.mv p ∧ SqL F.K F.H0 p vs ∧ RepL F.K (hd M H) vs ds
structure Ctx (F : Fm) (M : Addr → Bool) (σ : L2.St) (H : Hp) (δ : List SD) : Prop where
  al : ∀ a, M a = true → ∃ o, H a = some o
  al0 : ∀ a, F.M0 a = true → ∃ o, F.H0 a = some o
  m0 : ∀ a, F.M0 a = true → M a = true
  fr : StepB F.mv F.H0 H
  bg : (∀ b, F.B = some b → F.M0 b = true ∧ BagAt H b F.C0 ∧ ∃ o, F.H0 F.C0 = some o) ∧ ∀ a ∈ F.T, F.M0 a = true ∧ ∃ ps, H a = some (.tbl ps)
  ln : σ.length = δ.length
  sl : ∀ (i : Nat) (x : SD), δ[i]? = some x → ∃ s, σ[i]? = some s ∧ SlotOk F M H s x
  dj : ∀ (i j : Nat) (p : Addr) (ds es : OD), δ[i]? = some (.own p ds) → δ[j]? = some (.own p es) → i = j
  oh : ∀ (i : Nat) (p : Addr) (ds : OD), δ[i]? = some (.own p ds) → F.H0 p = none ∧ ¬ F.mv p
section
variable {F : Fm} {M M' : Addr → Bool} {σ : L2.St} {H H' : Hp} {δ : List SD}
theorem hd_step (c : Ctx F M σ H δ) (e : StepB F.mv H H') : Same (hd M H) (hd M H') := fun a o h => by
  obtain ⟨m, h1⟩ := hd_of h
  refine hd_at m (e a o (fun z => ?_) h1)
  have q := c.m0 a (z.elim (fun z => (c.bg.1 a z).1) fun z => (c.bg.2 a z).1)
  rw [m] at q
  cases q
theorem SlotOk.step (c : Ctx F M σ H δ) (e : StepB F.mv H H') {s : Option V} {x : SD} (hx : ∀ p ds, x = .own p ds → ¬ F.mv p) (h : SlotOk F M H s x) : SlotOk F M H' s x := by
  cases x with
  | un => trivial
  | dat d =>
    obtain ⟨v, h1, h2⟩ := h
    exact ⟨v, h1, h2.mono (hd_step c e)⟩
  | own p ds =>
    obtain ⟨h1, h2, vs, h3, h4⟩ := h
    exact ⟨h1, h2, vs, e p _ (hx p ds rfl) h3, h4.mono (hd_step c e)⟩
  | bag => exact h
  | sq ds =>
    obtain ⟨p, vs, h1, h2, h3, h4⟩ := h
    exact ⟨p, vs, h1, h2, h3, h4.mono (hd_step c e)⟩
  | sl ds =>
    obtain ⟨p, vs, h1, h2, h3, h4⟩ := h
    exact ⟨p, vs, h1, h2, h3, h4.mono (hd_step c e)⟩
/-- all but the bag is kept, the bag stays a bag -/
theorem Ctx.stepG (c : Ctx F M σ H δ) (e : StepB F.mv H H') (bg : (∀ b, F.B = some b → F.M0 b = true ∧ BagAt H' b F.C0 ∧ ∃ o, F.H0 F.C0 = some o) ∧ ∀ a ∈ F.T, F.M0 a = true ∧ ∃ ps, H' a = some (.tbl ps)) : Ctx F M σ H' δ := by
  refine ⟨fun a m => ?_, c.al0, c.m0, c.fr.trans e, bg, c.ln, fun i x hx => ?_, c.dj, c.oh⟩
  · by_cases z : F.mv a
    · rcases z with z | z
      · obtain ⟨_, h2, _⟩ := bg.1 a z
        exact h2.at
      · obtain ⟨_, ps, h2⟩ := bg.2 a z
        exact ⟨_, h2⟩
    · obtain ⟨o, h⟩ := c.al a m
      exact ⟨o, e a o z h⟩
  · obtain ⟨s, h1, h2⟩ := c.sl i x hx
    refine ⟨s, h1, h2.step c e fun p ds z => ?_⟩
    subst z
    exact (c.oh i p ds hx).2
theorem Ctx.step (c : Ctx F M σ H δ) (e : StepB F.mv H H') (hb : ∀ b, F.B = some b → BagAt H b F.C0 → BagAt H' b F.C0) (ht : ∀ a ∈ F.T, ∀ ps, H a = some (.tbl ps) → ∃ ps', H' a = some (.tbl ps')) : Ctx F M σ H' δ :=
  c.stepG e ⟨fun b z => by
    obtain ⟨h1, h2, h3⟩ := c.bg.1 b z
    exact ⟨h1, hb b z h2, h3⟩, fun a h => by
    obtain ⟨h1, ps, h2⟩ := c.bg.2 a h
    exact ⟨h1, ht a h ps h2⟩⟩
theorem Ctx.same (c : Ctx F M σ H δ) (e : Same H H') : Ctx F M σ H' δ := c.step (StepB.of e) (fun b z h => h.mono e) fun a _ ps h => ⟨ps, e _ _ h⟩
theorem Ctx.get (c : Ctx F M σ H δ) {i : Nat} {d : D} (h : δ[i]? = some (.dat d)) : ∃ v, σ[i]? = some (some v) ∧ Rep F.K (hd M H) v d := by
  obtain ⟨s, h1, v, h2, h3⟩ := c.sl i _ h
  subst h2
  exact ⟨v, h1, h3⟩
theorem Ctx.set (c : Ctx F M σ H δ) (i : Nat) {v : V} {d : D} (r : Rep F.K (hd M H) v d) : Ctx F M (σ.set i (some v)) H (δ.set i (.dat d)) := by
  have key : ∀ (j : Nat) (x : SD), (δ.set i (.dat d))[j]? = some x → (i = j ∧ x = .dat d) ∨ (i ≠ j ∧ δ[j]? = some x) := fun j x hx => by
    by_cases hj : i = j
    · subst hj
      rw [List.getElem?_set] at hx
      rw [if_pos rfl] at hx
      split at hx
      · exact .inl ⟨rfl, (Option.some.inj hx).symm⟩
      · cases hx
    · rw [List.getElem?_set_ne hj] at hx
      exact .inr ⟨hj, hx⟩
  refine ⟨c.al, c.al0, c.m0, c.fr, c.bg, by rw [List.length_set, List.length_set, c.ln], fun j x hx => ?_, fun j k p ds es h1 h2 => ?_, fun j p ds h => ?_⟩
  · rcases key j x hx with ⟨rfl, rfl⟩ | ⟨hj, hx⟩
    · have hl : i < σ.length := by
        have := (List.getElem?_eq_some_iff.mp hx).1
        rw [List.length_set] at this
        rw [c.ln]
        exact this
      exact ⟨some v, by rw [List.getElem?_set_self hl], v, rfl, r⟩
    · rw [List.getElem?_set_ne hj]
      exact c.sl j x hx
  · rcases key j _ h1 with ⟨_, z⟩ | ⟨_, h1⟩
    · cases z
    rcases key k _ h2 with ⟨_, z⟩ | ⟨_, h2⟩
    · cases z
    exact c.dj j k p ds es h1 h2
  · rcases key j _ h with ⟨_, z⟩ | ⟨_, h⟩
    · cases z
    exact c.oh j p ds h
/-- a slot forgotten -/
theorem Ctx.drop (c : Ctx F M σ H δ) (i : Nat) (s : Option V) : Ctx F M (σ.set i s) H (δ.set i .un) := by
  have key : ∀ (j : Nat) (x : SD), (δ.set i .un)[j]? = some x → (i = j ∧ x = .un) ∨ (i ≠ j ∧ δ[j]? = some x) := fun j x hx => by
    by_cases hj : i = j
    · subst hj
      rw [List.getElem?_set] at hx
      rw [if_pos rfl] at hx
      split at hx
      · exact .inl ⟨rfl, (Option.some.inj hx).symm⟩
      · cases hx
    · rw [List.getElem?_set_ne hj] at hx
      exact .inr ⟨hj, hx⟩
  refine ⟨c.al, c.al0, c.m0, c.fr, c.bg, by rw [List.length_set, List.length_set, c.ln], fun j x hx => ?_, fun j k p ds es h1 h2 => ?_, fun j p ds h => ?_⟩
  · rcases key j x hx with ⟨rfl, rfl⟩ | ⟨hj, hx⟩
    · have hl : i < σ.length := by
        have := (List.getElem?_eq_some_iff.mp hx).1
        rw [List.length_set] at this
        rw [c.ln]
        exact this
      exact ⟨s, by rw [List.getElem?_set_self hl], trivial⟩
    · rw [List.getElem?_set_ne hj]
      exact c.sl j x hx
  · rcases key j _ h1 with ⟨_, z⟩ | ⟨_, h1⟩
    · cases z
    rcases key k _ h2 with ⟨_, z⟩ | ⟨_, h2⟩
    · cases z
    exact c.dj j k p ds es h1 h2
  · rcases key j _ h with ⟨_, z⟩ | ⟨_, h⟩
    · cases z
    exact c.oh j p ds h
def wipeD (δ : List SD) : List Nat → List SD
  | [] => δ
  | v :: vs => (wipeD δ vs).set v .un
theorem Ctx.wipe (c : Ctx F M σ H δ) : ∀ vs : List Nat, Ctx F M (wipe σ vs) H (wipeD δ vs)
  | [] => c
  | v :: vs => (Ctx.wipe c vs).drop v none
end

/-! ### judgements -/
def Ev (F : Fm) (te : TE) (δ : List SD) (P : D → Prop) : Prop := ∀ M σ H (Q : VK), Ctx F M σ H δ →
  (∀ v d H', P d → Ctx F M σ H' δ → StepB F.mv H H' → Rep F.K (hd M H') v d → Q v H') → te σ H Q
def EvT (F : Fm) (tt : TT) (δ : List SD) (P : Bool → Prop) : Prop := ∀ M σ H (Q : Bool → Hp → Prop), Ctx F M σ H δ →
  (∀ b H', P b → Ctx F M σ H' δ → StepB F.mv H H' → Q b H') → tt σ H Q
def EvA (F : Fm) (ta : TA) (δ : List SD) (P : List D → Prop) : Prop := ∀ M σ H (Q : List V → Hp → Prop), Ctx F M σ H δ →
  (∀ vs ds H', P ds → Ctx F M σ H' δ → StepB F.mv H H' → RepL F.K (hd M H') vs ds → Q vs H') → ta σ H Q
def Al (M : Addr → Bool) (H : Hp) : Prop := ∀ a, M a = true → ∃ o, H a = some o
/-- a two-place operation on data -/
def OpD (K : PySem.W.Frag) (r : R2) (x y : D) (P : D → Prop) : Prop := ∀ (M : Addr → Bool) (H : Hp) (v w : V) (Q : VK), Al M H → Rep K (hd M H) v x → Rep K (hd M H) w y →
  (∀ u d H', P d → Same H H' → Rep K (hd M H') u d → Q u H') → r v w H Q
def UnD (K : PySem.W.Frag) (r : V → Hp → VK → Prop) (x : D) (P : D → Prop) : Prop := ∀ (M : Addr → Bool) (H : Hp) (v : V) (Q : VK), Al M H → Rep K (hd M H) v x →
  (∀ u d H', P d → Same H H' → Rep K (hd M H') u d → Q u H') → r v H Q
/-- a call on data -/
def CallD (K : PySem.W.Frag) (r : List V → Hp → VK → Prop) (ds : List D) (P : D → Prop) : Prop := ∀ (M : Addr → Bool) (H : Hp) (vs : List V) (Q : VK), Al M H → RepL K (hd M H) vs ds →
  (∀ u d H', P d → Same H H' → Rep K (hd M H') u d → Q u H') → r vs H Q
theorem sz_of {n : Nat} (h : n ≤ 100000) : n ≤ sizeLine := Nat.le_trans h (by decide)
theorem sz_lt {n : Nat} (h : n < 100000) : n < sizeLine := Nat.lt_of_lt_of_le h (by decide)
theorem hd_new {M : Addr → Bool} {H : Hp} {p : Addr} {o : HO} (al : Al M H) (hp : H p = none) : hd M (upd H p o) p = some o := by
  refine hd_at ?_ upd_same
  cases e : M p with
  | true =>
    obtain ⟨u, h⟩ := al p e
    rw [hp] at h
    cases h
  | false => rfl
theorem same_hdM {M : Addr → Bool} {H H' : Hp} (e : Same H H') : Same (hd M H) (hd M H') := fun a o h => by
  obtain ⟨m, h1⟩ := hd_of h
  exact hd_at m (e a o h1)
section
variable {F : Fm} {δ : List SD} {ta tb tc te : TE} {tt tu : TT} {P P1 P2 P3 : D → Prop} {PT : Bool → Prop} {PA : List D → Prop}
theorem Ev.imp (h : Ev F te δ P) (i : ∀ d, P d → P1 d) : Ev F te δ P1 := fun M σ H Q c q => h M σ H Q c fun v d H' p => q v d H' (i d p)
theorem EvT.imp {PB PC : Bool → Prop} (h : EvT F tt δ PB) (i : ∀ d, PB d → PC d) : EvT F tt δ PC := fun M σ H Q c q => h M σ H Q c fun v H' p => q v H' (i v p)
theorem EvA.imp {ta : TA} {PB PC : List D → Prop} (h : EvA F ta δ PB) (i : ∀ d, PB d → PC d) : EvA F ta δ PC := fun M σ H Q c q => h M σ H Q c fun v d H' p => q v d H' (i d p)
theorem ev_var {i : Nat} {d : D} (h : δ[i]? = some (.dat d)) (p : P d) : Ev F (tVar i) δ P := fun M σ H Q c q => by
  obtain ⟨v, h1, h2⟩ := c.get h
  exact ⟨v, h1, q v d H p c (StepB.refl _ _) h2⟩
theorem ev_int {i : Int} (p : P (.int i)) : Ev F (tC (.int i)) δ P := fun M σ H Q c q => q _ _ H p c (StepB.refl _ _) (.int i)
theorem ev_bl {b : Bool} (p : P (.bl b)) : Ev F (tC (.bl b)) δ P := fun M σ H Q c q => q _ _ H p c (StepB.refl _ _) (.bl b)
theorem ev_str {x : Str} (p : P (.str x)) : Ev F (tC (.str x)) δ P := fun M σ H Q c q => q _ _ H p c (StepB.refl _ _) (.str x)
theorem ev_ty {n : String} (p : P (.ty n)) : Ev F (tC (.ty n)) δ P := fun M σ H Q c q => q _ _ H p c (StepB.refl _ _) (.ty n)
theorem ev_adr {a : Addr} (p : P (.adr a)) : Ev F (tC (.ref a)) δ P := fun M σ H Q c q => q _ _ H p c (StepB.refl _ _) (.adr a)
theorem ev_non (p : P .non) : Ev F (tC .non) δ P := fun M σ H Q c q => q _ _ H p c (StepB.refl _ _) .non
theorem ev_op {r : R2} (h : Ev F ta δ fun x => Ev F tb δ fun y => OpD F.K r x y P) : Ev F (tOp r ta tb) δ P := fun M σ H Q c q =>
  h M σ H _ c fun v x H1 p1 c1 e1 r1 => p1 M σ H1 _ c1 fun w y H2 p2 c2 e2 r2 =>
    p2 M H2 v w Q c2.al (r1.mono (hd_step c1 e2)) r2 fun u d H3 p e r3 => q u d H3 p (c2.same e) ((e1.trans e2).trans (StepB.of e)) r3
theorem ev_un {r : V → Hp → VK → Prop} (h : Ev F ta δ fun x => UnD F.K r x P) : Ev F (tUn r ta) δ P := fun M σ H Q c q =>
  h M σ H _ c fun v x H1 p1 c1 e1 r1 => p1 M H1 v Q c1.al r1 fun u d H3 p e r3 => q u d H3 p (c1.same e) (e1.trans (StepB.of e)) r3
/-- and, or, not of bools, as values -/
theorem ev_and (h : Ev F ta δ fun d => ∃ b, d = .bl b ∧ (b = true → Ev F tb δ P) ∧ (b = false → P (.bl false))) : Ev F (tAndV ta tb) δ P := fun M σ H Q c q =>
  h M σ H _ c fun v x H1 p1 c1 e1 r1 => by
    obtain ⟨b, rfl, h1, h2⟩ := p1
    cases r1
    refine ⟨b, rfl, ?_⟩
    cases b with
    | true => exact h1 rfl M σ H1 Q c1 fun u d H2 p c2 e2 r2 => q u d H2 p c2 (e1.trans e2) r2
    | false => exact q _ _ H1 (h2 rfl) c1 e1 (.bl false)
theorem ev_or (h : Ev F ta δ fun d => ∃ b, d = .bl b ∧ (b = false → Ev F tb δ P) ∧ (b = true → P (.bl true))) : Ev F (tOrV ta tb) δ P := fun M σ H Q c q =>
  h M σ H _ c fun v x H1 p1 c1 e1 r1 => by
    obtain ⟨b, rfl, h1, h2⟩ := p1
    cases r1
    refine ⟨b, rfl, ?_⟩
    cases b with
    | false => exact h1 rfl M σ H1 Q c1 fun u d H2 p c2 e2 r2 => q u d H2 p c2 (e1.trans e2) r2
    | true => exact q _ _ H1 (h2 rfl) c1 e1 (.bl true)
theorem ev_not (h : Ev F ta δ fun d => ∃ b, d = .bl b ∧ P (.bl (!b))) : Ev F (tNotV ta) δ P := fun M σ H Q c q =>
  h M σ H _ c fun v x H1 p1 c1 e1 r1 => by
    obtain ⟨b, rfl, pb⟩ := p1
    cases r1
    exact ⟨b, rfl, q _ _ H1 pb c1 e1 (.bl _)⟩
theorem ev_if (h : EvT F tt δ fun b => (b = true → Ev F ta δ P) ∧ (b = false → Ev F tb δ P)) : Ev F (tIf tt ta tb) δ P := fun M σ H Q c q =>
  h M σ H _ c fun b H1 pb c1 e1 => by
    cases b with
    | true => exact pb.1 rfl M σ H1 Q c1 fun u d H2 p c2 e2 r2 => q u d H2 p c2 (e1.trans e2) r2
    | false => exact pb.2 rfl M σ H1 Q c1 fun u d H2 p c2 e2 r2 => q u d H2 p c2 (e1.trans e2) r2
/-- a op1 b op2 c -/
theorem ev_chain {r r' : R2} (h : Ev F ta δ fun x => Ev F tb δ fun y => OpD F.K r x y fun z => ∃ b, z = .bl b ∧ (b = true → Ev F tc δ fun w => OpD F.K r' y w P) ∧ (b = false → P (.bl false))) : Ev F (tChain r r' ta tb tc) δ P := fun M σ H Q c q =>
  by
  refine h M σ H _ c fun v x H1 p1 c1 e1 r1 => ?_
  refine p1 M σ H1 _ c1 fun w y H2 p2 c2 e2 r2 => ?_
  refine p2 M H2 v w _ c2.al (r1.mono (hd_step c1 e2)) r2 fun u d H3 p e r3 => ?_
  obtain ⟨b, rfl, h1, h2⟩ := p
  cases r3
  refine ⟨b, rfl, ?_⟩
  cases b with
  | false => exact q _ _ H3 (h2 rfl) (c2.same e) ((e1.trans e2).trans (StepB.of e)) (.bl false)
  | true =>
    rw [if_pos rfl]
    refine h1 rfl M σ H3 _ (c2.same e) fun u4 d4 H4 p4 c4 e4 r4 => ?_
    refine p4 M H4 w u4 Q c4.al (r2.mono ((same_hdM e).trans (hd_step (c2.same e) e4))) r4 fun u5 d5 H5 p5 e5 r5 => ?_
    exact q u5 d5 H5 p5 (c4.same e5) (((e1.trans e2).trans (StepB.of e)).trans (e4.trans (StepB.of e5))) r5
/-! tests -/
theorem et_test (h : Ev F te δ fun d => ∃ b, d = .bl b ∧ PT b) : EvT F (tTest te) δ PT := fun M σ H Q c q =>
  h M σ H _ c fun v x H1 p1 c1 e1 r1 => by
    obtain ⟨b, rfl, pb⟩ := p1
    cases r1
    exact ⟨b, rfl, q b H1 pb c1 e1⟩
theorem et_B (h : Ev F te δ fun d => ∃ b, d = .bl b ∧ PT b) : EvT F (tB te) δ PT := fun M σ H Q c q =>
  h M σ H _ c fun v x H1 p1 c1 e1 r1 => by
    obtain ⟨b, rfl, pb⟩ := p1
    cases r1
    exact ⟨b, rfl, q b H1 pb c1 e1⟩
theorem et_and (h : EvT F tt δ fun b => (b = true → EvT F tu δ PT) ∧ (b = false → PT false)) : EvT F (tAnd tt tu) δ PT := fun M σ H Q c q =>
  h M σ H _ c fun b H1 pb c1 e1 => by
    cases b with
    | true => exact pb.1 rfl M σ H1 Q c1 fun b2 H2 p c2 e2 => q b2 H2 p c2 (e1.trans e2)
    | false => exact q false H1 (pb.2 rfl) c1 e1
theorem et_or (h : EvT F tt δ fun b => (b = false → EvT F tu δ PT) ∧ (b = true → PT true)) : EvT F (tOr tt tu) δ PT := fun M σ H Q c q =>
  h M σ H _ c fun b H1 pb c1 e1 => by
    cases b with
    | false => exact pb.1 rfl M σ H1 Q c1 fun b2 H2 p c2 e2 => q b2 H2 p c2 (e1.trans e2)
    | true => exact q true H1 (pb.2 rfl) c1 e1
theorem et_not (h : EvT F tt δ fun b => PT (!b)) : EvT F (tNot tt) δ PT := fun M σ H Q c q =>
  h M σ H _ c fun b H1 pb c1 e1 => q (!b) H1 pb c1 e1
theorem et_yes (p : PT true) : EvT F tYes δ PT := fun M σ H Q c q => q true H p c (StepB.refl _ _)
/-! lists of values -/
theorem ea_nil (p : PA []) : EvA F tNil δ PA := fun M σ H Q c q => q [] [] H p c (StepB.refl _ _) .nil
theorem ea_cons {tr : TA} (h : Ev F te δ fun x => EvA F tr δ fun r => PA (x :: r)) : EvA F (tCons te tr) δ PA := fun M σ H Q c q =>
  h M σ H _ c fun v x H1 p1 c1 e1 r1 => p1 M σ H1 _ c1 fun vs ds H2 p2 c2 e2 r2 => q _ (x :: ds) H2 p2 c2 (e1.trans e2) (.cons (r1.mono (hd_step c1 e2)) r2)
theorem ev_tup {ta : TA} (h : EvA F ta δ fun ds => ds.length ≤ 100000 ∧ P (.tup ds)) : Ev F (tTup ta) δ P := fun M σ H Q c q =>
  h M σ H _ c fun vs ds H1 p1 c1 e1 r1 => ⟨by rw [r1.length]; exact sz_of p1.1, fun p hp =>
    q _ (.tup ds) _ p1.2 (c1.same (same_new hp)) (e1.trans (StepB.of (same_new hp))) (.tup (SqT.of (hd_new c1.al hp)) (r1.mono (same_hdM (same_new hp))))⟩
theorem ev_lst {ta : TA} (h : EvA F ta δ fun ds => ds.length ≤ 100000 ∧ P (.lst ds)) : Ev F (tLst ta) δ P := fun M σ H Q c q =>
  h M σ H _ c fun vs ds H1 p1 c1 e1 r1 => ⟨by rw [r1.length]; exact sz_of p1.1, fun p hp =>
    q _ (.lst ds) _ p1.2 (c1.same (same_new hp)) (e1.trans (StepB.of (same_new hp))) (.lst (hd_new c1.al hp) (r1.mono (same_hdM (same_new hp))))⟩
theorem ev_cb {r : List V → Hp → VK → Prop} {ta : TA} (h : EvA F ta δ fun ds => CallD F.K r ds P) : Ev F (tCB r ta) δ P := fun M σ H Q c q =>
  h M σ H _ c fun vs ds H1 p1 c1 e1 r1 => p1 M H1 vs Q c1.al r1 fun u d H2 p e r2 => q u d H2 p (c1.same e) (e1.trans (StepB.of e)) r2
end
/-! ### operations on data -/
section
variable {K : PySem.W.Frag} {P : D → Prop} {i j : Int}
theorem od_I0 {g : Int → Int → V} {d : D} (hr : ∀ H, Rep K H (g i j) d) (p : P d) : OpD K (rI0 g) (.int i) (.int j) P := fun M H v w Q al r1 r2 q => by
  cases r1
  cases r2
  exact ⟨i, j, rfl, rfl, q _ d H p (Same.refl H) (hr _)⟩
theorem od_I {C : Int → Int → Prop} {g : Int → Int → V} {d : D} (hc : C i j) (hr : ∀ H, Rep K H (g i j) d) (p : P d) : OpD K (rI C g) (.int i) (.int j) P := fun M H v w Q al r1 r2 q => by
  cases r1
  cases r2
  exact ⟨i, j, rfl, rfl, hc, q _ d H p (Same.refl H) (hr _)⟩
theorem od_int {g : Int → Int → Int} (p : P (.int (g i j))) : OpD K (rI0 fun i j => .int (g i j)) (.int i) (.int j) P := od_I0 (fun _ => .int _) p
theorem od_bl {g : Int → Int → Bool} (p : P (.bl (g i j))) : OpD K (rI0 fun i j => .bl (g i j)) (.int i) (.int j) P := od_I0 (fun _ => .bl _) p
theorem od_intC {C : Int → Int → Prop} {g : Int → Int → Int} (hc : C i j) (p : P (.int (g i j))) : OpD K (rI C fun i j => .int (g i j)) (.int i) (.int j) P := od_I hc (fun _ => .int _) p
end
end Pf

namespace Pf
open PySem L2 RZ

/-! ### statements on data -/
structure PD where
  nx : List SD → Prop
  rt : D → Prop := fun _ => False
  bk : List SD → Prop := fun _ => False
  ct : List SD → Prop := fun _ => False
def Do (F : Fm) (ts : TS) (δ : List SD) (P : PD) : Prop := ∀ M σ H (E : Ends), Ctx F M σ H δ →
  (∀ M' σ' H' δ', P.nx δ' → Ctx F M' σ' H' δ' → Same (hd M H) (hd M' H') → E.nx σ' H') →
  (∀ v d M' σ' H' δ', P.rt d → Ctx F M' σ' H' δ' → Same (hd M H) (hd M' H') → Rep F.K (hd M' H') v d → E.rt v H') →
  (∀ M' σ' H' δ', P.bk δ' → Ctx F M' σ' H' δ' → Same (hd M H) (hd M' H') → E.bk σ' H') →
  (∀ M' σ' H' δ', P.ct δ' → Ctx F M' σ' H' δ' → Same (hd M H) (hd M' H') → E.ct σ' H') → ts E σ H
/-- a target -/
def TgD (F : Fm) (g : TG) (js : List Nat) (x : D) (δ : List SD) (R : List SD → Prop) : Prop := ∀ M σ H v (Q : L2.St → Hp → Prop), Ctx F M σ H δ → Rep F.K (hd M H) v x →
  (∀ σ' H' δ', R δ' → Ctx F M σ' H' δ' → StepB F.mv H H' → (∀ vs : List Nat, (∀ j ∈ js, j ∈ vs) → wipe σ' vs = wipe σ vs) → Q σ' H') → g v σ H Q
def TgsD (F : Fm) (g : TGs) (js : List Nat) (x : List D) (δ : List SD) (R : List SD → Prop) : Prop := ∀ M σ H v (Q : L2.St → Hp → Prop), Ctx F M σ H δ → RepL F.K (hd M H) v x →
  (∀ σ' H' δ', R δ' → Ctx F M σ' H' δ' → StepB F.mv H H' → (∀ vs : List Nat, (∀ j ∈ js, j ∈ vs) → wipe σ' vs = wipe σ vs) → Q σ' H') → g v σ H Q
/-- what is walked -/
def WalkD (F : Fm) (J : It) (M : Addr → Bool) (H : Hp) (xs : List D) : Prop := ∃ (G : Hp → Prop) (Y : Nat → Hp → V → Hp → Prop), Walk J xs.length G Y ∧
  (∀ M2 H2, Same (hd M H) (hd M2 H2) → StepB F.mv F.H0 H2 → G H2) ∧ ∀ M2 H2 i x H3, Al M2 H2 → Same (hd M H) (hd M2 H2) → Y i H2 x H3 → Same H2 H3 ∧ ∃ d, xs[i]? = some d ∧ Rep F.K (hd M2 H3) x d
def ItD (F : Fm) (wi : TI) (δ : List SD) (PX : List D → Prop) : Prop := ∀ M σ H (R : It → Hp → Prop), Ctx F M σ H δ →
  (∀ J xs H', PX xs → Ctx F M σ H' δ → StepB F.mv H H' → WalkD F J M H' xs → R J H') → wi σ H R
section
variable {F : Fm} {δ : List SD} {ta tb tc te : TE} {t u ts : TS} {tt tu : TT} {P : D → Prop} {PX : List D → Prop} {R : PD} {M : Addr → Bool} {σ : L2.St} {H H' : Hp} {g : TG} {gs : TGs} {wi : TI}
theorem Do.imp {R' : PD} (h : Do F t δ R) (h1 : ∀ δ', R.nx δ' → R'.nx δ') (h2 : ∀ d, R.rt d → R'.rt d) (h3 : ∀ δ', R.bk δ' → R'.bk δ') (h4 : ∀ δ', R.ct δ' → R'.ct δ') : Do F t δ R' := fun M σ H E c a b k d =>
  h M σ H E c (fun M' σ' H' δ' p => a M' σ' H' δ' (h1 _ p)) (fun v d M' σ' H' δ' p => b v d M' σ' H' δ' (h2 _ p)) (fun M' σ' H' δ' p => k M' σ' H' δ' (h3 _ p)) (fun M' σ' H' δ' p => d M' σ' H' δ' (h4 _ p))
theorem do_seq (h : Do F t δ { R with nx := fun δ' => Do F u δ' R }) : Do F (tSeq t u) δ R := fun M σ H E c a b k d =>
  h M σ H { E with nx := u E } c (fun M' σ' H' δ' p c' s => p M' σ' H' E c' (fun M2 σ2 H2 δ2 p2 c2 s2 => a M2 σ2 H2 δ2 p2 c2 (s.trans s2)) (fun v x M2 σ2 H2 δ2 p2 c2 s2 => b v x M2 σ2 H2 δ2 p2 c2 (s.trans s2))
    (fun M2 σ2 H2 δ2 p2 c2 s2 => k M2 σ2 H2 δ2 p2 c2 (s.trans s2)) (fun M2 σ2 H2 δ2 p2 c2 s2 => d M2 σ2 H2 δ2 p2 c2 (s.trans s2))) b k d
theorem do_next (p : R.nx δ) : Do F tNext δ R := fun M σ H E c a b k d => a M σ H δ p c (Same.refl _)
theorem do_brk (p : R.bk δ) : Do F tBreak δ R := fun M σ H E c a b k d => k M σ H δ p c (Same.refl _)
theorem do_cont (p : R.ct δ) : Do F tCont δ R := fun M σ H E c a b k d => d M σ H δ p c (Same.refl _)
theorem do_ret (h : Ev F te δ R.rt) : Do F (tRet te) δ R := fun M σ H E c a b k d =>
  h M σ H _ c fun v x H1 p c1 e r => b v x M σ H1 δ p c1 (hd_step c e) r
theorem do_retN (p : R.rt .non) : Do F tRetN δ R := fun M σ H E c a b k d => b _ _ M σ H δ p c (Same.refl _) .non
theorem do_drop (h : Ev F te δ fun _ => R.nx δ) : Do F (tDrop te) δ R := fun M σ H E c a b k d =>
  h M σ H _ c fun v x H1 p c1 e r => a M σ H1 δ p c1 (hd_step c e)
theorem do_set {i : Nat} (h : Ev F te δ fun x => R.nx (δ.set i (.dat x))) : Do F (tAsg te (gName i)) δ R := fun M σ H E c a b k d =>
  h M σ H _ c fun v x H1 p c1 e r => a M _ H1 _ p (c1.set i r) (hd_step c e)
theorem do_asg {js : List Nat} (h : Ev F te δ fun x => TgD F g js x δ R.nx) : Do F (tAsg te g) δ R := fun M σ H E c a b k d =>
  h M σ H _ c fun v x H1 p c1 e r => p M σ H1 v _ c1 r fun σ2 H2 δ2 p2 c2 e2 _ => a M σ2 H2 δ2 p2 c2 ((hd_step c e).trans (hd_step c1 e2))
theorem do_if (h : EvT F tt δ fun b => (b = true → Do F t δ R) ∧ (b = false → Do F u δ R)) : Do F (tIfS tt t u) δ R := fun M σ H E c a b k d =>
  h M σ H _ c fun y H1 p c1 e => by
    have s := hd_step c e
    cases y with
    | true =>
      exact p.1 rfl M σ H1 E c1 (fun M2 σ2 H2 δ2 p2 c2 s2 => a M2 σ2 H2 δ2 p2 c2 (s.trans s2)) (fun v x M2 σ2 H2 δ2 p2 c2 s2 => b v x M2 σ2 H2 δ2 p2 c2 (s.trans s2))
        (fun M2 σ2 H2 δ2 p2 c2 s2 => k M2 σ2 H2 δ2 p2 c2 (s.trans s2)) (fun M2 σ2 H2 δ2 p2 c2 s2 => d M2 σ2 H2 δ2 p2 c2 (s.trans s2))
    | false =>
      exact p.2 rfl M σ H1 E c1 (fun M2 σ2 H2 δ2 p2 c2 s2 => a M2 σ2 H2 δ2 p2 c2 (s.trans s2)) (fun v x M2 σ2 H2 δ2 p2 c2 s2 => b v x M2 σ2 H2 δ2 p2 c2 (s.trans s2))
        (fun M2 σ2 H2 δ2 p2 c2 s2 => k M2 σ2 H2 δ2 p2 c2 (s.trans s2)) (fun M2 σ2 H2 δ2 p2 c2 s2 => d M2 σ2 H2 δ2 p2 c2 (s.trans s2))
/-! targets -/
theorem wipe_set {j : Nat} {s : Option V} : ∀ {vs : List Nat}, j ∈ vs → wipe (σ.set j s) vs = wipe σ vs
  | [], h => by cases h
  | v :: vs, h => by
    show (wipe (σ.set j s) vs).set v none = (wipe σ vs).set v none
    by_cases hv : j = v
    · subst hv
      have key : ∀ ws : List Nat, (wipe (σ.set j s) ws).set j none = (wipe σ ws).set j none := by
        intro ws
        induction ws with
        | nil =>
          show (σ.set j s).set j none = σ.set j none
          rw [List.set_set]
        | cons w ws ih =>
          show ((wipe (σ.set j s) ws).set w none).set j none = ((wipe σ ws).set w none).set j none
          by_cases hw : w = j
          · subst hw
            rw [List.set_set, List.set_set, ih]
          · rw [List.set_comm _ _ hw, List.set_comm _ _ hw, ih]
      exact key vs
    · have : j ∈ vs := by
        rcases List.mem_cons.mp h with h | h
        · exact absurd h hv
        · exact h
      rw [wipe_set this]
theorem tg_name {i : Nat} {x : D} {Q : List SD → Prop} (p : Q (δ.set i (.dat x))) : TgD F (gName i) [i] x δ Q := fun M σ H v R c r q =>
  q _ H _ p (c.set i r) (StepB.refl _ _) fun vs h => wipe_set (h i (by simp))
theorem tgs_nil {Q : List SD → Prop} (p : Q δ) : TgsD F gNil [] [] δ Q := fun M σ H v R c r q => by
  cases r
  exact ⟨rfl, q σ H δ p c (StepB.refl _ _) fun vs _ => rfl⟩
theorem tgs_cons {js ks : List Nat} {x : D} {xs : List D} {Q : List SD → Prop} (h : TgD F g js x δ fun δ' => TgsD F gs ks xs δ' Q) : TgsD F (gCons g gs) (js ++ ks) (x :: xs) δ Q := fun M σ H v R c r q => by
  cases r with
  | cons r1 r2 =>
    refine ⟨_, _, rfl, h M σ H _ _ c r1 fun σ1 H1 δ1 p1 c1 e1 w1 => ?_⟩
    refine p1 M σ1 H1 _ _ c1 (r2.mono (hd_step c e1)) fun σ2 H2 δ2 p2 c2 e2 w2 => ?_
    refine q σ2 H2 δ2 p2 c2 (e1.trans e2) fun vs h => ?_
    rw [w2 vs fun j hj => h j (List.mem_append_right _ hj), w1 vs fun j hj => h j (List.mem_append_left _ hj)]
theorem tg_tup {n : Nat} {js : List Nat} {xs : List D} {Q : List SD → Prop} (hn : xs.length = n) (h : TgsD F gs js xs δ Q) : TgD F (gTup F.K n gs) js (.tup xs) δ Q := fun M σ H v R c r q => by
  cases r with
  | tup h1 h2 => exact ⟨_, _, rfl, same_tup (same_hd M H) h1, by rw [h2.length, hn], h M σ H _ _ c h2 q⟩
/-! walks -/
theorem walkD_list {F : Fm} {a : Addr} {xs : List V} {ds : List D} (h : hd M H a = some (.lst xs)) (r : RepL F.K (hd M H) xs ds) : WalkD F (Itl F.K a) M H ds := by
  refine ⟨fun H => SqL F.K H a xs, YAt xs, by rw [← r.length]; exact walk_list, fun M2 H2 e _ => SqL.of (hd_of (e _ _ h)).2, fun M2 H2 i x H3 al e y => ?_⟩
  obtain ⟨rfl, y⟩ := y
  obtain ⟨d, h1, h2⟩ := r.getV y
  exact ⟨Same.refl _, d, h1, h2.mono e⟩
theorem it_list (h : Ev F te δ fun d => ∃ ds, d = .lst ds ∧ PX ds) : ItD F (iList F.K te) δ PX := fun M σ H R c q =>
  h M σ H _ c fun v d H1 p c1 e r => by
    obtain ⟨ds, rfl, p⟩ := p
    cases r with
    | lst h1 h2 => exact ⟨_, rfl, ⟨_, SqL.of (hd_of h1).2⟩, q _ ds H1 p c1 e (walkD_list h1 h2)⟩
theorem walkD_tup {F : Fm} {a : Addr} {xs : List V} {ds : List D} (h : SqT F.K (hd M H) a xs) (r : RepL F.K (hd M H) xs ds) : WalkD F (Itt F.K a) M H ds := by
  refine ⟨fun H => SqT F.K H a xs, YAt xs, by rw [← r.length]; exact walk_tup, fun M2 H2 e _ => same_tup (e.trans (same_hd M2 H2)) h, fun M2 H2 i x H3 al e y => ?_⟩
  obtain ⟨rfl, y⟩ := y
  obtain ⟨d, h1, h2⟩ := r.getV y
  exact ⟨Same.refl _, d, h1, h2.mono e⟩
theorem it_tup (h : Ev F te δ fun d => ∃ ds, d = .tup ds ∧ PX ds) : ItD F (iTup F.K te) δ PX := fun M σ H R c q =>
  h M σ H _ c fun v d H1 p c1 e r => by
    obtain ⟨ds, rfl, p⟩ := p
    cases r with
    | tup h1 h2 => exact ⟨_, rfl, ⟨_, same_tup (same_hd M H1) h1⟩, q _ ds H1 p c1 e (walkD_tup h1 h2)⟩
/-- lo, lo + 1, .. -/
def upto (lo : Int) (n : Nat) : List D := (List.range n).map fun i => .int (lo + (i : Nat))
theorem upto_len {lo : Int} {n : Nat} : (upto lo n).length = n := by simp [upto]
theorem upto_get {lo : Int} {n i : Nat} {d : D} (h : (upto lo n)[i]? = some d) : i < n ∧ d = .int (lo + (i : Nat)) := by
  have hi := (List.getElem?_eq_some_iff.mp h).1
  rw [upto_len] at hi
  refine ⟨hi, ?_⟩
  unfold upto at h
  rw [List.getElem?_map, List.getElem?_range hi] at h
  exact (Option.some.inj h).symm
theorem walkD_range {F : Fm} {lo : Int} {n : Nat} : WalkD F (Itr lo n) M H (upto lo n) := by
  refine ⟨fun _ => True, fun i H x H' => i < n ∧ H' = H ∧ x = .int (lo + i), ?_, fun _ _ _ _ => trivial, fun M2 H2 i x H3 al e y => ?_⟩
  · rw [upto_len]
    exact ⟨fun _ _ hi _ => hi, fun _ _ => Nat.le_refl _, fun _ _ _ _ hi _ y => ⟨hi, y⟩⟩
  · obtain ⟨hi, rfl, rfl⟩ := y
    refine ⟨Same.refl _, .int (lo + (i : Nat)), ?_, .int _⟩
    unfold upto
    rw [List.getElem?_map, List.getElem?_range hi]
    rfl
theorem it_range1 {ta : TA} (h : EvA F ta δ fun l => ∃ n : Int, l = [.int n] ∧ -1000000 ≤ n ∧ n ≤ 1000000 ∧ PX (upto 0 n.toNat)) : ItD F (iRng1 ta) δ PX := fun M σ H R c q =>
  h M σ H _ c fun vs ds H1 p c1 e r => by
    obtain ⟨n, rfl, h1, h2, p⟩ := p
    cases r with
    | cons r1 r2 =>
      cases r1
      cases r2
      exact ⟨n, rfl, by omega, by omega, q _ _ H1 p c1 e walkD_range⟩
theorem it_range2 {ta : TA} (h : EvA F ta δ fun l => ∃ m n : Int, l = [.int m, .int n] ∧ (-1000000 ≤ m ∧ m ≤ 1000000 ∧ -1000000 ≤ n ∧ n ≤ 1000000) ∧ PX (upto m (n - m).toNat)) : ItD F (iRng2 ta) δ PX := fun M σ H R c q =>
  h M σ H _ c fun vs ds H1 p c1 e r => by
    obtain ⟨m, n, rfl, h1, p⟩ := p
    cases r with
    | cons r1 r2 =>
      cases r1
      cases r2 with
      | cons r2 r3 =>
        cases r2
        cases r3
        exact ⟨m, n, rfl, by omega, q _ _ H1 p c1 e walkD_range⟩
/-- the signs of a text -/
def signs (z : Str) : List D := z.cps.toList.map fun c => .str ⟨#[c]⟩
theorem it_str (h : Ev F te δ fun d => ∃ z, d = .str z ∧ PX (signs z)) : ItD F (iStr te) δ PX := fun M σ H R c q =>
  h M σ H _ c fun v d H1 p c1 e r => by
    obtain ⟨z, rfl, p⟩ := p
    cases r
    refine ⟨z, rfl, q _ _ H1 p c1 e ⟨fun _ => True, fun i H v H' => H' = H ∧ ∃ c, z.cps[i]? = some c ∧ v = .str ⟨#[c]⟩, ?_, fun _ _ _ _ => trivial, fun M2 H2 i x H3 al e y => ?_⟩⟩
    · have := walk_str (z := z)
      have l : (signs z).length = z.cps.size := by simp [signs]
      rw [l]
      exact this
    · obtain ⟨rfl, c, h1, rfl⟩ := y
      refine ⟨Same.refl _, .str ⟨#[c]⟩, ?_, .str _⟩
      unfold signs
      rw [List.getElem?_map]
      have : z.cps.toList[i]? = some c := by simpa using h1
      rw [this]
      rfl
/-- pairs -/
def pairs (xs ys : List D) : List D := (xs.zip ys).map fun p => .tup [p.1, p.2]
theorem pair_ok {K : PySem.W.Frag} {M2 : Addr → Bool} {H2 : Hp} {T : Addr} {x y : V} {d e : D} (al : Al M2 H2) (hT : H2 T = none) (r1 : Rep K (hd M2 H2) x d) (r2 : Rep K (hd M2 H2) y e) : Rep K (hd M2 (upd H2 T (.tup [x, y]))) (.ref T) (.tup [d, e]) :=
  .tup (SqT.of (hd_new al hT)) (.cons (r1.mono (same_hdM (same_new hT))) (.cons (r2.mono (same_hdM (same_new hT))) .nil))
theorem walkD_zip {F : Fm} {a b : Addr} {xs ys : List V} {ds es : List D} (h : hd M H a = some (.lst xs)) (r : RepL F.K (hd M H) xs ds) (h' : hd M H b = some (.lst ys)) (r' : RepL F.K (hd M H) ys es) : WalkD F (Itz F.K a b) M H (pairs ds es) := by
  refine ⟨_, _, walk_zip (xs := xs) (ys := ys) ?_, fun M2 H2 e _ => ⟨SqL.of (hd_of (e _ _ h)).2, SqL.of (hd_of (e _ _ h')).2⟩, fun M2 H2 i x H3 al e y => ?_⟩
  · unfold pairs
    rw [List.length_map, List.length_zip, r.length, r'.length]
  · obtain ⟨T, v, w, rfl, hT, rfl, h1, h2⟩ := y
    obtain ⟨d, e1, r1⟩ := r.getV h1
    obtain ⟨f, e2, r2⟩ := r'.getV h2
    refine ⟨same_new hT, .tup [d, f], ?_, pair_ok al hT (r1.mono e) (r2.mono e)⟩
    unfold pairs
    rw [List.getElem?_map, List.getElem?_zip_eq_some (z := (d, f)) |>.mpr ⟨e1, e2⟩]
    rfl
theorem it_zipL {ta : TA} (h : EvA F ta δ fun l => ∃ xs ys, l = [.lst xs, .lst ys] ∧ PX (pairs xs ys)) : ItD F (iZip F.K ta) δ PX := fun M σ H R c q =>
  h M σ H _ c fun vs ds H1 p c1 e r => by
    obtain ⟨xs, ys, rfl, p⟩ := p
    cases r with
    | cons r1 r2 =>
      cases r2 with
      | cons r2 r3 =>
        cases r3
        cases r1 with
        | lst h1 h2 =>
          cases r2 with
          | lst h3 h4 => exact ⟨_, _, _, _, rfl, SqL.of (hd_of h1).2, SqL.of (hd_of h3).2, q _ _ H1 p c1 e (walkD_zip h1 h2 h3 h4)⟩
theorem walk_zipT {K : PySem.W.Frag} {a b : Addr} {xs ys : List V} {n : Nat} (hn : n = min xs.length ys.length) : Walk (ItzT K a b) n (fun H => SqT K H a xs ∧ SqT K H b ys) (YPair (fun i => xs[i]?) (fun i => ys[i]?)) := by
  subst hn
  refine ⟨fun i _ hi q => ?_, fun _ q => ⟨xs, ys, q.1, q.2, by omega⟩, fun i H v H' _ q y => ?_⟩
  · have h1 : i < xs.length := by omega
    have h2 : i < ys.length := by omega
    exact ⟨xs, ys, xs[i], ys[i], q.1, q.2, by simp [h1], by simp [h2]⟩
  · obtain ⟨T, x, z, h1, h2, h3, h4, h5⟩ := y
    exact ⟨T, x, z, h1, h2, h3, h4 xs q.1, h5 ys q.2⟩
theorem walkD_zipT {F : Fm} {a b : Addr} {xs ys : List V} {ds es : List D} (h : SqT F.K (hd M H) a xs) (r : RepL F.K (hd M H) xs ds) (h' : SqT F.K (hd M H) b ys) (r' : RepL F.K (hd M H) ys es) : WalkD F (ItzT F.K a b) M H (pairs ds es) := by
  refine ⟨_, _, walk_zipT (xs := xs) (ys := ys) ?_, fun M2 H2 e _ => ⟨same_tup (e.trans (same_hd M2 H2)) h, same_tup (e.trans (same_hd M2 H2)) h'⟩, fun M2 H2 i x H3 al e y => ?_⟩
  · unfold pairs
    rw [List.length_map, List.length_zip, r.length, r'.length]
  · obtain ⟨T, v, w, rfl, hT, rfl, h1, h2⟩ := y
    obtain ⟨d, e1, r1⟩ := r.getV h1
    obtain ⟨f, e2, r2⟩ := r'.getV h2
    refine ⟨same_new hT, .tup [d, f], ?_, pair_ok al hT (r1.mono e) (r2.mono e)⟩
    unfold pairs
    rw [List.getElem?_map, List.getElem?_zip_eq_some (z := (d, f)) |>.mpr ⟨e1, e2⟩]
    rfl
/-- of two lists, of two tuples -/
theorem it_zipA {ta : TA} (h : EvA F ta δ fun l => ∃ xs ys, (l = [.lst xs, .lst ys] ∨ l = [.tup xs, .tup ys]) ∧ PX (pairs xs ys)) : ItD F (iZipA F.K ta) δ PX := fun M σ H R c q =>
  h M σ H _ c fun vs ds H1 p c1 e r => by
    obtain ⟨xs, ys, hl, p⟩ := p
    rcases hl with rfl | rfl
    · cases r with
      | cons r1 r2 =>
        cases r2 with
        | cons r2 r3 =>
          cases r3
          cases r1 with
          | lst h1 h2 =>
            cases r2 with
            | lst h3 h4 => exact ⟨_, _, _, _, rfl, .inl ⟨SqL.of (hd_of h1).2, SqL.of (hd_of h3).2, q _ _ H1 p c1 e (walkD_zip h1 h2 h3 h4)⟩⟩
    · cases r with
      | cons r1 r2 =>
        cases r2 with
        | cons r2 r3 =>
          cases r3
          cases r1 with
          | tup h1 h2 =>
            cases r2 with
            | tup h3 h4 => exact ⟨_, _, _, _, rfl, .inr ⟨same_tup (same_hd M H1) h1, same_tup (same_hd M H1) h3, q _ _ H1 p c1 e (walkD_zipT h1 h2 h3 h4)⟩⟩
/-- enumerate -/
def numbered (xs : List D) : List D := (List.range xs.length).map fun i => .tup [.int (i : Nat), xs.getD i .non]
theorem it_enum {ta : TA} (h : EvA F ta δ fun l => ∃ xs, l = [.lst xs] ∧ PX (numbered xs)) : ItD F (iEnum F.K ta) δ PX := fun M σ H R c q =>
  h M σ H _ c fun vs ds H1 p c1 e r => by
    obtain ⟨xs, rfl, p⟩ := p
    cases r with
    | cons r1 r2 =>
      cases r2
      cases r1 with
      | @lst a vs _ h1 h2 =>
        refine ⟨_, _, rfl, SqL.of (hd_of h1).2, q _ _ H1 p c1 e ⟨fun H => SqL F.K H a vs, YPair (fun i => some (.int (i : Nat))) (fun i => vs[i]?), ?_, fun M2 H2 e _ => (SqL.of (hd_of (e _ _ h1)).2 : SqL F.K H2 a vs), fun M2 H2 i x H3 al e y => ?_⟩⟩
        · have := walk_enum (K := F.K) (a := a) (xs := vs)
          have l : (numbered xs).length = vs.length := by unfold numbered; rw [List.length_map, List.length_range, h2.length]
          rw [l]
          exact this
        · obtain ⟨T, v, w, rfl, hT, rfl, e1, e2⟩ := y
          cases e1
          obtain ⟨f, e3, r2⟩ := h2.getV e2
          refine ⟨same_new hT, .tup [.int (i : Nat), f], ?_, pair_ok al hT (.int _) (r2.mono e)⟩
          have hi := (List.getElem?_eq_some_iff.mp e3).1
          unfold numbered
          rw [List.getElem?_map, List.getElem?_range hi]
          show some (D.tup [.int (i : Nat), xs.getD i .non]) = _
          rw [show xs.getD i .non = f by simp [List.getD, e3]]
/-! for -/
theorem do_for {js : List Nat} (hw : ItD F wi δ PX) (I : List D → Nat → List SD → Prop) (h0 : ∀ xs, PX xs → I xs 0 δ)
    (hs : ∀ xs i x δ', PX xs → xs[i]? = some x → I xs i δ' → TgD F g js x δ' fun δ2 => Do F t δ2 { nx := I xs (i + 1), ct := I xs (i + 1), bk := R.nx, rt := R.rt })
    (he : ∀ xs δ', PX xs → I xs xs.length δ' → R.nx δ') : Do F (tFor wi g t) δ R := fun M σ H E c a b k d => by
  refine hw M σ H _ c fun J xs H1 px c1 e1 wd => ?_
  obtain ⟨G, Y, w, wg, wy⟩ := wd
  have s1 := hd_step c e1
  refine for_it w (fun i σ' H' => ∃ M' δ', I xs i δ' ∧ Ctx F M' σ' H' δ' ∧ Same (hd M H1) (hd M' H')) ⟨M, δ, h0 xs px, c1, Same.refl _⟩ (fun i σ' H' _ ⟨M', δ', _, c', s⟩ => wg M' H' s c'.fr) ?_ ?_
  · rintro i x σ' H' H2 hi ⟨M', δ', hI, c', s⟩ y
    obtain ⟨s2, dx, h1, r⟩ := wy M' H' i x H2 c'.al s y
    have c2 := c'.same s2
    refine hs xs i dx δ' px h1 hI M' σ' H2 x _ c2 r fun σ3 H3 δ3 p3 c3 e3 _ => ?_
    have s3 : Same (hd M H1) (hd M' H3) := s.trans ((same_hdM s2).trans (hd_step c2 e3))
    refine p3 M' σ3 H3 _ c3 (fun M4 σ4 H4 δ4 p4 c4 s4 => ⟨M4, δ4, p4, c4, s3.trans s4⟩) (fun v y M4 σ4 H4 δ4 p4 c4 s4 r4 => b v y M4 σ4 H4 δ4 p4 c4 ((s1.trans s3).trans s4) r4)
      (fun M4 σ4 H4 δ4 p4 c4 s4 => a M4 σ4 H4 δ4 p4 c4 ((s1.trans s3).trans s4)) (fun M4 σ4 H4 δ4 p4 c4 s4 => ⟨M4, δ4, p4, c4, s3.trans s4⟩)
  · rintro σ' H' ⟨M', δ', hI, c', s⟩
    exact a M' σ' H' δ' (he xs δ' px hI) c' (s1.trans s)
end

/-! ### a list of one's own -/
def hid (M : Addr → Bool) (p : Addr) : Addr → Bool := fun a => if a = p then true else M a
theorem hid_same {M : Addr → Bool} {p : Addr} : hid M p p = true := if_pos rfl
theorem hid_ne {M : Addr → Bool} {p a : Addr} (h : a ≠ p) : hid M p a = M a := if_neg h
theorem hid_le {M : Addr → Bool} {p : Addr} : ∀ a, M a = true → hid M p a = true := fun a h => by
  unfold hid
  split
  · rfl
  · exact h
def shw (M : Addr → Bool) (p : Addr) : Addr → Bool := fun a => if a = p then false else M a
theorem shw_same {M : Addr → Bool} {p : Addr} : shw M p p = false := if_pos rfl
theorem shw_ne {M : Addr → Bool} {p a : Addr} (h : a ≠ p) : shw M p a = M a := if_neg h
theorem shw_le {M : Addr → Bool} {p : Addr} : ∀ a, shw M p a = true → M a = true := fun a h => by
  by_cases e : a = p
  · subst e
    rw [shw_same] at h
    cases h
  · rw [shw_ne e] at h
    exact h
theorem hd_upd {M : Addr → Bool} {H : Hp} {p : Addr} {o : HO} (h : M p = true) : hd M (upd H p o) = hd M H := by
  funext a
  unfold hd
  by_cases e : a = p
  · subst e
    rw [h, if_pos rfl, if_pos rfl]
  · rw [upd_ne e]
section
variable {F : Fm} {M : Addr → Bool} {σ : L2.St} {H H' : Hp} {δ : List SD}
theorem set_key {i j : Nat} {x y : SD} (hx : (δ.set i y)[j]? = some x) : (i = j ∧ x = y ∧ i < δ.length) ∨ (i ≠ j ∧ δ[j]? = some x) := by
  by_cases hj : i = j
  · subst hj
    rw [List.getElem?_set] at hx
    rw [if_pos rfl] at hx
    split at hx
    · exact .inl ⟨rfl, (Option.some.inj hx).symm, by assumption⟩
    · cases hx
  · rw [List.getElem?_set_ne hj] at hx
    exact .inr ⟨hj, hx⟩
/-- p, which no own slot is, is shown no more | shown again -/
theorem Ctx.hide (c : Ctx F M σ H δ) {p : Addr} (hp : H p = none) {o : HO} : Ctx F (hid M p) σ (upd H p o) δ := by
  have s : Same (hd M H) (hd (hid M p) (upd H p o)) := fun a u e => by
    obtain ⟨m, h⟩ := hd_of e
    have n : a ≠ p := ne_of_none h hp
    exact hd_at (by rw [hid_ne n]; exact m) (by rw [upd_ne n]; exact h)
  refine ⟨fun a m => ?_, c.al0, fun a m => hid_le a (c.m0 a m), fun a u n h => (same_new hp) a u (c.fr a u n h), ⟨fun b z => (c.bg.1 b z).imp id fun ⟨h1, h2⟩ => ⟨h1.mono (same_new hp), h2⟩, fun a h => (c.bg.2 a h).imp id fun ⟨ps, e⟩ => ⟨ps, same_new hp _ _ e⟩⟩, c.ln, fun i x hx => ?_, c.dj, c.oh⟩
  · by_cases e : a = p
    · subst e
      exact ⟨o, upd_same⟩
    · rw [hid_ne e] at m
      obtain ⟨u, h⟩ := c.al a m
      exact ⟨u, by rw [upd_ne e]; exact h⟩
  · obtain ⟨y, h1, h2⟩ := c.sl i x hx
    refine ⟨y, h1, ?_⟩
    cases x with
    | un => trivial
    | dat d =>
      obtain ⟨v, e, r⟩ := h2
      exact ⟨v, e, r.mono s⟩
    | own q ds =>
      obtain ⟨e, m, vs, h3, r⟩ := h2
      exact ⟨e, hid_le q m, vs, same_new hp _ _ h3, r.mono s⟩
    | bag => exact h2
    | sq ds =>
      obtain ⟨q, vs, g1, g2, g3, g4⟩ := h2
      exact ⟨q, vs, g1, g2, g3, g4.mono s⟩
    | sl ds =>
      obtain ⟨q, vs, g1, g2, g3, g4⟩ := h2
      exact ⟨q, vs, g1, g2, g3, g4.mono s⟩
theorem Ctx.show' (c : Ctx F (hid M p) σ H δ) (hp : M p = false) (h0 : F.H0 p = none) (no : ∀ (j : Nat) (es : OD), δ[j]? ≠ some (.own p es)) : Ctx F M σ H δ := by
  have n0 : ∀ a, F.M0 a = true → a ≠ p := fun a m e => by
    subst e
    obtain ⟨o, h⟩ := c.al0 _ m
    rw [h0] at h
    cases h
  refine ⟨fun a m => c.al a (hid_le a m), c.al0, fun a m => by rw [← hid_ne (M := M) (n0 a m)]; exact c.m0 a m, c.fr, c.bg, c.ln, fun i x hx => ?_, c.dj, c.oh⟩
  obtain ⟨y, h1, h2⟩ := c.sl i x hx
  refine ⟨y, h1, ?_⟩
  cases x with
  | un => trivial
  | dat d =>
    obtain ⟨v, e, r⟩ := h2
    exact ⟨v, e, r.mono (same_hd_le hid_le)⟩
  | own q ds =>
    obtain ⟨e, m, vs, h3, r⟩ := h2
    have n : q ≠ p := fun z => by
      subst z
      exact no i ds hx
    rw [hid_ne n] at m
    exact ⟨e, m, vs, h3, r.mono (same_hd_le hid_le)⟩
  | bag => exact h2
  | sq ds =>
    obtain ⟨q, vs, g1, g2, g3, g4⟩ := h2
    exact ⟨q, vs, g1, g2, g3, g4.mono (same_hd_le hid_le)⟩
  | sl ds =>
    obtain ⟨q, vs, g1, g2, g3, g4⟩ := h2
    exact ⟨q, vs, g1, g2, g3, g4.mono (same_hd_le hid_le)⟩
/-- a slot takes a list of its own -/
theorem Ctx.setOwn (c : Ctx F M σ H δ) (i : Nat) {p : Addr} {vs : HO} {ds : OD} (m : M p = true) (h : H p = some vs) (r : RepO F.K (hd M H) vs ds) (h0 : F.H0 p = none) (hb : ¬ F.mv p)
    (no : ∀ (j : Nat) (es : OD), i ≠ j → δ[j]? ≠ some (.own p es)) : Ctx F M (σ.set i (some (.ref p))) H (δ.set i (.own p ds)) := by
  refine ⟨c.al, c.al0, c.m0, c.fr, c.bg, by rw [List.length_set, List.length_set, c.ln], fun j x hx => ?_, fun j k q es fs h1 h2 => ?_, fun j q es h => ?_⟩
  · rcases set_key hx with ⟨rfl, rfl, hl⟩ | ⟨hj, hx⟩
    · exact ⟨_, by rw [List.getElem?_set_self (by rw [c.ln]; exact hl)], rfl, m, vs, h, r⟩
    · rw [List.getElem?_set_ne hj]
      exact c.sl j x hx
  · rcases set_key h1 with ⟨rfl, z, _⟩ | ⟨hj, h1⟩
    · cases z
      rcases set_key h2 with ⟨rfl, _, _⟩ | ⟨hk, h2⟩
      · rfl
      · exact absurd h2 (no k _ hk)
    · rcases set_key h2 with ⟨rfl, z, _⟩ | ⟨hk, h2⟩
      · cases z
        exact absurd h1 (no j _ hj)
      · exact c.dj j k q es fs h1 h2
  · rcases set_key h with ⟨rfl, z, _⟩ | ⟨hj, h⟩
    · cases z
      exact ⟨h0, hb⟩
    · exact c.oh j q es h
/-- a hidden list that no slot owns is changed -/
theorem Ctx.poke (c : Ctx F M σ H δ) {p : Addr} {xs ys : HO} (m : M p = true) (hp : H p = some xs) (h0 : F.H0 p = none) (hb : ¬ F.mv p) (no : ∀ (j : Nat) (es : OD), δ[j]? ≠ some (.own p es)) : Ctx F M σ (upd H p ys) δ := by
  have hm : hd M (upd H p ys) = hd M H := hd_upd m
  have bg : ∀ b, F.B = some b → F.M0 b = true ∧ BagAt (upd H p ys) b F.C0 ∧ ∃ o, F.H0 F.C0 = some o := fun b z => by
    obtain ⟨g0, g1, g2⟩ := c.bg.1 b z
    obtain ⟨ns, k, z1, z2, z3, q1, q2, q3, q4⟩ := g1
    have n1 : b ≠ p := fun e => hb (.inl (e ▸ z))
    have n2 : F.C0 ≠ p := fun e => by
      rw [← e] at h0
      obtain ⟨o, g3⟩ := g2
      rw [h0] at g3
      cases g3
    exact ⟨g0, ⟨ns, k, z1, z2, z3, by rw [upd_ne n1]; exact q1, q2, by rw [upd_ne n2]; exact q3, q4⟩, g2⟩
  refine ⟨fun a q => ?_, c.al0, c.m0, fun a o n h => ?_, ⟨bg, fun a h => (c.bg.2 a h).imp id fun ⟨ps, e⟩ => ⟨ps, by rw [upd_ne (fun z : a = p => hb (.inr (z ▸ h)))]; exact e⟩⟩, c.ln, fun j x hx => ?_, c.dj, c.oh⟩
  · by_cases e : a = p
    · subst e
      exact ⟨_, upd_same⟩
    · rw [upd_ne e]
      exact c.al a q
  · have n2 : a ≠ p := fun e => by
      subst e
      rw [h0] at h
      cases h
    rw [upd_ne n2]
    exact c.fr a o n h
  · obtain ⟨y, g1, g2⟩ := c.sl j x hx
    refine ⟨y, g1, ?_⟩
    cases x with
    | un => trivial
    | dat d =>
      obtain ⟨v, e, r⟩ := g2
      exact ⟨v, e, by rw [hm]; exact r⟩
    | own q fs =>
      obtain ⟨e, mq, us, g3, r⟩ := g2
      have n : q ≠ p := fun z => by
        subst z
        exact no j _ hx
      exact ⟨e, mq, us, by rw [upd_ne n]; exact g3, by rw [hm]; exact r⟩
    | bag => exact g2
    | sq ds =>
      obtain ⟨q, vs, k1, k2, k3, k4⟩ := g2
      exact ⟨q, vs, k1, k2, k3, by rw [hm]; exact k4⟩
    | sl ds =>
      obtain ⟨q, vs, k1, k2, k3, k4⟩ := g2
      exact ⟨q, vs, k1, k2, k3, by rw [hm]; exact k4⟩
/-- the own list is changed -/
theorem Ctx.put (c : Ctx F M σ H δ) {i : Nat} {p : Addr} {ds es : OD} {vs : HO} (hi : δ[i]? = some (.own p ds)) (r : RepO F.K (hd M H) vs es) : Ctx F M σ (upd H p vs) (δ.set i (.own p es)) := by
  obtain ⟨y, h1, hy, m, ws, h3, r0⟩ := c.sl i _ hi
  subst hy
  obtain ⟨h0, hb⟩ := c.oh i p ds hi
  have hm : hd M (upd H p vs) = hd M H := hd_upd m
  have bg : ∀ b, F.B = some b → F.M0 b = true ∧ BagAt (upd H p vs) b F.C0 ∧ ∃ o, F.H0 F.C0 = some o := fun b z => by
    obtain ⟨g0, g1, g2⟩ := c.bg.1 b z
    obtain ⟨ns, k, z1, z2, z3, q1, q2, q3, q4⟩ := g1
    have n1 : b ≠ p := fun e => hb (.inl (e ▸ z))
    have n2 : F.C0 ≠ p := fun e => by
      rw [← e] at h0
      obtain ⟨o, g3⟩ := g2
      rw [h0] at g3
      cases g3
    exact ⟨g0, ⟨ns, k, z1, z2, z3, by rw [upd_ne n1]; exact q1, q2, by rw [upd_ne n2]; exact q3, q4⟩, g2⟩
  refine ⟨fun a q => ?_, c.al0, c.m0, fun a o n h => ?_, ⟨bg, fun a h => (c.bg.2 a h).imp id fun ⟨ps, e⟩ => ⟨ps, by rw [upd_ne (fun z : a = p => hb (.inr (z ▸ h)))]; exact e⟩⟩, by rw [List.length_set, c.ln], fun j x hx => ?_, fun j k q e1 e2 h1 h2 => ?_, fun j q e1 h => ?_⟩
  · by_cases e : a = p
    · subst e
      exact ⟨_, upd_same⟩
    · rw [upd_ne e]
      exact c.al a q
  · have n2 : a ≠ p := fun e => by
      subst e
      rw [h0] at h
      cases h
    rw [upd_ne n2]
    exact c.fr a o n h
  · rcases set_key hx with ⟨rfl, rfl, hl⟩ | ⟨hj, hx2⟩
    · exact ⟨_, h1, rfl, m, vs, upd_same, by rw [hm]; exact r⟩
    · obtain ⟨y, g1, g2⟩ := c.sl j x hx2
      refine ⟨y, g1, ?_⟩
      cases x with
      | un => trivial
      | dat d =>
        obtain ⟨v, e, r⟩ := g2
        exact ⟨v, e, by rw [hm]; exact r⟩
      | own q fs =>
        obtain ⟨e, mq, us, g3, r⟩ := g2
        have n : q ≠ p := fun z => by
          subst z
          exact hj (c.dj i j _ _ _ hi hx2)
        exact ⟨e, mq, us, by rw [upd_ne n]; exact g3, by rw [hm]; exact r⟩
      | bag => exact g2
      | sq ds =>
        obtain ⟨q, vs, k1, k2, k3, k4⟩ := g2
        exact ⟨q, vs, k1, k2, k3, by rw [hm]; exact k4⟩
      | sl ds =>
        obtain ⟨q, vs, k1, k2, k3, k4⟩ := g2
        exact ⟨q, vs, k1, k2, k3, by rw [hm]; exact k4⟩
  · rcases set_key h1 with ⟨rfl, z, _⟩ | ⟨hj, h1⟩
    · cases z
      rcases set_key h2 with ⟨rfl, _, _⟩ | ⟨hk, h2⟩
      · rfl
      · exact c.dj _ _ _ _ _ hi h2
    · rcases set_key h2 with ⟨rfl, z, _⟩ | ⟨hk, h2⟩
      · cases z
        exact c.dj _ _ _ _ _ h1 hi
      · exact c.dj j k q e1 e2 h1 h2
  · rcases set_key h with ⟨rfl, z, _⟩ | ⟨hj, h⟩
    · cases z
      exact ⟨h0, hb⟩
    · exact c.oh j q e1 h
/-- the own list is looked at as data from here on -/
theorem Ctx.freeze (c : Ctx F M σ H δ) {i : Nat} {p : Addr} {ds : OD} (hi : δ[i]? = some (.own p ds)) : Ctx F (shw M p) σ H (δ.set i (.dat ds.d)) := by
  obtain ⟨y, h1, hy, m, ws, h3, r0⟩ := c.sl i _ hi
  subst hy
  obtain ⟨h0, hb⟩ := c.oh i p ds hi
  have s : Same (hd M H) (hd (shw M p) H) := same_hd_le shw_le
  have n0 : ∀ a, F.M0 a = true → a ≠ p := fun a mm e => by
    subst e
    obtain ⟨o, h⟩ := c.al0 _ mm
    rw [h0] at h
    cases h
  refine ⟨fun a q => c.al a (shw_le a q), c.al0, fun a q => by rw [shw_ne (n0 a q)]; exact c.m0 a q, c.fr, c.bg, by rw [List.length_set, c.ln], fun j x hx => ?_, fun j k q e1 e2 h1 h2 => ?_, fun j q e1 h => ?_⟩
  · rcases set_key hx with ⟨rfl, rfl, hl⟩ | ⟨hj, hx2⟩
    · exact ⟨_, h1, _, rfl, (r0.mono s).rep (hd_at shw_same h3)⟩
    · obtain ⟨y, g1, g2⟩ := c.sl j x hx2
      refine ⟨y, g1, ?_⟩
      cases x with
      | un => trivial
      | dat d =>
        obtain ⟨v, e, r⟩ := g2
        exact ⟨v, e, r.mono s⟩
      | own q fs =>
        obtain ⟨e, mq, us, g3, r⟩ := g2
        have n : q ≠ p := fun z => by
          subst z
          exact hj (c.dj i j _ _ _ hi hx2)
        exact ⟨e, by rw [shw_ne n]; exact mq, us, g3, r.mono s⟩
      | bag => exact g2
      | sq ds =>
        obtain ⟨q, vs, k1, k2, k3, k4⟩ := g2
        exact ⟨q, vs, k1, k2, k3, k4.mono s⟩
      | sl ds =>
        obtain ⟨q, vs, k1, k2, k3, k4⟩ := g2
        exact ⟨q, vs, k1, k2, k3, k4.mono s⟩
  · rcases set_key h1 with ⟨rfl, z, _⟩ | ⟨hj, h1⟩
    · cases z
    rcases set_key h2 with ⟨rfl, z, _⟩ | ⟨hk, h2⟩
    · cases z
    exact c.dj j k q e1 e2 h1 h2
  · rcases set_key h with ⟨rfl, z, _⟩ | ⟨hj, h⟩
    · cases z
    exact c.oh j q e1 h
end
/-- an expression that makes a new list -/
def EvN (F : Fm) (te : TE) (δ : List SD) (P : List D → Prop) : Prop := ∀ M σ H (Q : VK), Ctx F M σ H δ →
  (∀ p vs ds H', P ds → Ctx F (hid M p) σ H' δ → H p = none → F.H0 p = none → ¬ F.mv p → (∀ (j : Nat) (es : OD), δ[j]? ≠ some (.own p es)) → StepB F.mv H H' → H' p = some (.lst vs) → RepL F.K (hd (hid M p) H') vs ds → Q (.ref p) H') → te σ H Q
section
variable {F : Fm} {δ : List SD} {ta tb tc te : TE} {t u ts : TS} {tt tu : TT} {P : List D → Prop} {PX : List D → Prop} {R : PD} {M : Addr → Bool} {σ : L2.St} {H H' : Hp} {g : TG} {gs : TGs} {wi : TI}
theorem Ctx.nob (c : Ctx F M σ H δ) {p : Addr} (hp : H p = none) : ¬ F.mv p := fun z => by
  rcases z with z | z
  case inr =>
    obtain ⟨_, ps, h⟩ := c.bg.2 p z
    rw [hp] at h
    cases h
  obtain ⟨_, h, _⟩ := c.bg.1 p z
  obtain ⟨o, h⟩ := h.at
  rw [hp] at h
  cases h
theorem Ctx.h0 (c : Ctx F M σ H δ) {p : Addr} (hp : H p = none) : F.H0 p = none := by
  cases q : F.H0 p with
  | none => rfl
  | some o =>
    have := c.fr p o (c.nob hp) q
    rw [hp] at this
    cases this
theorem Ctx.nown (c : Ctx F M σ H δ) {p : Addr} (hp : H p = none) : ∀ (j : Nat) (es : OD), δ[j]? ≠ some (.own p es) := fun j es h => by
  obtain ⟨s, _, _, _, vs, h3, _⟩ := c.sl j _ h
  rw [hp] at h3
  cases h3
theorem al_none {p : Addr} (al : Al M H) (hp : H p = none) : M p = false := by
  cases e : M p with
  | true =>
    obtain ⟨u, h⟩ := al p e
    rw [hp] at h
    cases h
  | false => rfl
theorem EvN.ev {P : D → Prop} (h : EvN F te δ fun ds => P (.lst ds)) : Ev F te δ P := fun M σ H Q c q =>
  h M σ H Q c fun p vs ds H' pd c' hp h0 hb no e hl r => by
    have m := al_none c.al hp
    have s : Same (hd (hid M p) H') (hd M H') := same_hd_le hid_le
    exact q _ (.lst ds) H' pd (c'.show' m h0 no) e (.lst (hd_at m hl) (r.mono s))
theorem en_lst {ta : TA} (h : EvA F ta δ fun ds => ds.length ≤ 100000 ∧ P ds) : EvN F (tLst ta) δ P := fun M σ H Q c q =>
  h M σ H _ c fun vs ds H1 p1 c1 e1 r1 => ⟨by rw [r1.length]; exact sz_of p1.1, fun p hp => by
    have hp0 : H p = none := by
      cases z : H p with
      | none => rfl
      | some o =>
        have := e1 p o (c1.nob hp) z
        rw [hp] at this
        cases this
    have c2 := c1.hide hp (o := .lst vs)
    refine q p vs ds _ p1.2 c2 hp0 (c1.h0 hp) (c1.nob hp) (c1.nown hp) (e1.trans (StepB.of (same_new hp))) upd_same (r1.mono fun a u e => ?_)
    obtain ⟨m, h⟩ := hd_of e
    have n : a ≠ p := ne_of_none h hp
    exact hd_at (by rw [hid_ne n]; exact m) (by rw [upd_ne n]; exact h)⟩
/-- a slot takes a new list as its own -/
theorem do_own {i : Nat} (h : EvN F te δ fun ds => ∀ p, R.nx (δ.set i (.own p (.lst ds)))) : Do F (tAsg te (gName i)) δ R := fun M σ H E c a b k d =>
  h M σ H _ c fun p vs ds H' pd c' hp h0 hb no e hl r => a (hid M p) _ H' _ (pd p) (c'.setOwn i hid_same hl (.lst r) h0 hb fun j es _ => no j es) fun x o hx => by
    obtain ⟨m, h1⟩ := hd_of hx
    have n : x ≠ p := ne_of_none h1 hp
    refine hd_at (by rw [hid_ne n]; exact m) (e x o (fun z => ?_) h1)
    have := c.m0 x (z.elim (fun z => (c.bg.1 x z).1) fun z => (c.bg.2 x z).1)
    rw [m] at this
    cases this
theorem do_freeze {i : Nat} {p : Addr} {ds : OD} (hi : δ[i]? = some (.own p ds)) (h : Do F t (δ.set i (.dat ds.d)) R) : Do F t δ R := fun M σ H E c a b k d => by
  have s : Same (hd M H) (hd (shw M p) H) := same_hd_le shw_le
  exact h (shw M p) σ H E (c.freeze hi) (fun M2 σ2 H2 δ2 p2 c2 s2 => a M2 σ2 H2 δ2 p2 c2 (s.trans s2)) (fun v x M2 σ2 H2 δ2 p2 c2 s2 => b v x M2 σ2 H2 δ2 p2 c2 (s.trans s2))
    (fun M2 σ2 H2 δ2 p2 c2 s2 => k M2 σ2 H2 δ2 p2 c2 (s.trans s2)) (fun M2 σ2 H2 δ2 p2 c2 s2 => d M2 σ2 H2 δ2 p2 c2 (s.trans s2))
theorem do_append {i : Nat} {p : Addr} {ds : List D} (hi : δ[i]? = some (.own p (.lst ds))) (hl : ds.length < 100000) (h : Ev F te δ fun x => R.nx (δ.set i (.own p (.lst (ds ++ [x]))))) :
    Do F (tDrop (tBM F.K "list" rAppend (tVar i) (tCons te tNil))) δ R := fun M σ H E c a b k d => by
  obtain ⟨y, h1, hy, m, ho, h3, r0⟩ := c.sl i _ hi
  subst hy
  cases r0 with
  | @lst ws _ r0 =>
  refine ⟨_, h1, .inl ⟨rfl, ws, SqL.of h3⟩, ?_⟩
  refine h M σ H _ c fun v x H1 px c1 e r => ?_
  have h4 := e p _ (c.oh i p _ hi).2 h3
  have s := hd_step c e
  refine ⟨p, ws, v, rfl, rfl, h4, by rw [r0.length]; exact sz_lt hl, ?_⟩
  refine a M σ _ _ px (c1.put hi (.lst ((r0.mono s).append (RepL.one r)))) ?_
  rw [hd_upd m]
  exact s
theorem do_clear {i : Nat} {p : Addr} {ds : List D} (hi : δ[i]? = some (.own p (.lst ds))) (h : R.nx (δ.set i (.own p (.lst [])))) : Do F (tDrop (tBM0 F.K "list" rClear (tVar i))) δ R := fun M σ H E c a b k d => by
  obtain ⟨y, h1, hy, m, ho, h3, r0⟩ := c.sl i _ hi
  subst hy
  cases r0 with
  | @lst ws _ r0 =>
  refine ⟨_, h1, .inl ⟨rfl, ws, SqL.of h3⟩, p, ws, rfl, rfl, h3, ?_⟩
  refine a M σ _ _ h (c.put hi (.lst .nil)) ?_
  rw [hd_upd m]
  exact Same.refl _
/-! comprehensions -/
theorem en_lc {js vs : List Nat} (hw : ItD F wi δ PX) (hl : ∀ xs, PX xs → xs.length ≤ 100000) (hj : ∀ j ∈ js, j ∈ vs) (I : List D → Nat → List D → Prop) (h0 : ∀ xs, PX xs → I xs 0 [])
    (hs : ∀ xs i x acc, PX xs → xs[i]? = some x → I xs i acc → TgD F g js x (wipeD δ vs) fun δ' => EvT F tt δ' fun b => (b = true → Ev F te δ' fun y => I xs (i + 1) (acc ++ [y])) ∧ (b = false → I xs (i + 1) acc))
    (he : ∀ xs ds, PX xs → I xs xs.length ds → P ds) : EvN F (tLc wi g tt te vs) δ P := fun M σ H Q c q => by
  refine hw M σ H _ c fun J xs H1 px c1 e1 wd => ?_
  intro A hA
  obtain ⟨G, Y, w, wg, wy⟩ := wd
  have hA0 : H A = none := by
    cases z : H A with
    | none => rfl
    | some o =>
      have := e1 A o (c1.nob hA) z
      rw [hA] at this
      cases this
  have c2 := c1.hide hA (o := .lst [])
  have mA := al_none c1.al hA
  have s0 : Same (hd M H1) (hd (hid M A) (upd H1 A (.lst []))) := fun a u e => by
    obtain ⟨m, h⟩ := hd_of e
    have n : a ≠ A := ne_of_none h hA
    exact hd_at (by rw [hid_ne n]; exact m) (by rw [upd_ne n]; exact h)
  have k0 : StepB F.mv H (upd H1 A (.lst [])) := e1.trans (StepB.of (same_new hA))
  have hlen := hl xs px
  -- the wiped slots are wiped once and for all
  have ww : ∀ σ2 : L2.St, wipe σ2 vs = wipe (wipe σ vs) vs → wipe σ2 vs = wipe σ vs := fun σ2 h => by
    rw [h]
    have key : ∀ (ws : List Nat) (τ : L2.St), (∀ j ∈ ws, j ∈ vs) → wipe (wipe τ ws) vs = wipe τ vs := by
      intro ws
      induction ws with
      | nil => intro τ _; rfl
      | cons j js ih =>
        intro τ hjs
        show wipe ((wipe τ js).set j none) vs = wipe τ vs
        rw [wipe_set (hjs j (by simp)), ih τ fun k hk => hjs k (List.mem_cons_of_mem _ hk)]
    exact key vs σ fun _ h => h
  refine lc_it w (fun i H' => ∃ ws acc, I xs i acc ∧ acc.length ≤ i ∧ Ctx F (hid M A) σ H' δ ∧ StepB F.mv H H' ∧ Same (hd M H1) (hd (hid M A) H') ∧ H' A = some (.lst ws) ∧ RepL F.K (hd (hid M A) H') ws acc)
    ⟨[], [], h0 xs px, Nat.le_refl _, c2, k0, s0, upd_same, .nil⟩ (fun i H' _ ⟨_, _, _, _, c', _, s, _⟩ => wg (hid M A) H' s c'.fr) ?_ ?_
  · rintro i x H' H2 hi ⟨ws, acc, hI, ha, c', k', s, hAl, r⟩ y
    obtain ⟨s2, dx, h1, rx⟩ := wy (hid M A) H' i x H2 c'.al s y
    have c2 := c'.same s2
    refine hs xs i dx acc px h1 hI (hid M A) (wipe σ vs) H2 x _ (c2.wipe vs) rx fun σ3 H3 δ3 p3 c3 e3 w3 => ⟨ww σ3 (w3 vs hj), ?_⟩
    refine p3 (hid M A) σ3 H3 _ c3 fun b H4 pb c4 e4 => ?_
    have k4 : StepB F.mv H2 H4 := e3.trans e4
    have c24 : Ctx F (hid M A) σ H4 δ := c2.stepG k4 c4.bg
    have s24 : Same (hd (hid M A) H2) (hd (hid M A) H4) := hd_step c2 k4
    have hA2 : H2 A = some (.lst ws) := s2 _ _ hAl
    have hA4 : H4 A = some (.lst ws) := k4 A _ (c1.nob hA) hA2
    have k' : StepB F.mv H H2 := k'.trans (StepB.of s2)
    have s' : Same (hd M H1) (hd (hid M A) H2) := s.trans (same_hdM s2)
    have r' : RepL F.K (hd (hid M A) H2) ws acc := r.mono (same_hdM s2)
    cases b with
    | false =>
      rw [if_neg Bool.false_ne_true]
      exact ⟨ws, acc, pb.2 rfl, Nat.le_succ_of_le ha, c24, k'.trans k4, s'.trans s24, hA4, r'.mono s24⟩
    | true =>
      rw [if_pos rfl]
      refine pb.1 rfl (hid M A) σ3 H4 _ c4 fun v d H5 pd c5 e5 r5 => ?_
      have k5 : StepB F.mv H2 H5 := k4.trans e5
      have c25 : Ctx F (hid M A) σ H5 δ := c2.stepG k5 c5.bg
      have s25 : Same (hd (hid M A) H2) (hd (hid M A) H5) := hd_step c2 k5
      have hA5 : H5 A = some (.lst ws) := k5 A _ (c1.nob hA) hA2
      have hm : hd (hid M A) (upd H5 A (.lst (ws ++ [v]))) = hd (hid M A) H5 := hd_upd hid_same
      have hal : acc.length < 100000 := by omega
      refine ⟨ws, hA5, by rw [r.length]; exact sz_lt hal, ws ++ [v], acc ++ [d], pd, by simp only [List.length_append, List.length_cons, List.length_nil]; omega, ?_, ?_, ?_, upd_same, ?_⟩
      · refine c25.poke hid_same hA5 (c1.h0 hA) (c1.nob hA) (c1.nown hA)
      · intro a o n h
        by_cases e : a = A
        · subst e
          rw [hA0] at h
          cases h
        · rw [upd_ne e]
          exact k5 a o n (k' a o n h)
      · rw [hm]
        exact s'.trans s25
      · rw [hm]
        exact (r'.mono s25).append (RepL.one r5)
  · rintro H' ⟨ws, acc, hI, ha, c', k', s, hAl, r⟩
    exact q A ws acc H' (he xs acc px hI) c' hA0 (c1.h0 hA) (c1.nob hA) (c1.nown hA) k' hAl r
end
end Pf

namespace Pf
open PySem L2 RZ

/-! ### calls of defs -/
/-- a promise that speaks of data alone; one of a def whose first argument is the bag -/
def spD (K : PySem.W.Frag) (Pre : List D → Prop) (Post : List D → D → Prop) : Sp := fun vs H Q _ => ∃ (M : Addr → Bool) (ds : List D), Al M H ∧ RepL K (hd M H) vs ds ∧ Pre ds ∧
  ∀ v d H', Post ds d → Same H H' → Rep K (hd M H') v d → Q v H'
def spB (K : PySem.W.Frag) (Pre : List D → Prop) (Post : List D → D → Prop) : Sp := fun vs H Q _ => ∃ (M : Addr → Bool) (b c : Addr) (ws : List V) (ds : List D), vs = .ref b :: ws ∧ Al M H ∧ M b = true ∧ BagAt H b c ∧ RepL K (hd M H) ws ds ∧ Pre ds ∧
  ∀ v d H', Post ds d → StepB (· = b) H H' → BagAt H' b c → Rep K (hd M H') v d → Q v H'
section
variable {F : Fm} {δ : List SD} {ta : TA} {te : TE} {P : D → Prop} {Pre : List D → Prop} {Post : List D → D → Prop} {E : XK}
theorem ev_call (h : EvA F ta δ fun ds => Pre ds ∧ ∀ d, Post ds d → P d) : Ev F (tCall (spD F.K Pre Post) [] E ta) δ P := fun M σ H Q c q =>
  h M σ H _ c fun vs ds H1 p c1 e1 r => by
    rw [List.append_nil]
    exact ⟨M, ds, c1.al, r, p.1, fun v d H2 pd s r2 => q v d H2 (p.2 d pd) (c1.same s) (e1.trans (StepB.of s)) r2⟩
/-- with defaults behind -/
theorem ev_callD {dvs : List V} {dds : List D} (hd' : ∀ H, RepL F.K H dvs dds) (h : EvA F ta δ fun ds => Pre (ds ++ dds) ∧ ∀ d, Post (ds ++ dds) d → P d) : Ev F (tCall (spD F.K Pre Post) dvs E ta) δ P := fun M σ H Q c q =>
  h M σ H _ c fun vs ds H1 p c1 e1 r =>
    ⟨M, ds ++ dds, c1.al, r.append (hd' _), p.1, fun v d H2 pd s r2 => q v d H2 (p.2 d pd) (c1.same s) (e1.trans (StepB.of s)) r2⟩
theorem ev_callB {i : Nat} {b : Addr} (hb : F.B = some b) (hi : δ[i]? = some .bag) (h : EvA F ta δ fun ds => Pre ds ∧ ∀ d, Post ds d → P d) : Ev F (tCall (spB F.K Pre Post) [] E (tCons (tVar i) ta)) δ P := fun M σ H Q c q => by
  obtain ⟨s, h1, b', h2, h3⟩ := c.sl i _ hi
  subst h3
  rw [hb] at h2
  cases h2
  refine ⟨_, h1, ?_⟩
  refine h M σ H _ c fun vs ds H1 p c1 e1 r => ?_
  show spB F.K Pre Post (V.ref b :: vs ++ []) H1 Q E
  rw [List.append_nil]
  obtain ⟨g0, g1, g2⟩ := c1.bg.1 b hb
  refine ⟨M, b, F.C0, vs, ds, rfl, c1.al, c1.m0 b g0, g1, r, p.1, fun v d H2 pd s ba r2 => ?_⟩
  have s' : StepB F.mv H1 H2 := fun a o n h => s a o (fun z => n (.inl (by rw [hb, z]))) h
  exact q v d H2 (p.2 d pd) (c1.stepG s' ⟨fun b2 z => by
    rw [hb] at z
    cases z
    exact ⟨g0, ba, g2⟩, fun a h => by
    obtain ⟨z1, ps, z2⟩ := c1.bg.2 a h
    refine ⟨z1, ps, s a _ (fun z => ?_) z2⟩
    obtain ⟨_, _, _, _, _, g3, _⟩ := g1
    have z : a = b := z
    rw [z, g3] at z2
    cases z2⟩) (e1.trans s') r2
end
/-! ### into a def's body -/
def slots (N : List Str) (ds : List D) : List SD := ds.map .dat ++ List.replicate (N.length - ds.length) .un
def slotsB (N : List Str) (ds : List D) : List SD := .bag :: (ds.map .dat ++ List.replicate (N.length - (ds.length + 1)) .un)
theorem sl_base {K : PySem.W.Frag} {F : Fm} {M : Addr → Bool} {H : Hp} (hK : F.K = K) : ∀ {vs : List V} {ds : List D} (n : Nat), RepL K (hd M H) vs ds →
    ∀ (i : Nat) (x : SD), (ds.map SD.dat ++ List.replicate n .un)[i]? = some x → ∃ s, (vs.map some ++ List.replicate n none)[i]? = some s ∧ SlotOk F M H s x
  | [], [], n, .nil, i, x, h => by
    simp only [List.map_nil, List.nil_append, List.getElem?_replicate] at h ⊢
    split at h
    · rename_i hi
      cases h
      exact ⟨none, by rw [if_pos hi], trivial⟩
    · cases h
  | v :: vs, d :: ds, n, .cons r rs, 0, x, h => by
    have e : SD.dat d = x := by simpa using h
    subst e
    exact ⟨some v, rfl, v, rfl, by rw [hK]; exact r⟩
  | v :: vs, d :: ds, n, .cons r rs, i + 1, x, h => sl_base hK n rs i x (by simpa using h)
theorem no_own {ds : List D} {n : Nat} {i : Nat} {p : Addr} {es : OD} : (ds.map SD.dat ++ List.replicate n .un)[i]? ≠ some (.own p es) := fun h => by
  have := List.mem_of_getElem? h
  rcases List.mem_append.mp this with h | h
  · obtain ⟨d, _, e⟩ := List.mem_map.mp h
    cases e
  · have := List.eq_of_mem_replicate h
    cases this
section
variable {K : PySem.W.Frag} {N : List Str} {vs : List V} {H : Hp} {Q : VK} {E : XK} {t : TS} {Pre : List D → Prop} {Post : List D → D → Prop}
theorem enterD (hs : spD K Pre Post vs H Q E) (hb : ∀ (M : Addr → Bool) (ds : List D), Pre ds → ds.length = vs.length → Do ⟨K, none, M, H, E, 0, []⟩ t (slots N ds) { nx := fun _ => Post ds .non, rt := Post ds }) :
    t { nx := fun _ H' => Q .non H', rt := Q } (L2.start N vs) H := by
  obtain ⟨M, ds, al, r, pre, q⟩ := hs
  have hl := r.length
  have c : Ctx ⟨K, none, M, H, E, 0, []⟩ M (L2.start N vs) H (slots N ds) := by
    refine ⟨al, al, fun _ h => h, StepB.refl _ _, ⟨fun b z => (nomatch z), fun a h => (nomatch h)⟩, ?_, ?_, fun i j p es fs h1 h2 => absurd h1 no_own, fun i p es h => absurd h no_own⟩
    · unfold L2.start slots
      rw [List.length_append, List.length_append, List.length_map, List.length_map, List.length_replicate, List.length_replicate, hl]
    · unfold L2.start slots
      rw [hl]
      exact sl_base rfl _ r
  refine hb M ds pre hl.symm M _ H _ c (fun M' σ' H' δ' p c' s => ?_) (fun v d M' σ' H' δ' p c' s r' => ?_) (fun _ _ _ _ p => p.elim) (fun _ _ _ _ p => p.elim)
  · exact q _ _ H' p (fun a o h => c'.fr a o (mv_none rfl rfl a) h) .non
  · exact q v d H' p (fun a o h => c'.fr a o (mv_none rfl rfl a) h) (r'.mono (same_hd_le fun a h => c'.m0 a h))
theorem enterB (hs : spB K Pre Post vs H Q E) (hb : ∀ (M : Addr → Bool) (b c : Addr) (ds : List D), Pre ds → ds.length + 1 = vs.length → Do ⟨K, some b, M, H, E, c, []⟩ t (slotsB N ds) { nx := fun _ => Post ds .non, rt := Post ds }) :
    t { nx := fun _ H' => Q .non H', rt := Q } (L2.start N vs) H := by
  obtain ⟨M, b, cc, ws, ds, rfl, al, mb, ba, r, pre, q⟩ := hs
  have hl := r.length
  have hc : ∃ o, H cc = some o := by
    obtain ⟨ns, i, z, s, t, _, _, h3, _⟩ := ba
    exact ⟨_, h3⟩
  have c : Ctx ⟨K, some b, M, H, E, cc, []⟩ M (L2.start N (.ref b :: ws)) H (slotsB N ds) := by
    refine ⟨al, al, fun _ h => h, StepB.refl _ _, ⟨fun b z => ?_, fun a h => (nomatch h)⟩, ?_, fun i x h => ?_, fun i j p es fs h1 h2 => ?_, fun i p es h => ?_⟩
    · cases z
      exact ⟨mb, ba, hc⟩
    · unfold L2.start slotsB
      simp only [List.length_append, List.length_cons, List.length_map, List.length_replicate, hl]
      omega
    · unfold L2.start
      unfold slotsB at h
      cases i with
      | zero =>
        have e : SD.bag = x := by simpa using h
        subst e
        exact ⟨_, rfl, b, rfl, rfl⟩
      | succ i =>
        have h' : (ds.map SD.dat ++ List.replicate (N.length - (ds.length + 1)) .un)[i]? = some x := by simpa using h
        rw [List.length_cons, hl]
        exact sl_base rfl _ r i x h'
    · unfold slotsB at h1
      cases i with
      | zero => cases (show SD.bag = SD.own p es by simpa using h1)
      | succ i => exact absurd (show (ds.map SD.dat ++ List.replicate (N.length - (ds.length + 1)) .un)[i]? = some (.own p es) by simpa using h1) no_own
    · unfold slotsB at h
      cases i with
      | zero => cases (show SD.bag = SD.own p es by simpa using h)
      | succ i => exact absurd (show (ds.map SD.dat ++ List.replicate (N.length - (ds.length + 1)) .un)[i]? = some (.own p es) by simpa using h) no_own
  refine hb M b cc ds pre (by rw [List.length_cons, hl]) M _ H _ c (fun M' σ' H' δ' p c' s => ?_) (fun v d M' σ' H' δ' p c' s r' => ?_) (fun _ _ _ _ p => p.elim) (fun _ _ _ _ p => p.elim)
  · exact q _ _ H' p (fun a o n h => c'.fr a o (mv_bag rfl rfl n) h) (c'.bg.1 b rfl).2.1 .non
  · exact q v d H' p (fun a o n h => c'.fr a o (mv_bag rfl rfl n) h) (c'.bg.1 b rfl).2.1 (r'.mono (same_hd_le fun a h => c'.m0 a h))
end
theorem spD_len {K : PySem.W.Frag} {Pre : List D → Prop} {Post : List D → D → Prop} {n : Nat} (h : ∀ ds, Pre ds → ds.length = n) : ∀ vs H Q E, spD K Pre Post vs H Q E → vs.length = n := fun vs H Q E ⟨M, ds, _, r, p, _⟩ => by rw [r.length, h ds p]
theorem spB_len {K : PySem.W.Frag} {Pre : List D → Prop} {Post : List D → D → Prop} {n : Nat} (h : ∀ ds, Pre ds → ds.length + 1 = n) : ∀ vs H Q E, spB K Pre Post vs H Q E → vs.length = n := fun vs H Q E ⟨M, b, c, ws, ds, e, _, _, _, r, p, _⟩ => by
  subst e
  rw [List.length_cons, r.length, h ds p]

/-! ### operations -/
section
variable {K : PySem.W.Frag} {P : D → Prop} {i j : Int} {x y : D}
theorem od_eq_int (p : P (.bl (decide (i = j)))) : OpD K rEq (.int i) (.int j) P := fun M H v w Q al r1 r2 q => by
  cases r1
  cases r2
  exact ⟨rfl, q _ _ H (show P (.bl (decide (V.int i = V.int j))) by rw [show decide (V.int i = V.int j) = decide (i = j) by rw [dec_int, Bool.beq_eq_decide_eq]]; exact p) (Same.refl H) (.bl _)⟩
theorem od_ne_int (p : P (.bl (!decide (i = j)))) : OpD K rNe (.int i) (.int j) P := fun M H v w Q al r1 r2 q => by
  cases r1
  cases r2
  exact ⟨rfl, q _ _ H (show P (.bl (!decide (V.int i = V.int j))) by rw [show decide (V.int i = V.int j) = decide (i = j) by rw [dec_int, Bool.beq_eq_decide_eq]]; exact p) (Same.refl H) (.bl _)⟩
theorem od_eq_bl {a b : Bool} (p : P (.bl (decide (a = b)))) : OpD K rEq (.bl a) (.bl b) P := fun M H v w Q al r1 r2 q => by
  cases r1
  cases r2
  exact ⟨rfl, q _ _ H (show P (.bl (decide (V.bl a = V.bl b))) by rw [show decide (V.bl a = V.bl b) = decide (a = b) by rw [dec_bl, Bool.beq_eq_decide_eq]]; exact p) (Same.refl H) (.bl _)⟩
theorem od_ne_bl {a b : Bool} (p : P (.bl (!decide (a = b)))) : OpD K rNe (.bl a) (.bl b) P := fun M H v w Q al r1 r2 q => by
  cases r1
  cases r2
  exact ⟨rfl, q _ _ H (show P (.bl (!decide (V.bl a = V.bl b))) by rw [show decide (V.bl a = V.bl b) = decide (a = b) by rw [dec_bl, Bool.beq_eq_decide_eq]]; exact p) (Same.refl H) (.bl _)⟩
theorem od_eq_str {a b : Str} (p : P (.bl (decide (a = b)))) : OpD K rEq (.str a) (.str b) P := fun M H v w Q al r1 r2 q => by
  cases r1
  cases r2
  exact ⟨rfl, q _ _ H (show P (.bl (decide (V.str a = V.str b))) by rw [show decide (V.str a = V.str b) = decide (a = b) by rw [dec_str, Bool.beq_eq_decide_eq]]; exact p) (Same.refl H) (.bl _)⟩
theorem od_ne_str {a b : Str} (p : P (.bl (!decide (a = b)))) : OpD K rNe (.str a) (.str b) P := fun M H v w Q al r1 r2 q => by
  cases r1
  cases r2
  exact ⟨rfl, q _ _ H (show P (.bl (!decide (V.str a = V.str b))) by rw [show decide (V.str a = V.str b) = decide (a = b) by rw [dec_str, Bool.beq_eq_decide_eq]]; exact p) (Same.refl H) (.bl _)⟩
/-- x is None -/
def isNon : D → Bool | .non => true | _ => false
theorem rep_non {H : Hp} {v : V} (r : Rep K H v x) : decide (v = .non) = isNon x := by
  cases r <;> rfl
theorem ud_isN (p : P (.bl (isNon x))) : OpD K (fun x y H Q => y = .non ∧ Q (.bl (decide (x = .non))) H) x .non P := fun M H v w Q al r1 r2 q => by
  have e := rep_non r1
  cases r2
  exact ⟨rfl, by rw [e]; exact q _ _ H p (Same.refl H) (.bl _)⟩
theorem ud_notN (p : P (.bl (!isNon x))) : OpD K (fun x y H Q => y = .non ∧ Q (.bl (!decide (x = .non))) H) x .non P := fun M H v w Q al r1 r2 q => by
  have e := rep_non r1
  cases r2
  exact ⟨rfl, by rw [e]; exact q _ _ H p (Same.refl H) (.bl _)⟩
theorem repL_at {H : Hp} {vs : List V} {ds : List D} {d : D} (r : RepL K H vs ds) (h : atI ds i = some d) : ∃ v, atI vs i = some v ∧ Rep K H v d := by
  unfold atI at h ⊢
  rw [r.length]
  cases e : ixN ds.length i with
  | none => rw [e] at h; cases h
  | some k =>
    rw [e] at h
    exact r.get h
theorem od_ixL {ds : List D} {d : D} (h : atI ds i = some d) (p : P d) : OpD K (rIxL K) (.lst ds) (.int i) P := fun M H v w Q al r1 r2 q => by
  cases r1 with
  | lst h1 h2 =>
    cases r2
    obtain ⟨v, e, r⟩ := repL_at h2 h
    exact ⟨_, _, i, v, rfl, rfl, SqL.of (hd_of h1).2, e, q v d H p (Same.refl H) r⟩
theorem od_ixT {ds : List D} {d : D} (h : atI ds i = some d) (p : P d) : OpD K (rIxT K) (.tup ds) (.int i) P := fun M H v w Q al r1 r2 q => by
  cases r1 with
  | tup h1 h2 =>
    cases r2
    obtain ⟨v, e, r⟩ := repL_at h2 h
    exact ⟨_, _, i, v, rfl, rfl, same_tup (same_hd M H) h1, e, q v d H p (Same.refl H) r⟩
theorem od_ixS {z : Str} {c : Nat} (hz : z.length ≤ 100000) (h : atI z.cps.toList i = some c) (p : P (.str ⟨#[c]⟩)) : OpD K rIxS (.str z) (.int i) P := fun M H v w Q al r1 r2 q => by
  cases r1
  cases r2
  exact ⟨z, i, c, rfl, rfl, sz_of hz, h, q _ _ H p (Same.refl H) (.str _)⟩
theorem atI_nat' {α : Type} {xs : List α} {i : Int} (h0 : 0 ≤ i) (h : i.toNat < xs.length) : atI xs i = some (xs[i.toNat]) := by
  obtain ⟨n, rfl⟩ : ∃ n : Nat, i = (n : Int) := ⟨i.toNat, by omega⟩
  exact atI_nat (by simp)
theorem od_addS {a b : Str} (h : a.length + b.length ≤ 100000) (p : P (.str (a ++ b))) : OpD K (fun x y H Q => ∃ i j, x = .str i ∧ y = .str j ∧ i.length + j.length ≤ sizeLine ∧ Q (.str (i ++ j)) H) (.str a) (.str b) P := fun M H v w Q al r1 r2 q => by
  cases r1
  cases r2
  exact ⟨a, b, rfl, rfl, sz_of h, q _ _ H p (Same.refl H) (.str _)⟩
theorem od_leS {a b : Str} (p : P (.bl (!decide (b.cps.toList < a.cps.toList)))) : OpD K (fun x y H Q => ∃ i j, x = .str i ∧ y = .str j ∧ Q (.bl (!decide (j.cps.toList < i.cps.toList))) H) (.str a) (.str b) P := fun M H v w Q al r1 r2 q => by
  cases r1
  cases r2
  exact ⟨a, b, rfl, rfl, q _ _ H p (Same.refl H) (.bl _)⟩
theorem od_inSign {c : Nat} {z : Str} (p : P (.bl (decide (c ∈ z.cps.toList)))) : OpD K (fun x y H Q => ∃ (c : Nat) (z : Str), x = .str ⟨#[c]⟩ ∧ y = .str z ∧ Q (.bl (decide (c ∈ z.cps.toList))) H) (.str ⟨#[c]⟩) (.str z) P := fun M H v w Q al r1 r2 q => by
  cases r1
  cases r2
  exact ⟨c, z, rfl, rfl, q _ _ H p (Same.refl H) (.bl _)⟩
theorem od_cat {xs ys : List D} (h : xs.length + ys.length ≤ 100000) (p : P (.lst (xs ++ ys))) : OpD K rCat (.lst xs) (.lst ys) P := fun M H v w Q al r1 r2 q => by
  cases r1 with
  | lst h1 h2 =>
    cases r2 with
    | lst h3 h4 =>
      refine ⟨_, _, _, _, rfl, rfl, (hd_of h1).2, (hd_of h3).2, by rw [h2.length, h4.length]; exact sz_of h, fun p' hp => ?_⟩
      exact q _ _ _ p (same_new hp) (.lst (hd_new al hp) ((h2.append h4).mono (same_hdM (same_new hp))))
theorem repL_rep {H : Hp} {vs : List V} {ds : List D} (r : RepL K H vs ds) : ∀ n : Nat, RepL K H (List.replicate n vs).flatten (List.replicate n ds).flatten
  | 0 => .nil
  | n + 1 => by
    rw [List.replicate_succ, List.replicate_succ, List.flatten_cons, List.flatten_cons]
    exact r.append (repL_rep r n)
theorem od_rep {xs : List D} {k : Int} (h0 : 0 ≤ k) (h : k ≤ 100000) (hz : xs.length * k.toNat ≤ 100000) (p : P (.lst (List.replicate k.toNat xs).flatten)) : OpD K rRep (.lst xs) (.int k) P := fun M H v w Q al r1 r2 q => by
  cases r1 with
  | lst h1 h2 =>
    cases r2
    refine ⟨_, k, _, rfl, rfl, (hd_of h1).2, by omega, by omega, by rw [h2.length]; exact sz_of hz, fun p' hp => ?_⟩
    exact q _ _ _ p (same_new hp) (.lst (hd_new al hp) ((repL_rep h2 _).mono (same_hdM (same_new hp))))
/-! slices -/
def cutD (xs : List D) (lo hi : Option Int) : List D := (xs.drop (HT.sIx xs.length 0 lo)).take (HT.sIx xs.length xs.length hi - HT.sIx xs.length 0 lo)
theorem cutD_length {xs : List D} {lo hi : Option Int} : (cutD xs lo hi).length ≤ xs.length := by
  unfold cutD
  rw [List.length_take, List.length_drop]
  omega
theorem repL_cut {H : Hp} {vs : List V} {ds : List D} (r : RepL K H vs ds) (lo hi : Option Int) : RepL K H (cutV vs lo hi) (cutD ds lo hi) := by
  unfold cutV cutD
  rw [r.length]
  exact (r.drop _).take _
end
def EvO (F : Fm) (to : TO) (δ : List SD) (P : Option Int → Prop) : Prop := ∀ M σ H (Q : Option Int → Hp → Prop), Ctx F M σ H δ →
  (∀ o H', P o → Ctx F M σ H' δ → StepB F.mv H H' → Q o H') → to σ H Q
section
variable {F : Fm} {δ : List SD} {ta tb tc te : TE} {tl th : TO} {tt tu : TT} {P : D → Prop} {PL : List D → Prop} {PO : Option Int → Prop}
theorem eo_none (p : PO none) : EvO F tNoPart δ PO := fun M σ H Q c q => q _ H p c (StepB.refl _ _)
theorem eo_some (h : Ev F te δ fun d => ∃ i, d = .int i ∧ PO (some i)) : EvO F (tPart te) δ PO := fun M σ H Q c q =>
  h M σ H _ c fun v d H1 p c1 e r => by
    obtain ⟨i, rfl, p⟩ := p
    cases r
    exact ⟨i, rfl, q _ H1 p c1 e⟩
theorem ev_slS (h : Ev F te δ fun d => EvO F tl δ fun lo => EvO F th δ fun hi => ∃ z, d = .str z ∧ z.length ≤ 100000 ∧ P (.str (cutS z lo hi))) : Ev F (tSl rSlS te tl th) δ P := fun M σ H Q c q =>
  h M σ H _ c fun v d H1 p c1 e1 r => p M σ H1 _ c1 fun lo H2 p2 c2 e2 => p2 M σ H2 _ c2 fun hi H3 p3 c3 e3 => by
    obtain ⟨z, rfl, hz, p⟩ := p3
    cases r
    exact ⟨z, rfl, sz_of hz, q _ _ H3 p c3 ((e1.trans e2).trans e3) (.str _)⟩
/-- a slice of a list: a new one -/
theorem en_slL (h : Ev F te δ fun d => EvO F tl δ fun lo => EvO F th δ fun hi => ∃ xs, d = .lst xs ∧ PL (cutD xs lo hi)) : EvN F (tSl (rSlL F.K) te tl th) δ PL := fun M σ H Q c q =>
  h M σ H _ c fun v d H1 p c1 e1 r => p M σ H1 _ c1 fun lo H2 p2 c2 e2 => p2 M σ H2 _ c2 fun hi H3 p3 c3 e3 => by
    obtain ⟨xs, rfl, pz⟩ := p3
    have r3 := r.mono ((hd_step c1 e2).trans (hd_step c2 e3))
    cases r3 with
    | lst h1 h2 =>
      refine ⟨_, _, rfl, SqL.of (hd_of h1).2, fun a ha => ?_⟩
      have k := (e1.trans e2).trans e3
      have ha0 : H a = none := by
        cases z : H a with
        | none => rfl
        | some o =>
          have := k a o (c3.nob ha) z
          rw [ha] at this
          cases this
      refine q a _ _ _ pz (c3.hide ha) ha0 (c3.h0 ha) (c3.nob ha) (c3.nown ha) (k.trans (StepB.of (same_new ha))) upd_same ((repL_cut h2 lo hi).mono fun b u e => ?_)
      obtain ⟨m, h⟩ := hd_of e
      have n : b ≠ a := ne_of_none h ha
      exact hd_at (by rw [hid_ne n]; exact m) (by rw [upd_ne n]; exact h)
/-- a slice of a tuple that is not the whole -/
theorem ev_slT (h : Ev F te δ fun d => EvO F tl δ fun lo => EvO F th δ fun hi => ∃ xs, d = .tup xs ∧ ¬ (HT.sIx xs.length 0 lo = 0 ∧ HT.sIx xs.length xs.length hi = xs.length) ∧ P (.tup (cutD xs lo hi))) : Ev F (tSl (rSlT F.K) te tl th) δ P := fun M σ H Q c q =>
  h M σ H _ c fun v d H1 p c1 e1 r => p M σ H1 _ c1 fun lo H2 p2 c2 e2 => p2 M σ H2 _ c2 fun hi H3 p3 c3 e3 => by
    obtain ⟨xs, rfl, hn, p⟩ := p3
    have r3 := r.mono ((hd_step c1 e2).trans (hd_step c2 e3))
    cases r3 with
    | tup h1 h2 =>
      refine ⟨_, _, rfl, same_tup (same_hd M H3) h1, by rw [h2.length]; exact hn, fun a ha => ?_⟩
      exact q _ _ _ p (c3.same (same_new ha)) (((e1.trans e2).trans e3).trans (StepB.of (same_new ha))) (.tup (SqT.of (hd_new c3.al ha)) ((repL_cut h2 lo hi).mono (same_hdM (same_new ha))))
end
/-! ### calls of built-ins -/
/-- the built-in type of data -/
def tyName : D → Option String
  | .non => some "NoneType" | .bl _ => some "bool" | .int _ => some "int" | .str _ => some "str" | .lst _ => some "list" | .tup _ => some "tuple" | .dic _ => some "dict" | _ => none
def tyNames : List String := ["NoneType", "bool", "int", "str", "list", "tuple", "dict"]
def tyAsk : List String := ["bool", "int", "str", "list", "tuple", "dict"]
/-- isinstance by names -/
def isTy (a n : String) : Bool := a == n || (a == "bool" && n == "int")
theorem kit_all : (tyNames.all fun a => tyAsk.all fun n => decide (kitB a n = some (isTy a n))) = true := by decide +kernel
theorem kit_isTy {a n : String} (ha : a ∈ tyNames) (hn : n ∈ tyAsk) : kitB a n = some (isTy a n) :=
  of_decide_eq_true (List.all_eq_true.mp (List.all_eq_true.mp kit_all a ha) n hn)
theorem tyName_mem {d : D} {a : String} (h : tyName d = some a) : a ∈ tyNames := by
  cases d <;> simp only [tyName, Option.some.injEq, reduceCtorEq] at h <;> (subst h; decide)
theorem tyX_of {K : PySem.W.Frag} {H : Hp} {v : V} {d : D} {a : String} (r : Rep K H v d) (h : tyName d = some a) : TyX K H v (.type a) := by
  cases r with
  | non => cases h; exact .base .non
  | bl b => cases h; exact .base (.bl b)
  | int i => cases h; exact .base (.int i)
  | str x => cases h; exact .base (.str x)
  | lst h1 _ => cases h; exact .base (.lst h1)
  | tup h1 _ =>
    cases h
    rcases h1 with (h1 | ⟨o, h1⟩) | ⟨o, its, n, h1, h2, _⟩
    · exact .base (.tup h1)
    · exact .fTuple h1
    · exact .kTuple h1 h2
  | dic h1 _ => cases h; exact .base (.dK h1)
  | ins h1 _ => cases h
  | ty n => cases h
  | adr a => cases h
  | exc h1 h2 _ => cases h
theorem TyX.mono {K : PySem.W.Frag} {M : Addr → Bool} {H : Hp} {v : V} {d : D} {a : String} (r : Rep K (hd M H) v d) (h : tyName d = some a) : TyX K H v (.type a) := tyX_of (r.mono (same_hd M H)) h
/-- isinstance of a type and of a tuple of types, on data -/
def isD (d : D) (n : String) : Bool := match tyName d with | some a => isTy a n | none => false
section
variable {K : PySem.W.Frag} {P : D → Prop} {i j : Int} {x y : D} {n : String}
theorem cd_isi {a : String} (hx : tyName x = some a) (hn : n ∈ tyAsk) (p : P (.bl (isD x n))) : CallD K (rIsi K) [x, .ty n] P := fun M H vs Q al r q => by
  cases r with
  | cons r1 r2 =>
    cases r2 with
    | cons r2 r3 =>
      cases r3
      cases r2
      have e : isD x n = isTy a n := by unfold isD; rw [hx]
      exact ⟨_, _, .type a, .type n, isTy a n, rfl, .ty n, TyX.mono r1 hx, kit_ty (kit_isTy (tyName_mem hx) hn), by rw [← e]; exact q _ _ H p (Same.refl H) (.bl _)⟩
/-- the length of data -/
def lenD : D → Option Nat
  | .str z => some z.length | .lst xs => some xs.length | .tup xs => some xs.length | _ => none
theorem cd_len {k : Nat} (h : lenD x = some k) (hz : k ≤ 100000) (p : P (.int (k : Int))) : CallD K (fun xs H Q => ∃ x n, xs = [x] ∧ LenV K x H n ∧ Q (.int (n : Nat)) H) [x] P := fun M H vs Q al r q => by
  cases r with
  | cons r1 r2 =>
    cases r2
    refine ⟨_, k, rfl, ?_, q _ _ H p (Same.refl H) (.int _)⟩
    cases r1 with
    | str z => cases h; exact ⟨sz_of hz, rfl⟩
    | lst h1 h2 => cases h; exact .inl ⟨_, SqL.of (hd_of h1).2, h2.length.symm⟩
    | tup h1 h2 => cases h; exact .inr ⟨_, same_tup (same_hd M H) h1, h2.length.symm⟩
    | _ => cases h
def blD (bs : List Bool) : List D := bs.map .bl
theorem repL_bl {H : Hp} : ∀ {vs : List V} {bs : List Bool}, RepL K H vs (blD bs) → vs = bs.map V.bl
  | _, [], .nil => rfl
  | _, b :: bs, .cons (.bl _) r => by rw [List.map_cons, repL_bl (bs := bs) r]
theorem cd_all {bs : List Bool} (p : P (.bl (bs.all id))) : CallD K (rAll K) [.lst (blD bs)] P := fun M H vs Q al r q => by
  cases r with
  | cons r1 r2 =>
    cases r2
    cases r1 with
    | lst h1 h2 =>
      have e := repL_bl h2
      subst e
      exact ⟨_, bs, rfl, SqL.of (hd_of h1).2, q _ _ H p (Same.refl H) (.bl _)⟩
theorem cd_any {bs : List Bool} (p : P (.bl (bs.any id))) : CallD K (rAny K) [.lst (blD bs)] P := fun M H vs Q al r q => by
  cases r with
  | cons r1 r2 =>
    cases r2
    cases r1 with
    | lst h1 h2 =>
      have e := repL_bl h2
      subst e
      exact ⟨_, bs, rfl, SqL.of (hd_of h1).2, q _ _ H p (Same.refl H) (.bl _)⟩
theorem cd_intI {r : List V → Hp → VK → Prop} (hr : ∀ xs H Q, (∃ i, xs = [V.int i] ∧ Q (.int i) H) → r xs H Q) (p : P (.int i)) : CallD K r [.int i] P := fun M H vs Q al r1 q => by
  cases r1 with
  | cons r1 r2 =>
    cases r2
    cases r1
    exact hr _ _ _ ⟨i, rfl, q _ _ H p (Same.refl H) (.int _)⟩
end
end Pf

namespace Pf
open PySem L2 RZ
/-! ### the layer's rules with the written part K named: in a comprehension's block its name would be the block's -/
section
variable {X : Cx} {tg e e2 o value : Expr} {te to ta tv : TE} {t : TA} {pos p apos cpos : Pos}
theorem ixL (K : PySem.W.Frag) (h : X.K = K := by rfl) : IxR X (rIxL K) := by subst h; exact ix_list
theorem ixT (K : PySem.W.Frag) (h : X.K = K := by rfl) : IxR X (rIxT K) := by subst h; exact ix_tup
theorem ixA (K : PySem.W.Frag) (h : X.K = K := by rfl) : IxR X (rIx K) := by subst h; exact ix_seq
theorem slL (K : PySem.W.Frag) (h : X.K = K := by rfl) : SlR X (rSlL K) := by subst h; exact sl_list
theorem slT (K : PySem.W.Frag) (h : X.K = K := by rfl) : SlR X (rSlT K) := by subst h; exact sl_tup
def rLenK (K : PySem.W.Frag) : List V → Hp → VK → Prop := fun xs H Q => ∃ x n, xs = [x] ∧ LenV K x H n ∧ Q (.int (n : Nat)) H
theorem callLen (K : PySem.W.Frag) (h : X.K = K := by rfl) : CallR X (.builtin "len") (rLenK K) := by subst h; exact call_len
theorem callIsi (K : PySem.W.Frag) (h : X.K = K := by rfl) : CallR X (.builtin "isinstance") (rIsi K) := by subst h; exact call_isi
theorem callIsiT (K : PySem.W.Frag) (h : X.K = K := by rfl) : CallR X (.builtin "isinstance") (rIsiT K) := by subst h; exact call_isiT
def rListK (K : PySem.W.Frag) : List V → Hp → VK → Prop := fun xs H Q => ∃ p ys, xs = [.ref p] ∧ (SqL K H p ys ∨ SqT K H p ys) ∧ ∀ l, H l = none → Q (.ref l) (upd H l (.lst ys))
theorem callList (K : PySem.W.Frag) (h : X.K = K := by rfl) : CallR X (.type "list") (rListK K) := by subst h; exact call_list_of
def rTupleK (K : PySem.W.Frag) : List V → Hp → VK → Prop := fun xs H Q => ∃ p ys, xs = [.ref p] ∧ ((SqL K H p ys ∧ ∀ l, H l = none → Q (.ref l) (upd H l (.tup ys))) ∨ (SqT K H p ys ∧ Q (.ref p) H))
theorem callTuple (K : PySem.W.Frag) (h : X.K = K := by rfl) : CallR X (.type "tuple") (rTupleK K) := by subst h; exact call_tuple_of
theorem callAll (K : PySem.W.Frag) (hc : X.calm = true := by rfl) (h : X.K = K := by rfl) : CallR X (.builtin "all") (rAll K) := by subst h; exact cr_all hc
theorem callAny (K : PySem.W.Frag) (hc : X.calm = true := by rfl) (h : X.K = K := by rfl) : CallR X (.builtin "any") (rAny K) := by subst h; exact cr_any hc
theorem opIn (K : PySem.W.Frag) (h : X.K = K := by rfl) : OpR X (compareOp .In) (rIn K false) := by subst h; exact op_in_seq
theorem opNotIn (K : PySem.W.Frag) (h : X.K = K := by rfl) : OpR X (compareOp .NotIn) (rIn K true) := by subst h; exact op_notIn_seq
theorem opEqD (K : PySem.W.Frag) (hu : X.A.units + 64 < cLine) (h : X.K = K := by rfl) : OpR X (compareOp .Eq) (rEqD K) := by subst h; exact op_eqD hu
theorem opNeD (K : PySem.W.Frag) (hu : X.A.units + 64 < cLine) (h : X.K = K := by rfl) : OpR X (compareOp .NotEq) (rNeD K) := by subst h; exact op_neD hu
theorem piL (K : PySem.W.Frag) (hl : PE X e te) (h : X.K = K := by rfl) : PI X tg e (iList K te) := by subst h; exact pi_list hl
theorem piT (K : PySem.W.Frag) (hl : PE X e te) (h : X.K = K := by rfl) : PI X tg e (iTup K te) := by subst h; exact pi_tup hl
theorem pgTup (K : PySem.W.Frag) {es : List Expr} {k : Nat} {ts : TGs} {n : Nat} (hc : X.calm = true) (hh : PGs X es ts)
    (hn : (assignEach es X.env).length = n := by rfl) (hst : (assignEach es X.env).findIdx? (·.1) = none := by rfl) (h : X.K = K := by rfl) : PG X (.Tuple es k pos) (gTup K n ts) := by subst h; exact pg_tup hc hh hn hst
theorem peFld (K : PySem.W.Frag) {f : Str} (he : PE X e te) (hb : attributeBase e f X.env (eval e X.env) = eval e X.env) (h : X.K = K := by rfl) : PE X (.Attribute e f pos) (tFld K te f) := by subst h; exact pe_fld he hb
end
/-! ### a call by keywords alone -/
section
variable {X : Cx} {CX : CXT} {k : Nat} {f : Addr} {fd : FuncData} {ps ks : List Str} {sp : Sp} {E : XK} {x : Str} {p pos : Pos} {kws : List Keyword} {tk : TA} {g : List Value → List Value → List Value} {gV : List V → List V → List V}
theorem pe_callK0 (F : FnOk X.prog X.w X.K X.mg X.base CX k f fd ps sp) (hr : Room k X.A) (hg : Gl X x) (hm : X.mg x = some (.ref f)) (hk : PySem.W.keepIn X.K (.ref f) = true) (hb : KBinds X.K fd ps ks g gV) (hx : Passes CX X E)
    (hkw : PK X kws tk) (hall : (backToKw pos (keywordEach kws X.env)).all (·.1.isSome) = true := by rfl) (hks : (backToKw pos (keywordEach kws X.env)).filterMap (·.1) = ks := by rfl)
    (hdb : (x == ("__debug__" : Str)) = false := by decide)
    (hpl : ((backTo pos (starEach [] X.env)).any (·.1) || (backToKw pos (keywordEach kws X.env)).any (·.1.isNone)) = false := by rfl) :
    PE X (.Call (.Name x p) [] kws pos) (tCallK sp gV E tNil tk) := by
  refine ⟨fun pins s σ H Q I h => ?_⟩
  refine wpAny_Call_Name_kw (ld_glob I hg hm ?_ hdb)
  refine PySem.W.callWith_KW0 (h₀ := X.base) I.ok.mod.kin hk hall ?_ hpl
  refine thn (hkw.run pos pins s σ H _ I h) fun ws s2 ⟨zs, H2, I2, rz, q2⟩ => ⟨I2.kIn, ?_⟩
  rw [hks]
  exact run_fnk (us := []) (vs := []) F hr hb hx I2 .nil rz q2
end
section
variable {F : Fm} {δ : List SD} {ta tk : TA} {P : D → Prop} {Pre : List D → Prop} {Post : List D → D → Prop} {E : XK} {gV : List V → List V → List V} {gD : List D → List D → List D}
theorem ev_callK (hg : ∀ (H : Hp) (vs zs : List V) (ds es : List D), RepL F.K H vs ds → RepL F.K H zs es → RepL F.K H (gV vs zs) (gD ds es))
    (h : EvA F ta δ fun ds => EvA F tk δ fun es => Pre (gD ds es) ∧ ∀ d, Post (gD ds es) d → P d) : Ev F (tCallK (spD F.K Pre Post) gV E ta tk) δ P := fun M σ H Q c q =>
  h M σ H _ c fun vs ds H1 p c1 e1 r => p M σ H1 _ c1 fun zs es H2 p2 c2 e2 r2 =>
    ⟨M, gD ds es, c2.al, hg _ _ _ _ _ (r.mono (hd_step c1 e2)) r2, p2.1, fun v d H3 pd s r3 => q v d H3 (p2.2 d pd) (c2.same s) ((e1.trans e2).trans (StepB.of s)) r3⟩
end
section
variable {K : PySem.W.Frag} {P : D → Prop} {x : D} {F : Fm} {δ : List SD} {te : TE}
theorem cd_lenK {k : Nat} (h : lenD x = some k) (hz : k ≤ 100000) (p : P (.int (k : Int))) : CallD K (rLenK K) [x] P := cd_len h hz p
/-- list(x): a new list of the same items -/
theorem en_listOf {PL : List D → Prop} (h : Ev F te δ fun d => ∃ xs, (d = .lst xs ∨ d = .tup xs) ∧ PL xs) : EvN F (tCB (rListK F.K) (tCons te tNil)) δ PL := fun M σ H Q c q =>
  h M σ H _ c fun v d H1 p c1 e1 r => by
    obtain ⟨xs, hd', pz⟩ := p
    have key : ∀ (a : Addr) (vs : List V), (SqL F.K H1 a vs ∨ SqT F.K H1 a vs) → RepL F.K (hd M H1) vs xs → rListK F.K [.ref a] H1 Q := fun a vs hs hr => by
      refine ⟨a, vs, rfl, hs, fun p hp => ?_⟩
      have hp0 : H p = none := by
        cases z : H p with
        | none => rfl
        | some o =>
          have := e1 p o (c1.nob hp) z
          rw [hp] at this
          cases this
      refine q p vs xs _ pz (c1.hide hp) hp0 (c1.h0 hp) (c1.nob hp) (c1.nown hp) (e1.trans (StepB.of (same_new hp))) upd_same (hr.mono fun b u e => ?_)
      obtain ⟨m, h⟩ := hd_of e
      have n : b ≠ p := ne_of_none h hp
      exact hd_at (by rw [hid_ne n]; exact m) (by rw [upd_ne n]; exact h)
    rcases hd' with rfl | rfl
    · cases r with
      | lst h1 h2 => exact key _ _ (.inl (SqL.of (hd_of h1).2)) h2
    · cases r with
      | tup h1 h2 => exact key _ _ (.inr (same_tup (same_hd M H1) h1)) h2
end
end Pf

namespace Pf
open PySem L2 RZ
def top (i : Nat) : Stmt := PySem.Challenge.pw_partfirsts_k01_names_and_numbers.main.body.getD i (.Pass ⟨0, 0, 0, 0⟩)
abbrev s_is_name : Stmt := top 1
abbrev s_is_whole : Stmt := top 2
abbrev s_is_number : Stmt := top 3
abbrev s_open : Stmt := top 5
abbrev s_draw : Stmt := top 6
abbrev s_of : Stmt := top 7
abbrev s_like : Stmt := top 8
abbrev s_law : Stmt := top 9
abbrev N_is_name : List Str := ["value", "sign"]
theorem sc_is_name : FnScope N_is_name ["value"] (defScope s_is_name) := ⟨rfl, rfl, rfl, by decide +kernel, rfl, by decide +kernel, by decide +kernel⟩
abbrev N_is_whole : List Str := ["value"]
theorem sc_is_whole : FnScope N_is_whole ["value"] (defScope s_is_whole) := ⟨rfl, rfl, rfl, by decide +kernel, rfl, by decide +kernel, by decide +kernel⟩
abbrev N_is_number : List Str := ["value", "least", "most"]
theorem sc_is_number : FnScope N_is_number ["value", "least", "most"] (defScope s_is_number) := ⟨rfl, rfl, rfl, by decide +kernel, rfl, by decide +kernel, by decide +kernel⟩
abbrev N_open : List Str := ["_law_script"]
theorem sc_open : FnScope N_open ["_law_script"] (defScope s_open) := ⟨rfl, rfl, rfl, by decide +kernel, rfl, by decide +kernel, by decide +kernel⟩
abbrev N_draw : List Str := ["_law_bag", "_law_many", "_law_cell", "_law_digit", "_law_seed"]
theorem sc_draw : FnScope N_draw ["_law_bag", "_law_many"] (defScope s_draw) := ⟨rfl, rfl, rfl, by decide +kernel, rfl, by decide +kernel, by decide +kernel⟩
abbrev N_of : List Str := ["_law_bag", "_law_things"]
theorem sc_of : FnScope N_of ["_law_bag", "_law_things"] (defScope s_of) := ⟨rfl, rfl, rfl, by decide +kernel, rfl, by decide +kernel, by decide +kernel⟩
abbrev N_like : List Str := ["_law_found", "_law_due", "_law_one", "_law_other"]
theorem sc_like : FnScope N_like ["_law_found", "_law_due"] (defScope s_like) := ⟨rfl, rfl, rfl, by decide +kernel, rfl, by decide +kernel, by decide +kernel⟩
abbrev N_law : List Str := ["_law_script", "_law_bag", "_law_abc", "_law_turn", "_law_word", "_law_at", "_law_bent", "_law_good", "_law_least_z", "_law_most_z", "_law_thing", "_law_odd", "_law_k", "_law_sign"]
theorem sc_law : FnScope N_law ["_law_script"] (defScope s_law) := ⟨rfl, rfl, rfl, by decide +kernel, rfl, by decide +kernel, by decide +kernel⟩
structure Txt (K : PySem.W.Frag) (mg : Str → Option Value) where
  f_is_name : Addr
  fd_is_name : FuncData
  F_is_name : Fun K "is_name" "is_name" s_is_name f_is_name fd_is_name
  g_is_name : mg "is_name" = some (.ref f_is_name)
  k_is_name : PySem.W.keepIn K (.ref f_is_name) = true
  bd_is_name : Binds K fd_is_name ["value"] []
  f_is_whole : Addr
  fd_is_whole : FuncData
  F_is_whole : Fun K "is_whole" "is_whole" s_is_whole f_is_whole fd_is_whole
  g_is_whole : mg "is_whole" = some (.ref f_is_whole)
  k_is_whole : PySem.W.keepIn K (.ref f_is_whole) = true
  bd_is_whole : Binds K fd_is_whole ["value"] []
  f_is_number : Addr
  fd_is_number : FuncData
  F_is_number : Fun K "is_number" "is_number" s_is_number f_is_number fd_is_number
  g_is_number : mg "is_number" = some (.ref f_is_number)
  k_is_number : PySem.W.keepIn K (.ref f_is_number) = true
  bd_is_number : Binds K fd_is_number ["value", "least", "most"] []
  f_open : Addr
  fd_open : FuncData
  F_open : Fun K "_law_open" "_law_open" s_open f_open fd_open
  g_open : mg "_law_open" = some (.ref f_open)
  k_open : PySem.W.keepIn K (.ref f_open) = true
  bd_open : Binds K fd_open ["_law_script"] []
  f_draw : Addr
  fd_draw : FuncData
  F_draw : Fun K "_law_draw" "_law_draw" s_draw f_draw fd_draw
  g_draw : mg "_law_draw" = some (.ref f_draw)
  k_draw : PySem.W.keepIn K (.ref f_draw) = true
  bd_draw : Binds K fd_draw ["_law_bag", "_law_many"] []
  f_of : Addr
  fd_of : FuncData
  F_of : Fun K "_law_of" "_law_of" s_of f_of fd_of
  g_of : mg "_law_of" = some (.ref f_of)
  k_of : PySem.W.keepIn K (.ref f_of) = true
  bd_of : Binds K fd_of ["_law_bag", "_law_things"] []
  f_like : Addr
  fd_like : FuncData
  F_like : Fun K "_law_like" "_law_like" s_like f_like fd_like
  g_like : mg "_law_like" = some (.ref f_like)
  k_like : PySem.W.keepIn K (.ref f_like) = true
  bd_like : Binds K fd_like ["_law_found", "_law_due"] []
  f_law : Addr
  fd_law : FuncData
  F_law : Fun K "law" "law" s_law f_law fd_law
  g_law : mg "law" = some (.ref f_law)
  k_law : PySem.W.keepIn K (.ref f_law) = true
  bd_law : Binds K fd_law ["_law_script"] []
  b_all : mg "all" = none
  b_bool : mg "bool" = none
  b_int : mg "int" = none
  b_isinstance : mg "isinstance" = none
  b_len : mg "len" = none
  b_list : mg "list" = none
  b_range : mg "range" = none
  b_str : mg "str" = none
  b_tuple : mg "tuple" = none
  b_zip : mg "zip" = none
def gkb_is_number_value_most_least {α : Type} (us ws : List α) : List α := match us, ws with | [], [b0, b1, b2] => [b0, b2, b1] | _, _ => []
theorem kb_is_number_value_most_least {K : PySem.W.Frag} {mg : Str → Option Value} (T : Txt K mg) : KBinds K T.fd_is_number ["value", "least", "most"] ["value", "most", "least"] gkb_is_number_value_most_least gkb_is_number_value_most_least := by
  obtain ⟨oc, od, kV, doc, pm, an, cdv, ct, osl, hfd, lk, hcd⟩ := T.F_is_number.ex
  refine ⟨fun s us ws _ hl => ?_, fun {vs us zs ws} r rz => ?_⟩
  · rw [hfd]
    rcases us with _ | ⟨yu0, lu⟩ <;> rcases ws with _ | ⟨yw0, _ | ⟨yw1, _ | ⟨yw2, _ | ⟨yw3, lw⟩⟩⟩⟩ <;> first
      | (simp [gkb_is_number_value_most_least] at hl; done)
      | exact .of_eq rfl
  ·
    cases r with
    | nil =>
      cases rz with
      | nil => exact .nil
      | cons b0 rz =>
        cases rz with
        | nil => exact .nil
        | cons b1 rz =>
          cases rz with
          | nil => exact .nil
          | cons b2 rz =>
            cases rz with
            | nil => exact (.cons b0 (.cons b2 (.cons b1 .nil)))
            | cons b3 rz => exact .nil
    | cons a0 r => exact .nil
theorem krkb_is_number_value_most_least (K : PySem.W.Frag) (H : Hp) (vs zs : List V) (ds es : List D) (r : RepL K H vs ds) (rz : RepL K H zs es) : RepL K H (gkb_is_number_value_most_least vs zs) (gkb_is_number_value_most_least ds es) := by
  cases r with
  | nil =>
    cases rz with
    | nil => exact .nil
    | cons b0 rz =>
      cases rz with
      | nil => exact .nil
      | cons b1 rz =>
        cases rz with
        | nil => exact .nil
        | cons b2 rz =>
          cases rz with
          | nil => exact (.cons b0 (.cons b2 (.cons b1 .nil)))
          | cons b3 rz => exact .nil
  | cons a0 r => exact .nil
def gkb_is_name_value {α : Type} (us ws : List α) : List α := match us, ws with | [], [b0] => [b0] | _, _ => []
theorem kb_is_name_value {K : PySem.W.Frag} {mg : Str → Option Value} (T : Txt K mg) : KBinds K T.fd_is_name ["value"] ["value"] gkb_is_name_value gkb_is_name_value := by
  obtain ⟨oc, od, kV, doc, pm, an, cdv, ct, osl, hfd, lk, hcd⟩ := T.F_is_name.ex
  refine ⟨fun s us ws _ hl => ?_, fun {vs us zs ws} r rz => ?_⟩
  · rw [hfd]
    rcases us with _ | ⟨yu0, lu⟩ <;> rcases ws with _ | ⟨yw0, _ | ⟨yw1, lw⟩⟩ <;> first
      | (simp [gkb_is_name_value] at hl; done)
      | exact .of_eq rfl
  ·
    cases r with
    | nil =>
      cases rz with
      | nil => exact .nil
      | cons b0 rz =>
        cases rz with
        | nil => exact (.cons b0 .nil)
        | cons b1 rz => exact .nil
    | cons a0 r => exact .nil
theorem krkb_is_name_value (K : PySem.W.Frag) (H : Hp) (vs zs : List V) (ds es : List D) (r : RepL K H vs ds) (rz : RepL K H zs es) : RepL K H (gkb_is_name_value vs zs) (gkb_is_name_value ds es) := by
  cases r with
  | nil =>
    cases rz with
    | nil => exact .nil
    | cons b0 rz =>
      cases rz with
      | nil => exact (.cons b0 .nil)
      | cons b1 rz => exact .nil
  | cons a0 r => exact .nil
/-! ### the draws -/
theorem asg_cut {te : TE} {g : TG} {D : Ends} {σ : L2.St} {H : Hp} (h : ∀ G : V → Hp → Prop, G = (fun x H1 => g x σ H1 D.nx) → te σ H G) : tAsg te g D σ H := h _ rfl
theorem seq_in {t u : TS} {D : Ends} {σ : L2.St} {H : Hp} (h : t { D with nx := u D } σ H) : tSeq t u D σ H := h
theorem pm1 : (0 : Int) < 2147483587 := by decide
theorem pm2 : (0 : Int) < 2147483549 := by decide
theorem seq_cut {t u : TS} {D : Ends} {σ : L2.St} {H : Hp} (h : ∀ G : L2.St → Hp → Prop, G = u D → t { D with nx := G } σ H) : tSeq t u D σ H := h _ rfl
def preDraw : List D → Prop := fun ds => ∃ m : Int, ds = [.int m] ∧ 0 < m ∧ m < 1073741824
def postDraw : List D → D → Prop := fun ds d => ∃ m r : Int, ds = [.int m] ∧ d = .int r ∧ 0 ≤ r ∧ r < m
section
variable {K : PySem.W.Frag} {σ : L2.St} {H : Hp} {b c : Addr} {Q : VK} {i z s t : Int}
theorem bag_ix {xs : List V} {k : Int} {v : V} (h0 : σ[0]? = some (some (.ref b))) (hb : H b = some (.lst xs)) (hv : atI xs k = some v) (q : Q v H) : tOp (rIxL K) (tVar 0) (tC (.int k)) σ H Q :=
  ⟨_, h0, _, xs, k, v, rfl, rfl, SqL.of hb, hv, q⟩
theorem bag_set {xs : List V} {k : Int} {j : Nat} {v : V} {R : L2.St → Hp → Prop} (h0 : σ[0]? = some (some (.ref b))) (hb : H b = some (.lst xs)) (hj : ixN xs.length k = some j) (q : R σ (upd H b (.lst (xs.set j v)))) : gSub (tVar 0) (tC (.int k)) rSetL v σ H R :=
  ⟨_, h0, _, xs, k, j, rfl, rfl, hb, hj, q⟩
end
theorem ok_draw {P : Program} {w : World} {K : PySem.W.Frag} {mg : Str → Option Value} {base : Heap} (T : Txt K mg) : FnOk P w K mg base CX0 2 T.f_draw T.fd_draw ["_law_bag", "_law_many"] (spB K preDraw postDraw) := by
  refine T.F_draw.ok sc_draw (spB_len fun ds ⟨m, e, _⟩ => by rw [e]; rfl) (fun cdv A outer s H vs Q E hr h => ?_)
  refine ⟨_, (pss_cons (ps_if (PW.pt (pw_and (pt_cmpR op_eq (pe_ix (ixL K) (pv 0) pe_int (fun _ _ => rfl)) pe_int (nomark _)) (pw_and1 (pt_cmpR op_lt (pe_ix (ixL K) (pv 0) pe_int (fun _ _ => rfl)) (pe_callB (callLen K) (by rfl) T.b_len (by decide +kernel) (pa_cons (pe_ix (ixL K) (pv 0) pe_int (fun _ _ => rfl)) pa_nil)) (nomark _))))) (pss_cons (ps_set (i := 2) sc_draw.nd rfl (Or.inl rfl) (pe_ix (ixL K) (pe_ix (ixL K) (pv 0) pe_int (fun _ _ => rfl)) (pe_ix (ixL K) (pv 0) pe_int (fun _ _ => rfl)) (fun _ _ => rfl)))
      (pss_cons (ps_asg (pe_op op_add (pe_ix (ixL K) (pv 0) pe_int (fun _ _ => rfl)) pe_int) (pg_sub (pv 0) pe_int set_list))
      (pss_cons (ps_asg (pe_ifExp (pt_cmpR op_ge (pv 2) (pe_op op_pow pe_int pe_int) (nomark _)) (pv 2) pe_int) (pg_sub (pv 0) pe_int set_list))
      (pss_one (ps_asg (pe_op op_mod (pe_callTy call_int1 (by rfl) T.b_int (by decide +kernel) (pa_cons (pe_op op_add (pe_op op_add (pe_op op_mul (pe_ix (ixL K) (pv 0) pe_int (fun _ _ => rfl)) pe_int) (pe_op op_mul (pe_op op_mod (pe_callTy call_int1 (by rfl) T.b_int (by decide +kernel) (pa_cons (pv 2) pa_nil)) pe_int) pe_int)) pe_int) pa_nil)) pe_int) (pg_sub (pv 0) pe_int set_list)))))) pss_nil)
    (pss_cons (ps_if (pt_cmpR op_gt (pe_ix (ixL K) (pv 0) pe_int (fun _ _ => rfl)) pe_int (nomark _)) (pss_cons (ps_set (i := 3) sc_draw.nd rfl (Or.inl rfl) (pe_op op_mod (pe_callTy call_int1 (by rfl) T.b_int (by decide +kernel) (pa_cons (pe_ix (ixL K) (pv 0) pe_int (fun _ _ => rfl)) pa_nil)) (pv 1)))
      (pss_cons (ps_asg (pe_op op_fdiv (pe_ix (ixL K) (pv 0) pe_int (fun _ _ => rfl)) (pv 1)) (pg_sub (pv 0) pe_int set_list))
      (pss_one (ps_ret (pv 3))))) pss_nil)
    (pss_cons (ps_asg (pe_op op_add (pe_ix (ixL K) (pv 0) pe_int (fun _ _ => rfl)) pe_int) (pg_sub (pv 0) pe_int set_list))
    (pss_cons (ps_set (i := 4) sc_draw.nd rfl (Or.inl rfl) (pe_ix (ixL K) (pv 0) pe_int (fun _ _ => rfl)))
    (pss_cons (ps_asg (pe_op op_mod (pe_callTy call_int1 (by rfl) T.b_int (by decide +kernel) (pa_cons (pe_op op_add (pe_op op_add (pe_op op_add (pe_op op_mul (pv 4) (pv 4)) (pe_op op_mul pe_int (pv 4))) (pe_op op_mul pe_int (pe_ix (ixL K) (pv 0) pe_int (fun _ _ => rfl)))) pe_int) pa_nil)) pe_int) (pg_sub (pv 0) pe_int set_list))
    (pss_one (ps_ret (pe_op op_mod (pe_callTy call_int1 (by rfl) T.b_int (by decide +kernel) (pa_cons (pe_op op_add (pe_op op_add (pe_op op_fdiv (pe_ix (ixL K) (pv 0) pe_int (fun _ _ => rfl)) pe_int) (pe_op op_mul (pv 4) pe_int)) (pe_ix (ixL K) (pv 0) pe_int (fun _ _ => rfl))) pa_nil)) (pv 1))))))))), ?_⟩
  obtain ⟨M, b, c, ws, ds, rfl, al, mb, ba, r, ⟨m, rfl, m0, m1⟩, q⟩ := h
  cases r with
  | cons r1 r2 =>
  cases r1
  cases r2
  obtain ⟨ns, i, z, sd, t, hb, nc, hc, hi, hn, z0, s0, s1, t0⟩ := ba
  -- what is behind the first if
  refine seq_cut fun G hG => ?_
  have rest : ∀ (x : Option V) (H1 : Hp) (i' : Nat) (z' s' : Int), H1 b = some (.lst [.ref c, .int (i' : Nat), .int z', .int s', .int t]) → (∀ a, a ≠ b → H1 a = H a) → i' ≤ ns.length → 0 ≤ z' → 0 ≤ s' → s' < 2147483587 → G [some (.ref b), some (.int m), x, none, none] H1 := by
    subst hG
    intro x H1 i' z' s' hb1 hk hi' z0' s0' s1'
    have hfin : ∀ (H2 : Hp) (z2 s2 t2 r : Int), H2 b = some (.lst [.ref c, .int (i' : Nat), .int z2, .int s2, .int t2]) → (∀ a, a ≠ b → H2 a = H a) → 0 ≤ z2 → 0 ≤ s2 → s2 < 2147483587 → 0 ≤ t2 → 0 ≤ r → r < m → Q (.int r) H2 := by
      intro H2 z2 s2 t2 r hb2 hk2 a1 a2 a3 a4 a5 a6
      refine q (.int r) (.int r) H2 ⟨m, r, rfl, rfl, a5, a6⟩ (fun a o n h => ?_) ⟨ns, i', z2, s2, t2, hb2, nc, by rw [hk2 c nc]; exact hc, hi', hn, a1, a2, a3, a4⟩ (.int r)
      rw [hk2 a fun e => n (by rw [e])]
      exact h
    refine bag_ix (k := 2) rfl hb1 rfl ⟨_, _, rfl, rfl, _, rfl, ?_⟩
    refine ite2 (fun hz => ?_) (fun hz => ?_)
    · have hz' : 0 < z' := of_decide_eq_true hz
      refine bag_ix rfl hb1 rfl (.inl ⟨_, rfl, _, rfl, _, _, rfl, rfl, m0, ?_⟩)
      refine bag_ix rfl hb1 rfl ⟨_, rfl, _, _, rfl, rfl, ⟨m0, m1⟩, ?_⟩
      refine bag_set rfl hb1 rfl ?_
      refine ⟨_, rfl, ?_⟩
      refine hfin _ (z' / m) s' t (z' % m) upd_same (fun a n => by rw [upd_ne n]; exact hk a n) (Int.ediv_nonneg z0' (Int.le_of_lt m0)) s0' s1' t0 (Int.emod_nonneg _ (Int.ne_of_gt m0)) (Int.emod_lt_of_pos _ m0)
    · refine bag_ix rfl hb1 rfl ⟨_, _, rfl, rfl, ?_⟩
      refine bag_set rfl hb1 rfl ?_
      refine bag_ix rfl upd_same rfl ?_
      refine ⟨_, rfl, _, rfl, _, _, rfl, rfl, .inl ⟨by omega, by omega⟩, ?_⟩
      refine ⟨_, rfl, _, _, rfl, rfl, .inl ⟨by decide, by decide⟩, _, _, rfl, rfl, ?_⟩
      refine bag_ix rfl upd_same rfl ⟨_, _, rfl, rfl, .inl ⟨by decide, by decide⟩, _, _, rfl, rfl, ?_⟩
      refine ⟨_, _, rfl, rfl, .inl ⟨_, rfl, _, _, rfl, rfl, pm1, ?_⟩⟩
      refine bag_set rfl upd_same rfl ?_
      refine bag_ix rfl upd_same rfl ⟨_, _, rfl, rfl, ⟨by decide, by decide⟩, ?_⟩
      refine ⟨_, rfl, _, _, rfl, rfl, .inr ⟨by decide, by decide⟩, _, _, rfl, rfl, ?_⟩
      refine bag_ix rfl upd_same rfl ⟨_, _, rfl, rfl, .inl ⟨_, rfl, _, rfl, _, _, rfl, rfl, m0, ?_⟩⟩
      refine hfin _ z' _ (t + 1) _ upd_same (fun a n => by rw [upd_ne n, upd_ne n]; exact hk a n) z0' (Int.emod_nonneg _ (by decide)) (Int.emod_lt_of_pos _ pm1) (by omega) (Int.emod_nonneg _ (Int.ne_of_gt m0)) (Int.emod_lt_of_pos _ m0)
  refine bag_ix rfl hb rfl ⟨rfl, _, rfl, ?_⟩
  refine ite2 (fun hz => ?_) (fun hz => ?_)
  · refine bag_ix rfl hb rfl ?_
    refine bag_ix rfl hb rfl ⟨_, ns.length, rfl, .inl ⟨_, SqL.of hc, by rw [List.length_map]⟩, _, _, rfl, rfl, _, rfl, ?_⟩
    refine ite2 (fun hl => ?_) (fun hl => rest none H i z sd hb (fun a _ => rfl) hi z0 s0 s1)
    have hl' : i < ns.length := by
      have := of_decide_eq_true hl
      omega
    have hat : atI (ns.map V.int) (i : Int) = some (.int (ns[i])) := atI_nat (by simp [hl'])
    refine bag_ix rfl hb rfl ?_
    refine bag_ix rfl hb rfl ⟨_, _, _, _, rfl, rfl, SqL.of hc, hat, ?_⟩
    generalize ns[i] = cell
    refine bag_ix rfl hb rfl ⟨_, _, rfl, rfl, ?_⟩
    refine bag_set rfl hb rfl ?_
    dsimp only
    refine seq_in ?_
    refine asg_cut fun G2 hG2 => ?_
    have go : ∀ zz : Int, 0 ≤ zz → G2 (.int zz) (upd H b (.lst [.ref c, .int ((i : Int) + 1), .int z, .int sd, .int t])) := by
      subst hG2
      intro zz hzz
      refine bag_set rfl upd_same rfl ?_
      refine bag_ix rfl upd_same rfl ⟨_, _, rfl, rfl, .inr ⟨by decide, by decide⟩, ?_⟩
      refine ⟨_, rfl, .inl ⟨_, rfl, _, _, rfl, rfl, pm2, _, _, rfl, rfl, .inr ⟨by decide, by decide⟩, _, _, rfl, rfl, _, _, rfl, rfl, .inl ⟨_, rfl, _, _, rfl, rfl, pm1, ?_⟩⟩⟩
      refine bag_set rfl upd_same rfl ?_
      exact rest _ _ (i + 1) zz _ upd_same (fun a n => by rw [upd_ne n, upd_ne n, upd_ne n]) hl' hzz (Int.emod_nonneg _ (by decide)) (Int.emod_lt_of_pos _ pm1)
    refine ⟨_, rfl, _, _, rfl, rfl, ⟨by decide, by decide, by decide⟩, _, _, rfl, rfl, _, rfl, ?_⟩
    refine ite2 (fun hz => ?_) (fun hz => ?_)
    · refine ⟨_, rfl, ?_⟩
      refine go cell ?_
      have : (10 : Int) ^ Int.toNat 18 ≤ cell := of_decide_eq_true hz
      exact Int.le_trans (by decide) this
    · exact go 0 (Int.le_refl _)
  · exact rest none H i z sd hb (fun a _ => rfl) hi z0 s0 s1
local macro_rules | `(tactic| walk_at "ev") => `(tactic| first
  | ((with_reducible refine' ev_var ?h ?_); (case h => rfl))
  | with_reducible refine ev_int ?_
  | with_reducible refine ev_bl ?_
  | with_reducible refine ev_str ?_
  | with_reducible refine ev_non ?_
  | with_reducible refine ev_ty ?_
  | with_reducible refine ev_op ?_
  | with_reducible refine ev_un ?_
  | with_reducible refine ev_chain ?_
  | with_reducible refine ev_if ?_
  | with_reducible refine ev_and ?_
  | with_reducible refine ev_or ?_
  | with_reducible refine ev_not ?_
  | with_reducible refine ev_lst ?_
  | with_reducible refine ev_tup ?_
  | with_reducible refine ea_nil ?_
  | with_reducible refine ea_cons ?_
  | with_reducible refine ev_cb ?_
  | with_reducible refine et_test ?_
  | with_reducible refine et_B ?_
  | with_reducible refine et_and ?_
  | with_reducible refine et_or ?_
  | with_reducible refine et_not ?_
  | with_reducible refine et_yes ?_
  | with_reducible refine eo_none ?_
  | with_reducible refine eo_some ?_
  | with_reducible refine ev_slS ?_
  | with_reducible refine od_int ?_
  | with_reducible refine od_bl ?_
  | with_reducible refine od_eq_int ?_
  | with_reducible refine od_ne_int ?_
  | with_reducible refine od_eq_bl ?_
  | with_reducible refine od_ne_bl ?_
  | with_reducible refine od_eq_str ?_
  | with_reducible refine od_ne_str ?_
  | with_reducible refine od_leS ?_
  | with_reducible refine ud_isN ?_
  | with_reducible refine ud_notN ?_
  | with_reducible refine do_seq ?_
  | with_reducible refine do_set ?_
  | with_reducible refine do_ret ?_
  | with_reducible refine do_retN ?_
  | with_reducible refine do_if ?_
  | with_reducible refine do_next ?_
  | with_reducible refine tg_name ?_
  | with_reducible refine tgs_nil ?_
  | with_reducible refine tgs_cons ?_)
/-! ### one of some things -/
def atD (x : D) (i : Int) : Option D := match x with
  | .lst xs => atI xs i | .tup xs => atI xs i | .str z => (atI z.cps.toList i).map fun c => .str ⟨#[c]⟩ | _ => none
theorem od_ix {K : PySem.W.Frag} {P : D → Prop} {x d : D} {i : Int} (hz : ∀ z, x = .str z → z.length ≤ 100000) (h : atD x i = some d) (p : P d) : OpD K (rIx K) x (.int i) P := fun M H v w Q al r1 r2 q => by
  cases x with
  | lst xs => exact .inl (od_ixL h p M H v w Q al r1 r2 q)
  | tup xs => exact .inr (.inl (od_ixT h p M H v w Q al r1 r2 q))
  | str z =>
    cases e : atI z.cps.toList i with
    | none =>
      have h' : (atI z.cps.toList i).map (fun c => D.str ⟨#[c]⟩) = some d := h
      rw [e] at h'
      cases h'
    | some c =>
      have h' : (atI z.cps.toList i).map (fun c => D.str ⟨#[c]⟩) = some d := h
      rw [e] at h'
      cases h'
      exact .inr (.inr (od_ixS (hz z rfl) e p M H v w Q al r1 r2 q))
  | _ => cases h
theorem atD_some {x : D} {n : Nat} {i : Int} (h : lenD x = some n) (h0 : 0 ≤ i) (h1 : i < n) : ∃ d, atD x i = some d := by
  cases x with
  | lst xs =>
    cases h
    exact ⟨_, atI_nat' h0 (by omega)⟩
  | tup xs =>
    cases h
    exact ⟨_, atI_nat' h0 (by omega)⟩
  | str z =>
    cases h
    have h2 : i.toNat < z.cps.toList.length := by
      have : z.cps.toList.length = z.length := by simp [Str.length]
      omega
    refine ⟨.str ⟨#[z.cps.toList[i.toNat]]⟩, ?_⟩
    show (atI z.cps.toList i).map _ = some _
    rw [atI_nat' h0 h2]
    rfl
  | _ => cases h
def preOf : List D → Prop := fun ds => ∃ x n, ds = [x] ∧ lenD x = some n ∧ 0 < n ∧ n ≤ 100000
def postOf : List D → D → Prop := fun ds d => ∃ x n i, ds = [x] ∧ lenD x = some n ∧ 0 ≤ i ∧ i < (n : Int) ∧ atD x i = some d
theorem ok_of {P : Program} {w : World} {K : PySem.W.Frag} {mg : Str → Option Value} {base : Heap} (T : Txt K mg) : FnOk P w K mg base CX0 4 T.f_of T.fd_of ["_law_bag", "_law_things"] (spB K preOf postOf) := by
  refine T.F_of.ok sc_of (spB_len fun ds ⟨x, n, e, _⟩ => by rw [e]; rfl) (fun cdv A outer s H vs Q E hr h => ?_)
  refine ⟨_, (pss_one (ps_ret (pe_ix (ixA K) (pv 1) (pe_call (ok_draw T) (hr.mono (by decide)) rfl T.g_draw T.k_draw T.bd_draw .nil pass0 (pa_cons (pv 0) (pa_cons (pe_callB (callLen K) (by rfl) T.b_len (by decide +kernel) (pa_cons (pv 1) pa_nil)) pa_nil))) (fun _ _ => rfl)))), ?_⟩
  refine enterB h fun M b c ds pre _ => ?_
  obtain ⟨x, n, rfl, hl, n0, n1⟩ := pre
  refine do_ret ?_
  refine ev_op ?_
  refine ev_var rfl ?_
  refine ev_callB rfl rfl ?_
  refine ea_cons (ev_cb (ea_cons (ev_var rfl (ea_nil (cd_lenK hl n1 ?_)))))
  refine ea_nil ⟨⟨n, rfl, by omega, by omega⟩, fun d hd => ?_⟩
  obtain ⟨m, r, e, rfl, r0, r1⟩ := hd
  cases e
  obtain ⟨d, hd⟩ := atD_some hl r0 r1
  refine od_ix (fun z e => ?_) hd ⟨x, n, r, rfl, hl, r0, r1, hd⟩
  subst e
  cases hl
  exact n1

/-! ### equal and of the same kinds -/
mutual
def likeD : D → D → Bool
  | .lst xs, .lst ys => likeL xs ys
  | .tup xs, .tup ys => likeL xs ys
  | .non, .non => true
  | .bl a, .bl b => a == b
  | .int a, .int b => a == b
  | .str a, .str b => decide (a = b)
  | _, _ => false
def likeL : List D → List D → Bool
  | [], [] => true
  | x :: xs, y :: ys => likeD x y && likeL xs ys
  | _, _ => false
end
mutual
def dep : D → Nat
  | .lst xs => depL xs + 1
  | .tup xs => depL xs + 1
  | _ => 0
def depL : List D → Nat
  | [] => 0
  | x :: xs => max (dep x) (depL xs)
end
mutual
def plD : D → Bool
  | .lst xs => decide (xs.length ≤ 10000) && plL xs
  | .tup xs => decide (xs.length ≤ 10000) && plL xs
  | .non => true | .bl _ => true | .int _ => true | .str _ => true
  | _ => false
def plL : List D → Bool
  | [] => true
  | x :: xs => plD x && plL xs
end
mutual
theorem likeD_self : ∀ d : D, plD d = true → likeD d d = true
  | .lst xs, h => by
    simp only [plD, Bool.and_eq_true] at h
    simp only [likeD]
    exact likeL_self xs h.2
  | .tup xs, h => by
    simp only [plD, Bool.and_eq_true] at h
    simp only [likeD]
    exact likeL_self xs h.2
  | .non, _ => by simp only [likeD]
  | .bl _, _ => by simp only [likeD, beq_self_eq_true]
  | .int _, _ => by simp only [likeD, beq_self_eq_true]
  | .str _, _ => by simp only [likeD, decide_true]
  | .dic _, h => by simp only [plD, reduceCtorEq] at h
  | .ins _ _, h => by simp only [plD, reduceCtorEq] at h
  | .ty _, h => by simp only [plD, reduceCtorEq] at h
  | .adr _, h => by simp only [plD, reduceCtorEq] at h
  | .exc _ _, h => by simp only [plD, reduceCtorEq] at h
theorem likeL_self : ∀ ds : List D, plL ds = true → likeL ds ds = true
  | [], _ => by simp only [likeL]
  | d :: ds, h => by
    simp only [plL, Bool.and_eq_true] at h
    simp only [likeL, likeD_self d h.1, likeL_self ds h.2, Bool.and_self]
end
theorem likeL_len : ∀ {xs ys : List D}, likeL xs ys = true → xs.length = ys.length
  | [], [], _ => rfl
  | _ :: _, [], h => by simp only [likeL, reduceCtorEq] at h
  | [], _ :: _, h => by simp only [likeL, reduceCtorEq] at h
  | x :: xs, y :: ys, h => by
    simp only [likeL, Bool.and_eq_true] at h
    simp only [List.length_cons, likeL_len h.2]
theorem plL_get : ∀ {xs : List D} {i : Nat} {x : D}, plL xs = true → xs[i]? = some x → plD x = true
  | [], _, _, _, h => by simp at h
  | y :: ys, 0, x, h, e => by
    simp only [plL, Bool.and_eq_true] at h
    simp at e
    subst e
    exact h.1
  | y :: ys, i + 1, x, h, e => by
    simp only [plL, Bool.and_eq_true] at h
    exact plL_get (i := i) h.2 (by simpa using e)
theorem depL_get : ∀ {xs : List D} {i : Nat} {x : D}, xs[i]? = some x → dep x ≤ depL xs
  | [], _, _, h => by simp at h
  | y :: ys, 0, x, e => by
    simp at e
    subst e
    simp only [depL]
    omega
  | y :: ys, i + 1, x, e => by
    have := depL_get (xs := ys) (i := i) (x := x) (by simpa using e)
    simp only [depL]
    omega
theorem likeL_zip : ∀ {xs ys : List D}, xs.length = ys.length → likeL xs ys = ((xs.zip ys).map fun p => likeD p.1 p.2).all id
  | [], [], _ => by simp [likeL]
  | _ :: _, [], h => by simp at h
  | [], _ :: _, h => by simp at h
  | x :: xs, y :: ys, h => by
    simp only [likeL, List.zip_cons_cons, List.map_cons, List.all_cons, id]
    rw [likeL_zip (by simpa using h)]
def preLike (n : Nat) : List D → Prop := fun ds => ∃ x y, ds = [x, y] ∧ plD x = true ∧ plD y = true ∧ dep y ≤ n
def postLike : List D → D → Prop := fun ds d => ∃ x y, ds = [x, y] ∧ d = .bl (likeD x y)
theorem ty_of {d : D} (h : plD d = true) : ∃ a, tyName d = some a := by
  cases d <;> first | exact ⟨_, rfl⟩ | (simp only [plD, reduceCtorEq] at h)
/-- isinstance(x, (list, tuple)), the pair made on the way -/
theorem ev_isiT {F : Fm} {δ : List SD} {te : TE} {ta : TA} {P : D → Prop} (h : Ev F te δ fun x => EvA F ta δ fun cs => cs = [.ty "list", .ty "tuple"] ∧ ∃ a, tyName x = some a ∧ P (.bl (isTy a "list" || isTy a "tuple"))) :
    Ev F (tCB (rIsiT F.K) (tCons te (tCons (tTup ta) tNil))) δ P := fun M σ H Q c q => by
  refine h M σ H _ c fun v x H1 p1 c1 e1 r1 => ?_
  refine p1 M σ H1 _ c1 fun vs cs H2 p2 c2 e2 r2 => ?_
  obtain ⟨rfl, a, ha, p⟩ := p2
  cases r2 with
  | cons q1 r3 =>
  cases r3 with
  | cons q2 r4 =>
  cases r4
  cases q1
  cases q2
  refine ⟨sz_of (by decide), fun T hT => ?_⟩
  have s := same_new (o := HO.tup [V.ty "list", V.ty "tuple"]) hT
  have tx : TyX F.K (upd H2 T (.tup [V.ty "list", V.ty "tuple"])) v (.type a) := tyX_of ((r1.mono (hd_step c1 e2)).mono ((same_hd M H2).trans s)) ha
  refine ⟨v, T, _, .type a, [.type "list", .type "tuple"], isTy a "list" || isTy a "tuple", rfl, upd_same, .cons (.ty _) (.cons (.ty _) .nil), tx, ?_, q _ _ _ p (c2.same s) ((e1.trans e2).trans (StepB.of s)) (.bl _)⟩
  have hm := tyName_mem ha
  refine kitAny_cons (kit_ty (kit_isTy hm (by decide))) (fun h1 => ?_) (fun h1 => by rw [h1]; rfl)
  rw [h1, Bool.false_or]
  refine kitAny_cons (kit_ty (kit_isTy hm (by decide))) (fun h2 => ?_) (fun h2 => h2)
  rw [h2]
  exact kitAny_nil

def preL : Nat → List D → Prop
  | 0 => fun _ => False
  | n + 1 => preLike n
theorem isTy_of {d : D} {a : String} (h : tyName d = some a) (n : String) : isTy a n = isD d n := by unfold isD; rw [h]
theorem pairs_get {xs ys : List D} {i : Nat} {d : D} (h : (pairs xs ys)[i]? = some d) : ∃ x y, xs[i]? = some x ∧ ys[i]? = some y ∧ d = .tup [x, y] := by
  unfold pairs at h
  rw [List.getElem?_map] at h
  cases e : (xs.zip ys)[i]? with
  | none => rw [e] at h; cases h
  | some p =>
    rw [e] at h
    obtain ⟨h1, h2⟩ := List.getElem?_zip_eq_some.mp e
    exact ⟨p.1, p.2, h1, h2, (Option.some.inj h).symm⟩
theorem ok_like_ {P : Program} {w : World} {K : PySem.W.Frag} {mg : Str → Option Value} {base : Heap} (T : Txt K mg) (n : Nat) (G : FnOk P w K mg base CX0 n T.f_like T.fd_like ["_law_found", "_law_due"] (spD K (preL n) postLike)) :
    FnOk P w K mg base CX0 (n + 1) T.f_like T.fd_like ["_law_found", "_law_due"] (spD K (preLike n) postLike) := by
  refine T.F_like.ok sc_like (spD_len fun ds ⟨x, y, e, _⟩ => by rw [e]; rfl) (fun cdv A outer s H vs Q E hr h => ?_)
  refine ⟨_, (pss_cons (ps_if (pt_val (pe_callB (callIsiT K) (by rfl) T.b_isinstance (by decide +kernel) (pa_cons (pv 1) (pa_cons (pe_tup (pa_cons (pe_bltn (v := .ty "list") (by rfl) T.b_list (by decide +kernel) rfl) (pa_cons (pe_bltn (v := .ty "tuple") (by rfl) T.b_tuple (by decide +kernel) rfl) pa_nil))) pa_nil)))) (pss_cons (ps_if (PW.pt (pw_or (pt_cmpR op_ne (pe_callB (callIsi K) (by rfl) T.b_isinstance (by decide +kernel) (pa_cons (pv 0) (pa_cons (pe_bltn (v := .ty "list") (by rfl) T.b_list (by decide +kernel) rfl) pa_nil))) (pe_callB (callIsi K) (by rfl) T.b_isinstance (by decide +kernel) (pa_cons (pv 1) (pa_cons (pe_bltn (v := .ty "list") (by rfl) T.b_list (by decide +kernel) rfl) pa_nil))) (nomark _)) (pw_or1 (pt_cmpR op_ne (pe_callB (callIsi K) (by rfl) T.b_isinstance (by decide +kernel) (pa_cons (pv 0) (pa_cons (pe_bltn (v := .ty "tuple") (by rfl) T.b_tuple (by decide +kernel) rfl) pa_nil))) (pe_callB (callIsi K) (by rfl) T.b_isinstance (by decide +kernel) (pa_cons (pv 1) (pa_cons (pe_bltn (v := .ty "tuple") (by rfl) T.b_tuple (by decide +kernel) rfl) pa_nil))) (nomark _))))) (pss_one (ps_ret pe_bl)) pss_nil)
      (pss_one (ps_ret (pe_and (pe_cmpR op_eq (pe_callB (callLen K) (by rfl) T.b_len (by decide +kernel) (pa_cons (pv 0) pa_nil)) (pe_callB (callLen K) (by rfl) T.b_len (by decide +kernel) (pa_cons (pv 1) pa_nil)) (nomark _)) (pe_one (pe_callB (callAll K) (by rfl) T.b_all (by decide +kernel) (pa_cons (pe_lc (own := [("_law_one", 2), ("_law_other", 3)]) rfl sc_like.nd (pi_zipA (by rfl) T.b_zip (pa_cons (pv 0) (pa_cons (pv 1) pa_nil))) (blkOk_by (N := N_like) (sc := defScope s_like) (by decide +kernel)) (fun _ _ _ _ _ => (pgTup K (n := 2) rfl (pgs_cons (pg_name (i := 2) sc_like.nd rfl (Or.inl rfl)) (pgs_cons (pg_name (i := 3) sc_like.nd rfl (Or.inl rfl)) pgs_nil)))) (fun _ _ _ _ _ => pts_nil) (fun _ _ _ _ _ => (pe_call G hr rfl T.g_like T.k_like T.bd_like .nil pass0 (pa_cons (pv 2) (pa_cons (pv 3) pa_nil))))) pa_nil))))))) pss_nil)
    (pss_cons (ps_if (PW.pt (pw_or (pt_cmpR op_isN (pv 1) pe_non (nomark _)) (pw_or1 (pt_cmpR op_isN (pv 0) pe_non (nomark _))))) (pss_one (ps_ret (pe_and (pe_cmpR op_isN (pv 1) pe_non (nomark _)) (pe_one (pe_cmpR op_isN (pv 0) pe_non (nomark _)))))) pss_nil)
    (pss_cons (ps_if (PW.pt (pw_or (pt_cmpR op_ne (pe_callB (callIsi K) (by rfl) T.b_isinstance (by decide +kernel) (pa_cons (pv 0) (pa_cons (pe_bltn (v := .ty "bool") (by rfl) T.b_bool (by decide +kernel) rfl) pa_nil))) (pe_callB (callIsi K) (by rfl) T.b_isinstance (by decide +kernel) (pa_cons (pv 1) (pa_cons (pe_bltn (v := .ty "bool") (by rfl) T.b_bool (by decide +kernel) rfl) pa_nil))) (nomark _)) (pw_or1 (pt_cmpR op_ne (pe_callB (callIsi K) (by rfl) T.b_isinstance (by decide +kernel) (pa_cons (pv 0) (pa_cons (pe_bltn (v := .ty "int") (by rfl) T.b_int (by decide +kernel) rfl) pa_nil))) (pe_callB (callIsi K) (by rfl) T.b_isinstance (by decide +kernel) (pa_cons (pv 1) (pa_cons (pe_bltn (v := .ty "int") (by rfl) T.b_int (by decide +kernel) rfl) pa_nil))) (nomark _))))) (pss_one (ps_ret pe_bl)) pss_nil)
    (pss_one (ps_ret (pe_and (pe_cmpR op_eq (pe_callB (callIsi K) (by rfl) T.b_isinstance (by decide +kernel) (pa_cons (pv 0) (pa_cons (pe_bltn (v := .ty "str") (by rfl) T.b_str (by decide +kernel) rfl) pa_nil))) (pe_callB (callIsi K) (by rfl) T.b_isinstance (by decide +kernel) (pa_cons (pv 1) (pa_cons (pe_bltn (v := .ty "str") (by rfl) T.b_str (by decide +kernel) rfl) pa_nil))) (nomark _)) (pe_one (pe_cmpR op_eq (pv 0) (pv 1) (nomark _))))))))), ?_⟩
  refine enterD h fun M ds pre _ => ?_
  obtain ⟨x, y, rfl, px, py, hd⟩ := pre
  obtain ⟨a, ha⟩ := ty_of px
  obtain ⟨b, hb⟩ := ty_of py
  have isx : ∀ {n : String} {P : D → Prop}, n ∈ tyAsk → P (.bl (isD x n)) → CallD K (rIsi K) [x, .ty n] P := fun hn p => cd_isi ha hn p
  have isy : ∀ {n : String} {P : D → Prop}, n ∈ tyAsk → P (.bl (isD y n)) → CallD K (rIsi K) [y, .ty n] P := fun hn p => cd_isi hb hn p
  refine do_seq (do_if (et_B (ev_isiT (ev_var rfl ?_))))
  refine ea_cons (ev_ty (ea_cons (ev_ty (ea_nil ⟨rfl, b, hb, _, rfl, fun hl => ?_, fun hl => ?_⟩))))
  · -- a list or a tuple is due
    have hdy : isD y "list" = true ∨ isD y "tuple" = true := by
      rw [isTy_of hb, isTy_of hb, Bool.or_eq_true] at hl
      exact hl
    refine do_seq (do_if (et_or (et_test ?_)))
    repeat (first | walk_at "ev" | refine isx (by decide) ?_ | refine isy (by decide) ?_)
    refine ⟨_, rfl, fun h1 => et_test ?_, fun h1 => ⟨fun _ => ?_, fun h => nomatch h⟩⟩
    · repeat (first | walk_at "ev" | refine isx (by decide) ?_ | refine isy (by decide) ?_)
      refine ⟨_, rfl, fun h2 => ?_, fun h2 => ?_⟩
      · refine do_ret (ev_bl ⟨x, y, rfl, ?_⟩)
        cases x <;> cases y <;> first | rfl | (simp [isD, tyName, isTy] at h1 h2 hdy)
      · refine do_next ?_
        obtain ⟨xs, ys, hxy⟩ : ∃ xs ys, (x = .lst xs ∧ y = .lst ys) ∨ (x = .tup xs ∧ y = .tup ys) := by
          cases x <;> cases y <;> first | exact ⟨_, _, .inl ⟨rfl, rfl⟩⟩ | exact ⟨_, _, .inr ⟨rfl, rfl⟩⟩ | (simp [isD, tyName, isTy] at h1 h2 hdy)
        have hlx : lenD x = some xs.length := by rcases hxy with ⟨rfl, _⟩ | ⟨rfl, _⟩ <;> rfl
        have hly : lenD y = some ys.length := by rcases hxy with ⟨_, rfl⟩ | ⟨_, rfl⟩ <;> rfl
        have pxs : xs.length ≤ 10000 ∧ plL xs = true := by
          rcases hxy with ⟨rfl, _⟩ | ⟨rfl, _⟩ <;> (simp only [plD, Bool.and_eq_true, decide_eq_true_eq] at px; exact px)
        have pys : ys.length ≤ 10000 ∧ plL ys = true := by
          rcases hxy with ⟨_, rfl⟩ | ⟨_, rfl⟩ <;> (simp only [plD, Bool.and_eq_true, decide_eq_true_eq] at py; exact py)
        have hdl : depL ys + 1 ≤ n := by
          rcases hxy with ⟨_, rfl⟩ | ⟨_, rfl⟩ <;> (simp only [dep] at hd; exact hd)
        have hlk : likeD x y = likeL xs ys := by rcases hxy with ⟨rfl, rfl⟩ | ⟨rfl, rfl⟩ <;> simp only [likeD]
        obtain ⟨k, rfl⟩ : ∃ k, n = k + 1 := ⟨n - 1, by omega⟩
        refine do_ret ?_
        repeat (first | walk_at "ev" | refine cd_lenK hlx (by omega) ?_ | refine cd_lenK hly (by omega) ?_)
        refine ⟨_, rfl, fun h3 => ?_, fun h3 => ⟨x, y, rfl, ?_⟩⟩
        · have hxl : xs.length = ys.length := by
            have := of_decide_eq_true h3
            omega
          refine ev_cb (ea_cons (EvN.ev ?_))
          refine en_lc (js := [2, 3]) (PX := fun l => l = pairs xs ys) (it_zipA ?_) (fun l e => ?_) (by decide) (fun l i acc => acc = (((xs.zip ys).take i).map fun p => D.bl (likeD p.1 p.2))) (fun l e => rfl) ?_ ?_
          · refine ea_cons (ev_var rfl (ea_cons (ev_var rfl (ea_nil ⟨xs, ys, ?_, rfl⟩))))
            rcases hxy with ⟨rfl, rfl⟩ | ⟨rfl, rfl⟩
            · exact .inl rfl
            · exact .inr rfl
          · subst e
            unfold pairs
            rw [List.length_map, List.length_zip]
            omega
          · rintro l i d acc rfl hi rfl
            obtain ⟨u, v, hu, hv, rfl⟩ := pairs_get hi
            refine tg_tup rfl ?_
            refine tgs_cons (tg_name (tgs_cons (tg_name (tgs_nil ?_))))
            refine et_yes ⟨fun _ => ?_, fun h => nomatch h⟩
            refine ev_call ?_
            refine ea_cons (ev_var rfl (ea_cons (ev_var rfl (ea_nil ⟨⟨u, v, rfl, plL_get pxs.2 hu, plL_get pys.2 hv, ?_⟩, fun d hd => ?_⟩))))
            · have := depL_get hv
              omega
            · obtain ⟨u', v', e, rfl⟩ := hd
              cases e
              have hz : (xs.zip ys)[i]? = some (u, v) := List.getElem?_zip_eq_some.mpr ⟨hu, hv⟩
              rw [List.take_succ, hz]
              simp
          · rintro l ds rfl rfl
            have hfull : ((xs.zip ys).take (pairs xs ys).length) = xs.zip ys := by
              unfold pairs
              rw [List.length_map, List.take_length]
            rw [hfull]
            have : ((xs.zip ys).map fun p => D.bl (likeD p.1 p.2)) = blD ((xs.zip ys).map fun p => likeD p.1 p.2) := by unfold blD; rw [List.map_map]; rfl
            rw [this]
            refine ea_nil (cd_all ⟨x, y, rfl, ?_⟩)
            rw [hlk, likeL_zip hxl]
        · have : likeL xs ys = false := by
            cases e : likeL xs ys with
            | false => rfl
            | true =>
              have := likeL_len e
              rw [this] at h3
              simp at h3
          rw [hlk, this]
    · refine do_ret (ev_bl ⟨x, y, rfl, ?_⟩)
      cases x <;> cases y <;> first | rfl | (simp [isD, tyName, isTy] at h1 hdy)
  · -- a scalar is due
    refine do_next ?_
    have hny : isD y "list" = false ∧ isD y "tuple" = false := by
      rw [isTy_of hb, isTy_of hb, Bool.or_eq_false_iff] at hl
      exact hl
    refine do_seq (do_if (et_or (et_test ?_)))
    repeat walk_at "ev"
    refine ⟨_, rfl, fun h1 => et_test ?_, fun h1 => ⟨fun _ => ?_, fun h => nomatch h⟩⟩
    · repeat walk_at "ev"
      refine ⟨_, rfl, fun h2 => ?_, fun h2 => ?_⟩
      · refine do_ret ?_
        repeat walk_at "ev"
        refine ⟨_, rfl, fun h3 => ?_, fun _ => ⟨x, y, rfl, ?_⟩⟩
        · rw [h1] at h3
          cases h3
        · cases x <;> cases y <;> first | rfl | (simp [isNon, isD, tyName, isTy] at h1 h2 hny)
      · refine do_next ?_
        refine do_seq (do_if (et_or (et_test ?_)))
        repeat (first | walk_at "ev" | refine isx (by decide) ?_ | refine isy (by decide) ?_)
        refine ⟨_, rfl, fun h3 => et_test ?_, fun h3 => ⟨fun _ => ?_, fun h => nomatch h⟩⟩
        · repeat (first | walk_at "ev" | refine isx (by decide) ?_ | refine isy (by decide) ?_)
          refine ⟨_, rfl, fun h4 => ?_, fun h4 => ?_⟩
          · refine do_ret (ev_bl ⟨x, y, rfl, ?_⟩)
            cases x <;> cases y <;> first | rfl | (simp [isNon, isD, tyName, isTy] at h1 h2 h3 h4 hny)
          · refine do_next (do_ret ?_)
            refine ev_and ?_
            repeat (first | walk_at "ev" | refine isx (by decide) ?_ | refine isy (by decide) ?_)
            refine ⟨_, rfl, fun h5 => ?_, fun h5 => ⟨x, y, rfl, ?_⟩⟩
            · refine ev_op (ev_var rfl (ev_var rfl ?_))
              cases x <;> cases y <;> first
                | (simp [isNon, isD, tyName, isTy] at h1 h2 h3 h4 h5 hny; done)
                | exact od_eq_bl ⟨_, _, rfl, by simp only [likeD, Bool.beq_eq_decide_eq]⟩
                | exact od_eq_int ⟨_, _, rfl, by simp only [likeD, Bool.beq_eq_decide_eq]⟩
                | exact od_eq_str ⟨_, _, rfl, by simp only [likeD]⟩
                | (simp [plD] at px; done)
                | (simp [plD] at py; done)
            · cases x <;> cases y <;> first | rfl | (simp [isNon, isD, tyName, isTy] at h1 h2 h3 h4 h5 hny)
        · refine do_ret (ev_bl ⟨x, y, rfl, ?_⟩)
          cases x <;> cases y <;> first | rfl | (simp [isNon, isD, tyName, isTy] at h1 h2 h3 hny)
    · refine do_ret ?_
      repeat walk_at "ev"
      refine ⟨_, rfl, fun h3 => ?_, fun h3 => ⟨x, y, rfl, ?_⟩⟩
      · repeat walk_at "ev"
        refine ⟨x, y, rfl, ?_⟩
        cases x <;> cases y <;> first | rfl | (simp [isNon] at h1)
      · rw [h1] at h3
        cases h3
theorem ok_like {P : Program} {w : World} {K : PySem.W.Frag} {mg : Str → Option Value} {base : Heap} (T : Txt K mg) : ∀ n, FnOk P w K mg base CX0 (n + 1) T.f_like T.fd_like ["_law_found", "_law_due"] (spD K (preLike n) postLike) := by
  intro n
  induction n with
  | zero => exact ok_like_ T 0 ⟨fun vs H Q E ⟨_, _, _, _, p, _⟩ => p.elim, fun A outer s H args us vs Q E _ _ _ _ ⟨_, _, _, _, p, _⟩ => p.elim⟩
  | succ n ih => exact ok_like_ T (n + 1) ih
/-! ### the bag is made -/
def spOpen (K : PySem.W.Frag) : Sp := fun vs H Q _ => ∃ (a : Addr) (ns : List Int), vs = [.ref a] ∧ SqL K H a (ns.map V.int) ∧ ns.length ≤ 63 ∧ ∀ b c H', H b = none → Same H H' → BagAt H' b c → Q (.ref b) H'
theorem cut63 {ns : List Int} (h : ns.length ≤ 63) : cutV (ns.map V.int) none (some 63) = ns.map V.int := by
  unfold cutV
  have e1 : HT.sIx (ns.map V.int).length 0 none = 0 := rfl
  have e2 : HT.sIx (ns.map V.int).length (ns.map V.int).length (some 63) = ns.length := by
    rw [List.length_map]
    have := HT.sIx_nat ns.length ns.length 63
    rw [show ((63 : Nat) : Int) = 63 from rfl] at this
    rw [this]
    omega
  rw [e1, e2, List.drop_zero, Nat.sub_zero]
  exact List.take_of_length_le (by rw [List.length_map]; exact Nat.le_refl _)
theorem ok_open {P : Program} {w : World} {K : PySem.W.Frag} {mg : Str → Option Value} {base : Heap} (T : Txt K mg) : FnOk P w K mg base CX0 2 T.f_open T.fd_open ["_law_script"] (spOpen K) := by
  refine T.F_open.ok sc_open (fun vs H Q E h => ?_) (fun cdv A outer s H vs Q E hr h => ?_)
  · obtain ⟨a, ns, rfl, _⟩ := h
    rfl
  refine ⟨_, (pss_one (ps_ret (pe_lst (pa_cons (pe_callTy (callList K) (by rfl) T.b_list (by decide +kernel) (pa_cons (pe_slice (slL K) (pv 0) po_none (po_some pe_int)) pa_nil)) (pa_cons pe_int (pa_cons pe_int (pa_cons pe_int (pa_cons pe_int pa_nil)))))))), ?_⟩
  obtain ⟨a, ns, rfl, hs, hn, q⟩ := h
  refine ⟨_, rfl, 63, rfl, _, _, rfl, hs, fun p hp => ?_⟩
  have s1 : Same H (upd H p (.lst (cutV (ns.map V.int) none (some 63)))) := same_new hp
  refine ⟨p, _, rfl, .inl (SqL.of upd_same), fun c hc => ?_⟩
  refine ⟨sz_of (show 5 ≤ 100000 by decide), fun b hb => ?_⟩
  have hcp : c ≠ p := fun e => by
    rw [e, upd_same] at hc
    cases hc
  have hbc : c ≠ b := fun e => by
    rw [← e, upd_same] at hb
    cases hb
  refine q b c _ ?_ (fun x o h => ?_) ⟨ns, 0, 0, 100081, 0, upd_same, hbc, by rw [upd_ne hbc, upd_same, cut63 hn], Nat.zero_le _, hn, Int.le_refl _, by decide, by decide, Int.le_refl _⟩
  · cases z : H b with
    | none => rfl
    | some o =>
      have h1 : b ≠ p := ne_of_none z hp
      have h2 : (upd H p (.lst (cutV (ns.map V.int) none (some 63)))) b = some o := by rw [upd_ne h1]; exact z
      have h3 : b ≠ c := ne_of_none h2 hc
      rw [upd_ne h3, h2] at hb
      cases hb
  · have h2 := s1 x o h
    have h3 : (upd (upd H p (.lst (cutV (ns.map V.int) none (some 63)))) c (.lst (cutV (ns.map V.int) none (some 63)))) x = some o := by rw [upd_ne (ne_of_none h2 hc)]; exact h2
    rw [upd_ne (ne_of_none h3 hb)]
    exact h3
/-! ### the law's own frame: the bag in slot 1, nothing else known -/
theorem lawDo {K : PySem.W.Frag} {N : List Str} {H1 : Hp} {b c : Addr} {t : TS} {Q : VK} {σ : L2.St} {δ : List SD} (ba : BagAt H1 b c) (hl : σ.length = δ.length) (h1 : σ[1]? = some (some (.ref b))) (hδ : ∀ i x, δ[i]? = some x → x = .un ∨ (i = 1 ∧ x = .bag))
    (hb : ∀ (M0 : Addr → Bool) (E : XK), Do ⟨K, some b, M0, H1, E, c, []⟩ t δ { nx := fun _ => False, rt := fun d => d = .bl true }) (q : ∀ H', Q (.bl true) H') : t { nx := fun _ H' => Q .non H', rt := Q } σ H1 := by
  have hc : ∃ o, H1 c = some o := by
    obtain ⟨ns, i, z, s, t, _, _, h3, _⟩ := ba
    exact ⟨_, h3⟩
  have al : ∀ a, decide (a = b) = true → ∃ o, H1 a = some o := fun a h => by
    have := of_decide_eq_true h
    subst this
    exact ba.at
  have cx : Ctx ⟨K, some b, fun a => decide (a = b), H1, fun _ _ _ => True, c, []⟩ (fun a => decide (a = b)) σ H1 δ := by
    refine ⟨al, al, fun _ h => h, StepB.refl _ _, ⟨fun b' z => ?_, fun a h => (nomatch h)⟩, hl, fun i x hx => ?_, fun i j p ds es h1 h2 => ?_, fun i p ds h => ?_⟩
    · cases z
      exact ⟨decide_eq_true rfl, ba, hc⟩
    · have hi : i < σ.length := by
        have := (List.getElem?_eq_some_iff.mp hx).1
        omega
      rcases hδ i x hx with rfl | ⟨rfl, rfl⟩
      · exact ⟨σ[i], by simp [hi], trivial⟩
      · exact ⟨_, h1, b, rfl, rfl⟩
    · rcases hδ i _ h1 with z | ⟨_, z⟩ <;> cases z
    · rcases hδ i _ h with z | ⟨_, z⟩ <;> cases z
  refine hb _ _ _ σ H1 _ cx (fun _ _ _ _ p => p.elim) (fun v d M' σ' H' δ' p _ _ r => ?_) (fun _ _ _ _ p => p.elim) (fun _ _ _ _ p => p.elim)
  have e : d = .bl true := p
  subst e
  cases r
  exact q H'
/-- slots forgotten ahead of what follows -/
theorem Ctx.forget1 {F : Fm} {M : Addr → Bool} {σ : L2.St} {H : Hp} {δ : List SD} (c : Ctx F M σ H δ) (i : Nat) : Ctx F M σ H (δ.set i .un) := by
  refine ⟨c.al, c.al0, c.m0, c.fr, c.bg, by rw [List.length_set, c.ln], fun j x hx => ?_, fun j k p ds es h1 h2 => ?_, fun j p ds h => ?_⟩
  · rcases set_key hx with ⟨rfl, rfl, hl⟩ | ⟨hj, hx⟩
    · exact ⟨σ[i]'(by rw [c.ln]; exact hl), by simp, trivial⟩
    · exact c.sl j x hx
  · rcases set_key h1 with ⟨_, z, _⟩ | ⟨_, h1⟩
    · cases z
    rcases set_key h2 with ⟨_, z, _⟩ | ⟨_, h2⟩
    · cases z
    exact c.dj j k p ds es h1 h2
  · rcases set_key h with ⟨_, z, _⟩ | ⟨_, h⟩
    · cases z
    exact c.oh j p ds h
theorem Ctx.forget {F : Fm} {M : Addr → Bool} {σ : L2.St} {H : Hp} {δ : List SD} (c : Ctx F M σ H δ) : ∀ js : List Nat, Ctx F M σ H (wipeD δ js)
  | [] => c
  | j :: js => (Ctx.forget c js).forget1 j
theorem do_wk {F : Fm} {t : TS} {δ : List SD} {R : PD} (js : List Nat) (h : Do F t δ { R with nx := fun δ' => R.nx (wipeD δ' js), ct := fun δ' => R.ct (wipeD δ' js), bk := fun δ' => R.bk (wipeD δ' js) }) : Do F t δ R := fun M σ H E c a b k d =>
  h M σ H E c (fun M' σ' H' δ' p c' s => a M' σ' H' _ p (c'.forget js) s) b (fun M' σ' H' δ' p c' s => k M' σ' H' _ p (c'.forget js) s) (fun M' σ' H' δ' p c' s => d M' σ' H' _ p (c'.forget js) s)
/-- x = e, then the rest: what e is first -/
theorem do_letP {F : Fm} {te : TE} {u : TS} {δ : List SD} {R : PD} {i : Nat} (P : D → Prop) (h : Ev F te δ P) (k : ∀ x, P x → Do F u (δ.set i (.dat x)) R) : Do F (tSeq (tAsg te (gName i)) u) δ R :=
  do_seq (do_set (h.imp fun x p => k x p))
theorem do_let {F : Fm} {te : TE} {u : TS} {δ : List SD} {R : PD} {i : Nat} (v : D) (h : Ev F te δ (· = v)) (k : Do F u (δ.set i (.dat v)) R) : Do F (tSeq (tAsg te (gName i)) u) δ R :=
  do_letP _ h fun x e => by rw [e]; exact k
/-- a text's method of one argument, of none -/
theorem ev_m1 {F : Fm} {δ : List SD} {to te : TE} {r : V → List V → Hp → VK → Prop} {P : D → Prop} (h : Ev F to δ fun x => ∃ z, x = .str z ∧ Ev F te δ fun y => CallD F.K (fun vs H Q => ∃ u v, vs = [u, v] ∧ r u [v] H Q) [.str z, y] P) : Ev F (tM1 r to te) δ P := fun M σ H Q c q =>
  h M σ H _ c fun v x H1 p1 c1 e1 r1 => by
    obtain ⟨z, rfl, p⟩ := p1
    cases r1
    refine ⟨⟨z, rfl⟩, p M σ H1 _ c1 fun w y H2 p2 c2 e2 r2 => ?_⟩
    obtain ⟨u, v, e, h⟩ := p2 M H2 [.str z, w] Q c2.al (.cons (.str z) (.cons r2 .nil)) fun u d H3 p e r3 => q u d H3 p (c2.same e) ((e1.trans e2).trans (StepB.of e)) r3
    cases e
    exact h

/-- into the law behind bag = open(script) -/
def slotsL (N : List Str) : List SD := .un :: .bag :: List.replicate (N.length - 2) .un
def spLaw (K : PySem.W.Frag) : Sp := fun vs H Q _ => ∃ (a : Addr) (ns : List Int), vs = [.ref a] ∧ SqL K H a (ns.map V.int) ∧ ns.length ≤ 63 ∧ ∀ H', Q (.bl true) H'
theorem lawIn {K : PySem.W.Frag} {N : List Str} {vs : List V} {H : Hp} {t : TS} {Q : VK} {E E' : XK} (h : spLaw K vs H Q E) (hN : 2 ≤ N.length)
    (hb : ∀ (b c : Addr) (H1 : Hp) (M0 : Addr → Bool) (E : XK), Do ⟨K, some b, M0, H1, E, c, []⟩ t (slotsL N) { nx := fun _ => False, rt := fun d => d = .bl true }) :
    tSeq (tAsg (tCall (spOpen K) [] E' (tCons (tVar 0) tNil)) (gName 1)) t { nx := fun _ H' => Q .non H', rt := Q } (L2.start N vs) H := by
  obtain ⟨a, ns, rfl, hs, hn, q⟩ := h
  have hl : (L2.start N [V.ref a]).length = N.length := by
    unfold L2.start
    rw [List.length_append, List.length_replicate, List.length_map, List.length_cons, List.length_nil]
    omega
  refine ⟨.ref a, rfl, a, ns, rfl, hs, hn, fun b c H1 hb0 s1 ba => ?_⟩
  show t { nx := fun _ H' => Q .non H', rt := Q } ((L2.start N [V.ref a]).set 1 (some (.ref b))) H1
  refine lawDo (N := N) (δ := slotsL N) ba ?_ ?_ (fun i x h => ?_) (hb b c H1) q
  · unfold slotsL
    rw [List.length_set, hl, List.length_cons, List.length_cons, List.length_replicate]
    omega
  · rw [List.getElem?_set_self (by rw [hl]; omega)]
  · unfold slotsL at h
    match i, h with
    | 0, h => exact .inl (Option.some.inj h).symm
    | 1, h => exact .inr ⟨rfl, (Option.some.inj h).symm⟩
    | i + 2, h => exact .inl (List.eq_of_mem_replicate (List.mem_of_getElem? h))
section
variable {F : Fm} {δ : List SD} {ta : TA} {P : D → Prop} {E : XK} {i : Nat} {b : Addr}
theorem ev_draw (hb : F.B = some b) (hi : δ[i]? = some .bag) (h : EvA F ta δ fun ds => ∃ m, ds = [.int m] ∧ 0 < m ∧ m < 1073741824 ∧ ∀ r, 0 ≤ r → r < m → P (.int r)) : Ev F (tCall (spB F.K preDraw postDraw) [] E (tCons (tVar i) ta)) δ P :=
  ev_callB hb hi (h.imp fun ds ⟨m, e, h0, h1, p⟩ => ⟨⟨m, e, h0, h1⟩, fun d ⟨m', r, e', e2, h2, h3⟩ => by
    subst e
    cases e'
    subst e2
    exact p r h2 h3⟩)
theorem ev_of (hb : F.B = some b) (hi : δ[i]? = some .bag) (h : EvA F ta δ fun ds => ∃ x n, ds = [x] ∧ lenD x = some n ∧ 0 < n ∧ n ≤ 100000 ∧ ∀ k d, 0 ≤ k → k < (n : Int) → atD x k = some d → P d) : Ev F (tCall (spB F.K preOf postOf) [] E (tCons (tVar i) ta)) δ P :=
  ev_callB hb hi (h.imp fun ds ⟨x, n, e, h0, h1, h2, p⟩ => ⟨⟨x, n, e, h0, h1, h2⟩, fun d ⟨x', n', k, e', e2, h3, h4, h5⟩ => by
    subst e
    cases e'
    rw [h0] at e2
    cases e2
    exact p k d h3 h4 h5⟩)
theorem atI_mem {α : Type} {xs : List α} {k : Int} {d : α} (h : atI xs k = some d) : d ∈ xs := by
  obtain ⟨j, _, h2, _⟩ := atI_get h
  exact List.mem_of_getElem? h2
/-- one of a list | of a text -/
theorem ev_ofL (hb : F.B = some b) (hi : δ[i]? = some .bag) (h : EvA F ta δ fun ds => ∃ xs, ds = [.lst xs] ∧ xs ≠ [] ∧ xs.length ≤ 100000 ∧ ∀ d ∈ xs, P d) : Ev F (tCall (spB F.K preOf postOf) [] E (tCons (tVar i) ta)) δ P :=
  ev_of hb hi (h.imp fun ds ⟨xs, e, h0, h1, p⟩ => ⟨_, xs.length, e, rfl, List.length_pos_iff.mpr h0, h1, fun k d _ _ h2 => p d (atI_mem h2)⟩)
theorem ev_ofS (hb : F.B = some b) (hi : δ[i]? = some .bag) (h : EvA F ta δ fun ds => ∃ z : Str, ds = [.str z] ∧ 0 < z.length ∧ z.length ≤ 100000 ∧ ∀ c ∈ z.cps.toList, P (.str ⟨#[c]⟩)) : Ev F (tCall (spB F.K preOf postOf) [] E (tCons (tVar i) ta)) δ P :=
  ev_of hb hi (h.imp fun ds ⟨z, e, h0, h1, p⟩ => ⟨_, z.length, e, rfl, h0, h1, fun k d _ _ h2 => by
    have h3 : (atI z.cps.toList k).map (fun c => D.str ⟨#[c]⟩) = some d := h2
    cases e2 : atI z.cps.toList k with
    | none => rw [e2] at h3; cases h3
    | some c =>
      rw [e2] at h3
      cases h3
      exact p c (atI_mem e2)⟩)
theorem ev_like {n : Nat} (h : EvA F ta δ fun ds => ∃ x y, ds = [x, y] ∧ plD x = true ∧ plD y = true ∧ dep y ≤ n ∧ P (.bl (likeD x y))) : Ev F (tCall (spD F.K (preLike n) postLike) [] E ta) δ P :=
  ev_call (h.imp fun ds ⟨x, y, e, h0, h1, h2, p⟩ => ⟨⟨x, y, e, h0, h1, h2⟩, fun d ⟨x', y', e', e2⟩ => by
    subst e
    cases e'
    subst e2
    exact p⟩)
end
/-! texts -/
def strD (zs : List Str) : List D := zs.map .str
theorem repL_str {K : PySem.W.Frag} {H : Hp} : ∀ {vs : List V} {zs : List Str}, RepL K H vs (strD zs) → vs = zs.map V.str
  | _, [], .nil => rfl
  | _, b :: bs, .cons (.str _) r => by rw [List.map_cons, repL_str (zs := bs) r]
theorem cd_join {K : PySem.W.Frag} {P : D → Prop} {a : Str} {ys : List Str} (hz : (ys.map (·.length)).sum + ys.length * a.length ≤ 16777216) (p : P (.str (Txt.join a ys))) :
    CallD K (fun vs H Q => ∃ u v, vs = [u, v] ∧ ∃ a p, ∃ ys : List Str, u = V.str a ∧ [v] = [V.ref p] ∧ (SqL K H p (ys.map V.str) ∨ SqT K H p (ys.map V.str)) ∧ (ys.map (·.length)).sum + ys.length * a.length ≤ 16777216 ∧ Q (.str (Txt.join a ys)) H) [.str a, .lst (strD ys)] P := fun M H vs Q al r q => by
  cases r with
  | cons r1 r2 =>
  cases r2 with
  | cons r2 r3 =>
  cases r3
  cases r1
  cases r2 with
  | lst h1 h2 =>
    have e := repL_str h2
    subst e
    exact ⟨_, _, rfl, a, _, ys, rfl, rfl, .inl (SqL.of (hd_of h1).2), hz, q _ _ H p (Same.refl H) (.str _)⟩
theorem joinL_nil : ∀ ls : List (List Nat), TL.joinL [] ls = ls.flatten
  | [] => rfl
  | [p] => by simp [TL.joinL]
  | p :: q :: r => by
    show p ++ ([] ++ TL.joinL [] (q :: r)) = _
    rw [joinL_nil (q :: r)]
    simp
theorem join_signs (cs : List Nat) : Txt.join (Str.ofString "") (cs.map fun c => (⟨#[c]⟩ : Str)) = ⟨cs.toArray⟩ := by
  have h : TL.tl (Txt.join (Str.ofString "") (cs.map fun c => (⟨#[c]⟩ : Str))) = cs := by
    rw [TL.join_eq, TL.tl_join]
    have e : TL.tl (Str.ofString "") = [] := by decide +kernel
    rw [e, joinL_nil, List.map_map]
    show (cs.map fun c => [c]).flatten = cs
    induction cs with
    | nil => rfl
    | cons c cs ih => rw [List.map_cons, List.flatten_cons, ih]; rfl
  have h2 : (Txt.join (Str.ofString "") (cs.map fun c => (⟨#[c]⟩ : Str))).cps.toList = cs := h
  generalize Txt.join (Str.ofString "") (cs.map fun c => (⟨#[c]⟩ : Str)) = z at h2
  obtain ⟨a⟩ := z
  have h3 : a.toList = cs := h2
  rw [← h3]
theorem sum_signs (cs : List Nat) : ((cs.map fun c => (⟨#[c]⟩ : Str)).map (·.length)).sum = cs.length := by
  induction cs with
  | nil => rfl
  | cons c cs ih =>
    rw [List.map_cons, List.map_cons, List.sum_cons, ih]
    show 1 + cs.length = cs.length + 1
    omega
theorem str_len (z : Str) : z.cps.toList.length = z.length := by simp [Str.length]
theorem add_len (a b : Str) : (a ++ b).length = a.length + b.length := by
  show (a.cps ++ b.cps).size = _
  rw [Array.size_append]
  rfl
/-! ### numbers and names -/
def isWh (x : D) : Bool := match x with
  | .int _ => true | _ => false
def isNum (x : D) (lo hi : Int) : Bool := match x with
  | .int i => decide (lo ≤ i) && decide (i ≤ hi) | _ => false
def preWh : List D → Prop := fun ds => ∃ x, ds = [x] ∧ plD x = true
def postWh : List D → D → Prop := fun ds d => ∃ x, ds = [x] ∧ d = .bl (isWh x)
theorem ok_is_whole {P : Program} {w : World} {K : PySem.W.Frag} {mg : Str → Option Value} {base : Heap} (T : Txt K mg) : FnOk P w K mg base CX0 1 T.f_is_whole T.fd_is_whole ["value"] (spD K preWh postWh) := by
  refine T.F_is_whole.ok sc_is_whole (spD_len fun ds ⟨x, e, _⟩ => by rw [e]; rfl) (fun cdv A outer s H vs Q E hr h => ?_)
  refine ⟨_, (pss_one (ps_ret (pe_and (pe_callB (callIsi K) (by rfl) T.b_isinstance (by decide +kernel) (pa_cons (pv 0) (pa_cons (pe_bltn (v := .ty "int") (by rfl) T.b_int (by decide +kernel) rfl) pa_nil))) (pe_one (pe_not (pe_callB (callIsi K) (by rfl) T.b_isinstance (by decide +kernel) (pa_cons (pv 0) (pa_cons (pe_bltn (v := .ty "bool") (by rfl) T.b_bool (by decide +kernel) rfl) pa_nil)))))))), ?_⟩
  refine enterD h fun M ds pre _ => ?_
  obtain ⟨x, rfl, px⟩ := pre
  obtain ⟨a, ha⟩ := ty_of px
  have isx : ∀ {n : String} {P : D → Prop}, n ∈ tyAsk → P (.bl (isD x n)) → CallD K (rIsi K) [x, .ty n] P := fun hn p => cd_isi ha hn p
  refine do_ret ?_
  repeat (first | walk_at "ev" | refine isx (by decide) ?_)
  refine ⟨_, rfl, fun h1 => ?_, fun h1 => ⟨x, rfl, ?_⟩⟩
  · repeat (first | walk_at "ev" | refine isx (by decide) ?_)
    refine ⟨_, rfl, ⟨x, rfl, ?_⟩⟩
    cases x <;> first | rfl | (simp [isD, tyName, isTy] at h1)
  · cases x <;> first | rfl | (simp [isD, tyName, isTy] at h1)
def preNum : List D → Prop := fun ds => ∃ x lo hi, ds = [x, .int lo, .int hi] ∧ plD x = true
def postNum : List D → D → Prop := fun ds d => ∃ x lo hi, ds = [x, .int lo, .int hi] ∧ d = .bl (isNum x lo hi)
theorem ok_is_number {P : Program} {w : World} {K : PySem.W.Frag} {mg : Str → Option Value} {base : Heap} (T : Txt K mg) : FnOk P w K mg base CX0 2 T.f_is_number T.fd_is_number ["value", "least", "most"] (spD K preNum postNum) := by
  refine T.F_is_number.ok sc_is_number (spD_len fun ds ⟨x, lo, hi, e, _⟩ => by rw [e]; rfl) (fun cdv A outer s H vs Q E hr h => ?_)
  refine ⟨_, (pss_one (ps_ret (pe_and (pe_call (ok_is_whole T) (hr.mono (by decide)) rfl T.g_is_whole T.k_is_whole T.bd_is_whole .nil pass0 (pa_cons (pv 0) pa_nil)) (pe_one (pe_chain op_le op_le (pv 1) (pv 0) (pv 2)))))), ?_⟩
  refine enterD h fun M ds pre _ => ?_
  obtain ⟨x, lo, hi, rfl, px⟩ := pre
  refine do_ret (ev_and (ev_call (ea_cons (ev_var rfl (ea_nil ⟨⟨x, rfl, px⟩, fun d hd => ?_⟩)))))
  obtain ⟨x', e', rfl⟩ := hd
  cases e'
  refine ⟨_, rfl, fun h1 => ?_, fun h1 => ⟨x, lo, hi, rfl, ?_⟩⟩
  · obtain ⟨i, rfl⟩ : ∃ i, x = .int i := by
      cases x <;> first | exact ⟨_, rfl⟩ | cases h1
    repeat walk_at "ev"
    refine ⟨_, rfl, fun h3 => ?_, fun h3 => ⟨_, lo, hi, rfl, ?_⟩⟩
    · repeat walk_at "ev"
      refine ⟨_, lo, hi, rfl, ?_⟩
      simp only [isNum, h3, Bool.true_and]
    · simp only [isNum, h3, Bool.false_and]
  · cases x <;> first | rfl | cases h1
def lower (c : Nat) : Bool := decide (97 ≤ c) && decide (c ≤ 122)
def isName (x : D) : Bool := match x with
  | .str z => decide (1 ≤ z.length) && decide (z.length ≤ 8) && z.cps.toList.all lower | _ => false
def preName : List D → Prop := fun ds => ∃ x, ds = [x] ∧ plD x = true ∧ ∀ z, x = .str z → z.length ≤ 1000
def postName : List D → D → Prop := fun ds d => ∃ x, ds = [x] ∧ d = .bl (isName x)
theorem lt_one {a b : Nat} : ([a] : List Nat) < [b] ↔ a < b := by
  constructor
  · intro h
    cases h with
    | rel h => exact h
    | cons h => cases h
  · intro h
    exact .rel h
theorem le_a {c : Nat} : (!decide (({ cps := #[c] } : Str).cps.toList < (Str.ofString "a").cps.toList)) = decide (97 ≤ c) := by
  have e : (Str.ofString "a").cps.toList = [97] := by decide +kernel
  rw [e]
  show (!decide ([c] < [97])) = _
  rw [decide_eq_decide.mpr (lt_one (a := c) (b := 97)), ← decide_not]
  exact decide_eq_decide.mpr (by omega)
theorem le_z {c : Nat} : (!decide ((Str.ofString "z").cps.toList < ({ cps := #[c] } : Str).cps.toList)) = decide (c ≤ 122) := by
  have e : (Str.ofString "z").cps.toList = [122] := by decide +kernel
  rw [e]
  show (!decide ([122] < [c])) = _
  rw [decide_eq_decide.mpr (lt_one (a := 122) (b := c)), ← decide_not]
  exact decide_eq_decide.mpr (by omega)
theorem ok_is_name {P : Program} {w : World} {K : PySem.W.Frag} {mg : Str → Option Value} {base : Heap} (T : Txt K mg) : FnOk P w K mg base CX0 2 T.f_is_name T.fd_is_name ["value"] (spD K preName postName) := by
  refine T.F_is_name.ok sc_is_name (spD_len fun ds ⟨x, e, _⟩ => by rw [e]; rfl) (fun cdv A outer s H vs Q E hr h => ?_)
  refine ⟨_, (pss_one (ps_ret (pe_and (pe_callB (callIsi K) (by rfl) T.b_isinstance (by decide +kernel) (pa_cons (pv 0) (pa_cons (pe_bltn (v := .ty "str") (by rfl) T.b_str (by decide +kernel) rfl) pa_nil))) (pe_and (pe_chain op_le op_le pe_int (pe_callB (callLen K) (by rfl) T.b_len (by decide +kernel) (pa_cons (pv 0) pa_nil)) pe_int) (pe_one (pe_callB (callAll K) (by rfl) T.b_all (by decide +kernel) (pa_cons (pe_lc (own := [("sign", 1)]) rfl sc_is_name.nd (pi_str (pv 0)) (blkOk_by (N := N_is_name) (sc := defScope s_is_name) (by decide +kernel)) (fun _ _ _ _ _ => (pg_name (i := 1) sc_is_name.nd rfl (Or.inl rfl))) (fun _ _ _ _ _ => pts_nil) (fun _ _ _ _ _ => (pe_chain op_le_str op_le_str pe_str (pv 1) pe_str))) pa_nil))))))), ?_⟩
  refine enterD h fun M ds pre _ => ?_
  obtain ⟨x, rfl, px, hz⟩ := pre
  obtain ⟨a, ha⟩ := ty_of px
  have isx : ∀ {n : String} {P : D → Prop}, n ∈ tyAsk → P (.bl (isD x n)) → CallD K (rIsi K) [x, .ty n] P := fun hn p => cd_isi ha hn p
  refine do_ret ?_
  repeat (first | walk_at "ev" | refine isx (by decide) ?_)
  refine ⟨_, rfl, fun h1 => ?_, fun h1 => ⟨x, rfl, ?_⟩⟩
  · obtain ⟨z, rfl⟩ : ∃ z, x = .str z := by
      cases x <;> first | exact ⟨_, rfl⟩ | (simp [isD, tyName, isTy] at h1)
    have hl := hz z rfl
    repeat (first | walk_at "ev" | refine cd_lenK (k := z.length) rfl (by omega) ?_)
    refine ⟨_, rfl, fun h2 => ?_, fun h2 => ?_⟩
    · repeat (first | walk_at "ev" | refine cd_lenK (k := z.length) rfl (by omega) ?_)
      refine ⟨_, rfl, fun h3 => ?_, fun h3 => ⟨_, rfl, ?_⟩⟩
      · refine ev_cb (ea_cons (EvN.ev ?_))
        refine en_lc (js := [1]) (PX := fun l => l = signs z) (it_str (ev_var rfl ⟨z, rfl, rfl⟩)) (fun l e => ?_) (by decide) (fun l i acc => acc = ((z.cps.toList.take i).map fun c => D.bl (lower c))) (fun l e => rfl) ?_ ?_
        · subst e
          unfold signs
          rw [List.length_map]
          have : z.cps.toList.length = z.length := by simp [Str.length]
          omega
        · rintro l i d acc rfl hi rfl
          unfold signs at hi
          rw [List.getElem?_map] at hi
          cases e : z.cps.toList[i]? with
          | none => rw [e] at hi; cases hi
          | some c =>
            rw [e] at hi
            obtain rfl : D.str ⟨#[c]⟩ = d := Option.some.inj hi
            refine tg_name (et_yes ⟨fun _ => ?_, fun h => nomatch h⟩)
            repeat walk_at "ev"
            have fin : ∀ b, b = lower c → List.map (fun c => D.bl (lower c)) (List.take i z.cps.toList) ++ [D.bl b] = List.map (fun c => D.bl (lower c)) (List.take (i + 1) z.cps.toList) := by
              rintro b rfl
              rw [List.take_succ, e]
              simp
            refine ⟨_, rfl, fun h4 => ?_, fun h4 => fin _ ?_⟩
            · repeat walk_at "ev"
              refine fin _ ?_
              rw [le_a] at h4
              rw [le_z]
              unfold lower
              rw [h4, Bool.true_and]
            · rw [le_a] at h4
              unfold lower
              rw [h4, Bool.false_and]
        · rintro l ds rfl rfl
          refine ea_nil ?_
          have : List.map (fun c => D.bl (lower c)) (List.take (signs z).length z.cps.toList) = blD (z.cps.toList.map lower) := by
            unfold signs blD
            rw [List.length_map, List.take_length, List.map_map]
            rfl
          rw [this]
          refine cd_all ⟨_, rfl, ?_⟩
          have h2' : decide (1 ≤ z.length) = true := by
            have := of_decide_eq_true h2
            exact decide_eq_true (by omega)
          have h3' : decide (z.length ≤ 8) = true := by
            have := of_decide_eq_true h3
            exact decide_eq_true (by omega)
          simp only [isName, h2', h3', Bool.true_and, List.all_map, Function.comp_def, id]
      · have h3' : decide (z.length ≤ 8) = false := by
          have := of_decide_eq_false h3
          exact decide_eq_false (by omega)
        simp only [isName, h3', Bool.and_false, Bool.false_and]
    · have h2' : decide (1 ≤ z.length) = false := by
        have := of_decide_eq_false h2
        exact decide_eq_false (by omega)
      refine ⟨_, rfl, (fun h => nomatch h), fun _ => ⟨_, rfl, ?_⟩⟩
      simp only [isName, h2', Bool.false_and]
  · cases x <;> first | rfl | (simp [isD, tyName, isTy] at h1)

section
variable {F : Fm} {δ : List SD} {ta tk : TA} {P : D → Prop} {E : XK}
theorem ev_num (h : EvA F ta δ fun ds => ∃ x lo hi, ds = [x, .int lo, .int hi] ∧ plD x = true ∧ P (.bl (isNum x lo hi))) : Ev F (tCall (spD F.K preNum postNum) [] E ta) δ P :=
  ev_call (h.imp fun ds ⟨x, lo, hi, e, h0, p⟩ => ⟨⟨x, lo, hi, e, h0⟩, fun d ⟨x', lo', hi', e', e2⟩ => by
    subst e
    cases e'
    subst e2
    exact p⟩)
theorem ev_nam (h : EvA F ta δ fun ds => ∃ x, ds = [x] ∧ plD x = true ∧ (∀ z, x = .str z → z.length ≤ 1000) ∧ P (.bl (isName x))) : Ev F (tCall (spD F.K preName postName) [] E ta) δ P :=
  ev_call (h.imp fun ds ⟨x, e, h0, h1, p⟩ => ⟨⟨x, e, h0, h1⟩, fun d ⟨x', e', e2⟩ => by
    subst e
    cases e'
    subst e2
    exact p⟩)
end
theorem isName_word {word : Str} (wc : ∀ c ∈ word.cps.toList, lower c = true) : isName (.str word) = (decide (1 ≤ word.length) && decide (word.length ≤ 8)) := by
  have e : word.cps.toList.all lower = true := List.all_eq_true.mpr wc
  simp only [isName, e, Bool.and_true]
/-! ### the law -/
def abc : Str := "abcdefghijklmnopqrstuvwxyz"
theorem mem_abc {c : Nat} : decide (c ∈ abc.cps.toList) = lower c := by
  have e : abc.cps.toList = [97, 98, 99, 100, 101, 102, 103, 104, 105, 106, 107, 108, 109, 110, 111, 112, 113, 114, 115, 116, 117, 118, 119, 120, 121, 122] := by decide +kernel
  rw [e]
  unfold lower
  rw [← Bool.decide_and]
  refine decide_eq_decide.mpr ⟨fun h => ?_, fun h => ?_⟩
  · simp only [List.mem_cons, List.not_mem_nil, or_false] at h
    omega
  · simp only [List.mem_cons, List.not_mem_nil, or_false]
    omega
theorem ok_law {P : Program} {w : World} {K : PySem.W.Frag} {mg : Str → Option Value} {base : Heap} (T : Txt K mg) : FnOk P w K mg base CX0 18 T.f_law T.fd_law ["_law_script"] (spLaw K) := by
  refine T.F_law.ok sc_law (fun vs H Q E h => ?_) (fun cdv A outer s H vs Q E hr h => ?_)
  · obtain ⟨a, ns, rfl, _⟩ := h
    rfl
  refine ⟨_, (pss_cons (ps_set (i := 1) sc_law.nd rfl (Or.inr rfl) (pe_call (ok_open T) (hr.mono (by decide)) rfl T.g_open T.k_open T.bd_open .nil pass0 (pa_cons (pv 0) pa_nil)))
    (pss_cons (ps_set (i := 2) sc_law.nd rfl (Or.inr rfl) pe_str)
    (pss_cons (ps_for PassesOwn.never rfl (pi_range1 (by rfl) T.b_range (pa_cons pe_int pa_nil)) (pg_name (i := 3) sc_law.nd rfl (Or.inl rfl))
      (pss_cons (ps_set (i := 4) sc_law.nd rfl (Or.inl rfl) (pe_join pe_str (pe_lc (own := [("_law_k", 12)]) rfl sc_law.nd (pi_range1 (by rfl) T.b_range (pa_cons (pe_call (ok_draw T) (hr.mono (by decide)) rfl T.g_draw T.k_draw T.bd_draw .nil pass0 (pa_cons (pv 1) (pa_cons pe_int pa_nil))) pa_nil)) (blkOk_by (N := N_law) (sc := defScope s_law) (by decide +kernel)) (fun _ _ _ _ _ => (pg_name (i := 12) sc_law.nd rfl (Or.inl rfl))) (fun _ _ _ _ _ => pts_nil) (fun _ _ _ _ _ => (pe_call (ok_of T) (hr.mono (by decide)) rfl T.g_of T.k_of T.bd_of .nil pass0 (pa_cons (pv 1) (pa_cons (pv 2) pa_nil)))))))
      (pss_cons (ps_set (i := 5) sc_law.nd rfl (Or.inl rfl) (pe_call (ok_draw T) (hr.mono (by decide)) rfl T.g_draw T.k_draw T.bd_draw .nil pass0 (pa_cons (pv 1) (pa_cons (pe_op op_add (pe_callB (callLen K) (by rfl) T.b_len (by decide +kernel) (pa_cons (pv 4) pa_nil)) pe_int) pa_nil))))
      (pss_cons (ps_set (i := 6) sc_law.nd rfl (Or.inl rfl) (pe_op op_add_str (pe_op op_add_str (pe_slice sl_str (pv 4) po_none (po_some (pv 5))) (pe_call (ok_of T) (hr.mono (by decide)) rfl T.g_of T.k_of T.bd_of .nil pass0 (pa_cons (pv 1) (pa_cons (pe_lst (pa_cons pe_str (pa_cons pe_str (pa_cons pe_str (pa_cons pe_str (pa_cons pe_str (pa_cons pe_str pa_nil))))))) pa_nil)))) (pe_slice sl_str (pv 4) (po_some (pv 5)) po_none)))
      (pss_cons (ps_set (i := 7) sc_law.nd rfl (Or.inl rfl) (pe_and (pe_chain op_le op_le pe_int (pe_callB (callLen K) (by rfl) T.b_len (by decide +kernel) (pa_cons (pv 6) pa_nil)) pe_int) (pe_one (pe_callB (callAll K) (by rfl) T.b_all (by decide +kernel) (pa_cons (pe_lc (own := [("_law_sign", 13)]) rfl sc_law.nd (pi_str (pv 6)) (blkOk_by (N := N_law) (sc := defScope s_law) (by decide +kernel)) (fun _ _ _ _ _ => (pg_name (i := 13) sc_law.nd rfl (Or.inl rfl))) (fun _ _ _ _ _ => pts_nil) (fun _ _ _ _ _ => (pe_cmpR op_in_sign (pv 13) (pv 2) (by with_unfolding_all rfl)))) pa_nil)))))
      (pss_cons (ps_if (pt_not (pt_val (pe_call (ok_like T 4) (hr.mono (by decide)) rfl T.g_like T.k_like T.bd_like .nil pass0 (pa_cons (pe_lst (pa_cons (pe_call (ok_is_name T) (hr.mono (by decide)) rfl T.g_is_name T.k_is_name T.bd_is_name .nil pass0 (pa_cons (pv 4) pa_nil)) (pa_cons (pe_callK0 (ok_is_name T) (hr.mono (by decide)) rfl T.g_is_name T.k_is_name (kb_is_name_value T) pass0 (pk_cons (pv 6) pk_nil)) pa_nil))) (pa_cons (pe_lst (pa_cons (pe_chain op_le op_le pe_int (pe_callB (callLen K) (by rfl) T.b_len (by decide +kernel) (pa_cons (pv 4) pa_nil)) pe_int) (pa_cons (pv 7) pa_nil))) pa_nil))))) (pss_one (ps_ret pe_bl)) pss_nil)
      (pss_cons (ps_set (i := 8) sc_law.nd rfl (Or.inl rfl) (pe_call (ok_of T) (hr.mono (by decide)) rfl T.g_of T.k_of T.bd_of .nil pass0 (pa_cons (pv 1) (pa_cons (pe_lst (pa_cons pe_int (pa_cons pe_int (pa_cons (pe_op op_sub pe_int pe_int) (pa_cons (pe_op op_pow pe_int pe_int) (pa_cons (pe_call (ok_draw T) (hr.mono (by decide)) rfl T.g_draw T.k_draw T.bd_draw .nil pass0 (pa_cons (pv 1) (pa_cons (pe_op op_pow pe_int pe_int) pa_nil))) pa_nil)))))) pa_nil))))
      (pss_cons (ps_set (i := 9) sc_law.nd rfl (Or.inl rfl) (pe_op op_sub (pe_op op_add (pv 8) (pe_call (ok_of T) (hr.mono (by decide)) rfl T.g_of T.k_of T.bd_of .nil pass0 (pa_cons (pv 1) (pa_cons (pe_lst (pa_cons pe_int (pa_cons pe_int (pa_cons pe_int (pa_cons (pe_op op_pow pe_int pe_int) pa_nil))))) pa_nil)))) (pe_call (ok_draw T) (hr.mono (by decide)) rfl T.g_draw T.k_draw T.bd_draw .nil pass0 (pa_cons (pv 1) (pa_cons pe_int pa_nil)))))
      (pss_cons (ps_for PassesOwn.never rfl (piL K (pe_lst (pa_cons (pv 8) (pa_cons (pe_op op_sub (pv 8) pe_int) (pa_cons (pv 9) (pa_cons (pe_op op_add (pv 9) pe_int) (pa_cons (pe_op op_add (pv 8) pe_int) (pa_cons pe_int pa_nil)))))))) (pg_name (i := 10) sc_law.nd rfl (Or.inl rfl))
        (pss_one (ps_if (pt_not (pt_val (pe_call (ok_like T 4) (hr.mono (by decide)) rfl T.g_like T.k_like T.bd_like .nil pass0 (pa_cons (pe_call (ok_is_number T) (hr.mono (by decide)) rfl T.g_is_number T.k_is_number T.bd_is_number .nil pass0 (pa_cons (pv 10) (pa_cons (pv 8) (pa_cons (pv 9) pa_nil)))) (pa_cons (pe_chain op_le op_le (pv 8) (pv 10) (pv 9)) pa_nil))))) (pss_one (ps_ret pe_bl)) pss_nil)))
      (pss_cons (ps_set (i := 11) sc_law.nd rfl (Or.inl rfl) (pe_call (ok_of T) (hr.mono (by decide)) rfl T.g_of T.k_of T.bd_of .nil pass0 (pa_cons (pv 1) (pa_cons (pe_lst (pa_cons pe_non (pa_cons pe_bl (pa_cons pe_bl (pa_cons pe_str (pa_cons pe_str (pa_cons (pe_tup (pa_cons pe_int pa_nil)) (pa_cons (pe_lst (pa_cons pe_int pa_nil)) (pa_cons (pe_tup (pa_cons pe_str pa_nil)) (pa_cons (pe_lst (pa_cons pe_str pa_nil)) pa_nil)))))))))) pa_nil))))
      (pss_one (ps_if (pt_not (pt_val (pe_call (ok_like T 4) (hr.mono (by decide)) rfl T.g_like T.k_like T.bd_like .nil pass0 (pa_cons (pe_lst (pa_cons (pe_call (ok_is_number T) (hr.mono (by decide)) rfl T.g_is_number T.k_is_number T.bd_is_number .nil pass0 (pa_cons (pv 11) (pa_cons (pe_op op_sub pe_int pe_int) (pa_cons pe_int pa_nil)))) (pa_cons (pe_call (ok_is_name T) (hr.mono (by decide)) rfl T.g_is_name T.k_is_name T.bd_is_name .nil pass0 (pa_cons (pv 11) pa_nil)) pa_nil))) (pa_cons (pe_lst (pa_cons pe_bl (pa_cons pe_bl pa_nil))) pa_nil))))) (pss_one (ps_ret pe_bl)) pss_nil))))))))))))
    (pss_one (ps_ret (pe_call (ok_like T 4) (hr.mono (by decide)) rfl T.g_like T.k_like T.bd_like .nil pass0 (pa_cons (pe_lst (pa_cons (pe_call (ok_is_name T) (hr.mono (by decide)) rfl T.g_is_name T.k_is_name T.bd_is_name .nil pass0 (pa_cons pe_int pa_nil)) (pa_cons (pe_callK0 (ok_is_number T) (hr.mono (by decide)) rfl T.g_is_number T.k_is_number (kb_is_number_value_most_least T) pass0 (pk_cons pe_int (pk_cons pe_int (pk_cons pe_int pk_nil)))) (pa_cons (pe_call (ok_is_name T) (hr.mono (by decide)) rfl T.g_is_name T.k_is_name T.bd_is_name .nil pass0 (pa_cons pe_str pa_nil)) pa_nil)))) (pa_cons (pe_lst (pa_cons pe_bl (pa_cons pe_bl (pa_cons pe_bl pa_nil)))) pa_nil)))))))), ?_⟩
  refine lawIn h (by decide) fun b c H1 M0 E => ?_
  refine do_seq (do_set (ev_str ?_))
  refine do_seq (do_for (js := [3]) (PX := fun l => l = upto 0 8) (it_range1 (ea_cons (ev_int (ea_nil ⟨8, rfl, by decide, by decide, rfl⟩)))) (fun _ _ δ => δ = (slotsL N_law).set 2 (.dat (.str abc))) (fun _ _ => rfl) ?_ ?_)
  · rintro l i x δ rfl hi rfl
    refine tg_name ?_
    refine do_wk [3, 4, 5, 6, 7, 8, 9, 10, 11] ?_
    -- the word
    refine do_seq (do_set (ev_m1 (ev_str ⟨_, rfl, EvN.ev ?_⟩)))
    refine en_lc (js := [12]) (PX := fun l => ∃ r : Int, 0 ≤ r ∧ r < 11 ∧ l = upto 0 r.toNat) (it_range1 (ea_cons (ev_draw rfl rfl (ea_cons (ev_int (ea_nil ⟨11, rfl, by decide, by decide, fun r h0 h1 => ea_nil ⟨r, rfl, by omega, by omega, r, h0, h1, rfl⟩⟩)))))) (fun l ⟨r, h0, h1, e⟩ => ?_) (by decide)
      (fun l i acc => ∃ cs : List Nat, acc = strD (cs.map fun c => ⟨#[c]⟩) ∧ cs.length = i ∧ ∀ c ∈ cs, lower c = true) (fun l _ => ⟨[], rfl, rfl, fun c h => nomatch h⟩) ?_ ?_
    · rw [e, upto_len]
      omega
    · rintro l k d acc _ hk ⟨cs, rfl, rfl, hcs⟩
      refine tg_name (et_yes ⟨fun _ => ?_, fun h => nomatch h⟩)
      refine ev_ofS rfl rfl (ea_cons (ev_var rfl (ea_nil ⟨abc, rfl, by decide +kernel, by decide +kernel, fun c hc => ?_⟩)))
      refine ⟨cs ++ [c], ?_, by simp, fun c' h' => ?_⟩
      · unfold strD
        simp
      · rcases List.mem_append.mp h' with h' | h'
        · exact hcs c' h'
        · rw [List.mem_singleton.mp h', ← mem_abc]
          exact decide_eq_true hc
    rintro l ds ⟨r, h0, h1, rfl⟩ ⟨cs, rfl, hl, hcs⟩
    rw [upto_len] at hl
    refine cd_join ?_ ?_
    · rw [sum_signs, List.length_map]
      show cs.length + cs.length * 0 ≤ _
      omega
    rw [join_signs]
    generalize hw : (⟨cs.toArray⟩ : Str) = word
    have wl : word.length ≤ 10 := by rw [← hw]; show cs.toArray.size ≤ 10; simp; omega
    have wc : ∀ c ∈ word.cps.toList, lower c = true := by rw [← hw]; simpa using hcs
    clear hw hl hcs
    -- where it is bent
    refine do_seq (do_set (ev_draw rfl rfl ?_))
    repeat (first | walk_at "ev" | refine cd_lenK (k := word.length) rfl (by omega) ?_)
    refine ⟨_, rfl, by omega, by omega, fun at_ a0 a1 => ?_⟩
    refine do_seq (do_set ?_)
    refine ev_op (ev_op (ev_slS (ev_var rfl (eo_none (eo_some (ev_var rfl ⟨_, rfl, _, rfl, by omega, ?_⟩))))))
    have c1 := cutS_length word none (some at_)
    refine ev_ofL rfl rfl (ea_cons (ev_lst ?_))
    repeat walk_at "ev"
    refine ⟨by decide, ea_nil ⟨_, rfl, by simp, by decide, fun d hd => ?_⟩⟩
    obtain ⟨y, rfl, yl⟩ : ∃ y, d = .str y ∧ y.length ≤ 1 := by
      simp only [List.mem_cons, List.not_mem_nil, or_false] at hd
      rcases hd with rfl | rfl | rfl | rfl | rfl | rfl <;> exact ⟨_, rfl, by decide +kernel⟩
    refine od_addS (by omega) ?_
    refine ev_slS (ev_var rfl (eo_some (ev_var rfl ⟨_, rfl, eo_none ⟨_, rfl, by omega, ?_⟩⟩)))
    have c2 := cutS_length word (some at_) none
    refine od_addS (by rw [add_len]; omega) ?_
    generalize hbent : cutS word none (some at_) ++ y ++ cutS word (some at_) none = bent
    have bl : bent.length ≤ 21 := by
      rw [← hbent, add_len, add_len]
      omega
    clear hbent
    -- whether it is good
    refine do_let (.bl (isName (.str bent))) (by
  refine ev_and (ev_chain ?_)
  repeat (first | walk_at "ev" | refine cd_lenK (k := bent.length) rfl (by omega) ?_)
  refine ⟨_, rfl, fun h2 => ?_, fun h2 => ⟨_, rfl, (fun h => nomatch h), fun _ => ?_⟩⟩
  rotate_left
  · have e : isName (.str bent) = false := by
      have h2' : decide (1 ≤ bent.length) = false := by
        have := of_decide_eq_false h2
        exact decide_eq_false (by omega)
      simp only [isName, h2', Bool.false_and]
    rw [e]
  repeat (first | walk_at "ev" | refine cd_lenK (k := bent.length) rfl (by omega) ?_)
  refine ⟨_, rfl, fun h3 => ?_, fun h3 => ?_⟩
  rotate_left
  · have e : isName (.str bent) = false := by
      have h3' : decide (bent.length ≤ 8) = false := by
        have := of_decide_eq_false h3
        exact decide_eq_false (by omega)
      simp only [isName, h3', Bool.and_false, Bool.false_and]
    rw [e]
  refine ev_cb (ea_cons (EvN.ev ?_))
  refine en_lc (js := [13]) (PX := fun l => l = signs bent) (it_str (ev_var rfl ⟨_, rfl, rfl⟩)) (fun l e => ?_) (by decide) (fun l i acc => acc = ((bent.cps.toList.take i).map fun c => D.bl (lower c))) (fun l e => rfl) ?_ ?_
  · subst e
    unfold signs
    rw [List.length_map, str_len]
    omega
  · rintro l k d acc rfl hk rfl
    unfold signs at hk
    rw [List.getElem?_map] at hk
    cases e : bent.cps.toList[k]? with
    | none => rw [e] at hk; cases hk
    | some c =>
      rw [e] at hk
      obtain rfl : D.str ⟨#[c]⟩ = d := Option.some.inj hk
      refine tg_name (et_yes ⟨fun _ => ?_, fun h => nomatch h⟩)
      refine ev_op (ev_var rfl (ev_var rfl (od_inSign ?_)))
      rw [mem_abc, List.take_succ, e]
      simp
  · rintro l ds rfl rfl
    have : List.map (fun c => D.bl (lower c)) (List.take (signs bent).length bent.cps.toList) = blD (bent.cps.toList.map lower) := by
      unfold signs blD
      rw [List.length_map, List.take_length, List.map_map]
      rfl
    rw [this]
    refine ea_nil (cd_all ?_)
    have h2' : decide (1 ≤ bent.length) = true := by
      have := of_decide_eq_true h2
      exact decide_eq_true (by omega)
    have h3' : decide (bent.length ≤ 8) = true := by
      have := of_decide_eq_true h3
      exact decide_eq_true (by omega)
    have e : (bent.cps.toList.map lower).all id = isName (.str bent) := by
      simp only [isName, h2', h3', Bool.true_and, List.all_map, Function.comp_def, id]
    rw [e]) ?_
    have wz : ∀ z : Str, D.str word = D.str z → z.length ≤ 1000 := fun z e => by
      cases e
      omega
    have bz : ∀ z : Str, D.str bent = D.str z → z.length ≤ 1000 := fun z e => by
      cases e
      omega
    have like_ok : ∀ {x : D}, plD x = true → (!likeD x x) = false := fun h => by rw [likeD_self _ h]; rfl
    refine do_seq (do_if (et_not (et_B (ev_like ?_))))
    refine ea_cons (ev_lst (ea_cons (ev_nam (ea_cons (ev_var rfl (ea_nil ⟨_, rfl, rfl, wz, ?_⟩))))))
    refine ea_cons (ev_callK (krkb_is_name_value K) (ea_nil (ea_cons (ev_var rfl (ea_nil ⟨⟨_, rfl, rfl, bz⟩, fun d hd => ?_⟩)))))
    obtain ⟨x', e', rfl⟩ := hd
    cases e'
    refine ea_nil ⟨by simp, ?_⟩
    refine ea_cons (ev_lst (ea_cons ?_))
    have hc : ∀ {PP : D → Prop}, PP (.bl (isName (.str word))) → PP (.bl (decide (1 ≤ word.length) && decide (word.length ≤ 8))) := fun p => by rw [← isName_word wc]; exact p
    refine Ev.imp (P := (· = .bl (isName (.str word)))) ?_ ?_
    · rw [isName_word wc]
      repeat (first | walk_at "ev" | refine cd_lenK (k := word.length) rfl (by omega) ?_)
      refine ⟨_, rfl, fun h2 => ?_, fun h2 => ?_⟩
      · repeat walk_at "ev"
        have h2' : decide (1 ≤ word.length) = true := by
          have := of_decide_eq_true h2
          exact decide_eq_true (by omega)
        rw [h2', Bool.true_and]
        congr 1
        exact decide_eq_decide.mpr (by omega)
      · have h2' : decide (1 ≤ word.length) = false := by
          have := of_decide_eq_false h2
          exact decide_eq_false (by omega)
        rw [h2', Bool.false_and]
    rintro d rfl
    refine ea_cons (ev_var rfl (ea_nil ⟨by simp, ea_nil ⟨_, _, rfl, rfl, rfl, by simp [dep, depL], _, rfl, fun h => ?_, fun _ => ?_⟩⟩))
    · rw [like_ok rfl] at h
      cases h
    refine do_next ?_
    -- numbers
    refine do_letP (fun d => ∃ lo : Int, d = .int lo) (ev_ofL rfl rfl (ea_cons (ev_lst ?_))) ?_
    · repeat (first | walk_at "ev" | refine od_intC ⟨by decide, by decide, by decide⟩ ?_)
      refine ev_draw rfl rfl ?_
      repeat (first | walk_at "ev" | refine od_intC ⟨by decide, by decide, by decide⟩ ?_)
      refine ⟨_, rfl, by decide, by decide, fun r0 hr0 hr1 => ?_⟩
      refine ea_nil ⟨by simp, ea_nil ⟨_, rfl, by simp, by simp, fun d hd => ?_⟩⟩
      simp only [List.mem_cons, List.not_mem_nil, or_false] at hd
      rcases hd with rfl | rfl | rfl | rfl | rfl <;> exact ⟨_, rfl⟩
    rintro _ ⟨lo, rfl⟩
    refine do_letP (fun d => ∃ hi : Int, d = .int hi) (ev_op (ev_op (ev_var rfl (ev_ofL rfl rfl (ea_cons (ev_lst ?_)))))) ?_
    · repeat (first | walk_at "ev" | refine od_intC ⟨by decide, by decide, by decide⟩ ?_)
      refine ⟨by simp, ea_nil ⟨_, rfl, by simp, by simp, fun d hd => ?_⟩⟩
      obtain ⟨z, rfl⟩ : ∃ z, d = .int z := by
        simp only [List.mem_cons, List.not_mem_nil, or_false] at hd
        rcases hd with rfl | rfl | rfl | rfl <;> exact ⟨_, rfl⟩
      refine od_int (ev_draw rfl rfl (ea_cons (ev_int (ea_nil ⟨2, rfl, by decide, by decide, fun r0 _ _ => od_int ⟨_, rfl⟩⟩))))
    rintro _ ⟨hi_, rfl⟩
    refine do_seq (do_for (js := [10]) (PX := fun l => ∀ d ∈ l, ∃ z, d = .int z) (it_list (ev_lst ?_)) (fun _ _ δ' => ∃ s, δ' = (SD.un :: .bag :: .dat (.str abc) :: .dat x :: .dat (.str word) :: .dat (.int at_) :: .dat (.str bent) :: .dat (.bl (isName (.str bent))) :: .dat (.int lo) :: .dat (.int hi_) :: s :: .un :: .un :: .un :: [])) (fun _ _ => ⟨_, rfl⟩) ?_ ?_)
    · repeat walk_at "ev"
      refine ⟨by simp, _, rfl, fun d hd => ?_⟩
      simp only [List.mem_cons, List.not_mem_nil, or_false] at hd
      rcases hd with rfl | rfl | rfl | rfl | rfl | rfl <;> exact ⟨_, rfl⟩
    · rintro l k d δ' hl hk ⟨s, rfl⟩
      obtain ⟨z, rfl⟩ := hl d (List.mem_of_getElem? hk)
      refine tg_name ?_
      refine do_if (et_not (et_B (ev_like (ea_cons (ev_num ?_)))))
      refine ea_cons (ev_var rfl (ea_cons (ev_var rfl (ea_cons (ev_var rfl (ea_nil ⟨_, _, _, rfl, rfl, ?_⟩))))))
      refine ea_cons ?_
      refine Ev.imp (P := (· = .bl (isNum (.int z) lo hi_))) ?_ ?_
      · repeat walk_at "ev"
        refine ⟨_, rfl, fun h2 => ?_, fun h2 => ?_⟩
        · repeat walk_at "ev"
          simp only [isNum, h2, Bool.true_and]
        · simp only [isNum, h2, Bool.false_and]
      rintro d rfl
      refine ea_nil ⟨_, _, rfl, rfl, rfl, by simp [dep], _, rfl, fun h => ?_, fun _ => do_next ⟨_, rfl⟩⟩
      rw [like_ok rfl] at h
      cases h
    rintro l δ' hl ⟨s, rfl⟩
    -- odd values
    refine do_letP (fun d => plD d = true ∧ isNum d (-9) 9 = false ∧ isName d = false ∧ ∀ z, d = .str z → z.length ≤ 1000) (ev_ofL rfl rfl (ea_cons (ev_lst ?_))) ?_
    · repeat (first | walk_at "ev" | refine And.intro (by decide) ?_)
      refine ⟨_, rfl, by simp, by simp, fun d hd => ?_⟩
      simp only [List.mem_cons, List.not_mem_nil, or_false] at hd
      rcases hd with rfl | rfl | rfl | rfl | rfl | rfl | rfl | rfl | rfl <;> exact ⟨by decide +kernel, by decide +kernel, by decide +kernel, fun z e => by first | (cases e; decide +kernel) | cases e⟩
    rintro odd ⟨o1, o2, o3, o4⟩
    refine do_if (et_not (et_B (ev_like (ea_cons (ev_lst (ea_cons (ev_num ?_)))))))
    repeat (first | walk_at "ev" | refine od_intC ⟨by decide, by decide, by decide⟩ ?_)
    refine ⟨_, _, _, rfl, o1, ?_⟩
    refine ea_cons (ev_nam (ea_cons (ev_var rfl (ea_nil ⟨_, rfl, o1, o4, ?_⟩))))
    rw [show (0 - 9 : Int) = -9 from rfl, o2, o3]
    repeat (first | walk_at "ev" | refine And.intro (by decide) ?_)
    refine ⟨_, _, rfl, by decide, by decide, by decide, _, rfl, fun h => ?_, fun _ => do_next rfl⟩
    exact absurd h (by decide)
  · rintro l δ rfl rfl
    refine do_ret (ev_like (ea_cons (ev_lst (ea_cons (ev_nam (ea_cons (ev_int (ea_nil ⟨_, rfl, rfl, (fun z e => nomatch e), ?_⟩))))))))
    refine ea_cons (ev_callK (krkb_is_number_value_most_least K) (ea_nil (ea_cons (ev_int (ea_cons (ev_int (ea_cons (ev_int (ea_nil ⟨⟨_, _, _, rfl, rfl⟩, fun d hd => ?_⟩)))))))))
    obtain ⟨x', lo', hi', e', rfl⟩ := hd
    cases e'
    refine ea_cons (ev_nam (ea_cons (ev_str (ea_nil ⟨_, rfl, rfl, (fun z e => by cases e; decide +kernel), ?_⟩))))
    refine ea_nil ⟨by decide, ea_cons (ev_lst ?_)⟩
    repeat walk_at "ev"
    refine ⟨by decide, ea_nil ⟨_, _, rfl, by decide +kernel, by decide +kernel, by decide +kernel, ?_⟩⟩
    have e : isName (.str (Str.ofString "abcdefgh")) = true := by decide +kernel
    rw [e]
    rfl

theorem all_mk {l : PySem.W.OpenLaw} {w : World} {K : PySem.W.Frag} {h : Heap} {mg : Str → Option Value} {fa : Addr} (X : K.In h) (G : h.Ns mainGlobals mg) (hfa : mg "law" = some (.ref fa))
     {fn1 : Addr} {od1 an1 : Option Addr} {sl1 : Array (Option Value)} {oc1 kV1 dc1 pm1 cd1 ct1 : Value}
    {fn2 : Addr} {od2 an2 : Option Addr} {sl2 : Array (Option Value)} {oc2 kV2 dc2 pm2 cd2 ct2 : Value}
    {fn3 : Addr} {od3 an3 : Option Addr} {sl3 : Array (Option Value)} {oc3 kV3 dc3 pm3 cd3 ct3 : Value}
    {fn4 : Addr} {od4 an4 : Option Addr} {sl4 : Array (Option Value)} {oc4 kV4 dc4 pm4 cd4 ct4 : Value}
    {fn5 : Addr} {od5 an5 : Option Addr} {sl5 : Array (Option Value)} {oc5 kV5 dc5 pm5 cd5 ct5 : Value}
    {fn6 : Addr} {od6 an6 : Option Addr} {sl6 : Array (Option Value)} {oc6 kV6 dc6 pm6 cd6 ct6 : Value}
    {fn7 : Addr} {od7 an7 : Option Addr} {sl7 : Array (Option Value)} {oc7 kV7 dc7 pm7 cd7 ct7 : Value}
    {fn8 : Addr} {od8 an8 : Option Addr} {sl8 : Array (Option Value)} {oc8 kV8 dc8 pm8 cd8 ct8 : Value}
    (a1 : PySem.W.nsIn K mainGlobals "is_name" = some (some (.ref fn1)))
    (l1 : K.lookup fn1 = some ⟨oc1, od1, .func (PySem.W.fnOf "is_name" "is_name" (defArgs s_is_name) (defBody s_is_name) (defScope s_is_name) .none kV1 dc1 pm1 an1 cd1 ct1), sl1⟩)
    (e1 : PySem.W.codeIn K cd1 "is_name" = true)
    (k1 : PySem.W.keepIn K (.ref fn1) = true)
    (a2 : PySem.W.nsIn K mainGlobals "is_whole" = some (some (.ref fn2)))
    (l2 : K.lookup fn2 = some ⟨oc2, od2, .func (PySem.W.fnOf "is_whole" "is_whole" (defArgs s_is_whole) (defBody s_is_whole) (defScope s_is_whole) .none kV2 dc2 pm2 an2 cd2 ct2), sl2⟩)
    (e2 : PySem.W.codeIn K cd2 "is_whole" = true)
    (k2 : PySem.W.keepIn K (.ref fn2) = true)
    (a3 : PySem.W.nsIn K mainGlobals "is_number" = some (some (.ref fn3)))
    (l3 : K.lookup fn3 = some ⟨oc3, od3, .func (PySem.W.fnOf "is_number" "is_number" (defArgs s_is_number) (defBody s_is_number) (defScope s_is_number) .none kV3 dc3 pm3 an3 cd3 ct3), sl3⟩)
    (e3 : PySem.W.codeIn K cd3 "is_number" = true)
    (k3 : PySem.W.keepIn K (.ref fn3) = true)
    (a4 : PySem.W.nsIn K mainGlobals "_law_open" = some (some (.ref fn4)))
    (l4 : K.lookup fn4 = some ⟨oc4, od4, .func (PySem.W.fnOf "_law_open" "_law_open" (defArgs s_open) (defBody s_open) (defScope s_open) .none kV4 dc4 pm4 an4 cd4 ct4), sl4⟩)
    (e4 : PySem.W.codeIn K cd4 "_law_open" = true)
    (k4 : PySem.W.keepIn K (.ref fn4) = true)
    (a5 : PySem.W.nsIn K mainGlobals "_law_draw" = some (some (.ref fn5)))
    (l5 : K.lookup fn5 = some ⟨oc5, od5, .func (PySem.W.fnOf "_law_draw" "_law_draw" (defArgs s_draw) (defBody s_draw) (defScope s_draw) .none kV5 dc5 pm5 an5 cd5 ct5), sl5⟩)
    (e5 : PySem.W.codeIn K cd5 "_law_draw" = true)
    (k5 : PySem.W.keepIn K (.ref fn5) = true)
    (a6 : PySem.W.nsIn K mainGlobals "_law_of" = some (some (.ref fn6)))
    (l6 : K.lookup fn6 = some ⟨oc6, od6, .func (PySem.W.fnOf "_law_of" "_law_of" (defArgs s_of) (defBody s_of) (defScope s_of) .none kV6 dc6 pm6 an6 cd6 ct6), sl6⟩)
    (e6 : PySem.W.codeIn K cd6 "_law_of" = true)
    (k6 : PySem.W.keepIn K (.ref fn6) = true)
    (a7 : PySem.W.nsIn K mainGlobals "_law_like" = some (some (.ref fn7)))
    (l7 : K.lookup fn7 = some ⟨oc7, od7, .func (PySem.W.fnOf "_law_like" "_law_like" (defArgs s_like) (defBody s_like) (defScope s_like) .none kV7 dc7 pm7 an7 cd7 ct7), sl7⟩)
    (e7 : PySem.W.codeIn K cd7 "_law_like" = true)
    (k7 : PySem.W.keepIn K (.ref fn7) = true)
    (a8 : PySem.W.nsIn K mainGlobals "law" = some (some (.ref fn8)))
    (l8 : K.lookup fn8 = some ⟨oc8, od8, .func (PySem.W.fnOf "law" "law" (defArgs s_law) (defBody s_law) (defScope s_law) .none kV8 dc8 pm8 an8 cd8 ct8), sl8⟩)
    (e8 : PySem.W.codeIn K cd8 "law" = true)
    (k8 : PySem.W.keepIn K (.ref fn8) = true)
    (z1 : PySem.W.nsIn K mainGlobals "all" = some none)
    (z2 : PySem.W.nsIn K mainGlobals "bool" = some none)
    (z3 : PySem.W.nsIn K mainGlobals "int" = some none)
    (z4 : PySem.W.nsIn K mainGlobals "isinstance" = some none)
    (z5 : PySem.W.nsIn K mainGlobals "len" = some none)
    (z6 : PySem.W.nsIn K mainGlobals "list" = some none)
    (z7 : PySem.W.nsIn K mainGlobals "range" = some none)
    (z8 : PySem.W.nsIn K mainGlobals "str" = some none)
    (z9 : PySem.W.nsIn K mainGlobals "tuple" = some none)
    (z10 : PySem.W.nsIn K mainGlobals "zip" = some none) :
    ∃ fd : FuncData, (∀ (s : Shared) (v : Value), BindsTo s fd ⟨[v], []⟩ [("_law_script", v)]) ∧ ∀ base : Heap, K.In base → base.Ns mainGlobals mg → FnOk l.prog w K mg base CX0 18 fa fd ["_law_script"] (spLaw K) := by
  have e := hfa.symm.trans (PySem.W.mg_of X G a8)
  cases e
  let T : Txt K mg :=
    { f_is_name := fn1, fd_is_name := (PySem.W.fnOf "is_name" "is_name" (defArgs s_is_name) (defBody s_is_name) (defScope s_is_name) .none kV1 dc1 pm1 an1 cd1 ct1), F_is_name := (fun_mk (st := s_is_name) l1 e1 k1), k_is_name := k1,
      g_is_name := PySem.W.mg_of X G a1,
      bd_is_name := ((fun_mk (st := s_is_name) l1 e1 k1).binds (ps := ["value"]) fun _ _ _ _ _ _ us hl => match us, hl with | [_], _ => rfl),
      f_is_whole := fn2, fd_is_whole := (PySem.W.fnOf "is_whole" "is_whole" (defArgs s_is_whole) (defBody s_is_whole) (defScope s_is_whole) .none kV2 dc2 pm2 an2 cd2 ct2), F_is_whole := (fun_mk (st := s_is_whole) l2 e2 k2), k_is_whole := k2,
      g_is_whole := PySem.W.mg_of X G a2,
      bd_is_whole := ((fun_mk (st := s_is_whole) l2 e2 k2).binds (ps := ["value"]) fun _ _ _ _ _ _ us hl => match us, hl with | [_], _ => rfl),
      f_is_number := fn3, fd_is_number := (PySem.W.fnOf "is_number" "is_number" (defArgs s_is_number) (defBody s_is_number) (defScope s_is_number) .none kV3 dc3 pm3 an3 cd3 ct3), F_is_number := (fun_mk (st := s_is_number) l3 e3 k3), k_is_number := k3,
      g_is_number := PySem.W.mg_of X G a3,
      bd_is_number := ((fun_mk (st := s_is_number) l3 e3 k3).binds (ps := ["value", "least", "most"]) fun _ _ _ _ _ _ us hl => match us, hl with | [_, _, _], _ => rfl),
      f_open := fn4, fd_open := (PySem.W.fnOf "_law_open" "_law_open" (defArgs s_open) (defBody s_open) (defScope s_open) .none kV4 dc4 pm4 an4 cd4 ct4), F_open := (fun_mk (st := s_open) l4 e4 k4), k_open := k4,
      g_open := PySem.W.mg_of X G a4,
      bd_open := ((fun_mk (st := s_open) l4 e4 k4).binds (ps := ["_law_script"]) fun _ _ _ _ _ _ us hl => match us, hl with | [_], _ => rfl),
      f_draw := fn5, fd_draw := (PySem.W.fnOf "_law_draw" "_law_draw" (defArgs s_draw) (defBody s_draw) (defScope s_draw) .none kV5 dc5 pm5 an5 cd5 ct5), F_draw := (fun_mk (st := s_draw) l5 e5 k5), k_draw := k5,
      g_draw := PySem.W.mg_of X G a5,
      bd_draw := ((fun_mk (st := s_draw) l5 e5 k5).binds (ps := ["_law_bag", "_law_many"]) fun _ _ _ _ _ _ us hl => match us, hl with | [_, _], _ => rfl),
      f_of := fn6, fd_of := (PySem.W.fnOf "_law_of" "_law_of" (defArgs s_of) (defBody s_of) (defScope s_of) .none kV6 dc6 pm6 an6 cd6 ct6), F_of := (fun_mk (st := s_of) l6 e6 k6), k_of := k6,
      g_of := PySem.W.mg_of X G a6,
      bd_of := ((fun_mk (st := s_of) l6 e6 k6).binds (ps := ["_law_bag", "_law_things"]) fun _ _ _ _ _ _ us hl => match us, hl with | [_, _], _ => rfl),
      f_like := fn7, fd_like := (PySem.W.fnOf "_law_like" "_law_like" (defArgs s_like) (defBody s_like) (defScope s_like) .none kV7 dc7 pm7 an7 cd7 ct7), F_like := (fun_mk (st := s_like) l7 e7 k7), k_like := k7,
      g_like := PySem.W.mg_of X G a7,
      bd_like := ((fun_mk (st := s_like) l7 e7 k7).binds (ps := ["_law_found", "_law_due"]) fun _ _ _ _ _ _ us hl => match us, hl with | [_, _], _ => rfl),
      f_law := fa, fd_law := (PySem.W.fnOf "law" "law" (defArgs s_law) (defBody s_law) (defScope s_law) .none kV8 dc8 pm8 an8 cd8 ct8), F_law := (fun_mk (st := s_law) l8 e8 k8), k_law := k8,
      g_law := PySem.W.mg_of X G a8,
      bd_law := ((fun_mk (st := s_law) l8 e8 k8).binds (ps := ["_law_script"]) fun _ _ _ _ _ _ us hl => match us, hl with | [_], _ => rfl),
      b_all := PySem.W.mg_none_of X G z1,
      b_bool := PySem.W.mg_none_of X G z2,
      b_int := PySem.W.mg_none_of X G z3,
      b_isinstance := PySem.W.mg_none_of X G z4,
      b_len := PySem.W.mg_none_of X G z5,
      b_list := PySem.W.mg_none_of X G z6,
      b_range := PySem.W.mg_none_of X G z7,
      b_str := PySem.W.mg_none_of X G z8,
      b_tuple := PySem.W.mg_none_of X G z9,
      b_zip := PySem.W.mg_none_of X G z10 }
  exact ⟨T.fd_law, fun s v => .of_eq rfl, fun base _ _ => ok_law T⟩
theorem walk {l : PySem.W.OpenLaw} {q : Program} {loose : List Str} {XP : (Str → Option Value) → Heap → Prop} {YP : World → Heap → Prop} {d : DefRec} {K : Params → PySem.W.Frag} (hn : l.most = some 63) (hdf : d.params.defaults = [])
    (hY : ∀ (w : World) (h : Heap), YP w h → (K w.params).In h)
    (F : ∀ (w : World) (mg : Str → Option Value) (fa : Addr) (h : Heap), (K w.params).In h → h.Ns mainGlobals mg → mg d.name = some (.ref fa) →
      ∃ fd : FuncData, (∀ (s : Shared) (u : Value), BindsTo s fd ⟨[u], []⟩ [("_law_script", u)]) ∧ ∀ base : Heap, (K w.params).In base → base.Ns mainGlobals mg → FnOk l.prog w (K w.params) mg base CX0 18 fa fd ["_law_script"] (spLaw (K w.params))) :
    PySem.W.WalkO q loose XP YP l.row.toRowW d [] (fun f vs => PySem.call f vs) :=
  L2.walk_of (n := 63) (k := 18) (x := "_law_script") (CX := fun _ => CX0) (sp := fun w => spLaw (K w.params)) hn (by decide) hdf ⟨rfl, by decide, by decide⟩ hY F (fun _ _ a ns hl _ hS => ⟨a, ns, rfl, hS, hl, fun _ => rfl⟩) fun _ _ _ _ _ z => z
end Pf
open PySem PySem.W PyProof.Rows
set_option maxRecDepth 100000 in
set_option maxHeartbeats 0 in
theorem PySem.Challenge.cw_partfirsts_k01_names_and_numbers_holds : PySem.Challenge.rw_partfirsts_k01_names_and_numbers.Holds := by
  w_on; o_law; k_head; (case hw => w_witness2)
  k_fill
  refine Pf.walk (l := PySem.Challenge.rw_partfirsts_k01_names_and_numbers) rfl rfl (fun w h Y => PySem.W.kIn_of Y) ?F
  case F =>
    intro w mg fa h KX G hmg
    refine' Pf.all_mk KX G hmg ?a1 ?l1 ?e1 ?k1 ?a2 ?l2 ?e2 ?k2 ?a3 ?l3 ?e3 ?k3 ?a4 ?l4 ?e4 ?k4 ?a5 ?l5 ?e5 ?k5 ?a6 ?l6 ?e6 ?k6 ?a7 ?l7 ?e7 ?k7 ?a8 ?l8 ?e8 ?k8 ?z1 ?z2 ?z3 ?z4 ?z5 ?z6 ?z7 ?z8 ?z9 ?z10
    (case a1 => k_is)
    (case l1 => k_is)
    (case e1 => k_is)
    (case k1 => k_is)
    (case a2 => k_is)
    (case l2 => k_is)
    (case e2 => k_is)
    (case k2 => k_is)
    (case a3 => k_is)
    (case l3 => k_is)
    (case e3 => k_is)
    (case k3 => k_is)
    (case a4 => k_is)
    (case l4 => k_is)
    (case e4 => k_is)
    (case k4 => k_is)
    (case a5 => k_is)
    (case l5 => k_is)
    (case e5 => k_is)
    (case k5 => k_is)
    (case a6 => k_is)
    (case l6 => k_is)
    (case e6 => k_is)
    (case k6 => k_is)
    (case a7 => k_is)
    (case l7 => k_is)
    (case e7 => k_is)
    (case k7 => k_is)
    (case a8 => k_is)
    (case l8 => k_is)
    (case e8 => k_is)
    (case k8 => k_is)
    (case z1 => k_is)
    (case z2 => k_is)
    (case z3 => k_is)
    (case z4 => k_is)
    (case z5 => k_is)
    (case z6 => k_is)
    (case z7 => k_is)
    (case z8 => k_is)
    (case z9 => k_is)
    (case z10 => k_is)
#print axioms PySem.Challenge.cw_partfirsts_k01_names_and_numbers_holds
